import PyProof.Rows.All
import Wide.All
import OpenK.AllK
import Wide.FinOn
import Lean
import PyProof.EqAt
import PyProof.EqKinds
import PyProof.TupleCall
import PySem.Challenge.RW_partrests_k29_claims_shown
set_option Elab.async false
set_option linter.all false
set_option maxRecDepth 100000
namespace L2
open PySem PySem.Spec PyProof.Rows
noncomputable abbrev Key := Sum Int Str
noncomputable def keyIs : Key → Value → Bool
  | .inl k, v => Value.isInt k v
  | .inr x, v => Value.isStrOf x v
noncomputable def keyH (w : World) : Key → Int
  | .inl k => hashInt k
  | .inr x => hashStr w x
theorem keyIs_shape : ∀ {k : Key} {v : Value}, keyIs k v = true → (∃ i t, k = Sum.inl i ∧ v = Value.int i t) ∨ (∃ x t, k = Sum.inr x ∧ v = Value.str x t)
  | .inl i, v, h => by
    obtain ⟨t, e⟩ := Value.isInt_shape (k := i) (v := v) h
    exact .inl ⟨i, t, rfl, e⟩
  | .inr x, v, h => by
    obtain ⟨t, e⟩ := Value.isStrOf_shape (x := x) (v := v) h
    exact .inr ⟨x, t, rfl, e⟩
theorem key_ll (a b : Int) : decide ((Sum.inl a : Key) = Sum.inl b) = (a == b) := by
  by_cases e : a = b
  · subst e; simp
  · have h : ¬ (Sum.inl a : Key) = Sum.inl b := fun q => e (Sum.inl.inj q)
    rw [decide_eq_false h]
    exact (beq_eq_false_iff_ne.mpr e).symm
theorem key_rr (a b : Str) : decide ((Sum.inr a : Key) = Sum.inr b) = decide (a = b) := by
  by_cases e : a = b
  · subst e; simp
  · have h : ¬ (Sum.inr a : Key) = Sum.inr b := fun q => e (Sum.inr.inj q)
    rw [decide_eq_false h, decide_eq_false e]
theorem key_lr (a : Int) (b : Str) : decide ((Sum.inl a : Key) = Sum.inr b) = false := decide_eq_false (fun q => nomatch q)
theorem key_rl (a : Str) (b : Int) : decide ((Sum.inr a : Key) = Sum.inl b) = false := decide_eq_false (fun q => nomatch q)

noncomputable def mixKind (prog : Program) (w : World) : PySem.KeyKind prog w Key where
  is := keyIs
  hash := keyH w
  inj := fun v a b ha hb => by
    rcases keyIs_shape ha with ⟨i, t, rfl, rfl⟩ | ⟨x, t, rfl, rfl⟩
    · rcases keyIs_shape hb with ⟨j, u, rfl, e⟩ | ⟨y, u, rfl, e⟩
      · injection e with e1 _; rw [e1]
      · exact nomatch e
    · rcases keyIs_shape hb with ⟨j, u, rfl, e⟩ | ⟨y, u, rfl, e⟩
      · exact nomatch e
      · injection e with e1 _; rw [e1]
  byValue := fun k v h => by
    rcases keyIs_shape h with ⟨i, t, rfl, rfl⟩ | ⟨x, t, rfl, rfl⟩ <;> rfl
  pyHash := fun hv h => by
    rcases keyIs_shape hv with ⟨i, t, rfl, rfl⟩ | ⟨x, t, rfl, rfl⟩
    · exact wpAny_pyHash_int h
    · exact wpAny_pyHash_str h
  eqBool := fun hu hv h => by
    rcases keyIs_shape hu with ⟨i, t, rfl, rfl⟩ | ⟨x, t, rfl, rfl⟩
    · rcases keyIs_shape hv with ⟨j, u, rfl, rfl⟩ | ⟨y, u, rfl, rfl⟩
      · rw [key_ll] at h; exact wpAny_eqBool_int h
      · rw [key_lr] at h; exact SeqAt.EqAt.int_str i t y u _ _ _ _ h
    · rcases keyIs_shape hv with ⟨j, u, rfl, rfl⟩ | ⟨y, u, rfl, rfl⟩
      · rw [key_rl] at h; exact SeqAt.EqAt.str_int x t j u _ _ _ _ h
      · rw [key_rr] at h; exact wpAny_eqBool_str h
  «strs» := fun k x t v h => by
    rcases keyIs_shape h with ⟨i, u, rfl, e⟩ | ⟨y, u, rfl, e⟩
    · exact nomatch e
    · injection e with e1 _
      subst e1
      cases v <;> rfl

end L2
namespace L2
open PySem PySem.Spec PyProof.Rows
inductive V where
  | non | bl (b : Bool) | int (i : Int) | str (x : Str) | byt (b : Array UInt8) | flt (b : UInt64) | ref (a : Addr) | ty (n : String)
  deriving DecidableEq

noncomputable def RelV : V → Value → Prop
  | .non, u => u = Value.none
  | .bl b, u => u = Value.bool b
  | .int i, u => ∃ t, u = Value.int i t
  | .str x, u => ∃ t, u = Value.str x t
  | .byt b, u => ∃ t, u = Value.bytes b t
  | .flt b, u => ∃ t, u = Value.float b t
  | .ref a, u => u = Value.ref a
  | .ty n, u => u = Value.type n

noncomputable abbrev Vals : List V → List Value → Prop := Paired RelV
theorem Vals.length {xs : List V} {us : List Value} (r : Vals xs us) : xs.length = us.length := Paired.length r
theorem Vals.get : ∀ {xs : List V} {us : List Value} {i : Nat} {x : V}, Vals xs us → xs[i]? = some x → ∃ u, us[i]? = some u ∧ RelV x u
  | _, _, _, _, .nil, e => by simp at e
  | _, _, 0, _, .cons r _, e => by simp at e; subst e; exact ⟨_, rfl, r⟩
  | _, _, i + 1, x, .cons _ t, e => by
    obtain ⟨u, h1, h2⟩ := Vals.get (i := i) (x := x) t (by simpa using e)
    exact ⟨u, by simpa using h1, h2⟩
theorem Vals.set {x : V} {u : Value} (r : RelV x u) : ∀ {xs : List V} {us : List Value} (i : Nat), Vals xs us → Vals (xs.set i x) (us.set i u)
  | _, _, _, .nil => .nil
  | _, _, 0, .cons _ t => .cons r t
  | _, _, i + 1, .cons q t => .cons q (Vals.set r i t)
theorem Vals.append : ∀ {xs ys : List V} {us ws : List Value}, Vals xs us → Vals ys ws → Vals (xs ++ ys) (us ++ ws)
  | _, _, _, _, .nil, s => s
  | _, _, _, _, .cons r t, s => .cons r (Vals.append t s)
theorem Vals.take : ∀ {xs : List V} {us : List Value} (n : Nat), Vals xs us → Vals (xs.take n) (us.take n)
  | _, _, 0, _ => .nil
  | _, _, _ + 1, .nil => .nil
  | _, _, n + 1, .cons r t => .cons r (Vals.take n t)
theorem Vals.drop : ∀ {xs : List V} {us : List Value} (n : Nat), Vals xs us → Vals (xs.drop n) (us.drop n)
  | _, _, 0, r => r
  | _, _, _ + 1, .nil => .nil
  | _, _, n + 1, .cons _ t => Vals.drop n t
noncomputable def TupD (h : Heap) (a : Addr) (items : Array Value) : Prop := ∃ n, h.get? a = some { cls := .type "tuple", data := .seq items n }
theorem TupD.tup {h : Heap} {a : Addr} {items : Array Value} (p : TupD h a items) : IsTup h a items := let ⟨n, e⟩ := p; ⟨_, e, rfl, n, rfl⟩
theorem TupD.new (h : Heap) (items : Array Value) : TupD (h.push { cls := .type "tuple", data := .seq items }) h.objs.size items := ⟨_, Heap.get?_push_size _ rfl⟩

noncomputable def RelO : Option V → Option Value → Prop
  | some v, some u => RelV v u
  | none, none => True
  | _, _ => False
noncomputable def KV {κ : Type} : List (κ × V) → List (κ × Value) → Prop := Paired fun (p : κ × V) (q : κ × Value) => p.1 = q.1 ∧ RelV p.2 q.2

noncomputable def kV : Key → V
  | .inl i => .int i
  | .inr x => .str x

inductive HO where
  /-- a list -/
  | lst (xs : List V)
  /-- a tuple (never changes) -/
  | tup (xs : List V)
  /-- a dict whose keys are ints and texts; one whose keys are tuples of ints and texts (the empty one is both) -/
  | dK (kvs : List (Key × V)) | dT (kvs : List (List Key × V))
  /-- a set of ints: its members, its size -/
  | set (S : Int → Bool) (n : Nat)
  /-- an instance of the class at C, its dict at dx, its attributes -/
  | ins (C dx : Addr) (fs : List (Str × V))
  /-- the dict of the instance at x -/
  | own (x : Addr)
  /-- the dict of an exception -/
  | xd (fs : List (Str × V))
  /-- a bound method, f of x -/
  | met (f x : Addr)
  /-- a range object lo, lo + 1, .. below hi -/
  | rng (lo hi : Int)
  /-- a thing that is known to the object (the script; a dict while a loop walks it): read, never written while it is so -/
  | frz (o : Obj) (u : HO)
  /-- a code object's table -/
  | tbl (ps : Array Value)
  /-- any other thing, by what is true of its one object (a def of one's own: SetO a S n := HO.ext fun h => ..) -/
  | ext (φ : Heap → Prop)

noncomputable abbrev Hp := Addr → Option HO
noncomputable def upd (H : Hp) (a : Addr) (o : HO) : Hp := fun b => if b = a then some o else H b
theorem upd_same {H : Hp} {a : Addr} {o : HO} : upd H a o a = some o := by unfold upd; rw [if_pos rfl]
theorem upd_ne {H : Hp} {a b : Addr} {o : HO} (h : b ≠ a) : upd H a o b = H b := by unfold upd; rw [if_neg h]
theorem ne_of {H : Hp} {a b : Addr} {o u : HO} (h : H a = some o) (h' : H b = some u) (d : o ≠ u) : a ≠ b := by
  intro e; subst e; rw [h] at h'; exact d (Option.some.inj h')
theorem ne_of_none {H : Hp} {a b : Addr} {o : HO} (h : H a = some o) (h' : H b = none) : a ≠ b := by
  intro e; subst e; rw [h] at h'; cases h'

section
variable (P : Program) (w : World)
noncomputable def ObjOk (H : Hp) (h : Heap) (a : Addr) : HO → Prop
  | .lst xs => xs.length ≤ sizeLine ∧ ∃ (its : List Value) (n : Nat), Vals xs its ∧ h.get? a = some { cls := .type "list", data := .seq its.toArray n }
  | .tup xs => xs.length ≤ sizeLine ∧ ∃ its : List Value, Vals xs its ∧ TupD h a its.toArray
  | .dK kvs => kvs.length ≤ sizeLine ∧ (a == sysModules) = false ∧ ∃ vs, KV kvs vs ∧ h.DictOf (mixKind P w) a vs
  | .dT kvs => kvs.length ≤ sizeLine ∧ (a == sysModules) = false ∧ ∃ xs : List (List Key × Addr × Value),
      Paired (fun (p : List Key × V) (q : List Key × Addr × Value) => p.1 = q.1 ∧ H q.2.1 = some (.tup (p.1.map kV)) ∧ RelV p.2 q.2.2) kvs xs ∧
      ∃ o es ep, h.get? a = some o ∧ o.ExactDict ∧ o.data = .dict es ep ∧ es.toList = xs.map (entryOfKey (tupleKind (mixKind P w))) ∧ (xs.map (·.1)).Nodup
  | .set S n => h.SetOf (intKind P w) a S n
  | .ins C dx fs => H dx = some (.own a) ∧ fs.length ≤ 1000 ∧ dx ≠ a ∧ h.get? a = some (PySem.W.instObj C dx) ∧
      ∃ mA, h.Ns1 dx mA ∧ (∀ f, RelO (fs.lookup f) (mA f)) ∧ PySem.Within mA (fs.map (·.1))
  | .own _ => ∃ o, h.get? a = some o
  | .xd fs => ∃ mA, h.Ns1 a mA ∧ ∀ f, RelO (fs.lookup f) (mA f)
  | .rng lo hi => ∃ t u v, h.get? a = some { cls := .type "range", data := .fields #[.int lo t, .int hi u, .int 1 v] }
  | .frz o u => h.get? a = some o ∧ ObjOk H h a u
  | .tbl ps => h.get? a = some { cls := .none, data := .fields ps }
  | .met f x => h.get? a = some (PySem.W.methodObj (.ref f) (.ref x))
  | .ext φ => φ h ∧ (∃ o, h.get? a = some o) ∧ ∀ h1 h2 : Heap, φ h1 → (∀ o, h1.get? a = some o → h2.get? a = some o) → φ h2
noncomputable def HOk (H : Hp) (h : Heap) : Prop := ∀ a o, H a = some o → ObjOk P w H h a o
end
section
variable {P : Program} {w : World} {H H' : Hp} {h h' : Heap} {a : Addr} {o : HO}
theorem ObjOk.lt (x : ObjOk P w H h a o) : a < h.objs.size := by
  cases o with
  | lst xs => obtain ⟨_, _, _, _, e⟩ := x; exact Heap.lt_size e
  | tup xs => obtain ⟨_, _, _, p⟩ := x; exact p.tup.lt
  | dK kvs => obtain ⟨_, _, _, _, o, _, _, e, _⟩ := x; exact Heap.lt_size e
  | dT kvs => obtain ⟨_, _, _, _, o, _, _, e, _⟩ := x; exact Heap.lt_size e
  | set S n => obtain ⟨o, _, _, _, e, _⟩ := x; exact Heap.lt_size e
  | ins C dx fs => obtain ⟨_, _, _, e, _⟩ := x; exact Heap.lt_size e
  | own y => obtain ⟨_, e⟩ := x; exact Heap.lt_size e
  | xd fs => obtain ⟨_, ⟨_, _, _, e, _⟩, _⟩ := x; exact Heap.lt_size e
  | rng lo hi => obtain ⟨_, _, _, e⟩ := x; exact Heap.lt_size e
  | frz ob u => obtain ⟨e, _⟩ := x; exact Heap.lt_size e
  | tbl ps => exact Heap.lt_size (show h.get? a = some _ from x)
  | met f y => exact Heap.lt_size (show h.get? a = some _ from x)
  | ext φ => obtain ⟨_, ⟨_, e⟩, _⟩ := x; exact Heap.lt_size e
theorem Paired.mapP {α β : Type} {F G : α → β → Prop} : ∀ {l₁ : List α} {l₂ : List β}, Paired F l₁ l₂ → (∀ a b, F a b → G a b) → Paired G l₁ l₂
  | _, _, .nil, _ => .nil
  | _, _, .cons r t, f => .cons (f _ _ r) (Paired.mapP t f)
theorem ObjOk.stay (x : ObjOk P w H h a o) (k : ∀ b u, (b = a ∨ H b = some (.own a)) → h.get? b = some u → h'.get? b = some u)
    (ho : ∀ b, H b = some (.own a) → H' b = some (.own a)) (ht : ∀ b xs, H b = some (.tup xs) → H' b = some (.tup xs)) : ObjOk P w H' h' a o := by
  induction o with
  | lst xs => obtain ⟨z, its, n, r, e⟩ := x; exact ⟨z, its, n, r, k _ _ (.inl rfl) e⟩
  | tup xs => obtain ⟨z, its, r, ob, e⟩ := x; exact ⟨z, its, r, ob, k _ _ (.inl rfl) e⟩
  | dK kvs => obtain ⟨z, y, vs, r, ob, es, ep, e, c⟩ := x; exact ⟨z, y, vs, r, ob, es, ep, k _ _ (.inl rfl) e, c⟩
  | dT kvs =>
    obtain ⟨z, y, xs, r, ob, es, ep, e, c⟩ := x
    exact ⟨z, y, xs, Paired.mapP r fun p q z => ⟨z.1, ht _ _ z.2.1, z.2.2⟩, ob, es, ep, k _ _ (.inl rfl) e, c⟩
  | set S n => obtain ⟨ob, es, ep, t, e, c⟩ := x; exact ⟨ob, es, ep, t, k _ _ (.inl rfl) e, c⟩
  | ins C dx fs =>
    obtain ⟨d, z, ne, e, mA, ⟨od, es, ep, e2, c⟩, r⟩ := x
    exact ⟨ho _ d, z, ne, k _ _ (.inl rfl) e, mA, ⟨od, es, ep, k _ _ (.inr d) e2, c⟩, r⟩
  | own y => obtain ⟨ob, e⟩ := x; exact ⟨ob, k _ _ (.inl rfl) e⟩
  | xd fs => obtain ⟨mA, ⟨od, es, ep, e, c⟩, r⟩ := x; exact ⟨mA, ⟨od, es, ep, k _ _ (.inl rfl) e, c⟩, r⟩
  | rng lo hi => obtain ⟨t, u, v, e⟩ := x; exact ⟨t, u, v, k _ _ (.inl rfl) e⟩
  | frz ob u ih => obtain ⟨e, q⟩ := x; exact ⟨k _ _ (.inl rfl) e, ih q⟩
  | tbl ps =>
    have e : h.get? a = some { cls := .none, data := .fields ps } := x
    show h'.get? a = some { cls := .none, data := .fields ps }
    exact k a _ (.inl rfl) e
  | met f y =>
    have e : h.get? a = some (PySem.W.methodObj (.ref f) (.ref y)) := x
    show h'.get? a = some (PySem.W.methodObj (.ref f) (.ref y))
    exact k a _ (.inl rfl) e
  | ext φ => obtain ⟨p, ⟨o, e⟩, st⟩ := x; exact ⟨st _ _ p fun o q => k _ _ (.inl rfl) q, ⟨o, k _ _ (.inl rfl) e⟩, st⟩
theorem HOk.lt (x : HOk P w H h) (e : H a = some o) : a < h.objs.size := (x a o e).lt
theorem HOk.fresh (x : HOk P w H h) (e : h.objs.size ≤ a) : H a = none := by
  cases q : H a with
  | none => rfl
  | some u => exact absurd (Nat.lt_of_lt_of_le (x.lt q) e) (Nat.lt_irrefl _)
theorem HOk.kept (x : HOk P w H h) (k : ∀ b u, h.get? b = some u → h'.get? b = some u) : HOk P w H h' := fun a o e =>
  (x a o e).stay (fun b u _ q => k b u q) (fun _ q => q) fun _ _ q => q
theorem HOk.laid (x : HOk P w H h) (k : ∀ b u, h.get? b = some u → h'.get? b = some u) (hp : h.objs.size ≤ a) (new : ObjOk P w (upd H a o) h' a o) : HOk P w (upd H a o) h' := fun b u e => by
  have hn := x.fresh hp
  by_cases hb : b = a
  · subst hb; rw [upd_same] at e; cases e; exact new
  · rw [upd_ne hb] at e
    exact (x b u e).stay (fun c v _ q => k c v q) (fun c q => by rw [upd_ne (ne_of_none q hn)]; exact q) fun c xs q => by rw [upd_ne (ne_of_none q hn)]; exact q
end
noncomputable def Rd (H : Hp) (a : Addr) (u : HO) : Prop := H a = some u ∨ ∃ o, H a = some (.frz o u)
theorem Rd.ok {P : Program} {w : World} {H : Hp} {h : Heap} {a : Addr} {u : HO} (r : Rd H a u) (x : HOk P w H h) : ObjOk P w H h a u := by
  rcases r with r | ⟨o, r⟩
  · exact x a u r
  · obtain ⟨_, q⟩ := x a _ r
    exact q
noncomputable def Mut : Option HO → Prop
  | some (.lst _) => True
  | some (.dK _) => True
  | some (.dT _) => True
  | some (.set _ _) => True
  | some (.ins _ _ _) => True
  | some (.ext _) => True
  | _ => False
section
variable {P : Program} {w : World} {H : Hp} {h h' : Heap} {x e : Addr} {o' : HO}
theorem HOk.write (ok : HOk P w H h) (mu : Mut (H x)) (he : e = x ∨ H e = some (.own x)) (k : ∀ b u, b ≠ e → h.get? b = some u → h'.get? b = some u) (heo : ∃ u, h'.get? e = some u)
    (new : ObjOk P w (upd H x o') h' x o') : HOk P w (upd H x o') h' := fun b u q => by
  have nown : ∀ c y, H c = some (.own y) → c ≠ x := fun c y r z => by subst z; rw [r] at mu; exact mu
  have ntup : ∀ c xs, H c = some (.tup xs) → c ≠ x := fun c xs r z => by subst z; rw [r] at mu; exact mu
  by_cases hb : b = x
  · subst hb; rw [upd_same] at q; cases q; exact new
  · rw [upd_ne hb] at q
    by_cases hbe : b = e
    · have q' : H b = some (.own x) := by
        rcases he with z | z
        · exact absurd (hbe.trans z) hb
        · rw [hbe]; exact z
      rw [q] at q'; cases q'
      obtain ⟨v, hv⟩ := heo
      exact ⟨v, by rw [hbe]; exact hv⟩
    · refine (ok b u q).stay (fun c v hc r => k c v ?_ r) (fun c r => by rw [upd_ne (nown c b r)]; exact r) fun c xs r => by rw [upd_ne (ntup c xs r)]; exact r
      rcases hc with rfl | hc
      · exact hbe
      · rintro rfl
        rcases he with z | z
        · exact nown c b hc z
        · rw [hc] at z; cases z; exact hb rfl
end
structure Un (fs ex : List Addr) (H H' : Hp) (h h' : Heap) : Prop where
  keep : ∀ b o, h.get? b = some o → H b = none → b ∉ fs → b ∉ ex → h'.get? b = some o
  slot : ∀ b o, h.get? b = some o → H b = none → b ∈ fs → b ∉ ex → ∃ sl, h'.get? b = some { o with slots := sl }
  free : ∀ b o, h.get? b = some o → H b = none → b ∉ ex → H' b = none
  there : ∀ b o, h.get? b = some o → b ∉ ex → ∃ o', h'.get? b = some o'
  tups : ∀ b xs, H b = some (.tup xs) → H' b = some (.tup xs)
  frzs : ∀ b o u, H b = some (.frz o u) → H' b = some (.frz o u)
  tbls : ∀ b ps, H b = some (.tbl ps) → ∃ more, H' b = some (.tbl (ps ++ more))
section
variable {fs fs' ex ex' : List Addr} {H H1 H2 : Hp} {h h1 h2 h' : Heap} {a x e : Addr} {o : HO}
theorem Un.any (u : Un fs ex H H1 h h1) {b : Addr} {ob : Obj} (q : h.get? b = some ob) (n : H b = none) (hx : b ∉ ex) : ∃ sl, h1.get? b = some { ob with slots := sl } := by
  by_cases hb : b ∈ fs
  · exact u.slot b ob q n hb hx
  · exact ⟨ob.slots, u.keep b ob q n hb hx⟩
theorem Un.kept (k : ∀ b u, h.get? b = some u → h'.get? b = some u) : Un fs ex H H h h' :=
  ⟨fun b ob q _ _ _ => k b ob q, fun b ob q _ _ _ => ⟨ob.slots, k b ob q⟩, fun _ _ _ n _ => n, fun b ob q _ => ⟨ob, k b ob q⟩, fun _ _ q => q, fun _ _ _ q => q, fun _ ps q => ⟨#[], by rw [q]; simp⟩⟩
theorem Un.refl : Un fs ex H H h h := Un.kept fun _ _ q => q
theorem Un.laid (k : ∀ b u, h.get? b = some u → h'.get? b = some u) (hp : h.objs.size ≤ a) (hn : H a = none) : Un fs ex H (upd H a o) h h' where
  keep := fun b u q _ _ _ => k b u q
  slot := fun b u q _ _ _ => ⟨u.slots, k b u q⟩
  free := fun b u q n _ => by rw [upd_ne (Nat.ne_of_lt (Nat.lt_of_lt_of_le (Heap.lt_size q) hp))]; exact n
  there := fun b u q _ => ⟨u, k b u q⟩
  tups := fun b xs q => by rw [upd_ne (ne_of_none q hn)]; exact q
  frzs := fun b u xs q => by rw [upd_ne (ne_of_none q hn)]; exact q
  tbls := fun b ps q => ⟨#[], by rw [upd_ne (ne_of_none q hn), q]; simp⟩
theorem Un.write (mu : Mut (H x)) (he : e = x ∨ H e = some (.own x)) (k : ∀ b u, b ≠ e → h.get? b = some u → h'.get? b = some u) (heo : ∃ u, h'.get? e = some u) : Un fs ex H (upd H x o) h h' := by
  have hx : ∀ b, H b = none → b ≠ x := fun b n z => by subst z; rw [n] at mu; exact mu
  have hb : ∀ b, H b = none → b ≠ e := fun b n z => by
    subst z
    rcases he with r | r
    · exact hx b n r
    · rw [n] at r; cases r
  have hm : ∀ b u, H b = some u → ¬ Mut (some u) → b ≠ x := fun b u q nm z => by subst z; rw [q] at mu; exact nm mu
  refine ⟨fun b u q n _ _ => k b u (hb b n) q, fun b u q n _ _ => ⟨u.slots, k b u (hb b n) q⟩, fun b u q n _ => by rw [upd_ne (hx b n)]; exact n, fun b u q _ => ?_,
    fun b xs q => by rw [upd_ne (hm b _ q fun z => z)]; exact q, fun b u xs q => by rw [upd_ne (hm b _ q fun z => z)]; exact q, fun b ps q => ⟨#[], by rw [upd_ne (hm b _ q fun z => z), q]; simp⟩⟩
  by_cases hbe : b = e
  · subst hbe; exact heo
  · exact ⟨u, k b u hbe q⟩
end
noncomputable def trk (h : Heap) (H : Hp) : List Addr := (List.range h.objs.size).filter fun a => (H a).isSome
noncomputable def hidT (h : Heap) (H : Hp) : Heap := PySem.W.hideAll h (trk h H)
theorem hidT_size (h : Heap) (H : Hp) : (hidT h H).objs.size = h.objs.size := PySem.W.hideAll_size _ _
theorem hidT_get {h : Heap} {H : Hp} {b : Addr} {o : Obj} (e : h.get? b = some o) (n : H b = none) : (hidT h H).get? b = some o :=
  PySem.W.hideAll_get _ e fun hm => by
    have q : (H b).isSome = true := (List.mem_filter.mp hm).2
    rw [n] at q; simp at q
theorem of_hidT {h : Heap} {H : Hp} {b : Addr} {o : Obj} (e : (hidT h H).get? b = some o) : h.get? b = some o ∧ H b = none := by
  have e' : h.get? b = some o := PySem.W.of_hideAll (trk h H) e
  refine ⟨e', ?_⟩
  cases q : H b with
  | none => rfl
  | some x =>
    have hm : b ∈ trk h H := List.mem_filter.mpr ⟨List.mem_range.mpr (Heap.lt_size e'), by simp [q]⟩
    have z : (hidT h H).get? b = none := PySem.W.hideAll_none (trk h H) hm
    rw [z] at e; cases e

end L2
namespace L2
open PySem PySem.Spec PyProof.Rows
structure Mod (K : PySem.W.Frag) (mg : Str → Option Value) (base : Heap) : Prop where
  kin : K.In base
  glob : base.Ns mainGlobals mg
  blt : ∃ mb, base.Ns builtinsNs mb ∧ ∀ x : Str, x ≠ "__name__" → mb x = bootBuiltins x
  nolimit : base.NoLimit

structure Cx where
  prog : Program
  w : World
  K : PySem.W.Frag
  mg : Str → Option Value
  base : Heap
  A : Around
  N : List Str
  s₀ : Shared
  H₀ : Hp
  env : Env
  outer : List Env
  stack : List Env
  ex : List Addr
  fn : Str → Bool
  calm : Bool
  pn : List (Addr × Obj)
  xe : Value → Shared → Prop
noncomputable def frs (l : List Env) : List Addr := l.filterMap (·.frame)
noncomputable abbrev Cx.fs (X : Cx) : List Addr := frs X.outer

noncomputable def Vis (sc : Scope) (x : Str) : Prop := sc.names.lookup x = some .local ∨ sc.names.lookup x = some .cell ∨ sc.names.lookup x = some .free
noncomputable def Loc (sc : Scope) (x : Str) : Prop := sc.names.lookup x = some .local ∨ sc.names.lookup x = some .cell
noncomputable def Look (env : Env) (h : Heap) (m : Str → Option Value) (x : Str) (u : Value) : Prop :=
  (env.kindOf x = some .local ∧ m x = some u) ∨ ((env.kindOf x = some .cell ∨ env.kindOf x = some .free) ∧ ∃ c, env.cells.lookup x = some c ∧ h.IsCell c (some u))

structure Cx.Ok (X : Cx) : Prop where
  mod : Mod X.K X.mg X.base
  kind : X.env.scope.kind = .function
  glob : X.env.globals = mainGlobals
  blt : X.env.builtins = builtinsNs
  above : X.s₀.heap.objs.size ≤ X.env.locals
  inj : ∀ x y c, X.env.cells.lookup x = some c → X.env.cells.lookup y = some c → x = y
  has : ∀ x, (X.env.kindOf x = some .cell ∨ X.env.kindOf x = some .free) → ∃ c, X.env.cells.lookup x = some c
  cab : ∀ x c, X.fn x = true → X.env.cells.lookup x = some c → X.s₀.heap.objs.size ≤ c
  hd : X.calm = true → X.A.handled = none
  frames : X.A.frames = some X.stack
  stk : X.stack = X.outer ∨ (X.stack = X.env :: X.outer ∧ X.env.frame = some X.env.locals)
  exf : ∀ b ∈ X.ex, b ≠ X.env.locals ∧ ∀ x c, X.env.cells.lookup x = some c → c ≠ b
  bs : ∀ b o, X.base.get? b = some o → X.s₀.heap.get? b = some o ∧ X.H₀ b = none
  bsz : X.base.objs.size ≤ X.s₀.heap.objs.size
  noex : ∀ b o, X.base.get? b = some o → b ∉ X.ex
  exfs : ∀ b ∈ X.ex, b ∉ X.fs
  funs : X.s₀.heap.FunFrames X.base X.outer
  frf : ∀ b ∈ X.fs, X.H₀ b = none

structure Inv (X : Cx) (pins : List (Addr × Obj)) (σ : List (Option V)) (H : Hp) (s : Shared) : Prop where
  ok : X.Ok
  os : s.os = X.s₀.os
  bare : AllBare s.gens
  base : Un X.fs X.ex X.H₀ H X.s₀.heap s.heap
  loc : ∃ m, s.heap.Ns X.env.locals m ∧ ∀ (i : Nat) (x : Str) (v : V), X.N[i]? = some x → σ[i]? = some (some v) → Vis X.env.scope x → ∃ u, RelV v u ∧ Look X.env s.heap m x u
  cell : ∀ x c, X.env.cells.lookup x = some c → ∃ v, s.heap.IsCell c v
  free : H X.env.locals = none
  freeC : ∀ x c, X.env.cells.lookup x = some c → H c = none
  pin : ∀ p ∈ X.pn ++ pins, s.heap.get? p.1 = some p.2 ∧ H p.1 = none ∧ p.1 ≠ X.env.locals ∧ p.1 ∉ X.fs ∧ ∀ v, p.2.data ≠ .cell v
  hok : HOk X.prog X.w H s.heap
  len : σ.length = X.N.length

section
variable {X : Cx} {pins : List (Addr × Obj)} {σ : List (Option V)} {H H' : Hp} {s : Shared} {h' : Heap}
theorem Cx.Ok.nofr (ok : X.Ok) {b : Addr} {o : Obj} (e : X.base.get? b = some o) : b ∉ X.fs := fun hb => by
  have := (ok.funs.mem hb).1
  rw [e] at this; cases this
theorem Inv.bs (I : Inv X pins σ H s) : ∀ b o, X.base.get? b = some o → s.heap.get? b = some o ∧ H b = none := fun b o e =>
  ⟨I.base.keep b o (I.ok.bs b o e).1 (I.ok.bs b o e).2 (I.ok.nofr e) (I.ok.noex b o e), I.base.free b o (I.ok.bs b o e).1 (I.ok.bs b o e).2 (I.ok.noex b o e)⟩
theorem Inv.bk (I : Inv X pins σ H s) : ∀ b o, X.base.get? b = some o → s.heap.get? b = some o := fun b o e => (I.bs b o e).1
theorem Inv.mod (I : Inv X pins σ H s) : Mod X.K X.mg X.base := I.ok.mod
theorem Inv.kIn (I : Inv X pins σ H s) : X.K.In s.heap := I.ok.mod.kin.keeps I.bk
theorem Inv.lt (I : Inv X pins σ H s) : X.env.locals < s.heap.objs.size := let ⟨_, hn, _⟩ := I.loc; hn.lt
theorem Inv.sz (I : Inv X pins σ H s) : X.s₀.heap.objs.size ≤ s.heap.objs.size := Nat.le_trans I.ok.above (Nat.le_of_lt I.lt)
theorem Inv.nofs (I : Inv X pins σ H s) {a : Addr} (h : s.heap.objs.size ≤ a) : a ∉ X.fs := fun hb => by
  obtain ⟨_, o, ho, _⟩ := I.ok.funs.mem hb
  exact absurd (Nat.lt_of_lt_of_le (Heap.lt_size ho) (Nat.le_trans I.sz h)) (Nat.lt_irrefl _)
theorem Inv.cne (I : Inv X pins σ H s) : ∀ x c, X.env.cells.lookup x = some c → c ≠ X.env.locals := fun x c e z => by
  obtain ⟨v, o, ho, hd⟩ := I.cell x c e
  obtain ⟨m, ⟨o', es, ep, ho', hd', _⟩, _⟩ := I.loc
  rw [z, ho'] at ho; cases ho; rw [hd'] at hd; cases hd
theorem Inv.funs (I : Inv X pins σ H s) : s.heap.FunFrames X.base X.outer := by
  have all : ∀ (l : List Env), (∀ b ∈ frs l, b ∈ X.fs) → X.s₀.heap.FunFrames X.base l → s.heap.FunFrames X.base l := by
    intro l
    induction l with
    | nil => intro _ _; trivial
    | cons env r ih =>
      intro hs hl
      obtain ⟨hk, ⟨L, o, hf, hn, ho, hd⟩, hr⟩ := hl
      have hL : L ∈ X.fs := hs L (by unfold frs; rw [List.filterMap_cons, hf]; exact List.mem_cons_self)
      obtain ⟨sl, e⟩ := I.base.slot L o ho (I.ok.frf L hL) hL fun z => I.ok.exfs L z hL
      exact ⟨hk, ⟨L, _, hf, hn, e, hd⟩, ih (fun b hb => hs b (by unfold frs; rw [List.filterMap_cons, hf]; exact List.mem_cons_of_mem _ hb)) hr⟩
  exact all X.outer (fun _ hb => hb) I.ok.funs

theorem Inv.stack (I : Inv X pins σ H s) : s.heap.FunFrames X.base X.stack := by
  rcases I.ok.stk with e | ⟨e, hf⟩
  · rw [e]; exact I.funs
  · rw [e]
    obtain ⟨m, hn, _⟩ := I.loc
    refine .cons (by rw [I.ok.kind]; decide) hf hn ?_ I.funs
    exact Heap.get?_none_of_le (Nat.le_trans I.ok.bsz I.ok.above)
theorem Inv.stkSub (I : Inv X pins σ H s) : ∀ b ∈ frs X.stack, b ∈ X.env.locals :: X.fs := fun b hb => by
  rcases I.ok.stk with e | ⟨e, hf⟩
  · rw [e] at hb; exact List.mem_cons_of_mem _ hb
  · rw [e] at hb
    unfold frs at hb
    rw [List.filterMap_cons, hf] at hb
    exact hb
theorem Inv.stkFree (I : Inv X pins σ H s) : ∀ b ∈ frs X.stack, H b = none := fun b hb => by
  rcases List.mem_cons.mp (I.stkSub b hb) with e | hb
  · rw [e]; exact I.free
  · obtain ⟨_, o, ho, _⟩ := I.ok.funs.mem hb
    exact I.base.free b o ho (I.ok.frf b hb) fun z => I.ok.exfs b z hb

theorem Inv.step {g' : Array GenState} {t' : Nat} {d' : Drawn} {ch : List Addr} (I : Inv X pins σ H s)
    (hch : ∀ b ∈ ch, (b ∈ X.ex ∨ X.s₀.heap.objs.size ≤ b) ∧ b ≠ X.env.locals ∧ (∀ x c, X.env.cells.lookup x = some c → c ≠ b) ∧ ∀ p ∈ X.pn ++ pins, p.1 ≠ b)
    (keep : ∀ b o, b ≠ X.env.locals → b ∉ X.fs → b ∉ ch → s.heap.get? b = some o → H b = none → h'.get? b = some o)
    (slot : ∀ b o, b ≠ X.env.locals → b ∈ X.fs → b ∉ ch → s.heap.get? b = some o → H b = none → ∃ sl, h'.get? b = some { o with slots := sl }) (free : ∀ b o, b ∉ ch → s.heap.get? b = some o → H b = none → H' b = none)
    (there : ∀ b o, b ∉ ch → s.heap.get? b = some o → ∃ o', h'.get? b = some o')
    (tups : ∀ b xs, H b = some (.tup xs) → H' b = some (.tup xs)) (frzs : ∀ b o u, H b = some (.frz o u) → H' b = some (.frz o u)) (tbls : ∀ b ps, H b = some (.tbl ps) → ∃ more, H' b = some (.tbl (ps ++ more)))
    (ns : ∀ m, s.heap.Ns X.env.locals m → h'.Ns X.env.locals m) (hok : HOk X.prog X.w H' h') (hg : AllBare g') :
    Inv X pins σ H' { s with heap := h', gens := g', drawn := d', toks := t' } := by
  have neL : ∀ b o, X.s₀.heap.get? b = some o → b ≠ X.env.locals := fun b o e => Nat.ne_of_lt (Nat.lt_of_lt_of_le (Heap.lt_size e) I.ok.above)
  have neC : ∀ b o, X.s₀.heap.get? b = some o → b ∉ X.ex → b ∉ ch := fun b o e hx hb => by
    rcases (hch b hb).1 with z | z
    · exact hx z
    · exact absurd (Nat.lt_of_lt_of_le (Heap.lt_size e) z) (Nat.lt_irrefl _)
  have cellK : ∀ x c, X.env.cells.lookup x = some c → ∀ v, s.heap.IsCell c v → h'.IsCell c v := fun x c e v ⟨o, ho, hd⟩ => by
    have nch : c ∉ ch := fun z => (hch c z).2.2.1 x c e rfl
    by_cases hc : c ∈ X.fs
    · obtain ⟨sl, q⟩ := slot c o (I.cne x c e) hc nch ho (I.freeC x c e)
      exact ⟨_, q, hd⟩
    · exact ⟨o, keep c o (I.cne x c e) hc nch ho (I.freeC x c e), hd⟩
  refine ⟨I.ok, I.os, hg, ⟨fun b o e n hb hx => ?_, fun b o e n hb hx => ?_, fun b o e n hx => ?_, fun b o e hx => ?_, fun b xs e => tups b xs (I.base.tups b xs e), fun b o xs e => frzs b o xs (I.base.frzs b o xs e), fun b ps e => ?_⟩, ?_, fun x c e => ?_, ?_, fun x c e => ?_, fun p hp => ?_, hok, I.len⟩
  · exact keep b o (neL b o e) hb (neC b o e hx) (I.base.keep b o e n hb hx) (I.base.free b o e n hx)
  · obtain ⟨sl, e1⟩ := I.base.slot b o e n hb hx
    obtain ⟨sl', e2⟩ := slot b _ (neL b o e) hb (neC b o e hx) e1 (I.base.free b o e n hx)
    exact ⟨sl', e2⟩
  · obtain ⟨o', e1⟩ := I.base.there b o e hx
    exact free b o' (neC b o e hx) e1 (I.base.free b o e n hx)
  · obtain ⟨o', e1⟩ := I.base.there b o e hx
    exact there b o' (neC b o e hx) e1
  · obtain ⟨m1, e1⟩ := I.base.tbls b ps e
    obtain ⟨m2, e2⟩ := tbls b _ e1
    exact ⟨m1 ++ m2, by rw [e2, Array.append_assoc]⟩
  · obtain ⟨m, hn, hl⟩ := I.loc
    refine ⟨m, ns m hn, fun i x v e1 e2 e3 => ?_⟩
    obtain ⟨u, r, l⟩ := hl i x v e1 e2 e3
    refine ⟨u, r, ?_⟩
    rcases l with l | ⟨k, c, e, z⟩
    · exact .inl l
    · exact .inr ⟨k, c, e, cellK x c e _ z⟩
  · obtain ⟨v, z⟩ := I.cell x c e
    exact ⟨v, cellK x c e v z⟩
  · obtain ⟨m, ⟨o, _, _, ho, _⟩, _⟩ := I.loc
    exact free _ o (fun z => (hch _ z).2.1 rfl) ho I.free
  · obtain ⟨v, o, ho, hd⟩ := I.cell x c e
    exact free c o (fun z => (hch c z).2.2.1 x c e rfl) ho (I.freeC x c e)
  · obtain ⟨e, n, ne, nf, d⟩ := I.pin p hp
    have nch : p.1 ∉ ch := fun z => (hch p.1 z).2.2.2 p hp rfl
    exact ⟨keep p.1 p.2 ne nf nch e n, free p.1 p.2 nch e n, ne, nf, d⟩
theorem Inv.un {t' : Nat} (I : Inv X pins σ H s) (u : Un X.fs [] H H' s.heap h') (hok : HOk X.prog X.w H' h') : Inv X pins σ H' { s with heap := h', toks := t' } := by
  obtain ⟨m, ⟨o, es, ep, ho, r⟩, _⟩ := id I.loc
  obtain ⟨sl, hL⟩ := u.any ho I.free (by simp)
  exact I.step (g' := s.gens) (d' := s.drawn) (ch := []) (fun _ z => nomatch z) (fun b o _ hb _ e n => u.keep b o e n hb (by simp)) (fun b o _ hb _ e n => u.slot b o e n hb (by simp)) (fun b o _ e n => u.free b o e n (by simp)) (fun b o _ e => u.there b o e (by simp)) u.tups u.frzs u.tbls (fun m' hm => by
    obtain ⟨o', es', ep', ho', r'⟩ := hm
    rw [ho] at ho'; cases ho'
    exact ⟨_, es', ep', hL, r'⟩) hok I.bare
theorem Inv.call {g' : Array GenState} {t' : Nat} {d' : Drawn} {ch : List Addr} (I : Inv X pins σ H s) (u : Un (frs X.stack) ch H H' s.heap h') (hok : HOk X.prog X.w H' h') (hg : AllBare g')
    (hch : ∀ b ∈ ch, (b ∈ X.ex ∨ X.s₀.heap.objs.size ≤ b) ∧ b ≠ X.env.locals ∧ (∀ x c, X.env.cells.lookup x = some c → c ≠ b) ∧ ∀ p ∈ X.pn ++ pins, p.1 ≠ b) :
    Inv X pins σ H' { s with heap := h', gens := g', drawn := d', toks := t' } := by
  obtain ⟨m, ⟨o, es, ep, ho, r⟩, _⟩ := id I.loc
  obtain ⟨sl, hL⟩ := u.any ho I.free fun z => (hch _ z).2.1 rfl
  exact I.step (ch := ch) hch (fun b o hL hb hc e n => u.keep b o e n (fun z => (List.mem_cons.mp (I.stkSub b z)).elim hL hb) hc) (fun b o _ _ hc e n => u.any e n hc) (fun b o hc e n => u.free b o e n hc) (fun b o hc e => u.there b o e hc) u.tups u.frzs u.tbls (fun m' hm => by
    obtain ⟨o', es', ep', ho', r'⟩ := hm
    rw [ho] at ho'; cases ho'
    exact ⟨_, es', ep', hL, r'⟩) hok hg
theorem Inv.turned {t' : Nat} {it : Addr} (I : Inv X pins σ H s) (k : ∀ b o, b ≠ it → s.heap.get? b = some o → h'.get? b = some o) (hn : H it = none) (hL : it ≠ X.env.locals)
    (h1 : it ∈ X.ex ∨ X.s₀.heap.objs.size ≤ it) (h2 : ∀ x c, X.env.cells.lookup x = some c → c ≠ it) (h3 : ∀ p ∈ X.pn ++ pins, p.1 ≠ it) : Inv X pins σ H { s with heap := h', toks := t' } := by
  have nit : ∀ b u, H b = some u → b ≠ it := fun b u e z => by rw [z, hn] at e; cases e
  refine I.step (g' := s.gens) (d' := s.drawn) (ch := [it]) (fun b hb => ?_) (fun b o _ _ hc e _ => k b o (fun z => hc (by simp [z])) e) (fun b o _ _ hc e _ => ⟨o.slots, k b o (fun z => hc (by simp [z])) e⟩) (fun _ _ _ _ n => n)
    (fun b o hc e => ⟨o, k b o (fun z => hc (by simp [z])) e⟩) (fun _ _ e => e) (fun _ _ _ e => e) (fun b ps e => ⟨#[], by rw [e]; simp⟩) (fun m hm => ?_) (fun b u e => ?_) I.bare
  · have e : b = it := by simpa using hb
    subst e
    exact ⟨h1, hL, h2, h3⟩
  · obtain ⟨o, es, ep, ho, r⟩ := hm
    exact ⟨o, es, ep, k _ o (Ne.symm hL) ho, r⟩
  · refine (I.hok b u e).stay (fun c v hc q => k c v ?_ q) (fun _ q => q) fun _ _ q => q
    rcases hc with z | z
    · rw [z]; exact nit b u e
    · exact nit c _ z
theorem Inv.tok (I : Inv X pins σ H s) (t : Nat) : Inv X pins σ H { s with toks := t } := I.un (h' := s.heap) (t' := t) Un.refl I.hok
theorem Inv.kept {t' : Nat} (I : Inv X pins σ H s) (k : ∀ b u, s.heap.get? b = some u → h'.get? b = some u) : Inv X pins σ H { s with heap := h', toks := t' } := I.un (Un.kept k) (I.hok.kept k)
theorem Inv.laid {a : Addr} {o : HO} {t' : Nat} (I : Inv X pins σ H s) (k : ∀ b u, s.heap.get? b = some u → h'.get? b = some u) (hp : s.heap.objs.size ≤ a) (new : ObjOk X.prog X.w (upd H a o) h' a o) :
    Inv X pins σ (upd H a o) { s with heap := h', toks := t' } := I.un (Un.laid k hp (I.hok.fresh hp)) (I.hok.laid k hp new)
theorem Inv.write {x e : Addr} {o : HO} {t' : Nat} (I : Inv X pins σ H s) (mu : Mut (H x)) (he : e = x ∨ H e = some (.own x)) (k : ∀ b u, b ≠ e → s.heap.get? b = some u → h'.get? b = some u) (heo : ∃ u, h'.get? e = some u)
    (new : ObjOk X.prog X.w (upd H x o) h' x o) : Inv X pins σ (upd H x o) { s with heap := h', toks := t' } := I.un (Un.write mu he k heo) (I.hok.write mu he k heo new)
theorem Inv.weak {σ' : List (Option V)} (I : Inv X pins σ H s) (hl : σ'.length = σ.length) (w : ∀ (i : Nat) v, σ'[i]? = some (some v) → σ[i]? = some (some v)) : Inv X pins σ' H s :=
  ⟨I.ok, I.os, I.bare, I.base, let ⟨m, hn, hl'⟩ := I.loc; ⟨m, hn, fun i x v e1 e2 e3 => hl' i x v e1 (w i v e2) e3⟩, I.cell, I.free, I.freeC, I.pin, I.hok, hl.trans I.len⟩
theorem Inv.pins_of {pins' : List (Addr × Obj)} (I : Inv X pins σ H s) (h : ∀ p ∈ pins', s.heap.get? p.1 = some p.2 ∧ H p.1 = none ∧ p.1 ≠ X.env.locals ∧ p.1 ∉ X.fs ∧ ∀ v, p.2.data ≠ .cell v) : Inv X pins' σ H s :=
  ⟨I.ok, I.os, I.bare, I.base, I.loc, I.cell, I.free, I.freeC, fun p hp => (List.mem_append.mp hp).elim (fun z => I.pin p (List.mem_append_left _ z)) (h p), I.hok, I.len⟩

theorem nodup_ix {N : List Str} (hN : N.Nodup) {i j : Nat} {x : Str} (a : N[i]? = some x) (b : N[j]? = some x) : i = j := by
  obtain ⟨h1, e1⟩ := List.getElem?_eq_some_iff.mp a
  obtain ⟨h2, e2⟩ := List.getElem?_eq_some_iff.mp b
  exact (List.getElem_inj hN).mp (e1.trans e2.symm)

theorem store_ok2 {M : Model} {A : Around} {E : Value → Shared → Prop} {i : Nat} {x : Str} {v : V} {u : Value} {Q : Unit → Shared → Prop} (I : Inv X pins σ H s) (hN : X.N.Nodup) (hi : X.N[i]? = some x) (hx : Loc X.env.scope x) (r : RelV v u)
    (h : ∀ s', Inv X pins (σ.set i (some v)) H s' → (∃ a, Heap.SameBut a s.heap s'.heap ∧ (a = X.env.locals ∨ X.env.cells.lookup x = some a)) → Q () s') (hf : X.fn x = true ∨ X.env.scope.names.lookup x = some .local := by first | exact .inl rfl | exact .inr rfl | assumption) : wpAny M A (storeName X.env x u) Q E s := by
  obtain ⟨m, hn, hl⟩ := id I.loc
  have hcls : (X.env.scope.kind == .class || (X.env.scope.kind == .module && X.env.locals != X.env.globals)) = false := by rw [I.ok.kind]; rfl
  have hiσ : i < σ.length := by rw [I.len]; exact (List.getElem?_eq_some_iff.mp hi).1
  have cne := I.cne
  have tracked : ∀ {a : Addr} {h' : Heap}, (∃ o, s.heap.get? a = some o ∧ H a = none) → Heap.SameBut a s.heap h' → HOk X.prog X.w H h' := fun {a h'} ha hs b ob e => by
    obtain ⟨_, _, hfree⟩ := ha
    refine (I.hok b ob e).stay (fun c w' hc q => (hs.2 c ?_).trans q) (fun _ q => q) fun _ _ q => q
    rintro rfl
    rcases hc with rfl | hc
    · rw [hfree] at e; cases e
    · rw [hfree] at hc; cases hc
  rcases hx with hk | hk
  · refine wpAny_storeName_local hk hn (fun h' hn' hs => ?_) hcls
    obtain ⟨oL, _, _, hoL, _⟩ := id hn
    refine h _ ⟨I.ok, I.os, I.bare, ⟨fun b o e n hb hx => ?_, fun b o e n hb hx => ?_, I.base.free, fun b o e hx => ?_, I.base.tups, I.base.frzs, I.base.tbls⟩, ⟨_, hn', fun j y v' e1 e2 e3 => ?_⟩, fun y c e => ?_, I.free, I.freeC, fun p hp => ?_, tracked ⟨oL, hoL, I.free⟩ hs, by simpa using I.len⟩ ⟨_, hs, .inl rfl⟩
    · exact (hs.2 b (Nat.ne_of_lt (Nat.lt_of_lt_of_le (Heap.lt_size e) I.ok.above))).trans (I.base.keep b o e n hb hx)
    · obtain ⟨sl, e1⟩ := I.base.slot b o e n hb hx
      exact ⟨sl, (hs.2 b (Nat.ne_of_lt (Nat.lt_of_lt_of_le (Heap.lt_size e) I.ok.above))).trans e1⟩
    · obtain ⟨o', e1⟩ := I.base.there b o e hx
      exact ⟨o', (hs.2 b (Nat.ne_of_lt (Nat.lt_of_lt_of_le (Heap.lt_size e) I.ok.above))).trans e1⟩
    · by_cases hj : j = i
      · subst hj
        rw [hi] at e1; cases e1
        rw [List.getElem?_set_self hiσ] at e2
        cases e2
        exact ⟨u, r, .inl ⟨hk, by simp⟩⟩
      · rw [List.getElem?_set_ne (Ne.symm hj)] at e2
        obtain ⟨u', r', q⟩ := hl j y v' e1 e2 e3
        refine ⟨u', r', ?_⟩
        rcases q with ⟨k, e⟩ | ⟨k, c, e, z⟩
        · refine .inl ⟨k, ?_⟩
          have : y ≠ x := fun e => hj (nodup_ix hN e1 (e ▸ hi))
          simp [this, e]
        · exact .inr ⟨k, c, e, z.sameBut hs (cne y c e)⟩
    · obtain ⟨w', z⟩ := I.cell y c e
      exact ⟨w', z.sameBut hs (cne y c e)⟩
    · obtain ⟨e, n, ne, nf, d⟩ := I.pin p hp
      exact ⟨(hs.2 p.1 ne).trans e, n, ne, nf, d⟩
  · have hfn : X.fn x = true := by
      rcases hf with z | z
      · exact z
      · rw [z] at hk; cases hk
    obtain ⟨c, hc⟩ := I.ok.has x (.inl hk)
    obtain ⟨w', z⟩ := I.cell x c hc
    refine wpAny_storeName_cell I.ok.kind hk hc z (fun h' hc' hs => ?_)
    obtain ⟨oc, hoc, hocd⟩ := id z
    refine h { s with heap := h' } ⟨I.ok, I.os, I.bare, ⟨fun b o e n hb hx => ?_, fun b o e n hb hx => ?_, I.base.free, fun b o e hx => ?_, I.base.tups, I.base.frzs, I.base.tbls⟩, ⟨m, hn.sameBut hs (Ne.symm (cne x c hc)), fun j y v' e1 e2 e3 => ?_⟩, fun y c' e => ?_, I.free, I.freeC, fun p hp => ?_, tracked ⟨oc, hoc, I.freeC x c hc⟩ hs, by simpa using I.len⟩ ⟨c, hs, .inr hc⟩
    · exact (hs.2 b (Nat.ne_of_lt (Nat.lt_of_lt_of_le (Heap.lt_size e) (I.ok.cab x c hfn hc)))).trans (I.base.keep b o e n hb hx)
    · obtain ⟨sl, e1⟩ := I.base.slot b o e n hb hx
      exact ⟨sl, (hs.2 b (Nat.ne_of_lt (Nat.lt_of_lt_of_le (Heap.lt_size e) (I.ok.cab x c hfn hc)))).trans e1⟩
    · obtain ⟨o', e1⟩ := I.base.there b o e hx
      exact ⟨o', (hs.2 b (Nat.ne_of_lt (Nat.lt_of_lt_of_le (Heap.lt_size e) (I.ok.cab x c hfn hc)))).trans e1⟩
    · by_cases hj : j = i
      · subst hj
        rw [hi] at e1; cases e1
        rw [List.getElem?_set_self hiσ] at e2
        cases e2
        exact ⟨u, r, .inr ⟨.inl hk, c, hc, hc'⟩⟩
      · rw [List.getElem?_set_ne (Ne.symm hj)] at e2
        obtain ⟨u', r', q⟩ := hl j y v' e1 e2 e3
        refine ⟨u', r', ?_⟩
        rcases q with q | ⟨k, c', e, z'⟩
        · exact .inl q
        · refine .inr ⟨k, c', e, z'.sameBut hs ?_⟩
          rintro rfl
          exact hj (nodup_ix hN e1 (I.ok.inj _ _ _ e hc ▸ hi))
    · by_cases hcc : c' = c
      · subst hcc; exact ⟨_, hc'⟩
      · obtain ⟨w2, z2⟩ := I.cell y c' e
        exact ⟨w2, z2.sameBut hs hcc⟩
    · obtain ⟨e, n, ne, nf, d⟩ := I.pin p hp
      refine ⟨(hs.2 p.1 ?_).trans e, n, ne, nf, d⟩
      intro q
      rw [q, hoc] at e
      have q' : oc = p.2 := Option.some.inj e
      exact d w' (by rw [← q']; exact hocd)
theorem store_ok {M : Model} {A : Around} {E : Value → Shared → Prop} {i : Nat} {x : Str} {v : V} {u : Value} {Q : Unit → Shared → Prop} (I : Inv X pins σ H s) (hN : X.N.Nodup) (hi : X.N[i]? = some x) (hx : Loc X.env.scope x) (r : RelV v u)
    (h : ∀ s', Inv X pins (σ.set i (some v)) H s' → Q () s') (hf : X.fn x = true ∨ X.env.scope.names.lookup x = some .local := by first | exact .inl rfl | exact .inr rfl | assumption) : wpAny M A (storeName X.env x u) Q E s :=
  store_ok2 I hN hi hx r (fun s' I' _ => h s' I') hf
theorem Inv.call' {s' : Shared} {ch : List Addr} (I : Inv X pins σ H s) (ho : s'.os = s.os) (u : Un (frs X.stack) ch H H' s.heap s'.heap) (hok : HOk X.prog X.w H' s'.heap) (hg : AllBare s'.gens)
    (hch : ∀ b ∈ ch, (b ∈ X.ex ∨ X.s₀.heap.objs.size ≤ b) ∧ b ≠ X.env.locals ∧ (∀ x c, X.env.cells.lookup x = some c → c ≠ b) ∧ ∀ p ∈ X.pn ++ pins, p.1 ≠ b) : Inv X pins σ H' s' := by
  obtain ⟨h', g', d', t', o'⟩ := s'
  have e : o' = s.os := ho
  subst e
  exact I.call (g' := g') (t' := t') (d' := d') u hok hg hch
end
noncomputable abbrev XK := Value → Option Addr → Hp → Prop
noncomputable abbrev St := List (Option V)
noncomputable abbrev VK := V → Hp → Prop
noncomputable abbrev TE := St → Hp → VK → Prop
noncomputable abbrev TT := St → Hp → (Bool → Hp → Prop) → Prop
noncomputable abbrev TA := St → Hp → (List V → Hp → Prop) → Prop
structure Ends where
  nx : St → Hp → Prop
  rt : VK
  bk : St → Hp → Prop := fun _ _ => False
  ct : St → Hp → Prop := fun _ _ => False
noncomputable abbrev TS := Ends → St → Hp → Prop

noncomputable def EP (X : Cx) (pins : List (Addr × Obj)) (σ : St) (Q : VK) (u : Value) (s' : Shared) : Prop := ∃ v H', Inv X pins σ H' s' ∧ RelV v u ∧ Q v H'
noncomputable def TP (X : Cx) (pins : List (Addr × Obj)) (σ : St) (Q : Bool → Hp → Prop) (b : Bool) (s' : Shared) : Prop := ∃ H', Inv X pins σ H' s' ∧ Q b H'
noncomputable def AP (X : Cx) (pins : List (Addr × Obj)) (σ : St) (Q : List V → Hp → Prop) (us : List Value) (s' : Shared) : Prop := ∃ vs H', Inv X pins σ H' s' ∧ Vals vs us ∧ Q vs H'
noncomputable def SP (X : Cx) (pins : List (Addr × Obj)) (D : Ends) (f : Flow) (s' : Shared) : Prop :=
  match f with
  | .next => ∃ σ' H', Inv X pins σ' H' s' ∧ D.nx σ' H'
  | .brk => ∃ σ' H', Inv X pins σ' H' s' ∧ D.bk σ' H'
  | .cont => ∃ σ' H', Inv X pins σ' H' s' ∧ D.ct σ' H'
  | .ret u => ∃ v σ' H', Inv X pins σ' H' s' ∧ RelV v u ∧ D.rt v H'

noncomputable def PE (X : Cx) (e : Expr) (t : TE) : Prop :=
  ∀ (pins : List (Addr × Obj)) (s : Shared) (σ : St) (H : Hp) (Q : VK), Inv X pins σ H s → t σ H Q → wpAny (model X.prog X.w) X.A (eval e X.env) (EP X pins σ Q) X.xe s
@[irreducible] noncomputable def ZE (X : Cx) (e : Expr) (t : TE) : Prop := PE X e t
noncomputable def PT (X : Cx) (e : Expr) (t : TT) : Prop :=
  ∀ (pins : List (Addr × Obj)) (s : Shared) (σ : St) (H : Hp) (Q : Bool → Hp → Prop), Inv X pins σ H s → t σ H Q → wpAny (model X.prog X.w) X.A (isTrue e X.env (eval e X.env)) (TP X pins σ Q) X.xe s
@[irreducible] noncomputable def ZT (X : Cx) (e : Expr) (t : TT) : Prop := PT X e t
noncomputable def PW (X : Cx) (e : Expr) (t : TT) : Prop :=
  ∀ (whole : Sem Value) (pins : List (Addr × Obj)) (s : Shared) (σ : St) (H : Hp) (Q : Bool → Hp → Prop), Inv X pins σ H s → t σ H Q → wpAny (model X.prog X.w) X.A (isTrue e X.env whole) (TP X pins σ Q) X.xe s
@[irreducible] noncomputable def ZW (X : Cx) (e : Expr) (t : TT) : Prop := PW X e t
theorem PW.pt {X : Cx} {e : Expr} {t : TT} (h : PW X e t) : PT X e t := h _
theorem ZW.zt {X : Cx} {e : Expr} {t : TT} (h : ZW X e t) : ZT X e t := by with_unfolding_all exact PW.pt h
noncomputable def PA (X : Cx) (es : List Expr) (t : TA) : Prop :=
  ∀ (pos : Pos) (pins : List (Addr × Obj)) (s : Shared) (σ : St) (H : Hp) (Q : List V → Hp → Prop), Inv X pins σ H s → t σ H Q → wpAny (model X.prog X.w) X.A (spliced (backTo pos (starEach es X.env))) (AP X pins σ Q) X.xe s
@[irreducible] noncomputable def ZA (X : Cx) (es : List Expr) (t : TA) : Prop := PA X es t
noncomputable def PS (X : Cx) (st : Stmt) (t : TS) : Prop :=
  ∀ (pins : List (Addr × Obj)) (s : Shared) (σ : St) (H : Hp) (D : Ends), Inv X pins σ H s → t D σ H → wpAny (model X.prog X.w) X.A (exec st X.env) (SP X pins D) X.xe s
@[irreducible] noncomputable def ZS (X : Cx) (st : Stmt) (t : TS) : Prop := PS X st t
noncomputable def PSs (X : Cx) (st : List Stmt) (t : TS) : Prop :=
  ∀ (pins : List (Addr × Obj)) (s : Shared) (σ : St) (H : Hp) (D : Ends), Inv X pins σ H s → t D σ H → wpAny (model X.prog X.w) X.A (execs st X.env) (SP X pins D) X.xe s
@[irreducible] noncomputable def ZSs (X : Cx) (st : List Stmt) (t : TS) : Prop := PSs X st t
theorem ZSs.p {X : Cx} {st : List Stmt} {t : TS}  (h : ZSs X st t) : PSs X st t := by unfold ZSs at h; exact h
theorem thn {α : Type} {t : Sem α} {Q Q' : α → Shared → Prop} {M : Model} {A : Around} {E : Value → Shared → Prop} {s : Shared} (h : wpAny M A t Q E s) (hQ : ∀ a s, Q a s → Q' a s) : wpAny M A t Q' E s := wpAny_mono h hQ fun _ _ x => x
end L2
namespace L2
open PySem PySem.Spec PyProof.Rows
section
variable {X : Cx}
noncomputable def tVar (i : Nat) : TE := fun σ H Q => ∃ v, σ[i]? = some (some v) ∧ Q v H
noncomputable def tC (v : V) : TE := fun _ H Q => Q v H
theorem pe_var {i : Nat} {x : Str} {pos : Pos} (hN : X.N[i]? = some x) (hv : Vis X.env.scope x) (hd : (x == ("__debug__" : Str)) = false := by decide) (hcd : (x == ("__classdict__" : Str)) = false := by decide) : PE X (.Name x pos) (tVar i) := by
  intro pins s σ H Q I h
  obtain ⟨v, e, h⟩ := h
  obtain ⟨m, hn, hl⟩ := I.loc
  obtain ⟨u, r, l⟩ := hl i x v hN e hv
  have fin : EP X pins σ Q u s := ⟨v, H, I, r, h⟩
  rcases l with ⟨hk, hm⟩ | ⟨hk, c, hc, hcell⟩
  · exact wpAny_Name (wpAny_loadName_local I.ok.kind hk hn hm fin) hd
  · rcases hk with hk | hk
    · exact wpAny_Name (wpAny_loadName_cell I.ok.kind hk hc hcell fin) hd
    · exact wpAny_Name (wpAny_loadName_free I.ok.kind hk hc hcell fin hcd) hd
theorem pe_int {i j pos} : PE X (.Constant (.int i) j pos) (tC (.int i)) := fun _ _ _ H _ I h => wpAny_Constant_int ⟨.int i, H, I.tok _, ⟨_, rfl⟩, h⟩
theorem ze_int {i j pos} : ZE X (.Constant (.int i) j pos) (tC (.int i)) := by with_unfolding_all exact pe_int 
theorem pe_bl {b j pos} : PE X (.Constant (.bool b) j pos) (tC (.bl b)) := fun _ _ _ H _ I h => Constant_bool ⟨.bl b, H, I, rfl, h⟩
theorem ze_bl {b j pos} : ZE X (.Constant (.bool b) j pos) (tC (.bl b)) := by with_unfolding_all exact pe_bl 
theorem pe_non {j pos} : PE X (.Constant .none j pos) (tC .non) := fun _ _ _ H _ I h => Constant_none ⟨.non, H, I, rfl, h⟩
theorem ze_non {j pos} : ZE X (.Constant .none j pos) (tC .non) := by with_unfolding_all exact pe_non 
theorem pe_str {x j pos} : PE X (.Constant (.str x) j pos) (tC (.str x)) := fun _ _ _ H _ I h => Calls.Constant_str ⟨.str x, H, I.tok _, ⟨_, rfl⟩, h⟩
theorem ze_str {x j pos} : ZE X (.Constant (.str x) j pos) (tC (.str x)) := by with_unfolding_all exact pe_str 

noncomputable def Gl (X : Cx) (x : Str) : Prop := X.env.kindOf x = some .globalImplicit
theorem ld_glob {E : Value → Shared → Prop} {pins : List (Addr × Obj)} {s : Shared} {σ : St} {H : Hp} {x : Str} {u : Value} {pos : Pos} {Q : Value → Shared → Prop} (I : Inv X pins σ H s) (hg : Gl X x) (hm : X.mg x = some u) (h : Q u s)
    (hd : (x == ("__debug__" : Str)) = false := by decide) : wpAny (model X.prog X.w) X.A (eval (.Name x pos) X.env) Q E s :=
  Calls.Name_function_global I.ok.kind hg (Calls.loadGlobal_global (by rw [I.ok.glob]; exact I.mod.glob.keeps I.bk) hm h) hd
theorem ld_blt {E : Value → Shared → Prop} {pins : List (Addr × Obj)} {s : Shared} {σ : St} {H : Hp} {x : Str} {u : Value} {pos : Pos} {Q : Value → Shared → Prop} (I : Inv X pins σ H s) (hg : Gl X x) (hm : X.mg x = none) (hv : bootBuiltins x = some u) (h : Q u s)
    (hn : x ≠ "__name__" := by decide) (hd : (x == ("__debug__" : Str)) = false := by decide) : wpAny (model X.prog X.w) X.A (eval (.Name x pos) X.env) Q E s := by
  obtain ⟨mb, h1, h2⟩ := I.mod.blt
  exact Calls.Name_function_global I.ok.kind hg (Calls.loadGlobal_builtin (by rw [I.ok.glob]; exact I.mod.glob.keeps I.bk) hm (by rw [I.ok.blt]; exact h1.keeps I.bk) ((h2 x hn).trans hv) h) hd
theorem pe_bltn {x : Str} {v : V} {u : Value} {pos : Pos} (hg : Gl X x) (hm : X.mg x = none) (hv : bootBuiltins x = some u) (r : RelV v u) (hn : x ≠ "__name__" := by decide) (hd : (x == ("__debug__" : Str)) = false := by decide) : PE X (.Name x pos) (tC v) :=
  fun _ _ _ H _ I h => ld_blt I hg hm hv ⟨v, H, I, r, h⟩ hn hd

variable {a b : Expr} {ta tb : TE} {pos : Pos}
variable {tA tB' : TT} {rest : List Expr}
noncomputable def tAnd (t u : TT) : TT := fun σ H Q => t σ H fun c H1 => if c = true then u σ H1 Q else Q false H1
noncomputable def tOr (t u : TT) : TT := fun σ H Q => t σ H fun c H1 => if c = true then Q true H1 else u σ H1 Q
noncomputable def tNot (t : TT) : TT := fun σ H Q => t σ H fun c H1 => Q (!c) H1
theorem pw_and1 (ha : PT X a tA) : PW X (.BoolOp .And [a] pos) tA := by
  intro wh pins s σ H Q I h
  refine isTrue_and (thn (ha pins s σ H Q I h) fun c s1 e => ?_)
  cases c with
  | true => exact isTrue_and_nil e
  | false => exact e
theorem zw_and1 (ha : ZT X a tA) : ZW X (.BoolOp .And [a] pos) tA := by with_unfolding_all exact pw_and1 ha
theorem pw_or1 (ha : PT X a tA) : PW X (.BoolOp .Or [a] pos) tA := by
  intro wh pins s σ H Q I h
  refine isTrue_or (thn (ha pins s σ H Q I h) fun c s1 e => ?_)
  cases c with
  | false => exact isTrue_or_nil e
  | true => exact e
theorem zw_or1 (ha : ZT X a tA) : ZW X (.BoolOp .Or [a] pos) tA := by with_unfolding_all exact pw_or1 ha
theorem pw_and (ha : PT X a tA) (hb : PW X (.BoolOp .And (b :: rest) pos) tB') : PW X (.BoolOp .And (a :: b :: rest) pos) (tAnd tA tB') := by
  intro wh pins s σ H Q I h
  refine isTrue_and (thn (ha pins s σ H _ I h) fun c s1 ⟨H1, I1, q1⟩ => ?_)
  cases c with
  | true => exact hb wh pins s1 σ H1 Q I1 q1
  | false => exact ⟨H1, I1, q1⟩
theorem zw_and (ha : ZT X a tA) (hb : ZW X (.BoolOp .And (b :: rest) pos) tB') : ZW X (.BoolOp .And (a :: b :: rest) pos) (tAnd tA tB') := by with_unfolding_all exact pw_and ha hb
theorem pw_or (ha : PT X a tA) (hb : PW X (.BoolOp .Or (b :: rest) pos) tB') : PW X (.BoolOp .Or (a :: b :: rest) pos) (tOr tA tB') := by
  intro wh pins s σ H Q I h
  refine isTrue_or (thn (ha pins s σ H _ I h) fun c s1 ⟨H1, I1, q1⟩ => ?_)
  cases c with
  | true => exact ⟨H1, I1, q1⟩
  | false => exact hb wh pins s1 σ H1 Q I1 q1
theorem zw_or (ha : ZT X a tA) (hb : ZW X (.BoolOp .Or (b :: rest) pos) tB') : ZW X (.BoolOp .Or (a :: b :: rest) pos) (tOr tA tB') := by with_unfolding_all exact pw_or ha hb
theorem pt_not (ha : PT X a tA) : PT X (.UnaryOp .Not a pos) (tNot tA) := by
  intro pins s σ H Q I h
  exact isTrue_not (ha pins s σ H (fun c H1 => Q (!c) H1) I h)
theorem zt_not (ha : ZT X a tA) : ZT X (.UnaryOp .Not a pos) (tNot tA) := by with_unfolding_all exact pt_not ha
theorem pe_one {op} {t : TE} (h : PE X a t) : PE X (.BoolOp op [a] pos) t := fun pins s σ H Q I hw => BoolOp_one (h pins s σ H Q I hw)
theorem ze_one {op} {t : TE} (h : ZE X a t) : ZE X (.BoolOp op [a] pos) t := by with_unfolding_all exact pe_one h
noncomputable def tIf (t : TT) (ta tb : TE) : TE := fun σ H Q => t σ H fun c H1 => if c = true then ta σ H1 Q else tb σ H1 Q
theorem pe_ifExp {c : Expr} (hc : PT X c tA) (ha : PE X a ta) (hb : PE X b tb) : PE X (.IfExp c a b pos) (tIf tA ta tb) := by
  intro pins s σ H Q I h
  refine wpAny_IfExp (thn (hc pins s σ H _ I h) fun d s1 ⟨H1, I1, q1⟩ => ?_)
  cases d with
  | true => exact ha pins s1 σ H1 Q I1 q1
  | false => exact hb pins s1 σ H1 Q I1 q1
theorem ze_ifExp {c : Expr} (hc : ZT X c tA) (ha : ZE X a ta) (hb : ZE X b tb) : ZE X (.IfExp c a b pos) (tIf tA ta tb) := by with_unfolding_all exact pe_ifExp hc ha hb
end
end L2
namespace L2
open PySem PySem.Spec PyProof.Rows
noncomputable def SqL (K : PySem.W.Frag) (H : Hp) (a : Addr) (xs : List V) : Prop :=
  Rd H a (.lst xs) ∨
    ∃ (o : Obj) (its : Array Value) (n : Nat), K.lookup a = some o ∧ o.cls = .type "list" ∧ o.dict = none ∧ o.data = .seq its n ∧ its.size ≤ sizeLine ∧ Vals xs its.toList
noncomputable def SqT (K : PySem.W.Frag) (H : Hp) (a : Addr) (xs : List V) : Prop :=
  Rd H a (.tup xs) ∨
    ∃ (o : Obj) (its : Array Value) (n : Nat), K.lookup a = some o ∧ o.cls = .type "tuple" ∧ o.data = .seq its n ∧ its.size ≤ sizeLine ∧ Vals xs its.toList
noncomputable def absV : Value → Option V
  | .none => some .non
  | .bool b => some (.bl b)
  | .int i _ => some (.int i)
  | .str x _ => some (.str x)
  | .bytes b _ => some (.byt b)
  | .float b _ => some (.flt b)
  | .ref a => some (.ref a)
  | .type n => some (.ty n)
  | _ => none
theorem RelV.abs {x : V} {u : Value} (r : RelV x u) : absV u = some x := by
  cases x with
  | non => cases r; rfl
  | bl _ => cases r; rfl
  | int _ => obtain ⟨t, rfl⟩ := r; rfl
  | str _ => obtain ⟨t, rfl⟩ := r; rfl
  | byt _ => obtain ⟨t, rfl⟩ := r; rfl
  | flt _ => obtain ⟨t, rfl⟩ := r; rfl
  | ref _ => cases r; rfl
  | ty _ => cases r; rfl
theorem RelV.inj {x y : V} {u : Value} (r : RelV x u) (q : RelV y u) : x = y := Option.some.inj (r.abs.symm.trans q.abs)
theorem Vals.inj : ∀ {xs ys : List V} {us : List Value}, Vals xs us → Vals ys us → xs = ys
  | _, _, _, .nil, .nil => rfl
  | _, _, _, .cons r t, .cons r' t' => by rw [r.inj r', Vals.inj t t']
section
variable {X : Cx} {pins : List (Addr × Obj)} {σ : St} {H : Hp} {s : Shared} {a : Addr} {xs ys : List V}
theorem SqL.of {K : PySem.W.Frag} (h : H a = some (.lst xs)) : SqL K H a xs := .inl (.inl h)
theorem SqT.of {K : PySem.W.Frag} (h : H a = some (.tup xs)) : SqT K H a xs := .inl (.inl h)
theorem Inv.list (I : Inv X pins σ H s) (h : SqL X.K H a xs) : ∃ its : List Value, Vals xs its ∧ PlainL s.heap a its.toArray ∧ xs.length ≤ sizeLine := by
  rcases h with h | ⟨o, its, n, hk, hc, hd, hs, hz, r⟩
  · obtain ⟨z, its, n, r, e⟩ := h.ok I.hok
    exact ⟨its, r, ⟨_, n, e, rfl, rfl, rfl⟩, z⟩
  · refine ⟨its.toList, r, ⟨o, n, I.kIn a o hk, hc, hd, by simpa using hs⟩, ?_⟩
    have e := r.length
    simp only [Array.length_toList] at e
    omega
theorem Inv.tuple (I : Inv X pins σ H s) (h : SqT X.K H a xs) : ∃ its : List Value, Vals xs its ∧ IsTup s.heap a its.toArray ∧ xs.length ≤ sizeLine := by
  rcases h with h | ⟨o, its, n, hk, hc, hs, hz, r⟩
  · obtain ⟨z, its, r, p⟩ := h.ok I.hok
    exact ⟨its, r, p.tup, z⟩
  · refine ⟨its.toList, r, ⟨o, I.kIn a o hk, hc, n, by simpa using hs⟩, ?_⟩
    have e := r.length
    simp only [Array.length_toList] at e
    omega
theorem Inv.list_inj (I : Inv X pins σ H s) (h : SqL X.K H a xs) (h' : SqL X.K H a ys) : xs = ys := by
  obtain ⟨its, r, ⟨o, n, e, _, _, d⟩, _⟩ := I.list h
  obtain ⟨its', r', ⟨o', n', e', _, _, d'⟩, _⟩ := I.list h'
  rw [e] at e'; cases e'
  rw [d] at d'
  injection d' with d1 _
  have : its = its' := by simpa using congrArg Array.toList d1
  subst this
  exact r.inj r'
theorem Inv.tuple_inj (I : Inv X pins σ H s) (h : SqT X.K H a xs) (h' : SqT X.K H a ys) : xs = ys := by
  obtain ⟨its, r, ⟨o, e, _, n, d⟩, _⟩ := I.tuple h
  obtain ⟨its', r', ⟨o', e', _, n', d'⟩, _⟩ := I.tuple h'
  rw [e] at e'; cases e'
  rw [d] at d'
  injection d' with d1 _
  have : its = its' := by simpa using congrArg Array.toList d1
  subst this
  exact r.inj r'
end
noncomputable abbrev Cx.wish (X : Cx) (E : Value → Shared → Prop) : Cx := { X with xe := E }
noncomputable abbrev Cx.nox (X : Cx) : Cx := X.wish fun _ _ => False
theorem Cx.Ok.wish {X : Cx} (ok : X.Ok) (E : Value → Shared → Prop) : (X.wish E).Ok :=
  ⟨ok.mod, ok.kind, ok.glob, ok.blt, ok.above, ok.inj, ok.has, ok.cab, ok.hd, ok.frames, ok.stk, ok.exf, ok.bs, ok.bsz, ok.noex, ok.exfs, ok.funs, ok.frf⟩
theorem Cx.Ok.unwish {X : Cx} {E : Value → Shared → Prop} (ok : (X.wish E).Ok) : X.Ok :=
  ⟨ok.mod, ok.kind, ok.glob, ok.blt, ok.above, ok.inj, ok.has, ok.cab, ok.hd, ok.frames, ok.stk, ok.exf, ok.bs, ok.bsz, ok.noex, ok.exfs, ok.funs, ok.frf⟩
section
variable {X : Cx} {pins : List (Addr × Obj)} {σ : St} {H : Hp} {s : Shared} {E : Value → Shared → Prop}
theorem Inv.wish (I : Inv X pins σ H s) (E : Value → Shared → Prop) : Inv (X.wish E) pins σ H s := ⟨I.ok.wish E, I.os, I.bare, I.base, I.loc, I.cell, I.free, I.freeC, I.pin, I.hok, I.len⟩
theorem Inv.unwish (I : Inv (X.wish E) pins σ H s) : Inv X pins σ H s := ⟨I.ok.unwish, I.os, I.bare, I.base, I.loc, I.cell, I.free, I.freeC, I.pin, I.hok, I.len⟩
theorem SP.unwish {D : Ends} {f : Flow} {s' : Shared} (h : SP (X.wish E) pins D f s') : SP X pins D f s' := by
  cases f with
  | next => obtain ⟨σ', H', I, q⟩ := h; exact ⟨σ', H', I.unwish, q⟩
  | brk => obtain ⟨σ', H', I, q⟩ := h; exact ⟨σ', H', I.unwish, q⟩
  | cont => obtain ⟨σ', H', I, q⟩ := h; exact ⟨σ', H', I.unwish, q⟩
  | ret u => obtain ⟨v, σ', H', I, r, q⟩ := h; exact ⟨v, σ', H', I.unwish, r, q⟩
theorem PSs.nox {st : List Stmt} {t : TS} (h : PSs X.nox st t) : PSs X st t := fun pins s σ H D I hw =>
  wpAny_mono (h pins s σ H D (I.wish _) hw) (fun _ _ q => q.unwish) fun _ _ z => False.elim z
end
section
variable {X : Cx} {st : Stmt} {rest : List Stmt} {t u : TS} {e : Expr} {te : TE} {pos : Pos}
noncomputable def tNext : TS := fun D σ H => D.nx σ H
noncomputable def tSeq (t u : TS) : TS := fun D σ H => t { D with nx := u D } σ H
theorem pss_nil : PSs X [] tNext := fun _ _ σ H _ I h => wpAny_execs_nil ⟨σ, H, I, h⟩
theorem zss_nil : ZSs X [] tNext := by with_unfolding_all exact pss_nil 
theorem pss_cons (h1 : PS X st t) (h2 : PSs X rest u) : PSs X (st :: rest) (tSeq t u) := by
  intro pins s σ H D I h
  refine wpAny_execs_cons (thn (h1 pins s σ H { D with nx := u D } I h) fun f s1 q => ?_)
  cases f with
  | next =>
    obtain ⟨σ', H', I', q⟩ := q
    exact h2 pins s1 σ' H' D I' q
  | ret v => exact q
  | brk => exact q
  | cont => exact q
theorem zss_cons (h1 : ZS X st t) (h2 : ZSs X rest u) : ZSs X (st :: rest) (tSeq t u) := by with_unfolding_all exact pss_cons h1 h2
theorem pss_one (h1 : PS X st t) : PSs X [st] t := by
  intro pins s σ H D I h
  refine wpAny_execs_cons (thn (h1 pins s σ H D I h) fun f s1 q => ?_)
  cases f with
  | next => exact wpAny_execs_nil q
  | ret v => exact q
  | brk => exact q
  | cont => exact q
theorem zss_one (h1 : ZS X st t) : ZSs X [st] t := by with_unfolding_all exact pss_one h1
theorem Inv.quiet {pins : List (Addr × Obj)} {σ : St} {H : Hp} {s : Shared} (I : Inv X pins σ H s) : interactive X.env = false := by simp [interactive, I.ok.kind]
noncomputable def tDrop (te : TE) : TS := fun D σ H => te σ H fun _ H1 => D.nx σ H1
theorem ps_expr (he : PE X e te) (hs : swapsWith e none pos.line X.env = pure false := by rfl) : PS X (.Expr e pos) (tDrop te) := by
  intro pins s σ H D I h
  exact wpAny_Expr_any (thn (he pins s σ H _ I h) fun v s1 ⟨x, H1, I1, r1, q1⟩ => ⟨σ, H1, I1, q1⟩) I.quiet hs
theorem zs_expr (he : ZE X e te) (hs : swapsWith e none pos.line X.env = pure false := by rfl) : ZS X (.Expr e pos) (tDrop te) := by with_unfolding_all exact ps_expr he hs
noncomputable def tRet (te : TE) : TS := fun D σ H => te σ H D.rt
theorem ps_ret (he : PE X e te) : PS X (.Return (some e) pos) (tRet te) := by
  intro pins s σ H D I h
  exact wpAny_Return_some (thn (he pins s σ H _ I h) fun v s1 ⟨x, H1, I1, r1, q1⟩ => ⟨x, σ, H1, I1, r1, q1⟩)
theorem zs_ret (he : ZE X e te) : ZS X (.Return (some e) pos) (tRet te) := by with_unfolding_all exact ps_ret he
noncomputable def tIfS (c : TT) (t u : TS) : TS := fun D σ H => c σ H fun b H1 => if b = true then t D σ H1 else u D σ H1
theorem ps_if {c : Expr} {a b : List Stmt} {tc : TT} (hc : PT X c tc) (ha : PSs X a t) (hb : PSs X b u) : PS X (.If c a b pos) (tIfS tc t u) := by
  intro pins s σ H D I h
  refine wpAny_If (thn (hc pins s σ H _ I h) fun d s1 ⟨H1, I1, q1⟩ => ?_)
  cases d with
  | true => exact ha pins s1 σ H1 D I1 q1
  | false => exact hb pins s1 σ H1 D I1 q1
theorem zs_if {c : Expr} {a b : List Stmt} {tc : TT} (hc : ZT X c tc) (ha : ZSs X a t) (hb : ZSs X b u) : ZS X (.If c a b pos) (tIfS tc t u) := by with_unfolding_all exact ps_if hc ha hb
noncomputable def tNever : TS := fun _ _ _ => False
theorem pss_never {sts : List Stmt} : PSs X sts tNever := fun _ _ _ _ _ _ h => h.elim
end
noncomputable abbrev TG := V → St → Hp → (St → Hp → Prop) → Prop
noncomputable abbrev TGs := List V → St → Hp → (St → Hp → Prop) → Prop
noncomputable def PG (X : Cx) (target : Expr) (t : TG) : Prop :=
  ∀ (pins : List (Addr × Obj)) (s : Shared) (σ : St) (H : Hp) (v : V) (u : Value) (Q : St → Hp → Prop), Inv X pins σ H s → RelV v u → t v σ H Q →
    wpAny (model X.prog X.w) X.A (assign target X.env u) (fun _ s' => ∃ σ' H', Inv X pins σ' H' s' ∧ Q σ' H') X.xe s
@[irreducible] noncomputable def ZG (X : Cx) (target : Expr) (t : TG) : Prop := PG X target t
noncomputable def PGs (X : Cx) (ts : List Expr) (t : TGs) : Prop :=
  ∀ (pins : List (Addr × Obj)) (s : Shared) (σ : St) (H : Hp) (vs : List V) (us : List Value) (Q : St → Hp → Prop), Inv X pins σ H s → Vals vs us → t vs σ H Q →
    wpAny (model X.prog X.w) X.A (assignInOrder ((assignEach ts X.env).map (·.2)) us) (fun _ s' => ∃ σ' H', Inv X pins σ' H' s' ∧ Q σ' H') X.xe s
@[irreducible] noncomputable def ZGs (X : Cx) (ts : List Expr) (t : TGs) : Prop := PGs X ts t
noncomputable abbrev TSet := V → V → V → Hp → (Hp → Prop) → Prop
noncomputable def PSet (X : Cx) (t : TSet) : Prop :=
  ∀ (pins : List (Addr × Obj)) (s : Shared) (σ : St) (H : Hp) (o i v : V) (ov iv u : Value) (Q : Hp → Prop), Inv X pins σ H s → RelV o ov → RelV i iv → RelV v u → t o i v H Q →
    wpAny (model X.prog X.w) X.A (setItem ov iv u) (fun _ s' => ∃ H', Inv X pins σ H' s' ∧ Q H') X.xe s
noncomputable abbrev TIp := V → V → Hp → VK → Prop
noncomputable def PIp (X : Cx) (op : Operator) (t : TIp) : Prop :=
  ∀ (pins : List (Addr × Obj)) (s : Shared) (σ : St) (H : Hp) (x y : V) (v u : Value) (Q : VK), Inv X pins σ H s → RelV x v → RelV y u → t x y H Q →
    wpAny (model X.prog X.w) X.A (inplaceOp op v u) (EP X pins σ Q) X.xe s
section
variable {X : Cx} {pos : Pos}
noncomputable def gName (i : Nat) : TG := fun v σ H Q => Q (σ.set i (some v)) H
theorem pg_name {i : Nat} {x : Str} (hN : X.N.Nodup) (hi : X.N[i]? = some x) (hx : Loc X.env.scope x) (hf : X.fn x = true ∨ X.env.scope.names.lookup x = some .local := by first | exact .inl rfl | exact .inr rfl | assumption) : PG X (.Name x pos) (gName i) := by
  intro pins s σ H v u Q I r h
  exact wpAny_assign_Name (store_ok I hN hi hx r (fun s' I' => ⟨_, H, I', h⟩) hf)
theorem zg_name {i : Nat} {x : Str} (hN : X.N.Nodup) (hi : X.N[i]? = some x) (hx : Loc X.env.scope x) (hf : X.fn x = true ∨ X.env.scope.names.lookup x = some .local := by first | exact .inl rfl | exact .inr rfl | assumption) : ZG X (.Name x pos) (gName i) := by with_unfolding_all exact pg_name hN hi hx hf
noncomputable def gNil : TGs := fun vs σ H Q => vs = [] ∧ Q σ H
noncomputable def gCons (t : TG) (u : TGs) : TGs := fun vs σ H Q => ∃ v r, vs = v :: r ∧ t v σ H fun σ' H' => u r σ' H' Q
theorem pgs_nil : PGs X [] gNil := by
  intro pins s σ H vs us Q I r h
  obtain ⟨e, h⟩ := h
  subst e
  cases r
  exact assignInOrder_nil ⟨σ, H, I, h⟩
theorem zgs_nil : ZGs X [] gNil := by with_unfolding_all exact pgs_nil 
theorem pgs_cons {e : Expr} {es : List Expr} {t : TG} {u : TGs} (h1 : PG X e t) (h2 : PGs X es u)
    (hs : (assignEach (e :: es) X.env).map (·.2) = assign e X.env :: (assignEach es X.env).map (·.2) := by rfl) : PGs X (e :: es) (gCons t u) := by
  intro pins s σ H vs us Q I r h
  obtain ⟨v, vr, e1, h⟩ := h
  subst e1
  cases r with
  | cons r rr =>
    rw [hs]
    refine assignInOrder_cons (thn (h1 pins s σ H _ _ _ I r h) fun _ s1 ⟨σ1, H1, I1, q1⟩ => ?_)
    exact h2 pins s1 σ1 H1 _ _ Q I1 rr q1
theorem zgs_cons {e : Expr} {es : List Expr} {t : TG} {u : TGs} (h1 : ZG X e t) (h2 : ZGs X es u)
    (hs : (assignEach (e :: es) X.env).map (·.2) = assign e X.env :: (assignEach es X.env).map (·.2) := by rfl) : ZGs X (e :: es) (gCons t u) := by with_unfolding_all exact pgs_cons h1 h2 hs
noncomputable def gTup (K : PySem.W.Frag) (n : Nat) (t : TGs) : TG := fun v σ H Q => ∃ a xs, v = .ref a ∧ SqT K H a xs ∧ xs.length = n ∧ t xs σ H Q
theorem pg_tup {es : List Expr} {k : Nat} {t : TGs} {n : Nat} (hc : X.calm = true) (h : PGs X es t)
    (hn : (assignEach es X.env).length = n := by rfl) (hst : (assignEach es X.env).findIdx? (·.1) = none := by rfl) : PG X (.Tuple es k pos) (gTup X.K n t) := by
  intro pins s σ H v u Q I r hw
  obtain ⟨a, xs, e1, hq, hl, hw⟩ := hw
  subst e1
  cases r
  obtain ⟨its, rv, ht, hz⟩ := I.tuple hq
  refine assign_Tuple_tuple (I.ok.hd hc) ht (by simp [hn, ← hl, rv.length]) hst fun h' hx => ?_
  have I1 : Inv X pins σ H { s with heap := h' } := I.kept (t' := s.toks) fun b o e => hx b o (Nat.ne_of_lt (Heap.lt_size e)) e
  exact h pins _ σ H xs _ Q I1 (by simpa using rv) hw
theorem zg_tup {es : List Expr} {k : Nat} {t : TGs} {n : Nat} (hc : X.calm = true) (h : ZGs X es t)
    (hn : (assignEach es X.env).length = n := by rfl) (hst : (assignEach es X.env).findIdx? (·.1) = none := by rfl) : ZG X (.Tuple es k pos) (gTup X.K n t) := by with_unfolding_all exact pg_tup hc h hn hst
noncomputable def gSub (to ti : TE) (t : TSet) : TG := fun v σ H Q => to σ H fun o H1 => ti σ H1 fun i H2 => t o i v H2 fun H3 => Q σ H3
theorem pg_sub {o i : Expr} {to ti : TE} {t : TSet} (ho : PE X o to) (hi : PE X i ti) (hs : PSet X t)
    (ha : ∀ v, assign (.Subscript o i pos) X.env v = (do
      let ov ← holding [v] (eval o X.env)
      let iv ← holding [v, ov] (eval i X.env)
      standAt pos
      holding [v, ov, iv] (setItem ov iv v)
      release [v, ov, iv] []) := by intro _; rfl) : PG X (.Subscript o i pos) (gSub to ti t) := by
  intro pins s σ H v u Q I r h
  rw [ha]
  refine wpAny_bind (wpAny_holding (thn (ho pins s σ H _ I h) fun ov s1 ⟨x, H1, I1, r1, q1⟩ => ?_))
  refine wpAny_bind (wpAny_holding (thn (hi pins s1 σ H1 _ I1 q1) fun iv s2 ⟨y, H2, I2, r2, q2⟩ => ?_))
  refine wpAny_bind (wpAny_standAt (wpAny_bind (wpAny_holding (thn (hs pins s2 σ H2 x y v ov iv u _ I2 r1 r2 r q2) fun _ s3 ⟨H3, I3, q3⟩ => ?_))))
  exact wpAny_release ⟨σ, H3, I3, q3⟩
theorem zg_sub {o i : Expr} {to ti : TE} {t : TSet} (ho : ZE X o to) (hi : ZE X i ti) (hs : PSet X t)
    (ha : ∀ v, assign (.Subscript o i pos) X.env v = (do
      let ov ← holding [v] (eval o X.env)
      let iv ← holding [v, ov] (eval i X.env)
      standAt pos
      holding [v, ov, iv] (setItem ov iv v)
      release [v, ov, iv] []) := by intro _; rfl) : ZG X (.Subscript o i pos) (gSub to ti t) := by with_unfolding_all exact pg_sub ho hi hs ha
noncomputable def tAsg (te : TE) (g : TG) : TS := fun D σ H => te σ H fun x H1 => g x σ H1 D.nx
theorem ps_asg {tg e : Expr} {te : TE} {g : TG} (he : PE X e te) (hg : PG X tg g) (hs : swapsWithSole [tg] e pos.line X.env = pure false := by rfl) (hw : swappedStores [tg] e X.env = pure none := by rfl)
    (h1 : (assignEach [tg] X.env).map (·.2) = [assign tg X.env] := by rfl) : PS X (.Assign [tg] e pos) (tAsg te g) := by
  intro pins s σ H D I h
  refine wpAny_Assign_stores (thn (he pins s σ H _ I h) fun v s1 ⟨x, H1, I1, r1, q1⟩ => ?_) hs hw
  rw [h1]
  exact thn (hg pins s1 σ H1 x v _ I1 r1 q1) fun _ s2 q => q
theorem zs_asg {tg e : Expr} {te : TE} {g : TG} (he : ZE X e te) (hg : ZG X tg g) (hs : swapsWithSole [tg] e pos.line X.env = pure false := by rfl) (hw : swappedStores [tg] e X.env = pure none := by rfl)
    (h1 : (assignEach [tg] X.env).map (·.2) = [assign tg X.env] := by rfl) : ZS X (.Assign [tg] e pos) (tAsg te g) := by with_unfolding_all exact ps_asg he hg hs hw h1
theorem ps_set {i : Nat} {x : Str} {e : Expr} {te : TE} {pos' : Pos} (hN : X.N.Nodup) (hi : X.N[i]? = some x) (hx : Loc X.env.scope x) (he : PE X e te) (hs : swapsWith e (some (.Name x pos')) pos.line X.env = pure false := by rfl) (hf : X.fn x = true ∨ X.env.scope.names.lookup x = some .local := by first | exact .inl rfl | exact .inr rfl | assumption) :
    PS X (.Assign [.Name x pos'] e pos) (tAsg te (gName i)) := by
  intro pins s σ H D I h
  refine wpAny_Assign_Name (thn (he pins s σ H _ I h) fun v s1 ⟨y, H1, I1, r1, q1⟩ => ?_) hs
  exact store_ok I1 hN hi hx r1 (fun s2 I2 => ⟨_, H1, I2, q1⟩) hf
theorem zs_set {i : Nat} {x : Str} {e : Expr} {te : TE} {pos' : Pos} (hN : X.N.Nodup) (hi : X.N[i]? = some x) (hx : Loc X.env.scope x) (he : ZE X e te) (hs : swapsWith e (some (.Name x pos')) pos.line X.env = pure false := by rfl) (hf : X.fn x = true ∨ X.env.scope.names.lookup x = some .local := by first | exact .inl rfl | exact .inr rfl | assumption) :
    ZS X (.Assign [.Name x pos'] e pos) (tAsg te (gName i)) := by with_unfolding_all exact ps_set hN hi hx he hs hf
noncomputable def tPar (i j : Nat) (ta : TA) : TS := fun D σ H => ta σ H fun vs H1 => ∃ v w, vs = [v, w] ∧ D.nx ((σ.set i (some v)).set j (some w)) H1
theorem ps_par {i j : Nat} {x y : Str} {a b : Expr} {ta : TA} {px py pt : Pos} {kt k2 pt2} (hc : X.calm = true) (hN : X.N.Nodup) (hi : X.N[i]? = some x) (hj : X.N[j]? = some y) (hij : i ≠ j)
    (hx : X.env.scope.names.lookup x = some .local) (hy : X.env.scope.names.lookup y = some .local) (ha : PA X [a, b] ta)
    (hw : swappedStores [.Tuple [.Name x px, .Name y py] kt pt] (.Tuple [a, b] k2 pt2) X.env = pure (some [x, y]))
    (hs : swapsWithSole [.Tuple [.Name x px, .Name y py] kt pt] (.Tuple [a, b] k2 pt2) pos.line X.env = pure false := by rfl) :
    PS X (.Assign [.Tuple [.Name x px, .Name y py] kt pt] (.Tuple [a, b] k2 pt2) pos) (tPar i j ta) := by
  intro pins s σ H D I h
  rw [exec_Assign_arm]
  refine wpAny_bind (wpAny_standAt ?_)
  rw [hs]
  refine wpAny_bind (wpAny_pure ?_)
  rw [if_neg (by decide)]
  refine wpAny_bind (Tuple_ (thn (ha _ pins s σ H _ I h) fun us s1 ⟨vs, H1, I1, r1, q1⟩ => ?_))
  obtain ⟨v, w, e1, q1⟩ := q1
  subst e1
  obtain ⟨u1, u2, rfl, rv, rw'⟩ : ∃ u1 u2, us = [u1, u2] ∧ RelV v u1 ∧ RelV w u2 := by
    cases r1 with
    | cons p q =>
      cases q with
      | cons p' q' =>
        cases q'
        exact ⟨_, _, rfl, p, p'⟩
  refine wpAny_newObj_type ?_ (by show 2 ≤ sizeLine; decide)
  have I2 : Inv X pins σ H1 { s1 with heap := s1.heap.push { cls := .type "tuple", data := .seq [u1, u2].toArray } } := I1.kept (t' := s1.toks) fun b o e => Heap.get?_push_of_some _ e
  rw [hw]
  refine wpAny_bind (wpAny_pure ?_)
  show wpAny (model X.prog X.w) X.A (do rule "assign.swapped-stores"; let items ← unpackItems (.ref s1.heap.objs.size) 2 none; assignInOrder [fun v => bindName X.env y v, fun v => bindName X.env x v] items.reverse; pure Flow.next) _ _ _
  refine wpAny_bind (wpAny_rule (wpAny_bind (unpackItems_tuple (items := #[u1, u2]) (I.ok.hd hc) (IsTup.new s1.heap _) fun h' hx' => ?_)))
  have I3 := I2.kept (h' := h') (t' := s1.toks) fun b o e => hx' b o (Nat.ne_of_lt (Heap.lt_size e)) e
  show wpAny _ _ (assignInOrder [fun v => bindName X.env y v, fun v => bindName X.env x v] [u2, u1] >>= fun _ => pure Flow.next) _ _ _
  refine wpAny_bind (assignInOrder_cons (wpAny_bindName (store_ok I3 hN hj (.inl hy) rw' (fun s2 I4 => ?_) (.inr hy))))
  refine assignInOrder_cons (wpAny_bindName (store_ok I4 hN hi (.inl hx) rv (fun s3 I5 => assignInOrder_nil (wpAny_pure ?_)) (.inr hx)))
  rw [List.set_comm _ _ (Ne.symm hij)] at I5
  exact ⟨_, H1, I5, q1⟩
theorem zs_par {i j : Nat} {x y : Str} {a b : Expr} {ta : TA} {px py pt : Pos} {kt k2 pt2} (hc : X.calm = true) (hN : X.N.Nodup) (hi : X.N[i]? = some x) (hj : X.N[j]? = some y) (hij : i ≠ j)
    (hx : X.env.scope.names.lookup x = some .local) (hy : X.env.scope.names.lookup y = some .local) (ha : ZA X [a, b] ta)
    (hw : swappedStores [.Tuple [.Name x px, .Name y py] kt pt] (.Tuple [a, b] k2 pt2) X.env = pure (some [x, y]))
    (hs : swapsWithSole [.Tuple [.Name x px, .Name y py] kt pt] (.Tuple [a, b] k2 pt2) pos.line X.env = pure false := by rfl) :
    ZS X (.Assign [.Tuple [.Name x px, .Name y py] kt pt] (.Tuple [a, b] k2 pt2) pos) (tPar i j ta) := by with_unfolding_all exact ps_par hc hN hi hj hij hx hy ha hw hs
noncomputable def tAugS (to ti te : TE) (tget : V → V → Hp → VK → Prop) (tip : TIp) (tset : TSet) : TS := fun D σ H => to σ H fun o H1 => ti σ H1 fun i H2 => tget o i H2 fun x H3 => te σ H3 fun y H4 => tip x y H4 fun z H5 => tset o i z H5 fun H6 => D.nx σ H6
noncomputable def PGet (X : Cx) (t : V → V → Hp → VK → Prop) : Prop :=
  ∀ (pins : List (Addr × Obj)) (s : Shared) (σ : St) (H : Hp) (o i : V) (ov iv : Value) (Q : VK), Inv X pins σ H s → RelV o ov → RelV i iv → t o i H Q →
    wpAny (model X.prog X.w) X.A (getItem ov iv) (EP X pins σ Q) X.xe s
theorem ps_augS {o i e : Expr} {to ti te : TE} {tget : V → V → Hp → VK → Prop} {tip : TIp} {tset : TSet} {op : Operator} {tpos : Pos} (ho : PE X o to) (hi : PE X i ti) (hg : PGet X tget) (he : PE X e te) (hp : PIp X op tip) (hs : PSet X tset)
    (ha : ∀ ov iv new, augStore i ov iv new = (do holding [new, ov, iv] (setItem ov iv new); release [new, ov, iv] []; pure .next) := by intros; rfl) : PS X (.AugAssign (.Subscript o i tpos) op e pos) (tAugS to ti te tget tip tset) := by
  intro pins s σ H D I h
  refine wpAny_AugAssign_SubscriptAny (thn (ho pins s σ H _ I h) fun ov s1 ⟨x1, H1, I1, r1, q1⟩ => ?_) ha
  refine thn (hi pins s1 σ H1 _ I1 q1) fun iv s2 ⟨x2, H2, I2, r2, q2⟩ => ?_
  refine thn (hg pins s2 σ H2 x1 x2 ov iv _ I2 r1 r2 q2) fun old s3 ⟨x3, H3, I3, r3, q3⟩ => ?_
  refine thn (he pins s3 σ H3 _ I3 q3) fun v s4 ⟨x4, H4, I4, r4, q4⟩ => ?_
  refine thn (hp pins s4 σ H4 x3 x4 old v _ I4 r3 r4 q4) fun new s5 ⟨x5, H5, I5, r5, q5⟩ => ?_
  exact thn (hs pins s5 σ H5 x1 x2 x5 ov iv new _ I5 r1 r2 r5 q5) fun _ s6 ⟨H6, I6, q6⟩ => ⟨σ, H6, I6, q6⟩
noncomputable def ipI (f : Int → Int → Int) : TIp := fun x y H Q => ∃ i j, x = .int i ∧ y = .int j ∧ Q (.int (f i j)) H
theorem ip_add : PIp X .Add (ipI fun i j => i + j) := by
  intro pins s σ H x y v u Q I r1 r2 h
  obtain ⟨i, j, e1, e2, q⟩ := h
  subst e1; subst e2
  obtain ⟨t, rfl⟩ := r1
  obtain ⟨t', rfl⟩ := r2
  exact iadd_int ⟨.int _, H, I.tok _, ⟨_, rfl⟩, q⟩
end
section
variable {X : Cx} {pos : Pos}
end
structure It where
  go : Nat → Hp → Prop
  yld : Nat → Hp → V → Hp → Prop
  stop : Nat → Hp → Prop
noncomputable def FpOk (X : Cx) (pins : List (Addr × Obj)) (H : Hp) (b : Addr) : Prop :=
  H b = none ∧ b ≠ X.env.locals ∧ b ∉ X.fs ∧ (b ∈ X.ex ∨ X.s₀.heap.objs.size ≤ b) ∧ (∀ x c, X.env.cells.lookup x = some c → c ≠ b) ∧ ∀ p ∈ X.pn ++ pins, p.1 ≠ b
theorem Inv.fpOk {X : Cx} {pins : List (Addr × Obj)} {σ : St} {H H' : Hp} {s : Shared} {b : Addr} (I : Inv X pins σ H s) (hb : s.heap.objs.size ≤ b) (hn : H' b = none) : FpOk X pins H' b := by
  refine ⟨hn, Nat.ne_of_gt (Nat.lt_of_lt_of_le I.lt hb), I.nofs hb, .inr (Nat.le_trans I.sz hb), fun x c e z => ?_, fun p hp z => ?_⟩
  · obtain ⟨v, q⟩ := I.cell x c e
    exact absurd (Nat.lt_of_lt_of_le q.lt (by rw [z]; exact hb)) (Nat.lt_irrefl _)
  · exact absurd (Nat.lt_of_lt_of_le (Heap.lt_size (I.pin p hp).1) (by rw [z]; exact hb)) (Nat.lt_irrefl _)
structure Turn (P : Program) (w : World) (K : PySem.W.Frag) (tg : Expr) (J : It) (fp : List Addr) (it : Addr) (tn : Nat → Heap → Prop) : Prop where
  mem : it ∈ fp
  obj : ∀ i h, tn i h → ∀ b ∈ fp, ∃ o, h.get? b = some o ∧ ∀ v, o.data ≠ .cell v
  keep : ∀ i h h', tn i h → (∀ b ∈ fp, ∀ o, h.get? b = some o → h'.get? b = some o) → tn i h'
  item : ∀ (X : Cx), X.prog = P → X.w = w → X.K = K → X.calm = true → ∀ (i : Nat) (pins : List (Addr × Obj)) (s : Shared) (σ : St) (H : Hp) (E : Value → Shared → Prop), Inv X pins σ H s → (∀ b ∈ fp, FpOk X pins H b) → tn i s.heap → J.go i H →
    wpAny (model P w) X.A (pyNext (.ref it)) (fun r s1 => ∃ u, r = some u ∧
      wpAny (model P w) X.A (letOwnedTupleGo tg (.ref it) u) (fun _ s2 => ∃ x H', Inv X pins σ H' s2 ∧ RelV x u ∧ J.yld i H x H' ∧ tn (i + 1) s2.heap ∧ ∀ b ∈ fp, H' b = none) E s1) E s
  done : ∀ (X : Cx), X.prog = P → X.w = w → X.K = K → X.calm = true → ∀ (i : Nat) (pins : List (Addr × Obj)) (s : Shared) (σ : St) (H : Hp) (E : Value → Shared → Prop), Inv X pins σ H s → (∀ b ∈ fp, FpOk X pins H b) → tn i s.heap → J.stop i H →
    wpAny (model P w) X.A (pyNext (.ref it)) (fun r s1 => r = none ∧ Inv X pins σ H s1) E s
  self : ∀ (A : Around) (i : Nat) (s : Shared) (Q : Value → Shared → Prop) (E : Value → Shared → Prop), tn i s.heap → Q (.ref it) s → wpAny (model P w) A (pyIter (.ref it)) Q E s
noncomputable abbrev TI := St → Hp → (It → Hp → Prop) → Prop
noncomputable def PIE (X : Cx) (pins : List (Addr × Obj)) (σ : St) (tg : Expr) (R : It → Hp → Prop) (itv : Value) (s2 : Shared) : Prop :=
  ∃ (it : Addr) (fp : List Addr) (tn : Nat → Heap → Prop) (J : It) (H' : Hp), itv = .ref it ∧ Inv X pins σ H' s2 ∧ Turn X.prog X.w X.K tg J fp it tn ∧ tn 0 s2.heap ∧ (∀ b ∈ fp, FpOk X pins H' b) ∧ R J H'
noncomputable def PI (X : Cx) (tg iter : Expr) (wi : TI) : Prop :=
  ∀ (pins : List (Addr × Obj)) (s : Shared) (σ : St) (H : Hp) (R : It → Hp → Prop), Inv X pins σ H s → wi σ H R →
    wpAny (model X.prog X.w) X.A (eval iter X.env) (fun v s1 => wpAny (model X.prog X.w) X.A (pyIter v) (PIE X pins σ tg R) X.xe s1) X.xe s
@[irreducible] noncomputable def ZI (X : Cx) (tg iter : Expr) (wi : TI) : Prop := PI X tg iter wi
theorem go_of {M : Model} {A : Around} {E : Value → Shared → Prop} {s : Shared} {tg : Expr} {it : Addr} {u : Value} {o : Obj} {n : String} {vs : Array Value} {Q : Unit → Shared → Prop} (ho : s.heap.get? it = some o) (hc : o.cls = .type n) (hd : o.data = .fields vs)
    (hn : ["enumerate", "zip", "dict_itemiterator", "dict_reverseitemiterator", "odict_iterator", "itertools.zip_longest", "itertools.pairwise"].contains n = false) (hQ : Q () s) : wpAny M A (letOwnedTupleGo tg (.ref it) u) Q E s := by
  unfold letOwnedTupleGo
  cases tg <;> first
    | exact wpAny_pure hQ
    | (cases u <;> first
        | exact wpAny_pure hQ
        | (refine wpAny_bind (wpAny_load ho ?_)
           rw [hc, hd]
           show wpAny M A (if (["enumerate", "zip", "dict_itemiterator", "dict_reverseitemiterator", "odict_iterator", "itertools.zip_longest", "itertools.pairwise"].contains n && vs[0]? == some (rawInt _)) = true then _ else _) Q E s
           rw [if_neg (by intro h; rw [hn, Bool.false_and] at h; cases h)]
           exact wpAny_pure hQ))

noncomputable def Itl (K : PySem.W.Frag) (a : Addr) : It :=
  ⟨fun i H => ∃ xs x, SqL K H a xs ∧ xs[i]? = some x, fun i H x H' => H' = H ∧ ∀ xs, SqL K H a xs → xs[i]? = some x, fun i H => ∃ xs, SqL K H a xs ∧ xs.length ≤ i⟩
noncomputable def Itt (K : PySem.W.Frag) (a : Addr) : It :=
  ⟨fun i H => ∃ xs x, SqT K H a xs ∧ xs[i]? = some x, fun i H x H' => H' = H ∧ ∀ xs, SqT K H a xs → xs[i]? = some x, fun i H => ∃ xs, SqT K H a xs ∧ xs.length ≤ i⟩
noncomputable def Itr (lo : Int) (n : Nat) : It := ⟨fun i _ => i < n, fun i H x H' => H' = H ∧ x = .int (lo + i), fun i _ => n ≤ i⟩
theorem turn_list {P : Program} {w : World} {K : PySem.W.Frag} {tg : Expr} (a it : Addr) : Turn P w K tg (Itl K a) [it] it (fun i h => h.IsListIter it a i) where
  mem := by simp
  obj := fun i h st b hb => by
    have e : b = it := by simpa using hb
    subst e
    obtain ⟨o, e, c, d⟩ := st
    exact ⟨o, e, fun v z => by rw [d] at z; cases z⟩
  keep := fun i h h' st k => st.at fun o e => k it (by simp) o e
  item := by
    intro X hP hw hK hc i pins s σ H E I hf st hg
    subst hP hw hK
    obtain ⟨xs, x, hq, hx⟩ := hg
    obtain ⟨its, rv, p, hz⟩ := I.list hq
    obtain ⟨u, hu, ru⟩ := rv.get hx
    obtain ⟨f0, f1, f2, f3, f4, f5⟩ := hf it (by simp)
    refine wpAny_pyNext_list_item st p.isList (x := u) (by simpa using hu) fun h' st' sb => ?_
    have I1 : Inv X pins σ H { s with heap := h' } := I.turned (t' := s.toks) (fun b o hb e => (sb.2 b hb).trans e) f0 f1 f3 f4 f5
    obtain ⟨o, e, c, d⟩ := id st'
    exact ⟨u, rfl, go_of (s := { s with heap := h' }) e c d (by decide) ⟨x, H, I1, ru, ⟨rfl, fun ys hy => by rw [I.list_inj hy hq]; exact hx⟩, st', fun b hb => (hf b hb).1⟩⟩
  done := by
    intro X hP hw hK hc i pins s σ H E I hf st hg
    subst hP hw hK
    obtain ⟨xs, hq, hx⟩ := hg
    obtain ⟨its, rv, p, hz⟩ := I.list hq
    obtain ⟨f0, f1, f2, f3, f4, f5⟩ := hf it (by simp)
    have hl := rv.length
    exact wpAny_pyNext_list_end (I.ok.hd hc) st p.isList (by simp; omega) fun h' eb => ⟨rfl, I.turned (t' := s.toks) (fun b o hb e => eb b o hb e) f0 f1 f3 f4 f5⟩
  self := fun _ _ _ _ _ st h => wpAny_pyIter_listiter st h
theorem turn_tuple {P : Program} {w : World} {K : PySem.W.Frag} {tg : Expr} (a it : Addr) : Turn P w K tg (Itt K a) [it] it (fun i h => h.IsTupleIter it a i) where
  mem := by simp
  obj := fun i h st b hb => by
    have e : b = it := by simpa using hb
    subst e
    obtain ⟨o, e, c, d⟩ := st
    exact ⟨o, e, fun v z => by rw [d] at z; cases z⟩
  keep := fun i h h' st k => st.at fun o e => k it (by simp) o e
  item := by
    intro X hP hw hK hc i pins s σ H E I hf st hg
    subst hP hw hK
    obtain ⟨xs, x, hq, hx⟩ := hg
    obtain ⟨its, rv, p, hz⟩ := I.tuple hq
    obtain ⟨u, hu, ru⟩ := rv.get hx
    obtain ⟨f0, f1, f2, f3, f4, f5⟩ := hf it (by simp)
    refine wpAny_pyNext_tuple_item st (show s.heap.IsTuple a its.toArray from p) (x := u) (by simpa using hu) fun h' st' sb => ?_
    have I1 : Inv X pins σ H { s with heap := h' } := I.turned (t' := s.toks) (fun b o hb e => (sb.2 b hb).trans e) f0 f1 f3 f4 f5
    obtain ⟨o, e, c, d⟩ := id st'
    exact ⟨u, rfl, go_of (s := { s with heap := h' }) e c d (by decide) ⟨x, H, I1, ru, ⟨rfl, fun ys hy => by rw [I.tuple_inj hy hq]; exact hx⟩, st', fun b hb => (hf b hb).1⟩⟩
  done := by
    intro X hP hw hK hc i pins s σ H E I hf st hg
    subst hP hw hK
    obtain ⟨xs, hq, hx⟩ := hg
    obtain ⟨its, rv, p, hz⟩ := I.tuple hq
    obtain ⟨f0, f1, f2, f3, f4, f5⟩ := hf it (by simp)
    have hl := rv.length
    exact wpAny_pyNext_tuple_end (I.ok.hd hc) st (show s.heap.IsTuple a its.toArray from p) (by simp; omega) fun h' eb => ⟨rfl, I.turned (t' := s.toks) (fun b o hb e => eb b o hb e) f0 f1 f3 f4 f5⟩
  self := fun _ _ _ _ _ st h => wpAny_pyIter_tupleiter st h
theorem turn_range {P : Program} {w : World} {K : PySem.W.Frag} {tg : Expr} (it : Addr) (lo : Int) (n : Nat) : Turn P w K tg (Itr lo n) [it] it (fun i h => IsRangeIter h it (lo + (i : Nat) * 1) ((n : Int) - (i : Nat)) 1) where
  mem := by simp
  obj := fun i h st b hb => by
    have e : b = it := by simpa using hb
    subst e
    exact ⟨_, st, fun v z => by
      have z' : Data.fields _ = Data.cell v := z
      cases z'⟩
  keep := fun i h h' st k => k it (by simp) _ st
  item := by
    intro X hP hw hK hc i pins s σ H E I hf st hg
    subst hP hw hK
    obtain ⟨f0, f1, f2, f3, f4, f5⟩ := hf it (by simp)
    have W := Walks.range (prog := X.prog) (w := X.w) (I.ok.hd hc) it lo 1 n
    refine W.item i s _ _ hg st fun v h' tk hv st' kk => ?_
    obtain ⟨t, rfl⟩ := hv
    have I1 : Inv X pins σ H { s with heap := h', toks := tk } := I.turned (fun b o hb e => kk b o (by simpa using hb) e) f0 f1 f3 f4 f5
    refine ⟨_, rfl, go_of (s := { s with heap := h', toks := tk }) (n := "range_iterator") st' rfl rfl (by decide) ⟨.int (lo + i), H, I1, ⟨t, ?_⟩, ⟨rfl, rfl⟩, st', fun b hb => (hf b hb).1⟩⟩
    rw [Int.mul_one]
  done := by
    intro X hP hw hK hc i pins s σ H E I hf st hg
    subst hP hw hK
    obtain ⟨f0, f1, f2, f3, f4, f5⟩ := hf it (by simp)
    exact wpAny_pyNext_range_end (I.ok.hd hc) st (by have : n ≤ i := hg; omega) fun h' eb => ⟨rfl, I.turned (t' := s.toks) (fun b o hb e => eb b o hb e) f0 f1 f3 f4 f5⟩
  self := fun _ _ _ _ _ st h => wpAny_pyIter_rangeiter st h
end L2
namespace L2
open PySem PySem.Spec PyProof.Rows
section
variable {X : Cx} {tg : Expr}
noncomputable def iList (K : PySem.W.Frag) (tl : TE) : TI := fun σ H R => tl σ H fun x H1 => ∃ a, x = .ref a ∧ (∃ xs, SqL K H1 a xs) ∧ R (Itl K a) H1
noncomputable def iTup (K : PySem.W.Frag) (tl : TE) : TI := fun σ H R => tl σ H fun x H1 => ∃ a, x = .ref a ∧ (∃ xs, SqT K H1 a xs) ∧ R (Itt K a) H1
theorem pi_list {l : Expr} {tl : TE} (hl : PE X l tl) : PI X tg l (iList X.K tl) := by
  intro pins s σ H R I h
  refine thn (hl pins s σ H _ I h) fun v s1 ⟨x, H1, I1, r1, q1⟩ => ?_
  obtain ⟨a, e, ⟨xs, hq⟩, q⟩ := q1
  subst e
  cases r1
  obtain ⟨its, rv, p, hz⟩ := I1.list hq
  refine wpAny_pyIter_list p.isList ?_
  refine ⟨s1.heap.objs.size, [s1.heap.objs.size], _, _, H1, rfl, I1.kept (t' := s1.toks) fun b o e => Heap.get?_push_of_some _ e, turn_list a _, ⟨_, Heap.get?_push_size _ rfl, rfl, rfl⟩, fun b hb => ?_, q⟩
  have e : b = s1.heap.objs.size := by simpa using hb
  subst e
  exact I1.fpOk (Nat.le_refl _) (I1.hok.fresh (Nat.le_refl _))
theorem zi_list {l : Expr} {tl : TE} (hl : ZE X l tl) : ZI X tg l (iList X.K tl) := by with_unfolding_all exact pi_list hl
theorem pi_tup {l : Expr} {tl : TE} (hl : PE X l tl) : PI X tg l (iTup X.K tl) := by
  intro pins s σ H R I h
  refine thn (hl pins s σ H _ I h) fun v s1 ⟨x, H1, I1, r1, q1⟩ => ?_
  obtain ⟨a, e, ⟨xs, hq⟩, q⟩ := q1
  subst e
  cases r1
  obtain ⟨its, rv, p, hz⟩ := I1.tuple hq
  refine wpAny_pyIter_tuple (show s1.heap.IsTuple a its.toArray from p) ?_
  refine ⟨s1.heap.objs.size, [s1.heap.objs.size], _, _, H1, rfl, I1.kept (t' := s1.toks) fun b o e => Heap.get?_push_of_some _ e, turn_tuple a _, ⟨_, Heap.get?_push_size _ rfl, rfl, rfl⟩, fun b hb => ?_, q⟩
  have e : b = s1.heap.objs.size := by simpa using hb
  subst e
  exact I1.fpOk (Nat.le_refl _) (I1.hok.fresh (Nat.le_refl _))
theorem zi_tup {l : Expr} {tl : TE} (hl : ZE X l tl) : ZI X tg l (iTup X.K tl) := by with_unfolding_all exact pi_tup hl
theorem range_it {pins : List (Addr × Obj)} {σ : St} {H : Hp} {s : Shared} {R : It → Hp → Prop} {E : Value → Shared → Prop} {lo hi : Int} {t u v : Tok} {tk : Nat} (I : Inv X pins σ H s) (h1 : -(2 ^ 62) ≤ lo) (h2 : lo < 2 ^ 62) (h3 : -(2 ^ 62) ≤ hi) (h4 : hi < 2 ^ 62)
    (q : R (Itr lo (hi - lo).toNat) H) : wpAny (model X.prog X.w) X.A (pyIter (.ref s.heap.objs.size)) (PIE X pins σ tg R) E { s with heap := s.heap.push { cls := .type "range", data := .fields #[.int lo t, .int hi u, .int 1 v] }, toks := tk } := by
  refine wpAny_pyIter_range (IsRange.new ..) (small_one h1 h2 h3 h4) ?_
  have I1 : Inv X pins σ H { s with heap := s.heap.push { cls := .type "range", data := .fields #[.int lo t, .int hi u, .int 1 v] }, toks := tk } := I.kept fun b o e => Heap.get?_push_of_some _ e
  refine ⟨(s.heap.push { cls := .type "range", data := .fields #[.int lo t, .int hi u, .int 1 v] }).objs.size, [(s.heap.push { cls := .type "range", data := .fields #[.int lo t, .int hi u, .int 1 v] }).objs.size], _, _, H, rfl,
    I1.kept (t' := tk) fun b o e => Heap.get?_push_of_some _ e, turn_range _ lo (hi - lo).toNat, ?_, fun b hb => ?_, q⟩
  · have e1 : lo + ((0 : Nat) : Int) * 1 = lo := by simp
    have e2 : (((hi - lo).toNat : Nat) : Int) - ((0 : Nat) : Int) = Builtin.Range.rangeSize lo hi 1 := by rw [rangeSize_one]; split <;> omega
    show IsRangeIter _ _ (lo + ((0 : Nat) : Int) * 1) ((((hi - lo).toNat : Nat) : Int) - ((0 : Nat) : Int)) 1
    rw [e1, e2]
    exact Heap.get?_push_size _ rfl
  · have e : b = (s.heap.push { cls := .type "range", data := .fields #[.int lo t, .int hi u, .int 1 v] }).objs.size := by simpa using hb
    subst e
    exact I1.fpOk (Nat.le_refl _) (I1.hok.fresh (Nat.le_refl _))
noncomputable def iRng1 (ta : TA) : TI := fun σ H R => ta σ H fun vs H1 => ∃ j : Int, vs = [.int j] ∧ -(2 ^ 62) ≤ j ∧ j < 2 ^ 62 ∧ R (Itr 0 j.toNat) H1
noncomputable def iRng2 (ta : TA) : TI := fun σ H R => ta σ H fun vs H1 => ∃ i j : Int, vs = [.int i, .int j] ∧ (-(2 ^ 62) ≤ i ∧ i < 2 ^ 62 ∧ -(2 ^ 62) ≤ j ∧ j < 2 ^ 62) ∧ R (Itr i (j - i).toNat) H1
theorem pi_range1 {a : Expr} {ta : TA} {p pos : Pos} (hg : Gl X "range") (hm : X.mg "range" = none) (ha : PA X [a] ta) (hs : starEach [a] X.env = [(false, eval a X.env)] := by rfl) : PI X tg (.Call (.Name "range" p) [a] [] pos) (iRng1 ta) := by
  intro pins s σ H R I h
  refine Call_ (ld_blt I hg hm boot_range (PyProof.Rows.callWith_type1 (thn (ha pos pins s σ H _ I h) fun us s1 ⟨vs, H1, I1, r1, q1⟩ => ?_) hs rfl))
  obtain ⟨j, e, q1, q2, q⟩ := q1
  subst e
  cases r1 with
  | cons r rr =>
    cases rr
    obtain ⟨t, rfl⟩ := r
    exact call_range_1 (range_it I1 (by omega) (by omega) q1 q2 (by simpa using q))
theorem zi_range1 {a : Expr} {ta : TA} {p pos : Pos} (hg : Gl X "range") (hm : X.mg "range" = none) (ha : ZA X [a] ta) (hs : starEach [a] X.env = [(false, eval a X.env)] := by rfl) : ZI X tg (.Call (.Name "range" p) [a] [] pos) (iRng1 ta) := by with_unfolding_all exact pi_range1 hg hm ha hs
theorem pi_range2 {a b : Expr} {ta : TA} {p pos : Pos} (hg : Gl X "range") (hm : X.mg "range" = none) (ha : PA X [a, b] ta) (hs : starEach [a, b] X.env = [(false, eval a X.env), (false, eval b X.env)] := by rfl) (hs2 : starEach [b] X.env = [(false, eval b X.env)] := by rfl) :
    PI X tg (.Call (.Name "range" p) [a, b] [] pos) (iRng2 ta) := by
  intro pins s σ H R I h
  refine Call_ (ld_blt I hg hm boot_range (PyProof.Rows.callWith_type1 (thn (ha pos pins s σ H _ I h) fun us s1 ⟨vs, H1, I1, r1, q1⟩ => ?_) (by rw [hs, hs2]) (by rw [hs2]; rfl)))
  obtain ⟨i, j, e, ⟨q1, q2, q3, q4⟩, q⟩ := q1
  subst e
  cases r1 with
  | cons r rr =>
    cases rr with
    | cons r' rr =>
      cases rr
      obtain ⟨t, rfl⟩ := r
      obtain ⟨t', rfl⟩ := r'
      exact call_range_2 (range_it I1 q1 q2 q3 q4 q)
noncomputable def tFor (wi : TI) (g : TG) (tb : TS) : TS := fun D σ H => wi σ H fun J H1 => ∃ W : Nat → Nat → St → Hp → Prop, (∃ m, W 0 m σ H1) ∧ ∀ i m σ H, W i m σ H →
  (J.stop i H ∧ D.nx σ H) ∨ (J.go i H ∧ ∃ N : St → Hp → Prop, (∀ σ' H', N σ' H' → ∃ m', m' < m ∧ W (i + 1) m' σ' H') ∧ ∀ x H', J.yld i H x H' → g x σ H' fun σ2 H2 => tb { D with nx := N, ct := N, bk := D.nx } σ2 H2)
noncomputable def pinsAt (fp : List Addr) (h : Heap) : List (Addr × Obj) := fp.filterMap fun b => (h.get? b).map fun o => (b, o)
theorem mem_pinsAt {fp : List Addr} {h : Heap} {b : Addr} {o : Obj} (hb : b ∈ fp) (e : h.get? b = some o) : (b, o) ∈ pinsAt fp h := List.mem_filterMap.mpr ⟨b, hb, by rw [e]; rfl⟩
theorem of_pinsAt {fp : List Addr} {h : Heap} {p : Addr × Obj} (hp : p ∈ pinsAt fp h) : p.1 ∈ fp ∧ h.get? p.1 = some p.2 := by
  obtain ⟨b, hb, e⟩ := List.mem_filterMap.mp hp
  cases q : h.get? b with
  | none => rw [q] at e; cases e
  | some o =>
    rw [q] at e
    have e' : (b, o) = p := Option.some.inj e
    subst e'
    exact ⟨hb, q⟩
theorem Inv.pinned {pins : List (Addr × Obj)} {σ : St} {H : Hp} {s : Shared} {fp : List Addr} (I : Inv X pins σ H s) (hf : ∀ b ∈ fp, FpOk X pins H b) (ho : ∀ b ∈ fp, ∃ o, s.heap.get? b = some o ∧ ∀ v, o.data ≠ .cell v) : Inv X (pins ++ pinsAt fp s.heap) σ H s :=
  I.pins_of fun p hp => (List.mem_append.mp hp).elim (fun z => I.pin p (List.mem_append_right _ z)) fun z => by
    obtain ⟨hb, e⟩ := of_pinsAt z
    obtain ⟨f0, f1, f2, _⟩ := hf p.1 hb
    obtain ⟨o, e', d⟩ := ho p.1 hb
    rw [e] at e'; cases e'
    exact ⟨e, f0, f1, f2, d⟩
theorem Inv.unpinned {pins pl : List (Addr × Obj)} {σ : St} {H : Hp} {s : Shared} (I : Inv X (pins ++ pl) σ H s) : Inv X pins σ H s := I.pins_of fun p hp => I.pin p (List.mem_append_right _ (List.mem_append_left _ hp))
theorem ps_for {iter : Expr} {body : List Stmt} {wi : TI} {g : TG} {tb : TS} {pos : Pos} (hp : PassesOwn (model X.prog X.w) X.A X.env X.xe) (hc : X.calm = true) (hi : PI X tg iter wi) (hg : PG X tg g) (hb : PSs X body tb)
    (hs : ∀ x, foldedSetIterable iter X.env x = pure x := by intro _; rfl) : PS X (.For tg iter body [] pos) (tFor wi g tb) := by
  intro pins s σ H D I h
  refine wpAny_For (thn (hi pins s σ H _ I h) fun v s1 h1 => thn h1 fun itv s2 h2 => ?_) hs
  obtain ⟨it, fp, tn, J, H2, e, I2, T, st2, f2, W, ⟨m0, w0⟩, turn⟩ := h2
  subst e
  -- what stays true of the iterator's objects through the loop
  have stat : ∀ {H' : Hp}, (∀ b ∈ fp, H' b = none) → ∀ b ∈ fp, FpOk X pins H' b := fun hn b hb => ⟨hn b hb, (f2 b hb).2⟩
  refine codeAny_forLoop_any (fun n s' => ∃ i σ' H', Inv X pins σ' H' s' ∧ tn i s'.heap ∧ (∀ b ∈ fp, H' b = none) ∧ W i n σ' H') ?_ m0 ⟨0, σ, H2, I2, st2, fun b hb => (f2 b hb).1, w0⟩
  rintro n s3 ⟨i, σ3, H3, I3, st3, fr3, w3⟩
  rcases turn i n σ3 H3 w3 with ⟨stop, qn⟩ | ⟨go, N, hN, step⟩
  · refine wpAny_passesOwn hp (thn (T.done X rfl rfl rfl hc i pins s3 σ3 H3 X.xe I3 (stat fr3) st3 stop) fun r s4 ⟨hr, I4⟩ => ?_)
    subst hr
    exact wpAny_execs_nil ⟨σ3, H3, I4, qn⟩
  · refine wpAny_passesOwn hp (thn (T.item X rfl rfl rfl hc i pins s3 σ3 H3 X.xe I3 (stat fr3) st3 go) fun r s4 ⟨u, hr, h4⟩ => ?_)
    subst hr
    refine wpAny_passesOwn hp (thn h4 fun _ s5 ⟨x, H5, I5, r5, y5, st5, fr5⟩ => ?_)
    have I5' := I5.pinned (stat fr5) (T.obj _ _ st5)
    refine wpAny_passesOwn hp (thn (hg _ s5 σ3 H5 x u _ I5' r5 (step x H5 y5)) fun _ s6 ⟨σ6, H6, I6, q6⟩ => ?_)
    refine wpAny_passesOwn hp (thn (hb _ s6 σ6 H6 _ I6 q6) fun f s7 q7 => ?_)
    have again : ∀ {σ7 : St} {H7 : Hp}, Inv X (pins ++ pinsAt fp s5.heap) σ7 H7 s7 → N σ7 H7 → ∃ m, m < n ∧ ∃ i σ' H', Inv X pins σ' H' s7 ∧ tn i s7.heap ∧ (∀ b ∈ fp, H' b = none) ∧ W i m σ' H' := fun {σ7 H7} I7 n7 => by
      obtain ⟨m', hm, w7⟩ := hN σ7 H7 n7
      refine ⟨m', hm, i + 1, σ7, H7, I7.unpinned, T.keep _ _ _ st5 fun b hb o e => (I7.pin (b, o) (List.mem_append_right _ (List.mem_append_right _ (mem_pinsAt hb e)))).1, fun b hb => ?_, w7⟩
      obtain ⟨o, e, d⟩ := T.obj _ _ st5 b hb
      exact (I7.pin (b, o) (List.mem_append_right _ (List.mem_append_right _ (mem_pinsAt hb e)))).2.1
    cases f with
    | next => obtain ⟨σ7, H7, I7, n7⟩ := q7; exact again I7 n7
    | cont => obtain ⟨σ7, H7, I7, n7⟩ := q7; exact again I7 n7
    | brk => obtain ⟨σ7, H7, I7, q7⟩ := q7; exact ⟨σ7, H7, I7.unpinned, q7⟩
    | ret v => obtain ⟨x7, σ7, H7, I7, r7, q7⟩ := q7; exact ⟨x7, σ7, H7, I7.unpinned, r7, q7⟩
theorem zs_for {iter : Expr} {body : List Stmt} {wi : TI} {g : TG} {tb : TS} {pos : Pos} (hp : PassesOwn (model X.prog X.w) X.A X.env X.xe) (hc : X.calm = true) (hi : ZI X tg iter wi) (hg : ZG X tg g) (hb : ZSs X body tb)
    (hs : ∀ x, foldedSetIterable iter X.env x = pure x := by intro _; rfl) : ZS X (.For tg iter body [] pos) (tFor wi g tb) := by with_unfolding_all exact ps_for hp hc hi hg hb hs
end
theorem for_list {K : PySem.W.Frag} {a : Addr} {xs : List V} {g : TG} {tb : TS} {D : Ends} {σ : St} {H : Hp} (Pv : Nat → St → Hp → Prop) (h0 : Pv 0 σ H) (hl : ∀ i σ H, i ≤ xs.length → Pv i σ H → SqL K H a xs)
    (hs : ∀ i x σ H, xs[i]? = some x → Pv i σ H → g x σ H fun σ2 H2 => tb { D with nx := Pv (i + 1), ct := Pv (i + 1), bk := D.nx } σ2 H2) (hd : ∀ σ H, Pv xs.length σ H → D.nx σ H) :
    ∃ W : Nat → Nat → St → Hp → Prop, (∃ m, W 0 m σ H) ∧ ∀ i m σ H, W i m σ H →
      ((Itl K a).stop i H ∧ D.nx σ H) ∨ ((Itl K a).go i H ∧ ∃ N : St → Hp → Prop, (∀ σ' H', N σ' H' → ∃ m', m' < m ∧ W (i + 1) m' σ' H') ∧ ∀ x H', (Itl K a).yld i H x H' → g x σ H' fun σ2 H2 => tb { D with nx := N, ct := N, bk := D.nx } σ2 H2) := by
  refine ⟨fun i m σ H => m = xs.length - i ∧ i ≤ xs.length ∧ Pv i σ H, ⟨xs.length, by simp, Nat.zero_le _, h0⟩, ?_⟩
  rintro i m σ H ⟨rfl, hi, p⟩
  have q := hl i σ H hi p
  by_cases hlt : i < xs.length
  · refine .inr ⟨⟨xs, xs[i], q, by simp [hlt]⟩, Pv (i + 1), fun σ' H' p' => ⟨xs.length - (i + 1), by omega, rfl, hlt, p'⟩, fun x H' y => ?_⟩
    obtain ⟨e, y⟩ := y
    subst e
    exact hs i x σ _ (y xs q) p
  · have e : i = xs.length := by omega
    subst e
    exact .inl ⟨⟨xs, q, Nat.le_refl _⟩, hd σ H p⟩
theorem for_range {lo : Int} {n : Nat} {g : TG} {tb : TS} {D : Ends} {σ : St} {H : Hp} (Pv : Nat → St → Hp → Prop) (h0 : Pv 0 σ H)
    (hs : ∀ i σ H, i < n → Pv i σ H → g (.int (lo + i)) σ H fun σ2 H2 => tb { D with nx := Pv (i + 1), ct := Pv (i + 1), bk := D.nx } σ2 H2) (hd : ∀ σ H, Pv n σ H → D.nx σ H) :
    ∃ W : Nat → Nat → St → Hp → Prop, (∃ m, W 0 m σ H) ∧ ∀ i m σ H, W i m σ H →
      ((Itr lo n).stop i H ∧ D.nx σ H) ∨ ((Itr lo n).go i H ∧ ∃ N : St → Hp → Prop, (∀ σ' H', N σ' H' → ∃ m', m' < m ∧ W (i + 1) m' σ' H') ∧ ∀ x H', (Itr lo n).yld i H x H' → g x σ H' fun σ2 H2 => tb { D with nx := N, ct := N, bk := D.nx } σ2 H2) := by
  refine ⟨fun i m σ H => m = n - i ∧ i ≤ n ∧ Pv i σ H, ⟨n, by simp, Nat.zero_le _, h0⟩, ?_⟩
  rintro i m σ H ⟨rfl, hi, p⟩
  by_cases hlt : i < n
  · refine .inr ⟨hlt, Pv (i + 1), fun σ' H' p' => ⟨n - (i + 1), by omega, rfl, hlt, p'⟩, fun x H' y => ?_⟩
    obtain ⟨e, y⟩ := y
    subst e y
    exact hs i σ _ hlt p
  · have e : i = n := by omega
    subst e
    exact .inl ⟨Nat.le_refl _, hd σ H p⟩
end L2
namespace L2
open PySem PySem.Spec PyProof.Rows
noncomputable abbrev R2 := V → V → Hp → VK → Prop
noncomputable def OpR (X : Cx) (f : Value → Value → Sem Value) (r : R2) : Prop :=
  ∀ (pins : List (Addr × Obj)) (s : Shared) (σ : St) (H : Hp) (x y : V) (v u : Value) (Q : VK), Inv X pins σ H s → RelV x v → RelV y u → r x y H Q →
    wpAny (model X.prog X.w) X.A (f v u) (EP X pins σ Q) X.xe s
noncomputable def UnR (X : Cx) (f : Value → Sem Value) (r : V → Hp → VK → Prop) : Prop :=
  ∀ (pins : List (Addr × Obj)) (s : Shared) (σ : St) (H : Hp) (x : V) (v : Value) (Q : VK), Inv X pins σ H s → RelV x v → r x H Q →
    wpAny (model X.prog X.w) X.A (f v) (EP X pins σ Q) X.xe s
noncomputable def CallR (X : Cx) (f : Value) (r : List V → Hp → VK → Prop) : Prop :=
  ∀ (pins : List (Addr × Obj)) (s : Shared) (σ : St) (H : Hp) (xs : List V) (us : List Value) (Q : VK), Inv X pins σ H s → Vals xs us → r xs H Q →
    wpAny (model X.prog X.w) X.A (call f us) (EP X pins σ Q) X.xe s
noncomputable def tOp (r : R2) (ta tb : TE) : TE := fun σ H Q => ta σ H fun x H1 => tb σ H1 fun y H2 => r x y H2 Q
noncomputable def tUn (r : V → Hp → VK → Prop) (ta : TE) : TE := fun σ H Q => ta σ H fun x H1 => r x H1 Q
noncomputable def rI (C : Int → Int → Prop) (g : Int → Int → V) : R2 := fun x y H Q => ∃ i j, x = .int i ∧ y = .int j ∧ C i j ∧ Q (g i j) H
noncomputable def rI0 (g : Int → Int → V) : R2 := fun x y H Q => ∃ i j, x = .int i ∧ y = .int j ∧ Q (g i j) H
noncomputable def rU (g : Int → V) : V → Hp → VK → Prop := fun x H Q => ∃ i, x = .int i ∧ Q (g i) H

section
variable {X : Cx} {a b c : Expr} {ta tb tc : TE} {pos : Pos}
theorem binT (ha : PE X a ta) (hb : PE X b tb) {pins : List (Addr × Obj)} {s : Shared} {σ : St} {H : Hp} {R : V → V → Hp → Prop} (I : Inv X pins σ H s)
    (h : ta σ H fun x H1 => tb σ H1 fun y H2 => R x y H2) {Q : Value → Shared → Prop} {f : Value → Value → Sem Value}
    (hf : ∀ v u s2 x y H2, Inv X pins σ H2 s2 → RelV x v → RelV y u → R x y H2 → wpAny (model X.prog X.w) X.A (f v u) Q X.xe s2) :
    wpAny (model X.prog X.w) X.A (eval a X.env) (fun v s₁ => wpAny (model X.prog X.w) X.A (eval b X.env) (fun u s₂ => wpAny (model X.prog X.w) X.A (f v u) Q X.xe s₂) X.xe s₁) X.xe s := by
  refine thn (ha pins s σ H _ I h) fun v s1 ⟨x, H1, I1, r1, q1⟩ => ?_
  refine thn (hb pins s1 σ H1 _ I1 q1) fun u s2 ⟨y, H2, I2, r2, q2⟩ => ?_
  exact hf v u s2 x y H2 I2 r1 r2 q2

theorem pe_op {op : Operator} {r : R2} (ho : OpR X (binaryOp op) r) (ha : PE X a ta) (hb : PE X b tb) : PE X (.BinOp a op b pos) (tOp r ta tb) := by
  intro pins s σ H Q I h
  exact wpAny_BinOp (binT ha hb I h fun v u s2 x y H2 I2 rx ry q => ho pins s2 σ H2 x y v u Q I2 rx ry q)
theorem ze_op {op : Operator} {r : R2} (ho : OpR X (binaryOp op) r) (ha : ZE X a ta) (hb : ZE X b tb) : ZE X (.BinOp a op b pos) (tOp r ta tb) := by with_unfolding_all exact pe_op ho ha hb
theorem pe_un {op : UnaryOp} {r : V → Hp → VK → Prop} (ho : UnR X (unaryOp op) r) (ha : PE X a ta) : PE X (.UnaryOp op a pos) (tUn r ta) := by
  intro pins s σ H Q I h
  exact UnaryOp_ (thn (ha pins s σ H _ I h) fun v s1 ⟨x, H1, I1, r1, q1⟩ => ho pins s1 σ H1 x v Q I1 r1 q1)
theorem ze_un {op : UnaryOp} {r : V → Hp → VK → Prop} (ho : UnR X (unaryOp op) r) (ha : ZE X a ta) : ZE X (.UnaryOp op a pos) (tUn r ta) := by with_unfolding_all exact pe_un ho ha
theorem opI {f : Value → Value → Sem Value} {C : Int → Int → Prop} {g : Int → Int → Int}
    (rule : ∀ (i j : Int) (t u : Tok) (s : Shared) (Q : Value → Shared → Prop) (E : Value → Shared → Prop), C i j → Q (.int (g i j) s.toks) { s with toks := s.toks + 1 } → wpAny (model X.prog X.w) X.A (f (.int i t) (.int j u)) Q E s) :
    OpR X f (rI C fun i j => .int (g i j)) := by
  intro pins s σ H x y v u Q I rx ry h
  obtain ⟨i, j, rfl, rfl, hc, q⟩ := h
  obtain ⟨t, rfl⟩ := rx
  obtain ⟨t', rfl⟩ := ry
  exact rule i j t t' s _ _ hc ⟨.int (g i j), H, I.tok _, ⟨_, rfl⟩, q⟩
theorem opI0 {f : Value → Value → Sem Value} {g : Int → Int → Int}
    (rule : ∀ (i j : Int) (t u : Tok) (s : Shared) (Q : Value → Shared → Prop) (E : Value → Shared → Prop), Q (.int (g i j) s.toks) { s with toks := s.toks + 1 } → wpAny (model X.prog X.w) X.A (f (.int i t) (.int j u)) Q E s) :
    OpR X f (rI0 fun i j => .int (g i j)) := by
  intro pins s σ H x y v u Q I rx ry h
  obtain ⟨i, j, rfl, rfl, q⟩ := h
  obtain ⟨t, rfl⟩ := rx
  obtain ⟨t', rfl⟩ := ry
  exact rule i j t t' s _ _ ⟨.int (g i j), H, I.tok _, ⟨_, rfl⟩, q⟩
theorem opB0 {f : Value → Value → Sem Value} {g : Int → Int → Bool}
    (rule : ∀ (i j : Int) (t u : Tok) (s : Shared) (Q : Value → Shared → Prop) (E : Value → Shared → Prop), Q (.bool (g i j)) s → wpAny (model X.prog X.w) X.A (f (.int i t) (.int j u)) Q E s) :
    OpR X f (rI0 fun i j => .bl (g i j)) := by
  intro pins s σ H x y v u Q I rx ry h
  obtain ⟨i, j, rfl, rfl, q⟩ := h
  obtain ⟨t, rfl⟩ := rx
  obtain ⟨t', rfl⟩ := ry
  exact rule i j t t' s _ _ ⟨.bl (g i j), H, I, rfl, q⟩

noncomputable def CDiv (i j : Int) : Prop := 0 < j ∧ j < 1073741824
noncomputable def CPow (i j : Int) : Prop := 0 ≤ j ∧ j ≤ 1000000 ∧ i.natAbs < 2 ^ 64
theorem op_add : OpR X (binaryOp .Add) (rI0 fun i j => .int (i + j)) := opI0 fun _ _ _ _ _ _ _ q => add_int q
theorem op_sub : OpR X (binaryOp .Sub) (rI0 fun i j => .int (i - j)) := opI0 fun _ _ _ _ _ _ _ q => sub_int q
theorem op_fdiv : OpR X (binaryOp .FloorDiv) (rI CDiv fun i j => .int (i / j)) := opI fun i j _ _ _ _ _ hc q => by
  have h1 : (0 : Int) < j := hc.1
  have h2 : j < 1073741824 := hc.2
  exact floordiv_int (by omega) (by rw [Int.fdiv_eq_ediv_of_nonneg i (by omega)]; exact q) (.inl (PyProof.noPylong_small (by omega)))
theorem op_mod : OpR X (binaryOp .Mod) (rI (fun _ j => 0 < j) fun i j => .int (i % j)) := opI fun i j _ _ _ _ _ hc q => by
  have h1 : (0 : Int) < j := hc
  exact mod_int' (by omega) (by rw [Int.fmod_eq_emod_of_nonneg i (by omega)]; exact q)
theorem op_pow : OpR X (binaryOp .Pow) (rI CPow fun i j => .int (i ^ j.toNat)) := opI fun _ _ _ _ _ _ _ hc q => pow_int_small hc.1 hc.2.1 hc.2.2 q
theorem unI {f : Value → Sem Value} {g : Int → Int}
    (rule : ∀ (i : Int) (t : Tok) (s : Shared) (Q : Value → Shared → Prop) (E : Value → Shared → Prop), Q (.int (g i) s.toks) { s with toks := s.toks + 1 } → wpAny (model X.prog X.w) X.A (f (.int i t)) Q E s) :
    UnR X f (rU fun i => .int (g i)) := by
  intro pins s σ H x v Q I rx h
  obtain ⟨i, rfl, q⟩ := h
  obtain ⟨t, rfl⟩ := rx
  exact rule i t s _ _ ⟨.int (g i), H, I.tok _, ⟨_, rfl⟩, q⟩
theorem un_neg : UnR X (unaryOp .USub) (rU fun i => .int (-i)) := unI fun _ _ _ _ _ q => neg_int q
end
noncomputable def scal : V → V → Bool
  | .non, .non => true | .non, .int _ => true | .int _, .non => true | .non, .bl _ => true | .bl _, .non => true | .non, .str _ => true | .str _, .non => true
  | .int _, .int _ => true | .bl _, .bl _ => true | .str _, .str _ => true | .byt _, .byt _ => true
  | .int _, .str _ => true | .str _, .int _ => true | .bl _, .str _ => true | .str _, .bl _ => true
  | _, _ => false
noncomputable def rEq : R2 := fun x y H Q => scal x y = true ∧ Q (.bl (decide (x = y))) H
noncomputable def rNe : R2 := fun x y H Q => scal x y = true ∧ Q (.bl (!decide (x = y))) H

theorem dec_int {i j : Int} : decide (V.int i = V.int j) = (i == j) := by
  rw [Bool.eq_iff_iff]
  simp
theorem dec_bl {i j : Bool} : decide (V.bl i = V.bl j) = (i == j) := by
  rw [Bool.eq_iff_iff]
  simp
theorem dec_str {i j : Str} : decide (V.str i = V.str j) = (i == j) := by
  rw [Bool.eq_iff_iff]
  simp
theorem dec_byt {i j : Array UInt8} : decide (V.byt i = V.byt j) = (i.toList == j.toList) := by
  rw [Bool.eq_iff_iff]
  cases i
  cases j
  simp

section
variable {X : Cx} {a b c : Expr} {ta tb tc : TE} {pos : Pos}
theorem fin_bl {pins : List (Addr × Obj)} {σ : St} {H : Hp} {s : Shared} {Q : VK} {k k' : Bool} (I : Inv X pins σ H s) (q : Q (.bl k) H) (e : k = k') : EP X pins σ Q (.bool k') s := by
  subst e
  exact ⟨.bl k, H, I, rfl, q⟩
theorem op_eq : OpR X (compareOp .Eq) rEq := by
  intro pins s σ H x y v u Q I rx ry h
  obtain ⟨hs, q⟩ := h
  cases x with
  | non =>
    cases rx
    cases y with
    | non => cases ry; exact PySem.EqNone.eq_none_none (fin_bl I q (by simp))
    | bl j => cases ry; exact PySem.EqNone.eq_none_bool (fin_bl I q (by simp))
    | int j => obtain ⟨t', rfl⟩ := ry; exact PySem.EqNone.eq_none_int (fin_bl I q (by simp))
    | str j => obtain ⟨t', rfl⟩ := ry; exact PySem.EqNone.eq_none_str (fin_bl I q (by simp))
    | _ => exact absurd (show false = true from hs) Bool.false_ne_true
  | bl i =>
    cases rx
    cases y with
    | non => cases ry; exact PySem.EqNone.eq_bool_none (fin_bl I q (by simp))
    | bl j => cases ry; exact eq_bool (fin_bl I q dec_bl)
    | str j => obtain ⟨t', rfl⟩ := ry; exact PySem.EqMixed.eq_bool_str (fin_bl I q (by simp))
    | _ => exact absurd (show false = true from hs) Bool.false_ne_true
  | int i =>
    obtain ⟨t, rfl⟩ := rx
    cases y with
    | non => cases ry; exact PySem.EqNone.eq_int_none (fin_bl I q (by simp))
    | int j => obtain ⟨t', rfl⟩ := ry; exact eq_int (fin_bl I q dec_int)
    | str j => obtain ⟨t', rfl⟩ := ry; exact PySem.EqMixed.eq_int_str (fin_bl I q (by simp))
    | _ => exact absurd (show false = true from hs) Bool.false_ne_true
  | str i =>
    obtain ⟨t, rfl⟩ := rx
    cases y with
    | non => cases ry; exact PySem.EqNone.eq_str_none (fin_bl I q (by simp))
    | bl j => cases ry; exact PySem.EqMixed.eq_str_bool (fin_bl I q (by simp))
    | int j => obtain ⟨t', rfl⟩ := ry; exact PySem.EqMixed.eq_str_int (fin_bl I q (by simp))
    | str j => obtain ⟨t', rfl⟩ := ry; exact eq_str (fin_bl I q dec_str)
    | _ => exact absurd (show false = true from hs) Bool.false_ne_true
  | byt i =>
    obtain ⟨t, rfl⟩ := rx
    cases y with
    | byt j => obtain ⟨t', rfl⟩ := ry; exact PySem.W.eq_bytes (fin_bl I q dec_byt)
    | _ => exact absurd (show false = true from hs) Bool.false_ne_true
  | _ => cases y <;> exact absurd (show false = true from hs) Bool.false_ne_true
theorem op_ne : OpR X (compareOp .NotEq) rNe := by
  intro pins s σ H x y v u Q I rx ry h
  obtain ⟨hs, q⟩ := h
  cases x with
  | non =>
    cases rx
    cases y with
    | non => cases ry; exact PySem.EqNone.ne_none_none (fin_bl I q (by simp))
    | bl j => cases ry; exact PySem.EqNone.ne_none_bool (fin_bl I q (by simp))
    | int j => obtain ⟨t', rfl⟩ := ry; exact PySem.EqNone.ne_none_int (fin_bl I q (by simp))
    | str j => obtain ⟨t', rfl⟩ := ry; exact PySem.EqNone.ne_none_str (fin_bl I q (by simp))
    | _ => exact absurd (show false = true from hs) Bool.false_ne_true
  | bl i =>
    cases rx
    cases y with
    | non => cases ry; exact PySem.EqNone.ne_bool_none (fin_bl I q (by simp))
    | bl j => cases ry; exact ne_bool (fin_bl I q (congrArg not dec_bl))
    | str j => obtain ⟨t', rfl⟩ := ry; exact PySem.EqMixed.ne_bool_str (fin_bl I q (by simp))
    | _ => exact absurd (show false = true from hs) Bool.false_ne_true
  | int i =>
    obtain ⟨t, rfl⟩ := rx
    cases y with
    | non => cases ry; exact PySem.EqNone.ne_int_none (fin_bl I q (by simp))
    | int j => obtain ⟨t', rfl⟩ := ry; exact ne_int (fin_bl I q (congrArg not dec_int))
    | str j => obtain ⟨t', rfl⟩ := ry; exact PySem.EqMixed.ne_int_str (fin_bl I q (by simp))
    | _ => exact absurd (show false = true from hs) Bool.false_ne_true
  | str i =>
    obtain ⟨t, rfl⟩ := rx
    cases y with
    | non => cases ry; exact PySem.EqNone.ne_str_none (fin_bl I q (by simp))
    | bl j => cases ry; exact PySem.EqMixed.ne_str_bool (fin_bl I q (by simp))
    | int j => obtain ⟨t', rfl⟩ := ry; exact PySem.EqMixed.ne_str_int (fin_bl I q (by simp))
    | str j => obtain ⟨t', rfl⟩ := ry; exact ne_str (fin_bl I q (congrArg not dec_str))
    | _ => exact absurd (show false = true from hs) Bool.false_ne_true
  | byt i =>
    obtain ⟨t, rfl⟩ := rx
    cases y with
    | byt j => obtain ⟨t', rfl⟩ := ry; exact PySem.W.ne_bytes (fin_bl I q (congrArg not dec_byt))
    | _ => exact absurd (show false = true from hs) Bool.false_ne_true
  | _ => cases y <;> exact absurd (show false = true from hs) Bool.false_ne_true

theorem op_lt : OpR X (compareOp .Lt) (rI0 fun i j => .bl (decide (i < j))) := opB0 fun _ _ _ _ _ _ _ q => lt_int q
theorem op_gt : OpR X (compareOp .Gt) (rI0 fun i j => .bl (decide (j < i))) := opB0 fun _ _ _ _ _ _ _ q => gt_int q
theorem op_ge : OpR X (compareOp .GtE) (rI0 fun i j => .bl (decide (j ≤ i))) := opB0 fun _ _ _ _ _ _ _ q => ge_int q
theorem op_isN : OpR X (compareOp .Is) (fun x y H Q => y = .non ∧ Q (.bl (decide (x = .non))) H) := by
  intro pins s σ H x y v u Q I rx ry h
  obtain ⟨rfl, q⟩ := h
  cases ry
  refine is_none_gen (fin_bl I q ?_)
  cases x <;> first
    | (cases rx; rfl)
    | (obtain ⟨t, rfl⟩ := rx; rfl)
theorem op_notN : OpR X (compareOp .IsNot) (fun x y H Q => y = .non ∧ Q (.bl (!decide (x = .non))) H) := by
  intro pins s σ H x y v u Q I rx ry h
  obtain ⟨rfl, q⟩ := h
  cases ry
  refine isnot_none_gen (fin_bl I q ?_)
  cases x <;> first
    | (cases rx; rfl)
    | (obtain ⟨t, rfl⟩ := rx; rfl)

theorem nomark (b : Expr) {op : CmpOp} (h : op ≠ .In := by decide) (h2 : op ≠ .NotIn := by decide) : behindInMarks op b = false := by
  have e1 : (op == CmpOp.In) = false := by cases op <;> first | rfl | exact absurd rfl h
  have e2 : (op == CmpOp.NotIn) = false := by cases op <;> first | rfl | exact absurd rfl h2
  cases b <;> simp [behindInMarks, e1, e2]
theorem pe_cmpR {op : CmpOp} {r : R2} (ho : OpR X (compareOp op) r) (ha : PE X a ta) (hb : PE X b tb) (hm : behindInMarks op b = false) : PE X (.Compare a [op] [b] pos) (tOp r ta tb) := by
  intro pins s σ H Q I h
  exact wpAny_Compare1 (binT ha hb I h fun v u s2 x y H2 I2 rx ry q => ho pins s2 σ H2 x y v u Q I2 rx ry q) hm
theorem ze_cmpR {op : CmpOp} {r : R2} (ho : OpR X (compareOp op) r) (ha : ZE X a ta) (hb : ZE X b tb) (hm : behindInMarks op b = false) : ZE X (.Compare a [op] [b] pos) (tOp r ta tb) := by with_unfolding_all exact pe_cmpR ho ha hb hm
theorem line63 : (sizeLine : Nat) < 2 ^ 63 := by rw [sizeLine_eq]; decide
theorem op_add_str : OpR X (binaryOp .Add) (fun x y H Q => ∃ i j, x = .str i ∧ y = .str j ∧ i.length + j.length ≤ sizeLine ∧ Q (.str (i ++ j)) H) := by
  intro pins s σ H x y v u Q I rx ry h
  obtain ⟨i, j, rfl, rfl, hz, q⟩ := h
  obtain ⟨t, rfl⟩ := rx
  obtain ⟨t', rfl⟩ := ry
  exact add_str (fun t' tk => ⟨.str (i ++ j), H, I.tok _, ⟨_, rfl⟩, q⟩) hz
theorem vals1 {x : V} {us : List Value} (r : Vals [x] us) : ∃ u, us = [u] ∧ RelV x u := by
  cases r with
  | cons r1 r2 => cases r2; exact ⟨_, rfl, r1⟩
theorem vals2 {x y : V} {us : List Value} (r : Vals [x, y] us) : ∃ u w', us = [u, w'] ∧ RelV x u ∧ RelV y w' := by
  cases r with
  | cons r1 r2 =>
    cases r2 with
    | cons r3 r4 => cases r4; exact ⟨_, _, rfl, r1, r3⟩
theorem call_abs : CallR X (.builtin "abs") (fun xs H Q => ∃ i, xs = [.int i] ∧ Q (.int (if i < 0 then -i else i)) H) := by
  intro pins s σ H xs us Q I r h
  obtain ⟨i, rfl, q⟩ := h
  obtain ⟨u, rfl, t, rfl⟩ := vals1 r
  exact call_abs_int fun u tk => ⟨.int (if i < 0 then -i else i), H, I.tok _, ⟨_, rfl⟩, q⟩
theorem call_max2 (hc : X.calm = true) : CallR X (.builtin "max") (fun xs H Q => ∃ i j, xs = [.int i, .int j] ∧ Q (.int (if j > i then j else i)) H) := by
  intro pins s σ H xs us Q I r h
  obtain ⟨i, j, rfl, q⟩ := h
  obtain ⟨u, w', rfl, ⟨t, rfl⟩, ⟨t', rfl⟩⟩ := vals2 r
  refine max_two_ints (I.ok.hd hc) fun h' tk k => ⟨_, H, I.kept k, ?_, q⟩
  by_cases hj : j > i
  · rw [if_pos hj, if_pos hj]; exact ⟨_, rfl⟩
  · rw [if_neg hj, if_neg hj]; exact ⟨_, rfl⟩
theorem call_min2 (hc : X.calm = true) : CallR X (.builtin "min") (fun xs H Q => ∃ i j, xs = [.int i, .int j] ∧ Q (.int (if j < i then j else i)) H) := by
  intro pins s σ H xs us Q I r h
  obtain ⟨i, j, rfl, q⟩ := h
  obtain ⟨u, w', rfl, ⟨t, rfl⟩, ⟨t', rfl⟩⟩ := vals2 r
  refine min_two_ints (I.ok.hd hc) fun h' tk k => ⟨_, H, I.kept k, ?_, q⟩
  by_cases hj : j < i
  · rw [if_pos hj, if_pos hj]; exact ⟨_, rfl⟩
  · rw [if_neg hj, if_neg hj]; exact ⟨_, rfl⟩
theorem call_int1 : CallR X (.type "int") (fun xs H Q => (∃ i, xs = [.int i] ∧ Q (.int i) H) ∨ ∃ k, xs = [.bl k] ∧ Q (.int (if k then 1 else 0)) H) := by
  intro pins s σ H xs us Q I r h
  rcases h with ⟨i, rfl, q⟩ | ⟨k, rfl, q⟩
  · obtain ⟨u, rfl, t, rfl⟩ := vals1 r
    exact call_int_int ⟨.int i, H, I, ⟨_, rfl⟩, q⟩
  · obtain ⟨u, rfl, r1⟩ := vals1 r
    cases r1
    exact call_int_bool ⟨.int (if k then 1 else 0), H, I.tok _, ⟨_, rfl⟩, q⟩
theorem call_str_int : CallR X (.type "str") (fun xs H Q => ∃ i, xs = [.int i] ∧ i.natAbs.log2 < 1920 ∧ Q (.str (toString i)) H) := by
  intro pins s σ H xs us Q I r h
  obtain ⟨i, rfl, hz, q⟩ := h
  obtain ⟨u, rfl, t, rfl⟩ := vals1 r
  exact PySem.P.str_of_int hz ⟨.str _, H, I.tok _, ⟨_, rfl⟩, q⟩
end
end L2
namespace L2
open PySem PySem.Spec PyProof.Rows
structure ObjM (h : Heap) (x dx C : Addr) (mA : Str → Option Value) : Prop where
  obj : h.get? x = some (PySem.W.instObj C dx)
  ns : h.Ns1 dx mA
  ne : dx ≠ x

theorem lookIn_ns {h : Heap} {dx : Addr} {mA : Str → Option Value} (n : h.Ns1 dx mA) : ∃ od, h.get? dx = some od ∧ ∀ name, PySem.W.lookIn name od = some (mA name) := by
  obtain ⟨o, es, ep, ho, hd, hk, _, hm⟩ := n
  refine ⟨o, ho, fun name => ?_⟩
  have e := hm name
  unfold nsFind findBy at e
  rw [← Array.find?_toList] at e
  unfold PySem.W.lookIn
  rw [hd]
  dsimp only
  split
  · rename_i y q
    rw [q] at e
    exact congrArg some e
  · rename_i q
    rw [q] at e
    have a : es.toList.any (·.refKey) = false := by
      rw [List.any_eq_false]
      intro y hy
      obtain ⟨z, t, hkey⟩ := hk y (Array.mem_toList_iff.mp hy)
      simp [DictEntry.refKey, hkey]
    have a' : ¬ es.toList.any (·.refKey) = true := by rw [a]; exact Bool.false_ne_true
    rw [if_neg a']
    exact congrArg some e

theorem ObjM.look {h : Heap} {x dx C : Addr} {mA : Str → Option Value} (I : ObjM h x dx C mA) : ∃ od, PySem.W.InstAt h x (PySem.W.instObj C dx) C (some od) ∧ ∀ name, PySem.W.lookIn name od = some (mA name) :=
  let ⟨od, ho, hl⟩ := lookIn_ns I.ns
  ⟨od, ⟨I.obj, rfl, rfl, ho⟩, hl⟩

section
variable {prog : Program} {w : World} {A : Around} {E : Value → Shared → Prop} {s : Shared} {K : PySem.W.Frag} {x dx C f : Addr} {mA : Str → Option Value} {name : Str} {v : Value}
end
section
variable {P : Program} {w : World} {H H' : Hp} {h h' : Heap} {a C dx : Addr} {fs fs' : List (Str × V)}
theorem ins_get (hok : HOk P w H h) (e : H a = some (.ins C dx fs)) : ∃ mA, ObjM h a dx C mA ∧ (∀ f, RelO (fs.lookup f) (mA f)) ∧ PySem.Within mA (fs.map (·.1)) ∧ fs.length ≤ 1000 ∧ H dx = some (.own a) := by
  obtain ⟨d, z, ne, ob, mA, n, r, q⟩ := (show ObjOk P w H h a (.ins C dx fs) from hok a _ e)
  exact ⟨mA, ⟨ob, n, ne⟩, r, q, z, d⟩
end
structure Cls (K : PySem.W.Frag) (C : Addr) : Prop where
  pg : PySem.W.plainGet K C Str.empty = true
  hd : PySem.W.hasDictIn K C = true
  po : PySem.W.plainOver K C = true
  sa : PySem.W.findIn K (.ref C) "__setattr__" = some (some (.builtin "object.__setattr__"))
theorem Cls.get {K : PySem.W.Frag} {C : Addr} (c : Cls K C) (f : Str) : PySem.W.plainGet K C f = true := c.pg
section
variable {X : Cx} {pins : List (Addr × Obj)} {σ : St} {H : Hp} {s : Shared} {a C dx : Addr} {fs : List (Str × V)} {f : Str} {v : V} {A : Around} {E : Value → Shared → Prop}
end
section
variable {X : Cx} {o e value : Expr} {f : Str} {pos pos' tpos : Pos} {ta tv : TE}
end
section
variable {X : Cx} {pins : List (Addr × Obj)} {σ : St} {H : Hp} {s : Shared} {A : Around} {E : Value → Shared → Prop} {Q : Value → Shared → Prop} {c : Value} {b : Bool}
inductive TyOf (K : PySem.W.Frag) (H : Hp) : V → Value → Prop where
  | non : TyOf K H .non (.type "NoneType")
  | bl (x : Bool) : TyOf K H (.bl x) (.type "bool")
  | int (i : Int) : TyOf K H (.int i) (.type "int")
  | str (x : Str) : TyOf K H (.str x) (.type "str")
  | flt (x : UInt64) : TyOf K H (.flt x) (.type "float")
  | lst {a : Addr} {xs : List V} (e : H a = some (.lst xs)) : TyOf K H (.ref a) (.type "list")
  | frz {a : Addr} {o : Obj} {xs : List V} (e : H a = some (.frz o (.lst xs))) : TyOf K H (.ref a) (.type "list")
  | tup {a : Addr} {xs : List V} (e : H a = some (.tup xs)) : TyOf K H (.ref a) (.type "tuple")
  | dK {a : Addr} {kvs : List (Key × V)} (e : H a = some (.dK kvs)) : TyOf K H (.ref a) (.type "dict")
  | dT {a : Addr} {kvs : List (List Key × V)} (e : H a = some (.dT kvs)) : TyOf K H (.ref a) (.type "dict")
  | ins {a C dx : Addr} {fs : List (Str × V)} (e : H a = some (.ins C dx fs)) (cl : Cls K C) (ha : PySem.W.findIn K (.ref C) "__class__" = some (some (.builtin "object.__class__")))
      (hn : PySem.W.specialIn K (.builtin "object.__class__") "__get__" = some (some (.builtin "getset_descriptor.__get__"))) (htk : PySem.W.takesIn K (.builtin "object.__class__") = some true)
      (hm : PySem.W.mroIn K C (.type "object") = some true) : TyOf K H (.ref a) (.ref C)
theorem isinst_ok {x : V} {u t : Value} (I : Inv X pins σ H s) (rx : RelV x u) (ty : TyOf X.K H x t) (e : PySem.W.kitOne X.K t c = some b) (h : ∀ tk, Q (.bool b) { s with toks := tk }) :
    wpAny (model X.prog X.w) A (call (.builtin "isinstance") [u, c]) Q E s := by
  cases ty with
  | non => cases (show u = Value.none from rx); exact PySem.W.kia_one PySem.W.kitx_none I.kIn True.intro e (fun z => nomatch z) h
  | bl y => cases (show u = Value.bool y from rx); exact PySem.W.kia_one PySem.W.kitx_bool I.kIn True.intro e (fun z => nomatch z) h
  | int i => obtain ⟨t, q⟩ := (show ∃ t, u = Value.int i t from rx); cases q; exact PySem.W.kia_one PySem.W.kitx_int I.kIn True.intro e (fun z => nomatch z) h
  | str y => obtain ⟨t, q⟩ := (show ∃ t, u = Value.str y t from rx); cases q; exact PySem.W.kia_one PySem.W.kitx_str I.kIn True.intro e (fun z => nomatch z) h
  | flt y => obtain ⟨t, q⟩ := (show ∃ t, u = Value.float y t from rx); cases q; exact PySem.W.kia_one PySem.W.kitx_float I.kIn True.intro e (fun z => nomatch z) h
  | @lst a xs ea =>
    cases (show u = Value.ref a from rx)
    obtain ⟨_, _, n, _, h1⟩ := (show ObjOk X.prog X.w H s.heap a (.lst xs) from I.hok a _ ea)
    exact PySem.W.kia_one PySem.W.kitx_list I.kIn ⟨_, h1, rfl⟩ e (fun z => nomatch z) h
  | @frz a ob xs ea =>
    cases (show u = Value.ref a from rx)
    obtain ⟨_, _, _, n, _, h1⟩ := (show ObjOk X.prog X.w H s.heap a (.frz ob (.lst xs)) from I.hok a _ ea)
    exact PySem.W.kia_one PySem.W.kitx_list I.kIn ⟨_, h1, rfl⟩ e (fun z => nomatch z) h
  | @tup a xs ea =>
    cases (show u = Value.ref a from rx)
    obtain ⟨_, _, _, p⟩ := (show ObjOk X.prog X.w H s.heap a (.tup xs) from I.hok a _ ea)
    obtain ⟨o, h1, h2, _⟩ := p.tup
    exact PySem.W.kia_one PySem.W.kitx_tuple I.kIn ⟨o, h1, h2⟩ e (fun z => nomatch z) h
  | @dK a kvs ea =>
    cases (show u = Value.ref a from rx)
    obtain ⟨_, _, vs, _, p⟩ := (show ObjOk X.prog X.w H s.heap a (.dK kvs) from I.hok a _ ea)
    obtain ⟨o, es, ep, h1, h2, _⟩ := p
    exact PySem.W.kia_one PySem.W.kitx_dict I.kIn ⟨o, h1, h2.1⟩ e (fun z => nomatch z) h
  | @dT a kvs ea =>
    cases (show u = Value.ref a from rx)
    obtain ⟨_, _, xs, _, o, es, ep, h1, h2, _⟩ := (show ObjOk X.prog X.w H s.heap a (.dT kvs) from I.hok a _ ea)
    exact PySem.W.kia_one PySem.W.kitx_dict I.kIn ⟨o, h1, h2.1⟩ e (fun z => nomatch z) h
  | @ins a C dx fs ea cl ha hn htk hm =>
    cases (show u = Value.ref a from rx)
    obtain ⟨mA, O, _⟩ := ins_get I.hok ea
    obtain ⟨od, J, _⟩ := O.look
    exact PySem.W.kia_one (PySem.W.kitx_own (cl.get _) cl.hd ha hn htk hm) I.kIn J e (fun z => nomatch z) h
end
end L2
namespace L2
open PySem PySem.Spec PyProof.Rows
structure Room (k : Nat) (A : Around) : Prop where
  hd : A.handled = none
  dp : A.depth + 3 * k + 5 < recursionLimit
  un : A.units + 16 * k + 200 < cLine
  gd : A.guards = some []
theorem Room.mono {j k : Nat} {A : Around} (r : Room k A) (h : j ≤ k) : Room j A := ⟨r.hd, by have := r.dp; omega, by have := r.un; omega, r.gd⟩
theorem Room.deeper {k : Nat} {A : Around} (r : Room (k + 1) A) (env : Env) : Room k (A.deeper env) :=
  ⟨r.hd, by have := r.dp; show A.depth + 1 + 3 * k + 5 < _; omega, by have := r.un; show A.units + 3 + 16 * k + 200 < _; omega, r.gd⟩
theorem Room.depth {k : Nat} {A : Around} (r : Room k A) : A.depth < recursionLimit := by have := r.dp; omega
theorem Room.units {k : Nat} {A : Around} (r : Room k A) : A.units + 64 < cLine := by have := r.un; omega
noncomputable def tNil : TA := fun _ H Q => Q [] H
noncomputable def tCons (ta : TE) (tr : TA) : TA := fun σ H Q => ta σ H fun x H1 => tr σ H1 fun xs H2 => Q (x :: xs) H2
section
variable {X : Cx} {e : Expr} {es : List Expr} {te : TE} {t : TA} {pos : Pos}
theorem pa_nil : PA X [] tNil := fun _ _ _ _ H Q I h => Calls.spliced_nil ⟨[], H, I, .nil, h⟩
theorem za_nil : ZA X [] tNil := by with_unfolding_all exact pa_nil 
theorem pa_cons (ha : PE X e te) (hr : PA X es t) (hs : starEach (e :: es) X.env = (false, eval e X.env) :: starEach es X.env := by rfl) : PA X (e :: es) (tCons te t) := by
  intro pos pins s σ H Q I h
  rw [hs]
  show wpAny _ _ (spliced ((false, eval e X.env) :: backTo pos (starEach es X.env))) _ _ s
  refine Calls.spliced_cons (thn (ha pins s σ H _ I h) fun u s1 ⟨x, H1, I1, r1, q1⟩ => ?_)
  exact thn (hr pos pins s1 σ H1 _ I1 q1) fun us s2 ⟨xs, H2, I2, r2, q2⟩ => ⟨x :: xs, H2, I2, .cons r1 r2, q2⟩
theorem za_cons (ha : ZE X e te) (hr : ZA X es t) (hs : starEach (e :: es) X.env = (false, eval e X.env) :: starEach es X.env := by rfl) : ZA X (e :: es) (tCons te t) := by with_unfolding_all exact pa_cons ha hr hs

noncomputable def tTup (t : TA) : TE := fun σ H Q => t σ H fun xs H1 => xs.length ≤ sizeLine ∧ ∀ p, H1 p = none → Q (.ref p) (upd H1 p (.tup xs))
noncomputable def tLst (t : TA) : TE := fun σ H Q => t σ H fun xs H1 => xs.length ≤ sizeLine ∧ ∀ p, H1 p = none → Q (.ref p) (upd H1 p (.lst xs))
theorem pe_tup {x1} (h : PA X es t) : PE X (.Tuple es x1 pos) (tTup t) := by
  intro pins s σ H Q I hq
  refine wpAny_Tuple_spliced (thn (h pos pins s σ H _ I hq) fun us s1 ⟨xs, H1, I1, r, z, q⟩ => ⟨by rw [← r.length]; exact z, ?_⟩)
  have hf : H1 s1.heap.objs.size = none := I1.hok.fresh (Nat.le_refl _)
  refine ⟨.ref s1.heap.objs.size, upd H1 s1.heap.objs.size (.tup xs), I1.laid (t' := s1.toks) (fun b u e => Heap.get?_push_of_some _ e) (Nat.le_refl _) ?_, rfl, q _ hf⟩
  exact ⟨z, us, r, ⟨_, Heap.get?_push_size _ rfl⟩⟩
theorem ze_tup {x1} (h : ZA X es t) : ZE X (.Tuple es x1 pos) (tTup t) := by with_unfolding_all exact pe_tup h
theorem pe_lst (h : PA X es t) : PE X (.List es pos) (tLst t) := by
  intro pins s σ H Q I hq
  refine wpAny_List_spliced (thn (h pos pins s σ H _ I hq) fun us s1 ⟨xs, H1, I1, r, z, q⟩ => ⟨by rw [← r.length]; exact z, ?_⟩)
  have hf : H1 s1.heap.objs.size = none := I1.hok.fresh (Nat.le_refl _)
  refine ⟨.ref s1.heap.objs.size, upd H1 s1.heap.objs.size (.lst xs), I1.laid (t' := s1.toks) (fun b u e => Heap.get?_push_of_some _ e) (Nat.le_refl _) ?_, rfl, q _ hf⟩
  exact ⟨z, us, 0, r, Heap.get?_push_size _ rfl⟩
theorem ze_lst (h : ZA X es t) : ZE X (.List es pos) (tLst t) := by with_unfolding_all exact pe_lst h
end
noncomputable abbrev Sp := List V → Hp → VK → XK → Prop
noncomputable abbrev CXT := List Env → Hp → Shared → XK → Value → Shared → Prop

structure Env0 (P : Program) (w : World) (K : PySem.W.Frag) (mg : Str → Option Value) (base : Heap) (A : Around) (outer : List Env) (s : Shared) (H : Hp) : Prop where
  frames : A.frames = some outer
  mod : Mod K mg base
  bs : ∀ b o, base.get? b = some o → s.heap.get? b = some o ∧ H b = none
  bsz : base.objs.size ≤ s.heap.objs.size
  funs : s.heap.FunFrames base outer
  frf : ∀ b ∈ frs outer, H b = none
  hok : HOk P w H s.heap
  bare : AllBare s.gens
noncomputable def CE (outer : List Env) (P : Program) (w : World) (H : Hp) (s : Shared) (Q : VK) (u : Value) (s' : Shared) : Prop :=
  ∃ v H', s'.os = s.os ∧ AllBare s'.gens ∧ Un (frs outer) [] H H' s.heap s'.heap ∧ HOk P w H' s'.heap ∧ RelV v u ∧ Q v H'
noncomputable def CR (CX : CXT) (outer : List Env) (P : Program) (w : World) (H : Hp) (s : Shared) (Q : VK) (E : XK) (r : Result) (s' : Shared) : Prop :=
  match r with
  | .ok (.ret u) => CE outer P w H s Q u s'
  | .ok _ => False
  | .error e => CX outer H s E e s'
structure FnOk (P : Program) (w : World) (K : PySem.W.Frag) (mg : Str → Option Value) (base : Heap) (CX : CXT) (k : Nat) (f : Addr) (fd : FuncData) (ps : List Str) (sp : Sp) : Prop where
  len : ∀ vs H Q E, sp vs H Q E → vs.length = ps.length
  run : ∀ (A : Around) (outer : List Env) (s : Shared) (H : Hp) (args : Args) (us : List Value) (vs : List V) (Q : VK) (E : XK), Room k A → Env0 P w K mg base A outer s H → BindsTo s fd args (ps.zip us) → Vals vs us → sp vs H Q E →
    codeAny (model P w) A (.call (.ref f) args) (CR CX outer P w H s Q E) s
theorem FnOk.mono {P : Program} {w : World} {K : PySem.W.Frag} {mg : Str → Option Value} {base : Heap} {CX : CXT} {j k : Nat} {f : Addr} {fd : FuncData} {ps : List Str} {sp : Sp} (F : FnOk P w K mg base CX j f fd ps sp) (h : j ≤ k) :
    FnOk P w K mg base CX k f fd ps sp := ⟨F.len, fun A outer s H args us vs Q E hr => F.run A outer s H args us vs Q E (hr.mono h)⟩
section
variable {X : Cx} {pins : List (Addr × Obj)} {σ : St} {H : Hp} {s s' : Shared}
theorem Inv.env0 (I : Inv X pins σ H s) : Env0 X.prog X.w X.K X.mg X.base X.A X.stack s H :=
  ⟨I.ok.frames, I.ok.mod, I.bs, Nat.le_trans I.ok.bsz I.sz, I.stack, I.stkFree, I.hok, I.bare⟩
theorem Inv.after {Q : VK} {u : Value} (I : Inv X pins σ H s) (h : CE X.stack X.prog X.w H s Q u s') : EP X pins σ Q u s' := by
  obtain ⟨v, H', os, bare, un, hok, r, q⟩ := h
  obtain ⟨hh, g, d, t, os'⟩ := s'
  obtain rfl : os' = s.os := os
  exact ⟨v, H', I.call (h' := hh) (g' := g) (d' := d) (t' := t) (ch := []) un hok bare (fun b z => absurd z (by simp)), r, q⟩
end
noncomputable def tCall (sp : Sp) (dvs : List V) (E : XK) (t : TA) : TE := fun σ H Q => t σ H fun vs H1 => sp (vs ++ dvs) H1 Q E
noncomputable def Binds (K : PySem.W.Frag) (fd : FuncData) (ps : List Str) (ds : List Value) : Prop :=
  ∀ (s : Shared) (us : List Value), K.In s.heap → (us ++ ds).length = ps.length → BindsTo s fd ⟨us, []⟩ (ps.zip (us ++ ds))
theorem Binds.all {K : PySem.W.Frag} {fd : FuncData} {ps : List Str} (h : ∀ us : List Value, us.length = ps.length → bindArgs fd ⟨us, []⟩ = pure (ps.zip us)) : Binds K fd ps [] := fun s us _ hl => by
  rw [List.append_nil] at hl ⊢
  exact .of_eq (h us hl)

noncomputable def Passes (CX : CXT) (X : Cx) (E : XK) : Prop := ∀ (pins : List (Addr × Obj)) (σ : St) (H : Hp) (s : Shared) (e : Value) (s' : Shared), Inv X pins σ H s → CX X.stack H s E e s' → X.xe e s'

section
variable {X : Cx} {CX : CXT} {k : Nat} {f C : Addr} {fd : FuncData} {ps : List Str} {sp : Sp} {dvs : List V} {ds : List Value} {E : XK} {x m : Str} {p pos apos : Pos} {e o : Expr} {es : List Expr} {ta : TE} {t : TA}
theorem run_fn {pins : List (Addr × Obj)} {σ : St} {H : Hp} {s : Shared} {Q : VK} {us : List Value} {vs : List V} (F : FnOk X.prog X.w X.K X.mg X.base CX k f fd ps sp) (hr : Room k X.A) (hb : Binds X.K fd ps ds) (hd : Vals dvs ds) (hx : Passes CX X E)
    (I : Inv X pins σ H s) (r : Vals vs us) (h : sp (vs ++ dvs) H Q E) : wpAny (model X.prog X.w) X.A (call (.ref f) us) (EP X pins σ Q) X.xe s := by
  have r2 : Vals (vs ++ dvs) (us ++ ds) := r.append hd
  have hl : (us ++ ds).length = ps.length := by rw [← r2.length]; exact F.len _ _ _ _ h
  refine wpAny_call (codeAny_mono (F.run X.A X.stack s H ⟨us, []⟩ (us ++ ds) (vs ++ dvs) Q E hr I.env0 (hb s us I.kIn hl) r2 h) fun r s' hq => ?_)
  cases r with
  | error e => exact hx pins σ H s e s' I hq
  | ok fl =>
    cases fl with
    | ret u => exact I.after hq
    | next => exact False.elim hq
    | brk => exact False.elim hq
    | cont => exact False.elim hq

theorem pe_call (F : FnOk X.prog X.w X.K X.mg X.base CX k f fd ps sp) (hr : Room k X.A) (hg : Gl X x) (hm : X.mg x = some (.ref f)) (hk : PySem.W.keepIn X.K (.ref f) = true) (hb : Binds X.K fd ps ds) (hd : Vals dvs ds) (hx : Passes CX X E)
    (ha : PA X (e :: es) t) (hdb : (x == ("__debug__" : Str)) = false := by decide) (he : starEach (e :: es) X.env = (false, eval e X.env) :: starEach es X.env := by rfl) (hpl : (backTo pos (starEach es X.env)).any (·.1) = false := by rfl) :
    PE X (.Call (.Name x p) (e :: es) [] pos) (tCall sp dvs E t) := by
  intro pins s σ H Q I h
  refine wpAny_Call_Name_kw (ld_glob I hg hm ?_ hdb)
  refine PySem.W.callWith_K (h₀ := X.base) I.ok.mod.kin hk (thn (ha pos pins s σ H _ I h) fun us s1 ⟨vs, H1, I1, r, q⟩ => ⟨I1.kIn, ?_⟩) he hpl
  exact run_fn F hr hb hd hx I1 r q
end
section
variable {X : Cx} {CX : CXT} {k : Nat} {f C : Addr} {fd : FuncData} {ps ks : List Str} {sp : Sp} {E : XK} {x m : Str} {p pos apos kpos : Pos} {e o : Expr} {es : List Expr} {kws : List Keyword} {te ta : TE} {t tk : TA} {nm : Option Str}
variable {g : List Value → List Value → List Value} {gV : List V → List V → List V}
end
structure FnScope (N P : List Str) (sc : Scope) : Prop where
  kind : sc.kind = .function
  co : sc.isCoroutine = false
  gen : sc.isGenerator = false
  nd : N.Nodup
  pre : N.take P.length = P
  par : ∀ x ∈ P, sc.names.lookup x = some .local ∨ sc.names.lookup x = some .cell
  nofree : ∀ y ∈ sc.names, y.2 ≠ .free

theorem bindL_out {kindOf : Str → Option NameKind} {x : Str} : ∀ {binds : List (Str × Value)} {m : Str → Option Value}, (∀ v, (x, v) ∉ binds) → bindL kindOf binds m x = m x
  | [], _, _ => rfl
  | (n, v) :: r, m, h => by
    unfold bindL
    rw [bindL_out fun w hw => h w (List.mem_cons_of_mem _ hw)]
    split
    · have : x ≠ n := by rintro rfl; exact h v List.mem_cons_self
      simp [this]
    · rfl
theorem bindC_out {kindOf : Str → Option NameKind} {x : Str} : ∀ {binds : List (Str × Value)} {m : Str → Option Value}, (∀ v, (x, v) ∉ binds) → bindC kindOf binds m x = m x
  | [], _, _ => rfl
  | (n, v) :: r, m, h => by
    unfold bindC
    rw [bindC_out fun w hw => h w (List.mem_cons_of_mem _ hw)]
    split
    · rfl
    · have : x ≠ n := by rintro rfl; exact h v List.mem_cons_self
      simp [this]
theorem bindL_get {kindOf : Str → Option NameKind} {x : Str} {v : Value} : ∀ {P : List Str} {vs : List Value} {i : Nat} {m : Str → Option Value}, P.Nodup → P[i]? = some x → vs[i]? = some v → kindOf x = some .local →
    bindL kindOf (P.zip vs) m x = some v
  | [], _, _, _, _, h, _, _ => by simp at h
  | _ :: _, [], _, _, _, _, h, _ => by simp at h
  | p :: P, w :: vs, 0, m, nd, h1, h2, hk => by
    simp at h1 h2; subst h1; subst h2
    show bindL kindOf ((p, w) :: P.zip vs) m p = _
    unfold bindL
    rw [bindL_out fun v hv => (List.nodup_cons.mp nd).1 (List.of_mem_zip hv).1, if_pos hk]
    simp
  | p :: P, w :: vs, i + 1, m, nd, h1, h2, hk => by
    show bindL kindOf ((p, w) :: P.zip vs) m x = _
    unfold bindL
    exact bindL_get (i := i) (List.nodup_cons.mp nd).2 (by simpa using h1) (by simpa using h2) hk
theorem bindC_get {kindOf : Str → Option NameKind} {x : Str} {v : Value} : ∀ {P : List Str} {vs : List Value} {i : Nat} {m : Str → Option Value}, P.Nodup → P[i]? = some x → vs[i]? = some v → kindOf x ≠ some .local →
    bindC kindOf (P.zip vs) m x = some v
  | [], _, _, _, _, h, _, _ => by simp at h
  | _ :: _, [], _, _, _, _, h, _ => by simp at h
  | p :: P, w :: vs, 0, m, nd, h1, h2, hk => by
    simp at h1 h2; subst h1; subst h2
    show bindC kindOf ((p, w) :: P.zip vs) m p = _
    unfold bindC
    rw [bindC_out fun v hv => (List.nodup_cons.mp nd).1 (List.of_mem_zip hv).1, if_neg hk]
    simp
  | p :: P, w :: vs, i + 1, m, nd, h1, h2, hk => by
    show bindC kindOf ((p, w) :: P.zip vs) m x = _
    unfold bindC
    exact bindC_get (i := i) (List.nodup_cons.mp nd).2 (by simpa using h1) (by simpa using h2) hk

noncomputable def start (N : List Str) (vs : List V) : St := vs.map some ++ List.replicate (N.length - vs.length) none

noncomputable def cxOf (CX : CXT) (P : Program) (w : World) (K : PySem.W.Frag) (mg : Str → Option Value) (base : Heap) (N : List Str) (qual : Str) (scope : Scope) (f : Addr) (cd : Value) (A : Around) (outer : List Env) (s : Shared) (H : Hp) (E : XK) : Cx where
  prog := P
  w := w
  K := K
  mg := mg
  base := base
  A := A.deeper (envOfC qual scope s.heap.objs.size f cd)
  N := N
  s₀ := s
  H₀ := H
  env := envOfC qual scope s.heap.objs.size f cd
  outer := outer
  stack := envOfC qual scope s.heap.objs.size f cd :: outer
  ex := []
  calm := true
  fn := fun _ => true
  pn := []
  xe := fun e s' => wpAny (model P w) (A.deeper (envOfC qual scope s.heap.objs.size f cd)) (leaving (envOfC qual scope s.heap.objs.size f cd) e) (fun _ s'' => CX outer H s E e s'') (fun e' s'' => CX outer H s E e' s'') s'

theorem cell_has {sc : Scope} {n : Nat} {x : Str} (h : sc.names.lookup x = some .cell) : ∃ c, (cellsFrom n sc.names []).lookup x = some c := by
  have q := PySem.W.cellsFrom_some sc.names n [] (.inl h)
  exact Option.isSome_iff_exists.mp q

theorem inv_start {CX : CXT} {P : Program} {w : World} {K : PySem.W.Frag} {mg : Str → Option Value} {base : Heap} {N ps : List Str} {qual : Str} {scope : Scope} {f : Addr} {cd : Value} {A : Around} {outer : List Env} {s s1 : Shared} {H : Hp} {E : XK} {us : List Value} {vs : List V}
    (S : FnScope N ps scope) (hd : A.handled = none) (e0 : Env0 P w K mg base A outer s H) (hl : vs.length = ps.length) (r : Vals vs us)
    (x : InCallC s s.heap.objs.size (bindL (envOfC qual scope s.heap.objs.size f cd).kindOf (ps.zip us) fun _ => none) (cellsFrom (s.heap.objs.size + 1) scope.names []) (bindC (envOfC qual scope s.heap.objs.size f cd).kindOf (ps.zip us) fun _ => none) s1) :
    Inv (cxOf CX P w K mg base N qual scope f cd A outer s H E) [] (start N vs) H s1 := by
  have hpl : ps.length ≤ N.length := by have := congrArg List.length S.pre; rw [List.length_take] at this; omega
  obtain ⟨h1, tk, rfl, hk⟩ := x.done
  have noA : ∀ b : Addr, b ∉ (cxOf CX P w K mg base N qual scope f cd A outer s H E).ex := fun b z => absurd (show b ∈ ([] : List Addr) from z) (by simp)
  refine ⟨⟨e0.mod, S.kind, rfl, rfl, Nat.le_refl _, fun y z c h1 h2 => ?_, fun y hy => ?_, fun y c _ h => ?_, fun _ => hd, Around.frames_deeper e0.frames, .inr ⟨rfl, rfl⟩, fun b z => absurd z (noA b), e0.bs, e0.bsz, fun b _ _ => noA b, fun b z => absurd z (noA b), e0.funs, e0.frf⟩,
    rfl, e0.bare, Un.kept hk, ⟨_, x.toInCall.ns, fun i y v h1 h2 h3 => ?_⟩, fun y c h => ⟨_, x.cell y c h⟩, e0.hok.fresh (Nat.le_refl _), fun y c h => ?_, fun p hp => absurd (show p ∈ ([] : List (Addr × Obj)) from hp) (by simp), e0.hok.kept hk, ?_⟩
  · exact name_of_addr x.apart (PySem.mem_of_lookup h1) (PySem.mem_of_lookup h2)
  · have hy : scope.names.lookup y = some .cell ∨ scope.names.lookup y = some .free := hy
    rcases hy with hy | hy
    · exact cell_has hy
    · exact absurd rfl (S.nofree _ (PySem.mem_of_lookup hy))
  · exact Nat.le_of_lt (x.above y c (PySem.mem_of_lookup h))
  · have hi : i < vs.length := by
      unfold start at h2
      by_cases hi : i < vs.length
      · exact hi
      · rw [List.getElem?_append_right (by simpa using hi)] at h2
        rw [List.getElem?_replicate] at h2
        split at h2 <;> cases h2
    have ha : vs[i]? = some v := by
      unfold start at h2
      rw [List.getElem?_append_left (by simpa using hi), List.getElem?_map] at h2
      cases e : vs[i]? with
      | none => rw [e] at h2; cases h2
      | some a => rw [e] at h2; cases h2; rfl
    obtain ⟨u, hu, rv⟩ := r.get ha
    have hp : ps[i]? = some y := by
      rw [← S.pre, List.getElem?_take_of_lt (by omega)]; exact h1
    have ndP : ps.Nodup := by rw [← S.pre]; exact S.nd.sublist (List.take_sublist _ _)
    refine ⟨u, rv, ?_⟩
    rcases S.par y (List.mem_of_getElem? hp) with k | k
    · exact .inl ⟨k, bindL_get ndP hp hu k⟩
    · obtain ⟨c, e⟩ := cell_has (n := s.heap.objs.size + 1) k
      refine .inr ⟨.inl k, c, e, ?_⟩
      have q := x.cell y c e
      rw [bindC_get ndP hp hu (by show scope.names.lookup y ≠ _; rw [k]; decide)] at q
      exact q
  · exact e0.hok.fresh (Nat.le_of_lt (x.above y c (PySem.mem_of_lookup h)))
  · unfold start
    show _ = N.length
    rw [List.length_append, List.length_map, List.length_replicate]
    omega

theorem fn_of {CX : CXT} {P : Program} {w : World} {K : PySem.W.Frag} {mg : Str → Option Value} {base : Heap} {k : Nat} {f : Addr} {name qual : Str} {params : Arguments} {body : List Stmt} {scope : Scope} {dV kV doc pm cdv ct oc : Value} {an od : Option Addr}
    {osl : Array (Option Value)} {N ps : List Str} {sp : Sp} (lk : K.lookup f = some ⟨oc, od, .func (PySem.W.fnOf name qual params body scope dV kV doc pm an cdv ct), osl⟩) (hcd : PySem.W.codeIn K cdv qual = true) (S : FnScope N ps scope)
    (len : ∀ vs H Q E, sp vs H Q E → vs.length = ps.length)
    (hbody : ∀ (A : Around) (outer : List Env) (s : Shared) (H : Hp) (vs : List V) (Q : VK) (E : XK), Room k (A.deeper (envOfC qual scope s.heap.objs.size f cdv)) → sp vs H Q E →
      ∃ t, PSs (cxOf CX P w K mg base N qual scope f cdv A outer s H E) body t ∧ t { nx := fun _ H' => Q .non H', rt := Q } (start N vs) H) :
    FnOk P w K mg base CX (k + 1) f (PySem.W.fnOf name qual params body scope dV kV doc pm an cdv ct) ps sp := by
  refine ⟨len, fun A outer s H args us vs Q E hr e0 hb r hsp => ?_⟩
  have hl := len _ _ _ _ hsp
  have KX : K.In s.heap := e0.mod.kin.keeps fun b o e => (e0.bs b o e).1
  have lim : s.heap.NoLimit := e0.mod.nolimit.keeps fun b o e => (e0.bs b o e).1
  have hkind : ∀ y ∈ ps.zip us, scope.names.lookup y.1 = some .local ∨ (scope.names.lookup y.1 = some .cell ∧ ((cellsFrom (s.heap.objs.size + 1) scope.names []).lookup y.1).isSome = true) := fun ⟨n, v⟩ hy => by
    rcases S.par n (List.of_mem_zip hy).1 with q | q
    · exact .inl q
    · exact .inr ⟨q, PySem.W.cellsFrom_some _ _ _ (.inl q)⟩
  refine codeAny_call_function hr.depth (KX _ _ lk) rfl S.co S.gen rfl (PySem.W.codeRec_of KX hcd) (hb _ _ _ _ ?_)
  refine wpAny_newFunctionEnv_cells S.kind hkind fun env he s1 x => ?_
  subst he
  refine ⟨lim.keeps x.toInCall.keep, codeAny_func ?_⟩
  obtain ⟨t, ht, hq⟩ := hbody A outer s H vs Q E (hr.deeper _) hsp
  have I : Inv (cxOf CX P w K mg base N qual scope f cdv A outer s H E) [] (start N vs) H s1 := inv_start S hr.hd e0 hl r x
  refine wpAny_mono (ht [] s1 (start N vs) H _ I hq) (fun fl s' hs => ?_) fun e s' hs => hs
  have fin : ∀ {σ' : St} {H' : Hp} {v : V} {u : Value}, Inv (cxOf CX P w K mg base N qual scope f cdv A outer s H E) [] σ' H' s' → RelV v u → Q v H' → CE outer P w H s Q u s' :=
    fun {σ' H' v u} J rv q => ⟨v, H', J.os, J.bare, J.base, J.hok, rv, q⟩
  cases fl with
  | ret u =>
    obtain ⟨v, σ', H', J, rv, q⟩ := hs
    exact fin J rv q
  | next =>
    obtain ⟨σ', H', J, q⟩ := hs
    exact fin (v := V.non) (u := Value.none) J rfl q
  | brk =>
    obtain ⟨_, _, _, q⟩ := hs
    exact False.elim q
  | cont =>
    obtain ⟨_, _, _, q⟩ := hs
    exact False.elim q
end L2
namespace L2
open PySem PySem.Spec PyProof.Rows
section
variable {X : Cx} {x : Str} {p pos : Pos} {e : Expr} {es : List Expr} {t : TA} {id T : String} {r : List V → Hp → VK → Prop}
noncomputable def tCB (r : List V → Hp → VK → Prop) (t : TA) : TE := fun σ H Q => t σ H fun vs H1 => r vs H1 Q
theorem pe_callB (hc : CallR X (.builtin id) r) (hg : Gl X x) (hm : X.mg x = none) (hv : bootBuiltins x = some (.builtin id)) (ha : PA X (e :: es) t) (hn : x ≠ "__name__" := by decide) (hdb : (x == ("__debug__" : Str)) = false := by decide)
    (he : starEach (e :: es) X.env = (false, eval e X.env) :: starEach es X.env := by rfl) (hpl : (backTo pos (starEach es X.env)).any (·.1) = false := by rfl) : PE X (.Call (.Name x p) (e :: es) [] pos) (tCB r t) := by
  intro pins s σ H Q I h
  refine wpAny_Call_Name_kw (ld_blt I hg hm hv ?_ hn hdb)
  exact PyProof.Rows.callWith_builtin1 (thn (ha pos pins s σ H _ I h) fun us s1 ⟨vs, H1, I1, r1, q1⟩ => hc pins s1 σ H1 vs us Q I1 r1 q1) he hpl
theorem pe_callTy (hc : CallR X (.type T) r) (hg : Gl X x) (hm : X.mg x = none) (hv : bootBuiltins x = some (.type T)) (ha : PA X (e :: es) t) (hn : x ≠ "__name__" := by decide) (hdb : (x == ("__debug__" : Str)) = false := by decide)
    (he : starEach (e :: es) X.env = (false, eval e X.env) :: starEach es X.env := by rfl) (hpl : (backTo pos (starEach es X.env)).any (·.1) = false := by rfl) : PE X (.Call (.Name x p) (e :: es) [] pos) (tCB r t) := by
  intro pins s σ H Q I h
  refine wpAny_Call_Name_kw (ld_blt I hg hm hv ?_ hn hdb)
  exact PyProof.Rows.callWith_type1 (thn (ha pos pins s σ H _ I h) fun us s1 ⟨vs, H1, I1, r1, q1⟩ => hc pins s1 σ H1 vs us Q I1 r1 q1) he hpl
end
end L2
namespace HT
open PySem PyProof.Rows
section
open PySem.SeqAt
open PySem.AutoSeq1 (wpAny_loadPart')
open PySem.MeetsSeq PySem.MeetsSeq2 PySem.MeetsSeq3
end
section
variable {prog : Program} {w : World} {A : Around} {E : Value → Shared → Prop} {s : Shared}
theorem cat_tup {t b : Addr} {vs ws : List Value} {Q : Value → Shared → Prop} (ht : IsTup s.heap t vs.toArray) (hb : IsTup s.heap b ws.toArray) (hv : vs ≠ [])
    (h1 : ws = [] → Q (.ref t) s) (h2 : ws ≠ [] → Q (.ref s.heap.objs.size) { s with heap := s.heap.push { cls := .type "tuple", data := .seq (vs ++ ws).toArray } })
    (hsz : vs.length + ws.length ≤ sizeLine) : wpAny (model prog w) A (binaryOp .Add (.ref t) (.ref b)) Q E s := by
  obtain ⟨⟨cls, dd, data, sl⟩, ho, hc, n, hd⟩ := id ht
  obtain ⟨⟨cls2, dd2, data2, sl2⟩, ho2, hc2, n2, hd2⟩ := id hb
  simp only at hc hd hc2 hd2
  subst hc hd hc2 hd2
  have e : vs.toArray ++ ws.toArray = (vs ++ ws).toArray := by simp
  by_cases hw : ws = []
  · exact concat_meets ⟨_, ho, rfl⟩ ⟨_, ho2, rfl⟩ noFill_tuple_add seq_tuple_add PySem.F.slot_tuple_add PySem.F.entry_tuple_add (PySem.F.args_tuple_add_2 _ _)
      (tuple_addW1 t b vs.toArray ws.toArray n n2 dd dd2 sl sl2 (by simpa using hv) (by simp [hw])) ⟨ho, ho2, h1 hw⟩
  · refine concat_meets ⟨_, ho, rfl⟩ ⟨_, ho2, rfl⟩ noFill_tuple_add seq_tuple_add PySem.F.slot_tuple_add PySem.F.entry_tuple_add (PySem.F.args_tuple_add_2 _ _)
      (tuple_addW2 t b vs.toArray ws.toArray n n2 dd dd2 sl sl2 (by simpa using hv) (by simpa using hw) (by rw [List.size_toArray, List.size_toArray]; exact hsz)) ⟨ho, ho2, ?_⟩
    rw [e]
    exact h2 hw

noncomputable def sIx (n d : Nat) : Option Int → Nat
  | none => d
  | some v => if v < 0 then (v + (n : Int)).toNat else min v.toNat n
theorem sIx_none (n d : Nat) : sIx n d none = d := rfl
theorem sIx_nat (n d k : Nat) : sIx n d (some (k : Int)) = min k n := by
  show (if (k : Int) < 0 then ((k : Int) + (n : Int)).toNat else min (k : Int).toNat n) = min k n
  rw [if_neg (by omega), Int.toNat_natCast]
theorem sIx_le (n d : Nat) (hd : d ≤ n) (o : Option Int) : sIx n d o ≤ n := by
  cases o with
  | none => exact hd
  | some v =>
    show (if v < 0 then (v + (n : Int)).toNat else min v.toNat n) ≤ n
    by_cases hv : v < 0
    · rw [if_pos hv]; omega
    · rw [if_neg hv]; exact Nat.min_le_right _ _
theorem clip_eq (v : Int) (n d : Nat) : (if v < 0 then max (v + (n : Int)) 0 else min v (n : Int)) = ((sIx n d (some v) : Nat) : Int) := by
  show (if v < 0 then max (v + (n : Int)) 0 else min v (n : Int)) = (((if v < 0 then (v + (n : Int)).toNat else min v.toNat n) : Nat) : Int)
  by_cases hv : v < 0
  · simp only [if_pos hv]; omega
  · simp only [if_neg hv]; omega
theorem adjust_gen (lo hi : Option Int) (n : Nat) : Builtin.Slice.sliceAdjust lo hi 1 (n : Int) = (((sIx n 0 lo : Nat) : Int), ((sIx n n hi : Nat) : Int)) := by
  have h1 : ¬ ((1 : Int) < 0) := by omega
  unfold Builtin.Slice.sliceAdjust
  simp only [h1, if_false]
  refine Prod.ext ?_ ?_
  · cases lo with
    | none => rfl
    | some v => exact clip_eq v n 0
  · cases hi with
    | none => rfl
    | some v => exact clip_eq v n n
theorem places_gen (i j : Nat) : Builtin.Slice.slicePlaces (i : Int) (j : Int) 1 = j - i := by
  unfold Builtin.Slice.slicePlaces
  have h1 : (1 : Int) > 0 := by omega
  simp only [h1, if_true, Int.ediv_one]
  split <;> omega
theorem slicePart_ {v : Value} {o : Option Int} {Q : Option Int → Shared → Prop} (p : IsPart v o) (h : Q o s) : wpAny (model prog w) A (Builtin.Slice.slicePartIndex v) Q E s := by
  cases p with
  | none => exact slicePart_none h
  | int i t => exact slicePart_int h
theorem sliceApplied_gen {sl : Addr} {vl vu : Value} {lo hi : Option Int} {n : Nat} {Q : Int × Int × Nat → Shared → Prop} (hs : s.heap.IsSliceOf sl vl vu .none) (pl : IsPart vl lo) (pu : IsPart vu hi)
    (h : Q (((sIx n 0 lo : Nat) : Int), 1, sIx n n hi - sIx n 0 lo) s) : wpAny (model prog w) A (Builtin.Slice.sliceApplied (.ref sl) (pure (n : Int))) Q E s := by
  obtain ⟨os, hos, hcs, hds⟩ := id hs
  unfold Builtin.Slice.sliceApplied Builtin.Slice.sliceFields
  refine wpAny_bind (wpAny_bind (wpAny_field hos hds (x := vl) rfl (wpAny_bind (wpAny_field hos hds (x := vu) rfl (wpAny_bind (wpAny_field hos hds (x := .none) rfl (wpAny_pure ?_)))))))
  refine wpAny_bind (slicePart_none ?_)
  show wpAny _ _ (if ((1 : Int) == 0) = true then _ else _) _ _ s
  rw [if_neg (by decide)]
  refine wpAny_bind (slicePart_ pl (wpAny_bind (slicePart_ pu (wpAny_bind (wpAny_pure ?_)))))
  show wpAny _ _ (match Builtin.Slice.sliceAdjust lo hi 1 (n : Int) with | (lo, hi) => pure (lo, (1 : Int), Builtin.Slice.slicePlaces lo hi 1)) _ _ s
  rw [adjust_gen lo hi n]
  show wpAny _ _ (pure (((sIx n 0 lo : Nat) : Int), (1 : Int), Builtin.Slice.slicePlaces ((sIx n 0 lo : Nat) : Int) ((sIx n n hi : Nat) : Int) 1)) _ _ s
  rw [places_gen]
  exact wpAny_pure h
theorem pick_gen (xs : Array Value) (i k : Nat) : ((List.range k).filterMap fun (m : Nat) => xs[((i : Int) + (m : Int) * 1).toNat]?).toArray = ((xs.toList.drop i).take k).toArray := by
  have e : (fun (m : Nat) => xs[((i : Int) + (m : Int) * 1).toNat]?) = fun m => xs[i + m]? := by
    funext m
    have : ((i : Int) + (m : Int) * 1).toNat = i + m := by omega
    rw [this]
  rw [e]
  have := pick_run xs i k
  rw [List.filterMap_map] at this
  have e2 : ((fun x => xs[x]?) ∘ fun x => i + x) = fun m => xs[i + m]? := rfl
  rw [e2] at this
  rw [this]

theorem getItem_tuple_cut {t sl : Addr} {items : Array Value} {vl vu : Value} {lo hi : Option Int} {Q : Value → Shared → Prop} (ht : IsTup s.heap t items) (hs : s.heap.IsSliceOf sl vl vu .none) (pl : IsPart vl lo) (pu : IsPart vu hi)
    (hw : ¬ (sIx items.size 0 lo = 0 ∧ sIx items.size items.size hi = items.size))
    (h : Q (.ref s.heap.objs.size) { s with heap := s.heap.push { cls := .type "tuple", data := .seq ((items.toList.drop (sIx items.size 0 lo)).take (sIx items.size items.size hi - sIx items.size 0 lo)).toArray } })
    (hsz : items.size ≤ sizeLine) : wpAny (model prog w) A (getItem (.ref t) (.ref sl)) Q E s := by
  have htake : sizeOk (.seq ((items.toList.drop (sIx items.size 0 lo)).take (sIx items.size items.size hi - sIx items.size 0 lo)).toArray) := by
    show ((items.toList.drop (sIx items.size 0 lo)).take (sIx items.size items.size hi - sIx items.size 0 lo)).toArray.size ≤ sizeLine
    rw [List.size_toArray, List.length_take, List.length_drop, Array.length_toList]
    omega
  have hj : sIx items.size items.size hi ≤ items.size := sIx_le _ _ (Nat.le_refl _) hi
  obtain ⟨os, hos, hcs, hds⟩ := id hs
  have hTs : s.TypeIs (.ref sl) "slice" := ⟨os, hos, hcs⟩
  unfold getItem
  try with_reducible refine wpAny_holding ?_
  first | refine wpAny_bind (wpAny_pure ?_) | skip
  refine wpAny_bind (wpAny_sequenceKey ht.typeIs (by decide) ?_)
  refine wpAny_bind (wpAny_callSpecial?_slot (name := Str.ofString "__getitem__") ht.typeIs PyProof.Rows.slot_tuple_getitem
    (wpAny_call_entry PyProof.Rows.slot_tuple_getitem ht.typeIs entry_tuple_getitem ?_ (args_tuple_getitem _ _)))
  show wpAny _ _ (Builtin.Tuple.tupleItemsOf (.ref t) >>= _) _ _ s
  refine wpAny_bind (tupleItemsOf_ ht ?_)
  refine wpAny_bind (wpAny_typeOf hTs ?_)
  rw [if_pos (by decide)]
  refine wpAny_bind (sliceApplied_gen hs pl pu ?_)
  have hno : ¬ ((((sIx items.size 0 lo : Nat) : Int) == 0 && (1 : Int) == 1 && (sIx items.size items.size hi - sIx items.size 0 lo) == items.size) = true) := by
    intro q
    rw [Bool.and_eq_true, Bool.and_eq_true] at q
    have q1 : ((sIx items.size 0 lo : Nat) : Int) = 0 := eq_of_beq q.1.1
    have q2 : sIx items.size items.size hi - sIx items.size 0 lo = items.size := eq_of_beq q.2
    exact hw ⟨by omega, by omega⟩
  show wpAny _ _ (if (((sIx items.size 0 lo : Nat) : Int) == 0 && (1 : Int) == 1 && (sIx items.size items.size hi - sIx items.size 0 lo) == items.size) = true then _ else _) _ _ s
  rw [if_neg hno, pick_gen]
  first
    | exact wpAny_bind (m := Builtin.Tuple.tupleExact _) (wpAny_newObj_type (wpAny_pure ⟨_, rfl, wpAny_pure h⟩) htake)
    | exact wpAny_bind (m := Builtin.Tuple.tupleExact _) (wpAny_newObj_type (wpAny_bind (wpAny_pure (wpAny_pure ⟨_, rfl, wpAny_pure h⟩))) htake)
    | exact wpAny_bind (wpAny_bind (m := Builtin.Tuple.tupleExact _) (wpAny_newObj_type (wpAny_pure (wpAny_pure ⟨_, rfl, wpAny_pure h⟩)) htake))
    | exact wpAny_bind (wpAny_bind (m := Builtin.Tuple.tupleExact _) (wpAny_newObj_type (wpAny_pure ⟨_, rfl, wpAny_pure h⟩) htake))
end
end HT
namespace L2
open PySem PySem.Spec PyProof.Rows
noncomputable abbrev TO := St → Hp → (Option Int → Hp → Prop) → Prop
noncomputable def PO (X : Cx) (e : Option Expr) (t : TO) : Prop :=
  ∀ (pins : List (Addr × Obj)) (s : Shared) (σ : St) (H : Hp) (Q : Option Int → Hp → Prop), Inv X pins σ H s → t σ H Q →
    wpAny (model X.prog X.w) X.A (evalPart e X.env) (fun u s' => ∃ o H', Inv X pins σ H' s' ∧ IsPart u o ∧ Q o H') X.xe s
@[irreducible] noncomputable def ZO (X : Cx) (e : Option Expr) (t : TO) : Prop := PO X e t
noncomputable def tNoPart : TO := fun _ H Q => Q none H
noncomputable def tPart (t : TE) : TO := fun σ H Q => t σ H fun x H1 => ∃ i, x = .int i ∧ Q (some i) H1

section
variable {X : Cx} {e : Expr} {te : TE} {lo hi : Option Expr} {tl th : TO} {pos p2 : Pos}
theorem po_none : PO X none tNoPart := by
  intro pins s σ H Q I h
  rw [evalPart_none]
  exact wpAny_pure ⟨none, H, I, .none, h⟩
theorem zo_none : ZO X none tNoPart := by with_unfolding_all exact po_none 
theorem po_some (h : PE X e te) : PO X (some e) (tPart te) := by
  intro pins s σ H Q I hw
  rw [evalPart_some]
  refine thn (h pins s σ H _ I hw) fun u s1 ⟨x, H1, I1, r1, q1⟩ => ?_
  obtain ⟨i, rfl, q⟩ := q1
  obtain ⟨t, rfl⟩ := r1
  exact ⟨some i, H1, I1, .int i t, q⟩
theorem zo_some (h : ZE X e te) : ZO X (some e) (tPart te) := by with_unfolding_all exact po_some h

noncomputable def SlR (X : Cx) (r : V → Option Int → Option Int → Hp → VK → Prop) : Prop :=
  ∀ (pins : List (Addr × Obj)) (s : Shared) (σ : St) (H : Hp) (x : V) (v vl vu : Value) (lo hi : Option Int) (sl : Addr) (Q : VK), Inv X pins σ H s → RelV x v → s.heap.IsSliceOf sl vl vu .none → IsPart vl lo → IsPart vu hi → r x lo hi H Q →
    ∃ T id, typeLookup (.type T) "__getitem__" = pure (some (.builtin id)) ∧ s.TypeIs v T ∧ wpAny (model X.prog X.w) X.A (getItem v (.ref sl)) (EP X pins σ Q) X.xe s
noncomputable def tSl (r : V → Option Int → Option Int → Hp → VK → Prop) (te : TE) (tl th : TO) : TE := fun σ H Q => te σ H fun x H1 => tl σ H1 fun l H2 => th σ H2 fun u H3 => r x l u H3 Q
theorem pe_slice {r : V → Option Int → Option Int → Hp → VK → Prop} (hr : SlR X r) (he : PE X e te) (hl : PO X lo tl) (hu : PO X hi th) : PE X (.Subscript e (.Slice lo hi none p2) pos) (tSl r te tl th) := by
  intro pins s σ H Q I h
  refine Subscript_ (thn (he pins s σ H _ I h) fun v s1 ⟨x, H1, I1, r1, q1⟩ => ?_)
  refine wpAny_Slice (thn (hl pins s1 σ H1 _ I1 q1) fun vl s2 ⟨l, H2, I2, pl, q2⟩ => thn (hu pins s2 σ H2 _ I2 q2) fun vu s3 ⟨u, H3, I3, pu, q3⟩ => ?_)
  rw [evalPart_none]
  refine wpAny_pure ?_
  have I4 : Inv X pins σ H3 { s3 with heap := s3.heap.push { cls := .type "slice", data := .fields #[vl, vu, .none] } } := I3.kept (t' := s3.toks) fun b ob q => Heap.get?_push_of_some _ q
  obtain ⟨T, id, hT, ht, hg⟩ := hr pins { s3 with heap := s3.heap.push { cls := .type "slice", data := .fields #[vl, vu, .none] } } σ H3 x v vl vu l u s3.heap.objs.size Q I4 r1 (Heap.IsSliceOf.new ..) pl pu q3
  show wpAny (model X.prog X.w) X.A (subscriptTail e (.Slice lo hi none p2) v (.ref s3.heap.objs.size)) (EP X pins σ Q) X.xe { s3 with heap := s3.heap.push { cls := .type "slice", data := .fields #[vl, vu, .none] } }
  exact tail_any (ops := [.ref s3.heap.objs.size, v]) ht hT hg (by with_unfolding_all rfl)
theorem ze_slice {r : V → Option Int → Option Int → Hp → VK → Prop} (hr : SlR X r) (he : ZE X e te) (hl : ZO X lo tl) (hu : ZO X hi th) : ZE X (.Subscript e (.Slice lo hi none p2) pos) (tSl r te tl th) := by with_unfolding_all exact pe_slice hr he hl hu

noncomputable def cutV (xs : List V) (lo hi : Option Int) : List V := (xs.drop (HT.sIx xs.length 0 lo)).take (HT.sIx xs.length xs.length hi - HT.sIx xs.length 0 lo)
theorem cutV_length (xs : List V) (lo hi : Option Int) : (cutV xs lo hi).length ≤ xs.length := by
  unfold cutV
  rw [List.length_take, List.length_drop]
  omega
noncomputable def rSlT (K : PySem.W.Frag) : V → Option Int → Option Int → Hp → VK → Prop := fun x lo hi H Q => ∃ a xs, x = .ref a ∧ SqT K H a xs ∧
  ¬ (HT.sIx xs.length 0 lo = 0 ∧ HT.sIx xs.length xs.length hi = xs.length) ∧ ∀ p, H p = none → Q (.ref p) (upd H p (.tup (cutV xs lo hi)))
theorem sl_tup : SlR X (rSlT X.K) := by
  intro pins s σ H x v vl vu lo hi sl Q I rx hs pl pu h
  obtain ⟨a, xs, rfl, hx, hw, q⟩ := h
  cases rx
  obtain ⟨its, r, ht, hz⟩ := I.tuple hx
  have hlen : its.toArray.size = xs.length := by rw [List.size_toArray]; exact r.length.symm
  refine ⟨"tuple", _, PyProof.Rows.slot_tuple_getitem.lookup, ht.typeIs, ?_⟩
  refine HT.getItem_tuple_cut ht hs pl pu (by rw [hlen]; exact hw) ?_ (by rw [hlen]; exact hz)
  rw [hlen]
  refine ⟨.ref s.heap.objs.size, _, I.laid (t' := s.toks) (o := .tup (cutV xs lo hi)) (fun b ob q => Heap.get?_push_of_some _ q) (Nat.le_refl _) ?_, rfl, q _ (I.hok.fresh (Nat.le_refl _))⟩
  exact ⟨Nat.le_trans (cutV_length xs lo hi) hz, _, (r.drop (HT.sIx xs.length 0 lo)).take (HT.sIx xs.length xs.length hi - HT.sIx xs.length 0 lo), TupD.new _ _⟩

noncomputable def rCatT (K : PySem.W.Frag) : R2 := fun x y H Q => ∃ a b xs ys, x = .ref a ∧ y = .ref b ∧ SqT K H a xs ∧ SqT K H b ys ∧ xs ≠ [] ∧ xs.length + ys.length ≤ sizeLine ∧
  (ys = [] → Q (.ref a) H) ∧ (ys ≠ [] → ∀ p, H p = none → Q (.ref p) (upd H p (.tup (xs ++ ys))))
theorem Vals.nil_iff {xs : List V} {us : List Value} (r : Vals xs us) : us = [] ↔ xs = [] := by
  cases r with
  | nil => simp
  | cons _ _ => simp
theorem op_catT : OpR X (binaryOp .Add) (rCatT X.K) := by
  intro pins s σ H x y v u Q I rx ry h
  obtain ⟨a, b, xs, ys, rfl, rfl, ha, hb, hx, hz, q1, q2⟩ := h
  cases rx
  cases ry
  obtain ⟨its, r1, p1, _⟩ := I.tuple ha
  obtain ⟨its2, r2, p2, _⟩ := I.tuple hb
  refine HT.cat_tup p1 p2 (fun z => hx (r1.nil_iff.mp z)) (fun z => ⟨.ref a, H, I, rfl, q1 (r2.nil_iff.mp z)⟩) (fun z => ?_) (by rw [← r1.length, ← r2.length]; exact hz)
  refine ⟨.ref s.heap.objs.size, _, I.laid (t' := s.toks) (o := .tup (xs ++ ys)) (fun b ob q => Heap.get?_push_of_some _ q) (Nat.le_refl _) ?_, rfl, q2 (fun w => z (r2.nil_iff.mpr w)) _ (I.hok.fresh (Nat.le_refl _))⟩
  exact ⟨by rw [List.length_append]; exact hz, _, r1.append r2, TupD.new _ _⟩
end
end L2
namespace L2
open PySem PySem.Spec PyProof.Rows
noncomputable def ixN (n : Nat) (i : Int) : Option Nat := if 0 ≤ i then (if i < n then some i.toNat else none) else if -(n : Int) ≤ i then some (i + n).toNat else none
noncomputable def atI {α : Type} (xs : List α) (i : Int) : Option α := (ixN xs.length i).bind fun j => xs[j]?
theorem ixN_seq {n : Nat} {i : Int} {j : Nat} (h : ixN n i = some j) : seqIndex? i n = some j ∧ j < n ∧ -(n : Int) ≤ i ∧ i < n := by
  unfold ixN at h
  by_cases h0 : 0 ≤ i
  · rw [if_pos h0] at h
    by_cases h1 : i < n
    · rw [if_pos h1] at h
      have e : i.toNat = j := Option.some.inj h
      exact ⟨by rw [seqIndex_of h0 h1, e], by omega, by omega, h1⟩
    · rw [if_neg h1] at h; cases h
  · rw [if_neg h0] at h
    by_cases h1 : -(n : Int) ≤ i
    · rw [if_pos h1] at h
      have e : (i + n).toNat = j := Option.some.inj h
      exact ⟨by rw [seqIndex_neg (by omega) h1, e], by omega, h1, by omega⟩
    · rw [if_neg h1] at h; cases h
theorem atI_get {α : Type} {xs : List α} {i : Int} {v : α} (h : atI xs i = some v) : ∃ j, seqIndex? i xs.length = some j ∧ xs[j]? = some v ∧ j < xs.length ∧ -(xs.length : Int) ≤ i ∧ i < xs.length := by
  unfold atI at h
  cases e : ixN xs.length i with
  | none => rw [e] at h; cases h
  | some j =>
    rw [e] at h
    obtain ⟨h1, h2, h3, h4⟩ := ixN_seq e
    exact ⟨j, h1, h, h2, h3, h4⟩
theorem atI_nat {α : Type} {xs : List α} {j : Nat} {v : α} (h : xs[j]? = some v) : atI xs (j : Int) = some v := by
  have hj : j < xs.length := (List.getElem?_eq_some_iff.mp h).1
  have e : ixN xs.length (j : Int) = some j := by
    unfold ixN
    rw [if_pos (by omega), if_pos (by omega)]; simp
  unfold atI; rw [e]; exact h
noncomputable def PlainIx (b : Expr) : Prop := ∀ o i, subscripted b false o i = operate [o, i] (getItem o i)
noncomputable def IxR (X : Cx) (r : R2) : Prop :=
  ∀ (value slice : Expr) (pins : List (Addr × Obj)) (s : Shared) (σ : St) (H : Hp) (x y : V) (v u : Value) (Q : VK), Inv X pins σ H s → RelV x v → RelV y u → r x y H Q →
    subscripted slice false v u = operate [v, u] (getItem v u) → wpAny (model X.prog X.w) X.A (subscriptTail value slice v u) (EP X pins σ Q) X.xe s
noncomputable def MtR (X : Cx) (id : String) (r : V → List V → Hp → VK → Prop) : Prop :=
  ∀ (pins : List (Addr × Obj)) (s : Shared) (σ : St) (H : Hp) (x : V) (xs : List V) (v : Value) (us : List Value) (Q : VK), Inv X pins σ H s → RelV x v → Vals xs us → r x xs H Q →
    wpAny (model X.prog X.w) X.A (call (.builtin id) (v :: us)) (EP X pins σ Q) X.xe s
section
variable {X : Cx} {a b : Expr} {ta tb : TE} {pos : Pos}
theorem pe_ix {r : R2} (hr : IxR X r) (ha : PE X a ta) (hb : PE X b tb) (hs : PlainIx b) : PE X (.Subscript a b pos) (tOp r ta tb) := by
  intro pins s σ H Q I h
  exact Subscript_ (binT ha hb I h fun v u s2 x y H2 I2 rx ry q => hr a b pins s2 σ H2 x y v u Q I2 rx ry q (hs _ _))
theorem ze_ix {r : R2} (hr : IxR X r) (ha : ZE X a ta) (hb : ZE X b tb) (hs : PlainIx b) : ZE X (.Subscript a b pos) (tOp r ta tb) := by with_unfolding_all exact pe_ix hr ha hb hs

noncomputable def rIxL (K : PySem.W.Frag) : R2 := fun x y H Q => ∃ p xs i v, x = .ref p ∧ y = .int i ∧ SqL K H p xs ∧ atI xs i = some v ∧ Q v H
noncomputable def rIxT (K : PySem.W.Frag) : R2 := fun x y H Q => ∃ p xs i v, x = .ref p ∧ y = .int i ∧ SqT K H p xs ∧ atI xs i = some v ∧ Q v H
theorem ix_list : IxR X (rIxL X.K) := by
  intro value slice pins s σ H x y v u Q I rx ry h hs
  obtain ⟨p, xs, i, z, rfl, rfl, hq, he, q⟩ := h
  cases rx
  obtain ⟨t, rfl⟩ := ry
  obtain ⟨its, r, pl, hz⟩ := I.list hq
  obtain ⟨j, h1, h2, h3, h4, h5⟩ := atI_get he
  obtain ⟨w, ew, rw'⟩ := r.get h2
  have hl := r.length
  have hn := line63
  have fin : EP X pins σ Q w s := ⟨z, H, I, rw', q⟩
  by_cases h0 : 0 ≤ i
  · have hj : i.toNat = j := by
      rw [seqIndex_of h0 h5] at h1
      exact Option.some.inj h1
    exact item_listR pl.isList h0 (by omega) (by rw [hj]; simpa using ew) fin hs
  · have hj : (i + (its.toArray.size : Int)).toNat = j := by
      rw [seqIndex_neg (by omega) h4] at h1
      rw [List.size_toArray, ← hl]
      exact Option.some.inj h1
    exact subscriptTail_builtinR (x := w) pl.isList.typeIs slot_list_getitem.lookup
      (wpAny_getItem_list_neg (Q := fun r s' => r = w ∧ EP X pins σ Q r s') pl.isList (by omega) (by rw [List.size_toArray] <;> omega) (by omega) (by rw [hj]; simpa using ew) ⟨rfl, fin⟩) hs
theorem ix_tup : IxR X (rIxT X.K) := by
  intro value slice pins s σ H x y v u Q I rx ry h hs
  obtain ⟨p, xs, i, z, rfl, rfl, hq, he, q⟩ := h
  cases rx
  obtain ⟨t, rfl⟩ := ry
  obtain ⟨its, r, pl, hz⟩ := I.tuple hq
  obtain ⟨j, h1, h2, h3, h4, h5⟩ := atI_get he
  obtain ⟨w, ew, rw'⟩ := r.get h2
  have hl := r.length
  have hn := line63
  have fin : EP X pins σ Q w s := ⟨z, H, I, rw', q⟩
  exact subscriptTail_builtinR (x := w) pl.typeIs slot_tuple_getitem.lookup
    (getItem_tuple (j := j) (Q := fun r s' => r = w ∧ EP X pins σ Q r s') pl (by omega) (by omega) (by rw [List.size_toArray, ← hl]; exact h1) (by simpa using ew) ⟨rfl, fin⟩) hs
theorem mapSeq_set (its : List Value) (n j : Nat) (u : Value) : Obj.mapSeq (·.setIfInBounds j u) { cls := .type "list", data := .seq its.toArray n } = { cls := .type "list", data := .seq (its.set j u).toArray n } := by
  simp [Obj.mapSeq]
theorem Inv.lst {pins : List (Addr × Obj)} {σ : St} {H : Hp} {s : Shared} {p : Addr} {xs : List V} (I : Inv X pins σ H s) (h : H p = some (.lst xs)) :
    ∃ (its : List Value) (n : Nat), Vals xs its ∧ s.heap.get? p = some { cls := .type "list", data := .seq its.toArray n } ∧ xs.length ≤ sizeLine := by
  obtain ⟨z, its, n, r, e⟩ := I.hok p _ h
  exact ⟨its, n, r, e, z⟩
theorem Inv.lstUpd {pins : List (Addr × Obj)} {σ : St} {H : Hp} {s : Shared} {p : Addr} {xs ys : List V} {its its' : List Value} {n n' : Nat} {f : Obj → Obj} (I : Inv X pins σ H s) (h : H p = some (.lst xs))
    (ho : s.heap.get? p = some { cls := .type "list", data := .seq its.toArray n }) (hf : f { cls := .type "list", data := .seq its.toArray n } = { cls := .type "list", data := .seq its'.toArray n' }) (r : Vals ys its') (hz : ys.length ≤ sizeLine) (t : Nat) :
    Inv X pins σ (upd H p (.lst ys)) { s with heap := s.heap.update p f, toks := t } := by
  have e : (s.heap.update p f).get? p = some { cls := .type "list", data := .seq its'.toArray n' } := by
    rw [Heap.get?_update_self f ho (by rw [hf] <;> rfl), hf]
  refine I.write (x := p) (e := p) (by rw [h]; trivial) (.inl rfl) (fun b u hb q => (Heap.get?_update_other _ _ (Ne.symm hb)).trans q) ⟨_, e⟩ ?_
  exact ⟨hz, its', n', r, e⟩
noncomputable def rSetL : V → V → V → Hp → (Hp → Prop) → Prop := fun o i v H Q => ∃ p xs k j, o = .ref p ∧ i = .int k ∧ H p = some (.lst xs) ∧ ixN xs.length k = some j ∧ Q (upd H p (.lst (xs.set j v)))
theorem set_list : PSet X rSetL := by
  intro pins s σ H o i v ov iv u Q I ro ri rv h
  obtain ⟨p, xs, k, j, rfl, rfl, hp, hj, q⟩ := h
  cases ro
  obtain ⟨t, rfl⟩ := ri
  obtain ⟨its, n, r, ho, hz⟩ := I.lst hp
  obtain ⟨h1, h2, h3, h4⟩ := ixN_seq hj
  have hl := r.length
  have hn := line63
  have I' : Inv X pins σ (upd H p (.lst (xs.set j v))) { s with heap := s.heap.update p (Obj.mapSeq (·.setIfInBounds j u)) } :=
    I.lstUpd hp ho (mapSeq_set its n j u) (r.set rv j) (by rw [List.length_set]; exact hz) s.toks
  by_cases h0 : 0 ≤ k
  · have hk : k.toNat = j := by
      rw [seqIndex_of h0 h4] at h1
      exact Option.some.inj h1
    exact PySem.W.ki_setAt ho h0 (by omega) (by rw [List.size_toArray, ← hl]; exact h4) (by rw [hk]; exact ⟨_, I', q⟩)
  · have hk : (k + (its.toArray.size : Int)).toNat = j := by
      rw [seqIndex_neg (by omega) h3] at h1
      rw [List.size_toArray, ← hl]
      exact Option.some.inj h1
    exact PySem.W.ki_setBack ho (by omega) (by rw [List.size_toArray, ← hl]; exact h3) (by omega) (by rw [hk]; exact ⟨_, I', q⟩)

theorem slice_bounds (lo hi : Option Int) (n : Nat) : (sliceBounds lo hi none n).1 = ((HT.sIx n 0 lo : Nat) : Int) ∧ (sliceBounds lo hi none n).2.1 = ((HT.sIx n n hi : Nat) : Int) ∧ (sliceBounds lo hi none n).2.2 = 1 := by
  refine ⟨?_, ?_, rfl⟩
  · cases lo with
    | none => simp [sliceBounds, HT.sIx]
    | some i =>
      simp only [sliceBounds, HT.sIx, Option.getD_none, show (1 : Int) > 0 by decide, if_true]
      by_cases h : i < 0
      · simp only [h, if_true] <;> omega
      · simp only [h, if_false] <;> omega
  · cases hi with
    | none => simp [sliceBounds, HT.sIx]
    | some i =>
      simp only [sliceBounds, HT.sIx, Option.getD_none, show (1 : Int) > 0 by decide, if_true]
      by_cases h : i < 0
      · simp only [h, if_true] <;> omega
      · simp only [h, if_false] <;> omega
theorem slicePick_cut (its : List Value) (lo hi : Option Int) : slicePick its.toArray lo hi none = ((its.drop (HT.sIx its.length 0 lo)).take (HT.sIx its.length its.length hi - HT.sIx its.length 0 lo)).toArray := by
  obtain ⟨h1, h2, h3⟩ := slice_bounds lo hi its.toArray.size
  unfold slicePick
  rw [h1, h2, h3]
  simp only [sliceRange_one, pick_run, List.size_toArray] <;> rfl
noncomputable def rSlL (K : PySem.W.Frag) : V → Option Int → Option Int → Hp → VK → Prop := fun x lo hi H Q => ∃ a xs, x = .ref a ∧ SqL K H a xs ∧ ∀ p, H p = none → Q (.ref p) (upd H p (.lst (cutV xs lo hi)))
theorem sl_list : SlR X (rSlL X.K) := by
  intro pins s σ H x v vl vu lo hi sl Q I rx hs pl pu h
  obtain ⟨a, xs, rfl, hx, q⟩ := h
  cases rx
  obtain ⟨its, r, ht, hz⟩ := I.list hx
  have hlen := r.length
  refine ⟨"list", _, slot_list_getitem.lookup, ht.isList.typeIs, ?_⟩
  refine wpAny_getItem_list_slice ht.isList hs pl pu .none (by simp) ?_ (by rw [List.size_toArray] <;> omega)
  rw [slicePick_cut, ← hlen]
  refine ⟨.ref s.heap.objs.size, _, I.laid (t' := s.toks) (o := .lst (cutV xs lo hi)) (fun b ob q => Heap.get?_push_of_some _ q) (Nat.le_refl _) ?_, rfl, q _ (I.hok.fresh (Nat.le_refl _))⟩
  exact ⟨Nat.le_trans (cutV_length xs lo hi) hz, _, 0, (r.drop (HT.sIx xs.length 0 lo)).take (HT.sIx xs.length xs.length hi - HT.sIx xs.length 0 lo), Heap.get?_push_size _ rfl⟩

theorem call_len_seq : CallR X (.builtin "len") (fun xs H Q => ∃ p ys, xs = [.ref p] ∧ (SqL X.K H p ys ∨ SqT X.K H p ys) ∧ Q (.int ys.length) H) := by
  intro pins s σ H xs us Q I r h
  obtain ⟨p, ys, rfl, hq, q⟩ := h
  obtain ⟨u, rfl, rx⟩ := vals1 r
  cases rx
  have hn := line63
  rcases hq with hq | hq
  · obtain ⟨its, r', pl, hz⟩ := I.list hq
    have hlen := r'.length
    exact Calls.call_len_list pl.isList (by simp only [List.size_toArray] <;> omega) ⟨.int ys.length, H, I.tok _, ⟨s.toks + 1, by rw [List.size_toArray, hlen]⟩, q⟩
  · obtain ⟨its, r', pl, hz⟩ := I.tuple hq
    have hlen := r'.length
    exact len_tuple pl (by simp only [List.size_toArray] <;> omega) ⟨.int ys.length, H, I.tok _, ⟨s.toks + 1, by rw [List.size_toArray, hlen]⟩, q⟩
theorem call_list_of : CallR X (.type "list") (fun xs H Q => ∃ p ys, xs = [.ref p] ∧ (SqL X.K H p ys ∨ SqT X.K H p ys) ∧ ∀ l, H l = none → Q (.ref l) (upd H l (.lst ys))) := by
  intro pins s σ H xs us Q I r h
  obtain ⟨p, ys, rfl, hq, q⟩ := h
  obtain ⟨u, rfl, rx⟩ := vals1 r
  cases rx
  have fin : ∀ (its : List Value), Vals ys its → ys.length ≤ sizeLine → ∀ (h' : Heap) (c' : Nat), (∀ b o', s.heap.get? b = some o' → h'.get? b = some o') →
      h'.get? s.heap.objs.size = some { cls := .type "list", dict := none, data := .seq its.toArray c', slots := #[] } → EP X pins σ Q (.ref s.heap.objs.size) { s with heap := h' } := fun its r' hz h' c' kp e =>
    ⟨.ref s.heap.objs.size, _, I.laid (t' := s.toks) kp (Nat.le_refl _) (show ObjOk X.prog X.w _ h' _ (.lst ys) from ⟨hz, its, c', r', e⟩), rfl, q _ (I.hok.fresh (Nat.le_refl _))⟩
  rcases hq with hq | hq
  · obtain ⟨its, r', pl, hz⟩ := I.list hq
    have hlen := r'.length
    obtain ⟨o, ho, hc, n, hd⟩ := pl.isList
    exact call_list_seq p (.inl rfl) ho hc hd (fun h' c' kp e => fin its r' hz h' c' kp e) (by simp only [List.size_toArray] <;> omega)
  · obtain ⟨its, r', pl, hz⟩ := I.tuple hq
    have hlen := r'.length
    obtain ⟨o, ho, hc, n, hd⟩ := pl
    exact call_list_seq p (.inr rfl) ho hc hd (fun h' c' kp e => fin its r' hz h' c' kp e) (by simp only [List.size_toArray] <;> omega)
theorem call_tuple_of : CallR X (.type "tuple") (fun xs H Q => ∃ p ys, xs = [.ref p] ∧ ((SqL X.K H p ys ∧ ∀ l, H l = none → Q (.ref l) (upd H l (.tup ys))) ∨ (SqT X.K H p ys ∧ Q (.ref p) H))) := by
  intro pins s σ H xs us Q I r h
  obtain ⟨p, ys, rfl, h⟩ := h
  obtain ⟨u, rfl, rx⟩ := vals1 r
  cases rx
  rcases h with ⟨hq, q⟩ | ⟨hq, q⟩
  · obtain ⟨its, r', pl, hz⟩ := I.list hq
    have hlen := r'.length
    refine call_tuple_list pl.isList (fun h' kp => ?_) (by simp only [List.size_toArray] <;> omega)
    have I1 : Inv X pins σ H { s with heap := h' } := I.kept (t' := s.toks) kp
    have I2 : Inv X pins σ (upd H h'.objs.size (.tup ys)) { s with heap := h'.push { cls := .type "tuple", data := .seq its.toArray } } :=
      I1.laid (t' := s.toks) (fun b o e => Heap.get?_push_of_some _ e) (Nat.le_refl _) (show ObjOk X.prog X.w _ _ _ (.tup ys) from ⟨hz, its, r', TupD.new _ _⟩)
    exact ⟨.ref h'.objs.size, _, I2, rfl, q _ (I1.hok.fresh (Nat.le_refl _))⟩
  · obtain ⟨its, r', pl, hz⟩ := I.tuple hq
    exact call_tuple_same pl ⟨.ref p, H, I, rfl, q⟩

noncomputable def tyV (K : PySem.W.Frag) (T : String) (x : V) (H : Hp) : Prop := match x with
  | .str _ => T = "str"
  | .int _ => T = "int"
  | .ref p => (T = "list" ∧ ∃ xs, SqL K H p xs) ∨ (T = "tuple" ∧ ∃ o, K.lookup p = some o ∧ o.cls = .type "tuple" ∧ o.dict = none) ∨
      (T = "dict" ∧ ((∃ kvs, H p = some (.dK kvs)) ∨ ∃ kvs, H p = some (.dT kvs))) ∨ (T = "set" ∧ ∃ S n, H p = some (.set S n)) ∨ (T = "tuple" ∧ ∃ xs, H p = some (.tup xs))
  | _ => False
theorem tyV_is {pins : List (Addr × Obj)} {σ : St} {H : Hp} {s : Shared} {T : String} {x : V} {v : Value} (I : Inv X pins σ H s) (r : RelV x v) (ty : tyV X.K T x H) :
    s.TypeIs v T ∧ ∀ a, v = .ref a → ∃ ob, s.heap.get? a = some ob ∧ ob.dict = none := by
  cases x with
  | str z =>
    obtain ⟨t, rfl⟩ := r
    cases (show T = "str" from ty)
    exact ⟨typeIs_str s z t, fun _ e => nomatch e⟩
  | int i =>
    obtain ⟨t, rfl⟩ := r
    cases (show T = "int" from ty)
    exact ⟨typeIs_int s i t, fun _ e => nomatch e⟩
  | ref p =>
    cases r
    rcases ty with ⟨rfl, xs, hq⟩ | ⟨rfl, o, hk, hc, hd⟩ | ⟨rfl, hk⟩ | ⟨rfl, S, n, hk⟩ | ⟨rfl, xs, hk⟩
    · obtain ⟨its, _, pl, _⟩ := I.list hq
      refine ⟨pl.isList.typeIs, fun a e => ?_⟩
      cases e
      obtain ⟨o, n, e, c, hd, _⟩ := pl
      exact ⟨o, e, hd⟩
    · refine ⟨⟨o, I.kIn p o hk, hc⟩, fun a e => ?_⟩
      cases e
      exact ⟨o, I.kIn _ o hk, hd⟩
    · have z : ∃ o, s.heap.get? p = some o ∧ o.ExactDict := by
        rcases hk with ⟨kvs, hk⟩ | ⟨kvs, hk⟩
        · obtain ⟨_, _, _, _, o, _, _, e, ex, _⟩ := I.hok p _ hk
          exact ⟨o, e, ex⟩
        · obtain ⟨_, _, _, _, o, _, _, e, ex, _⟩ := I.hok p _ hk
          exact ⟨o, e, ex⟩
      obtain ⟨o, e, ex⟩ := z
      refine ⟨⟨o, e, ex.1⟩, fun a e2 => ?_⟩
      cases e2
      exact ⟨o, e, ex.2.1⟩
    · obtain ⟨o, _, _, _, e, ex, _⟩ := I.hok p _ hk
      refine ⟨⟨o, e, ex.1⟩, fun a e2 => ?_⟩
      cases e2
      exact ⟨o, e, ex.2.1⟩
    · obtain ⟨_, _, _, n, e⟩ := I.hok p _ hk
      refine ⟨⟨_, e, rfl⟩, fun a e2 => ?_⟩
      cases e2
      exact ⟨_, e, rfl⟩
  | _ => exact False.elim ty
noncomputable def tBM (K : PySem.W.Frag) (T : String) (r : V → List V → Hp → VK → Prop) (to : TE) (t : TA) : TE := fun σ H Q => to σ H fun x H1 => tyV K T x H1 ∧ t σ H1 fun xs H2 => r x xs H2 Q
variable {o e : Expr} {es : List Expr} {to : TE} {t : TA} {name : Str} {apos cpos : Pos} {T id : String} {r : V → List V → Hp → VK → Prop}
theorem pe_bm (pa : PlainAttrs T) (slot : Slot T name id) (hty : typeOf (.builtin id) = pure (.type "method_descriptor")) (hm : MtR X id r) (ho : PE X o to) (ha : PA X (e :: es) t)
    (hbase : attributeBase o name X.env (eval o X.env) = eval o X.env := by rfl)
    (hfew : ((backTo cpos (starEach (e :: es) X.env)).all (fun x => !x.1) && (backToKw cpos (keywordEach [] X.env)).all (fun x => x.1.isSome)
      && decide ((e :: es).length + ([] : List Keyword).length + (if ([] : List Keyword).isEmpty then 0 else 1) < 30)) = true := by rfl)
    (hline : (apos.endLine == cpos.line) = true := by rfl) (hs : starEach (e :: es) X.env = (false, eval e X.env) :: starEach es X.env := by rfl) (hplain : (backTo cpos (starEach es X.env)).any (·.1) = false := by rfl) :
    PE X (.Call (.Attribute o name apos) (e :: es) [] cpos) (tBM X.K T r to t) := by
  intro pins s σ H Q I h
  refine wpAny_Call_method_late hbase hfew hline rfl (thn (ho pins s σ H _ I h) fun v s1 ⟨x, H1, I1, r1, ty, q1⟩ => ?_)
  obtain ⟨h1, h2⟩ := tyV_is I1 r1 ty
  refine ⟨T, id, pa, slot, hty, h1, h2, ?_⟩
  have hA := ha cpos pins s1 σ H1 _ I1 q1
  rw [hs] at hA ⊢
  refine Calls.callWith_builtin (by show (false || (backTo cpos (starEach es X.env)).any (·.1)) = false; rw [hplain] <;> rfl) (Calls.evalArgs_plain ?_)
  exact thn hA fun us s2 ⟨vs, H2, I2, r2, q2⟩ => hm pins s2 σ H2 x vs v us Q I2 r1 r2 q2
/- xs.append(e), list.index on a module's tuple .. are MtR facts of 06m -/
end
end L2
namespace L2
open PySem PySem.Spec PyProof.Rows
noncomputable def MtM (X : Cx) (id : String) (r : V → List V → Hp → VK → Prop) : Prop :=
  ∀ (pins : List (Addr × Obj)) (s : Shared) (σ : St) (H : Hp) (x : V) (xs : List V) (v : Value) (us : List Value) (Q : VK), Inv X pins σ H s → RelV x v → Vals xs us → r x xs H Q →
    wpAny (model X.prog X.w) X.A (call (.builtin id) (v :: us)) (EP X pins σ Q) X.xe s

theorem Vals.one : ∀ {x : V} {us : List Value}, Vals [x] us → ∃ u, us = [u] ∧ RelV x u
  | _, _, .cons r .nil => ⟨_, rfl, r⟩
theorem Vals.rep {xs : List V} {us : List Value} (h : Vals xs us) : ∀ k : Nat, Vals (List.replicate k xs).flatten (List.replicate k us).flatten
  | 0 => .nil
  | k + 1 => by
    rw [List.replicate_succ, List.replicate_succ, List.flatten_cons, List.flatten_cons]
    exact Vals.append h (Vals.rep h k)
theorem foldl_rep (its : List Value) : ∀ (k : Nat) (acc : List Value),
    List.foldl (fun x1 x2 => x1 ++ x2) acc.toArray (List.replicate k its.toArray) = (acc ++ (List.replicate k its).flatten).toArray
  | 0, acc => by simp
  | k + 1, acc => by
    have e : acc.toArray ++ its.toArray = (acc ++ its).toArray := by simp
    have e2 : (acc ++ its) ++ (List.replicate k its).flatten = acc ++ (List.replicate (k + 1) its).flatten := by
      rw [List.replicate_succ, List.flatten_cons, List.append_assoc]
    rw [← e2, ← foldl_rep its k (acc ++ its), ← e, List.replicate_succ, List.foldl_cons]

section
variable {X : Cx} {pins : List (Addr × Obj)} {σ : St} {H : Hp} {s : Shared} {l b : Addr} {xs ys zs : List V}
theorem Inv.lset {its its' : List Value} {n : Nat} {f : Array Value → Array Value} {t' : Nat} (I : Inv X pins σ H s) (hH : H l = some (.lst xs))
    (e : s.heap.get? l = some { cls := .type "list", data := .seq its.toArray n }) (hf : f its.toArray = its'.toArray) (hv : Vals ys its') (hz : ys.length ≤ sizeLine) :
    Inv X pins σ (upd H l (.lst ys)) { s with heap := s.heap.update l (Obj.mapSeq f), toks := t' } := by
  have q := PySem.IsL.update e f
  rw [hf] at q
  refine I.write (x := l) (e := l) (by rw [hH]; exact trivial) (.inl rfl) (fun b' u hb hu => (Heap.get?_update_other s.heap (Obj.mapSeq f) (Ne.symm hb)).trans hu) ⟨_, q⟩ ?_
  exact ⟨hz, its', _, hv, q⟩
theorem Inv.lnew {its : List Value} {t' : Nat} (I : Inv X pins σ H s) (hv : Vals ys its) (hz : ys.length ≤ sizeLine) :
    Inv X pins σ (upd H s.heap.objs.size (.lst ys)) { s with heap := s.heap.push { cls := .type "list", data := .seq its.toArray }, toks := t' } :=
  I.laid (fun _ _ q => Heap.get?_push_of_some _ q) (Nat.le_refl _) ⟨hz, its, 0, hv, Heap.get?_push_size _ rfl⟩
theorem Inv.fresh (I : Inv X pins σ H s) : H s.heap.objs.size = none := I.hok.fresh (Nat.le_refl _)
theorem Inv.lstM (I : Inv X pins σ H s) (hH : H l = some (.lst xs)) : xs.length ≤ sizeLine ∧ ∃ (its : List Value) (n : Nat), Vals xs its ∧ xs.length = its.length ∧ s.heap.get? l = some { cls := .type "list", data := .seq its.toArray n } := by
  obtain ⟨z, its, n, r, e⟩ := I.hok l _ hH
  exact ⟨z, its, n, r, r.length, e⟩

theorem notLongL {n : Nat} (h : n ≤ sizeLine) : Builtin.List.listTooLong n = false := by
  unfold Builtin.List.listTooLong
  exact decide_eq_false (by omega)
end
section
variable {X : Cx}
noncomputable def rAppend : V → List V → Hp → VK → Prop := fun x vs H Q => ∃ l xs y, x = .ref l ∧ vs = [y] ∧ H l = some (.lst xs) ∧ xs.length < sizeLine ∧ Q .non (upd H l (.lst (xs ++ [y])))
theorem mt_append : MtM X "list.append" rAppend := by
  intro pins s σ H x vs v us Q I rx rv h
  obtain ⟨l, xs, y, rfl, rfl, hH, hz, q⟩ := h
  cases rx
  obtain ⟨u, rfl, ru⟩ := rv.one
  obtain ⟨z, its, n, r, hl, e⟩ := I.lstM hH
  refine call_meets F.slot_list_append ⟨_, e, rfl⟩ F.entry_list_append (F.args_list_append_2 _ _) (PySem.list_append l its.toArray n u (by rw [List.size_toArray]; omega)) ⟨e, ?_⟩
  refine ⟨.non, _, I.lset (its' := its ++ [u]) hH e (by simp) (r.append (.cons ru .nil)) ?_, rfl, q⟩
  rw [List.length_append, List.length_singleton]
  omega

noncomputable def rCat : R2 := fun x y H Q => ∃ l b xs zs, x = .ref l ∧ y = .ref b ∧ H l = some (.lst xs) ∧ H b = some (.lst zs) ∧ xs.length + zs.length ≤ sizeLine ∧ ∀ p, H p = none → Q (.ref p) (upd H p (.lst (xs ++ zs)))
theorem op_cat : OpR X (binaryOp .Add) rCat := by
  intro pins s σ H x y v u Q I rx ry h
  obtain ⟨l, b, xs, zs, rfl, rfl, hH, hB, hz, q⟩ := h
  cases rx
  cases ry
  obtain ⟨z, its, n, r, hl, e⟩ := I.lstM hH
  obtain ⟨z2, its2, n2, r2, hl2, e2⟩ := I.lstM hB
  refine PySem.P.add_list e e2 ?_ (by rw [List.size_toArray, List.size_toArray]; omega)
  have ea : its.toArray ++ its2.toArray = (its ++ its2).toArray := by simp
  rw [ea]
  exact ⟨.ref _, _, I.lnew (t' := s.toks) (r.append r2) (by rw [List.length_append]; omega), rfl, q _ I.fresh⟩
noncomputable def rRep : R2 := fun x y H Q => ∃ l k xs, x = .ref l ∧ y = .int k ∧ H l = some (.lst xs) ∧ -(2 ^ 63) ≤ k ∧ k < 2 ^ 63 ∧ xs.length * k.toNat ≤ sizeLine ∧
  ∀ p, H p = none → Q (.ref p) (upd H p (.lst (List.replicate k.toNat xs).flatten))
theorem len_rep {α : Type} (xs : List α) (k : Nat) : (List.replicate k xs).flatten.length = k * xs.length := by
  induction k with
  | zero => simp
  | succ k ih => rw [List.replicate_succ, List.flatten_cons, List.length_append, ih, Nat.succ_mul, Nat.add_comm]
theorem op_rep : OpR X (binaryOp .Mult) rRep := by
  intro pins s σ H x y v u Q I rx ry h
  obtain ⟨l, k, xs, rfl, rfl, hH, h1, h2, hz, q⟩ := h
  cases rx
  obtain ⟨t, rfl⟩ := ry
  obtain ⟨z, its, n, r, hl, e⟩ := I.lstM hH
  have hlen : its.toArray.size * k.toNat ≤ sizeLine := by rw [List.size_toArray, ← hl]; exact hz
  have hcap : ¬ its.toArray.size * k.toNat > (2 ^ 63 - 1) / 8 := by
    have : (sizeLine : Nat) ≤ (2 ^ 63 - 1) / 8 := by decide
    omega
  have hfit : ¬ (!Builtin.List.listFitsIndex k) = true := by
    rw [fitsIndex_both h1 h2]
    exact Bool.false_ne_true
  have hlong : ¬ Builtin.List.listTooLong (its.toArray.size * k.toNat) = true := by
    rw [notLongL hlen]
    exact Bool.false_ne_true
  have hnew : List.foldl (fun x1 x2 => x1 ++ x2) #[] (List.replicate (if its.toArray.isEmpty = true then 0 else k.toNat) its.toArray) = (List.replicate k.toNat its).flatten.toArray := by
    have f0 : ∀ m : Nat, List.foldl (fun x1 x2 => x1 ++ x2) #[] (List.replicate m its.toArray) = (List.replicate m its).flatten.toArray := fun m => by
      have := foldl_rep its m []
      rw [List.nil_append] at this
      exact this
    rw [f0]
    cases its with
    | nil => simp
    | cons a r' => rw [if_neg (by simp)]
  refine wpAny_binaryOp_repeat_ref (T := "list") (U := "int") (by decide) ⟨_, e, rfl⟩ (fun s' => typeIs_int s' k t) noFill_list_mul F.fills_int_mul F.slot_int_rmul repeat_list F.slot_int_index.lookup
    (call_meets F.slot_int_rmul (typeIs_int s k t) F.entry_int_rmul (F.args_int_rmul_2 _ _) (int___rmul___int_list k t l its.toArray n)
      ⟨e, rfl, ⟨_, e, rfl⟩, call_meets F.slot_list_mul ⟨_, e, rfl⟩ F.entry_list_mul (F.args_list_mul_2 _ _) (AutoListH.list___mul___list_int_3 l its.toArray n k t hfit hcap hlong) ⟨e, ?_⟩⟩)
  rw [hnew]
  exact ⟨.ref _, _, I.lnew (t' := s.toks) (r.rep k.toNat) (by rw [len_rep, Nat.mul_comm]; exact hz), rfl, q _ I.fresh⟩

end
section
variable {prog : Program} {w : World} {A : Around} {E : Value → Shared → Prop} {s : Shared}
end
section
variable {X : Cx}
end
end L2
namespace Att
open PySem PySem.W PySem.Calls PyProof.Rows
theorem ints_of_wellAll {P : Params} {h : Heap} : ∀ (ns : List Int) (vs : List Value), WellAll P h vs (ns.map WData.int) → IntsAre vs ns := by
  intro ns
  induction ns with
  | nil =>
    intro vs w
    rw [List.map_nil] at w
    cases w
    exact .nil
  | cons n ns ih =>
    intro vs w
    rw [List.map_cons] at w
    cases w with
    | cons a b =>
      cases a
      exact .cons _ _ (ih _ b)

theorem script_of {l : OpenLaw} {n : Nat} (hn : l.most = some n) {P : Params} {h : Heap} {args : List WData} {vals : List Value}
    (hpre : l.row.toRowW.claim.pre args = true) (hwl : WellAll P h vals args) :
    ∃ a vs ns, vals = [Value.ref a] ∧ args = [WData.list (ns.map WData.int)] ∧ h.get? a = some { cls := .type "list", data := .seq vs.toArray } ∧ IntsAre vs ns ∧ ns.length ≤ n := by
  have hsh : WShape.hasAll [] args [.list .int] = true := (pre_splitW hpre).1
  have hc : l.pre.holds [] { args := args } = true := (pre_splitW hpre).2
  obtain ⟨d, r, rfl, h1, h2⟩ := hasAllW_cons hsh
  obtain rfl := hasAllW_nil h2
  obtain ⟨xs, rfl, h3⟩ := hasW_list h1
  obtain ⟨ns, rfl⟩ := items_int h3
  have hlen : ns.length ≤ n := by
    unfold OpenLaw.pre at hc
    have h4 : (WTm.not (.lt (.lit (.int (n : Int))) (.len (.arg 0)))).holds [] { args := [.list (ns.map .int)] } = true := by
      have h4 := (holds_andW hc).1
      rw [hn] at h4
      exact h4
    have h5 := condW_of h4 (w_not (w_lt w_lit (w_len_list (w_arg rfl))))
    rw [List.length_map] at h5
    refine Nat.le_of_not_lt fun q => ?_
    have q' : (n : Int) < ((ns.length : Nat) : Int) := by omega
    first
      | (rw [decide_eq_true q'] at h5; exact absurd h5 (by decide))
      | (simp at h5; omega)
  cases hwl with
  | cons w1 w2 =>
    cases w2
    cases w1 with
    | list ho hall => exact ⟨_, _, ns, rfl, rfl, ho, ints_of_wellAll ns _ hall, hlen⟩

theorem post_true (l : OpenLaw) (args : List WData) : l.row.toRowW.claim.post args (.bool true) args = true :=
  postW_of (r := l.row.toRowW) (X := (true == true))
    (show WShape.has [] (.bool true) .bool = true by first | rfl | decide | simp [WShape.has, WShape.arms, WShape.armsAll])
    (show (WTm.eq .res (.lit (.bool true))).value [] { args := args, res := some (.bool true), after := args } = some (.bool (true == true)) from w_eq_bool (w_res rfl) w_lit) rfl

theorem attach_call {l : OpenLaw} {n : Nat} {q : Program} {loose : List Str} {XP : (Str → Option Value) → Heap → Prop} {YP : World → Heap → Prop} {d : DefRec}
    (hn : l.most = some n) (hdf : d.params.defaults = [])
    (call : ∀ (w : World) (s₀ s₁ : Shared) (mg mb : Str → Option Value) (fa : Addr) (o : Obj) (pm cd doc : Value) (a : Addr) (vs : List Value) (ns : List Int),
      Ground q loose [] XP w s₀ mg mb s₁.heap → YP w s₁.heap →
      s₁.heap.get? fa = some o → o.data = .func (docDef d.name d.params d.body d.scope pm cd doc) → s₁.heap.CodeRec cd d.name → mg d.name = some (.ref fa) →
      s₁.heap.get? a = some { cls := .type "list", data := .seq vs.toArray } → IntsAre vs ns → ns.length ≤ n → s₁.gens = #[] →
      codeAny (model l.prog w) callerA (.call (.ref fa) ⟨[.ref a], []⟩) (fun r s' => r = .ok (.ret (.bool true)) ∧ OldK s₁.heap s'.heap ∧ s'.os = s₁.os ∧ AllBare s'.gens) s₁) :
    WalkO q loose XP YP l.row.toRowW d [] (fun f vs => PySem.call f vs) := by
  intro w s₀ s₁ mg mb G Y fa o pm cd doc dV kV ho hd hcd hD hmg hg args vals as hpre hlay hrd hwl hlo
  obtain rfl : dV = .none := Dflts.none hD hdf
  obtain rfl : kV = .none := Dflts.noKw hD
  obtain ⟨a, vs, ns, rfl, rfl, hobj, hints, hlen⟩ := script_of hn hpre hwl
  refine enter_call (codeAny_mono (call w s₀ s₁ mg mb fa o pm cd doc a vs ns G Y ho (fd_plain hd) hcd hmg hobj hints hlen hg) fun r s' hq => ?_)
  obtain ⟨rfl, h2, h3, h4⟩ := hq
  exact ⟨.inl ⟨.bool true, .bool true, [], rfl, fun _ => rfl, .bool true, post_true l _, fun _ => ⟨List.Pairwise.nil, fun _ hm => (nomatch hm)⟩⟩, h2, h3, h4⟩

section
variable {prog : Program} {w : World} {A : Around} {E : Value → Shared → Prop} {s : Shared} {K : Frag}
end
end Att
namespace L2
open PySem PySem.Spec PyProof.Rows
theorem vals_ints : ∀ {vs : List Value} {ns : List Int}, IntsAre vs ns → Vals (ns.map V.int) vs
  | _, _, .nil => .nil
  | _, _, .cons n t h => .cons ⟨t, rfl⟩ (vals_ints h)

noncomputable def Only (H : Hp) : Prop := ∀ b, H b = none ∨ ∃ o xs, H b = some (.frz o (.lst xs))

theorem law_call {P : Program} {w : World} {K : PySem.W.Frag} {mg mb : Str → Option Value} {CX : CXT} {k : Nat} {fa a : Addr} {fd : FuncData} {x : Str} {sp : Sp} {s₁ : Shared} {vs : List Value} {ns : List Int}
    (KX : K.In s₁.heap) (hns : s₁.heap.Ns mainGlobals mg) (hb : s₁.heap.Ns builtinsNs mb) (hbb : ∀ x : Str, x ≠ "__name__" → mb x = bootBuiltins x) (hlim : s₁.heap.NoLimit) (hg : s₁.gens = #[])
    (ha : s₁.heap.get? a = some { cls := .type "list", data := .seq vs.toArray }) (hi : IntsAre vs ns) (hl : ns.length ≤ sizeLine) (hr : Room k callerA)
    (F : ∀ base : Heap, K.In base → base.Ns mainGlobals mg → FnOk P w K mg base CX k fa fd [x] sp) (hbind : ∀ (s : Shared) (u : Value), BindsTo s fd ⟨[u], []⟩ [(x, u)])
    (hsp : ∀ H : Hp, Only H → SqL K H a (ns.map V.int) → sp [.ref a] H (fun v _ => v = .bl true) fun _ _ _ => False)
    (hCX : ∀ H e s', CX [] H s₁ (fun _ _ _ => False) e s' → False) :
    codeAny (model P w) callerA (.call (.ref fa) ⟨[.ref a], []⟩) (fun r s' => r = .ok (.ret (.bool true)) ∧ OldK s₁.heap s'.heap ∧ s'.os = s₁.os ∧ AllBare s'.gens) s₁ := by
  have rv := vals_ints hi
  have lenV := hi.length
  -- from an abstract heap in which nothing but the script may be tracked
  have core : ∀ H : Hp, Only H → SqL K H a (ns.map V.int) → HOk P w H s₁.heap → (∀ b, H b ≠ none → b = a) → (H a ≠ none → K.lookup a = none) →
      codeAny (model P w) callerA (.call (.ref fa) ⟨[.ref a], []⟩) (fun r s' => r = .ok (.ret (.bool true)) ∧ OldK s₁.heap s'.heap ∧ s'.os = s₁.os ∧ AllBare s'.gens) s₁ := by
    intro H hO hS hok hA hK
    have base_of : ∀ {b : Addr} {o : Obj}, s₁.heap.get? b = some o → H b = none → (hidT s₁.heap H).get? b = some o := fun e n => hidT_get e n
    have noA : ∀ {b : Addr} {o : Obj} {es : Array DictEntry} {ep : Nat}, s₁.heap.get? b = some o → o.data = .dict es ep → H b = none := fun {b o es ep} e d => by
      cases q : H b with
      | none => rfl
      | some u =>
        have e' : b = a := hA b (by rw [q]; simp)
        subst e'
        rw [ha] at e; cases e
        have d' : Data.seq vs.toArray _ = Data.dict es ep := d
        cases d'
    have nsK : ∀ {b : Addr} {m : Str → Option Value}, s₁.heap.Ns b m → (hidT s₁.heap H).Ns b m := fun {b m} ⟨o, es, ep, e, d, r⟩ => ⟨o, es, ep, base_of e (noA e d), d, r⟩
    have hKb : K.In (hidT s₁.heap H) := fun b o e => base_of (KX b o e) (by
      cases q : H b with
      | none => rfl
      | some u =>
        have e' : b = a := hA b (by rw [q]; simp)
        subst e'
        rw [hK (by rw [q]; simp)] at e; cases e)
    have hM : Mod K mg (hidT s₁.heap H) := ⟨hKb, nsK hns, ⟨mb, nsK hb, hbb⟩, let ⟨mc, h1, h2⟩ := hlim; ⟨mc, nsK h1, h2⟩⟩
    have e0 : Env0 P w K mg (hidT s₁.heap H) callerA [] s₁ H := ⟨rfl, hM, fun b o e => of_hidT e, Nat.le_of_eq (hidT_size _ _), trivial, fun b hb => absurd (show b ∈ ([] : List Addr) from hb) (by simp), hok, .of_eq hg⟩
    refine codeAny_mono ((F _ hKb (nsK hns)).run callerA [] s₁ H ⟨[.ref a], []⟩ [.ref a] [.ref a] _ _ hr e0 (hbind s₁ (.ref a)) (.cons rfl .nil) (hsp H hO hS)) fun r s' h => ?_
    cases r with
    | error e => exact (hCX H e s' h).elim
    | ok fl =>
      cases fl with
      | next => exact False.elim h
      | brk => exact False.elim h
      | cont => exact False.elim h
      | ret u =>
        obtain ⟨v, H', os, bare, un, hok', r', q⟩ := h
        have q' : v = .bl true := q
        subst q'
        obtain rfl : u = Value.bool true := r'
        refine ⟨rfl, OldK.of_keep fun b o e => ?_, os, bare⟩
        cases q : H b with
        | none => exact un.keep b o e q (by intro z; exact absurd (show b ∈ ([] : List Addr) from z) (by simp)) (by simp)
        | some u =>
          rcases hO b with z | ⟨ob, xs, z⟩
          · rw [q] at z; cases z
          · have z2 := un.frzs b ob _ z
            obtain ⟨e1, _⟩ := hok b _ z
            obtain ⟨e2, _⟩ := hok' b _ z2
            rw [e] at e1; cases e1
            exact e2
  cases hk : K.lookup a with
  | some o =>
    -- the script is one of the module's own objects
    have e := KX a o hk
    rw [ha] at e
    cases e
    refine core (fun _ => none) (fun _ => .inl rfl) (.inr ⟨_, vs.toArray, _, hk, rfl, rfl, rfl, by rw [List.size_toArray, lenV]; exact hl, by simpa using rv⟩) (fun b u z => by have z' : (none : Option HO) = some u := z; cases z') (fun b z => absurd rfl z) fun z => absurd rfl z
  | none =>
    refine core (fun b => if b = a then some (.frz { cls := .type "list", data := .seq vs.toArray } (.lst (ns.map V.int))) else none) (fun b => ?_) (.inl (.inr ⟨{ cls := .type "list", data := .seq vs.toArray }, if_pos rfl⟩)) (fun b u z => ?_) (fun b z => ?_) fun _ => hk
    · by_cases hb : b = a
      · exact .inr ⟨_, _, if_pos hb⟩
      · exact .inl (if_neg hb)
    · by_cases hb : b = a
      · have z' := (if_pos hb).symm.trans z
        cases z'
        subst hb
        exact ⟨ha, by rw [List.length_map]; exact hl, vs, _, rv, ha⟩
      · have z' := (if_neg hb).symm.trans z
        cases z'
    · by_cases hb : b = a
      · exact hb
      · exact absurd (if_neg hb) z
end L2
namespace L2
open PySem PySem.Spec PyProof.Rows
theorem walk_of {l : PySem.W.OpenLaw} {n k : Nat} {q : Program} {loose : List Str} {XP : (Str → Option Value) → Heap → Prop} {YP : World → Heap → Prop} {d : DefRec} {K : Params → PySem.W.Frag} {CX : World → CXT} {sp : World → Sp} {x : Str}
    (hn : l.most = some n) (hn2 : n ≤ sizeLine) (hdf : d.params.defaults = []) (hr : Room k callerA)
    (hY : ∀ (w : World) (h : Heap), YP w h → (K w.params).In h)
    (F : ∀ (w : World) (mg : Str → Option Value) (fa : Addr) (h : Heap), (K w.params).In h → h.Ns mainGlobals mg → mg d.name = some (.ref fa) →
      ∃ fd : FuncData, (∀ (s : Shared) (u : Value), BindsTo s fd ⟨[u], []⟩ [(x, u)]) ∧
        ∀ base : Heap, (K w.params).In base → base.Ns mainGlobals mg → FnOk l.prog w (K w.params) mg base (CX w) k fa fd [x] (sp w))
    (hsp : ∀ (w : World) (H : Hp) (a : Addr) (ns : List Int), ns.length ≤ n → Only H → SqL (K w.params) H a (ns.map V.int) → sp w [.ref a] H (fun v _ => v = .bl true) fun _ _ _ => False)
    (hCX : ∀ (w : World) (H : Hp) (s : Shared) (e : Value) (s' : Shared), CX w [] H s (fun _ _ _ => False) e s' → False) :
    PySem.W.WalkO q loose XP YP l.row.toRowW d [] (fun f vs => PySem.call f vs) := by
  refine Att.attach_call hn hdf fun w s₀ s₁ mg mb fa o pm cd doc a vs ns G Y ho hd hcd hmg hobj hints hlen hg => ?_
  have KX := hY w _ Y
  obtain ⟨fd, hb, hF⟩ := F w mg fa _ KX G.T.g hmg
  exact law_call KX G.T.g G.T.b G.T.builtins G.T.nolimit hg hobj hints (Nat.le_trans hlen hn2) hr hF hb (fun H hO hS => hsp w H a ns hlen hO hS) fun H e s' => hCX w H s₁ e s'
end L2
/- THE LAST THEOREM (shape; LID, My.* are yours):
   My.Adr: a structure of the addresses that your layer names (classes, functions); My.Txt K t: a structure (Prop) of the equations over K;
   My.txt_mk : {K} {implicit addresses ..} (e1 : nsIn K mainGlobals "law" = some (some (.ref f))) (e2 : K.lookup f = some ⟨oc, od, .func (fnOf "law" "law" params body scope dV kV doc pm an cdv ct), sl⟩) (e3 : codeIn K cdv "law" = true) .. : ∃ t, My.Txt K t
(the tactic k_is has no namespace: write k_is) -/
namespace L2
open PySem PySem.Spec PyProof.Rows
noncomputable def defArgs (s : Stmt) : Arguments := match s with
  | .FunctionDef _ a _ _ _ _ _ _ _ _ => a
  | _ => { posonlyargs := [], args := [], vararg := none, kwonlyargs := [], kw_defaults := [], kwarg := none, defaults := [] }
noncomputable def defBody (s : Stmt) : List Stmt := match s with
  | .FunctionDef _ _ b _ _ _ _ _ _ _ => b
  | _ => []
noncomputable def defScope (s : Stmt) : Scope := match s with
  | .FunctionDef _ _ _ _ _ _ sc _ _ _ => sc
  | _ => { kind := .function, names := [], isGenerator := false, isCoroutine := false }

noncomputable abbrev CX0 : CXT := fun _ _ _ _ _ _ => False
noncomputable abbrev E0 : XK := fun _ _ _ => False
theorem pass0 {X : Cx} : Passes CX0 X E0 := fun _ _ _ _ _ _ _ h => h.elim

structure Fun (K : PySem.W.Frag) (x qual : Str) (st : Stmt) (f : Addr) (fd : FuncData) : Prop where
  ex : ∃ (oc : Value) (od : Option Addr) (kV doc pm : Value) (an : Option Addr) (cdv ct : Value) (osl : Array (Option Value)),
    fd = PySem.W.fnOf x qual (defArgs st) (defBody st) (defScope st) .none kV doc pm an cdv ct ∧ K.lookup f = some ⟨oc, od, .func fd, osl⟩ ∧ PySem.W.codeIn K cdv qual = true
  kp : PySem.W.keepIn K (.ref f) = true
section
variable {P : Program} {w : World} {K : PySem.W.Frag} {mg : Str → Option Value} {base : Heap}
theorem Fun.ok {x qual : Str} {st : Stmt} {f : Addr} {fd : FuncData} {N ps : List Str} {k : Nat} {sp : Sp} (F : Fun K x qual st f fd) (S : FnScope N ps (defScope st)) (len : ∀ vs H Q E, sp vs H Q E → vs.length = ps.length)
    (hbody : ∀ (cdv : Value) (A : Around) (outer : List Env) (s : Shared) (H : Hp) (vs : List V) (Q : VK) (E : XK), Room k (A.deeper (envOfC qual (defScope st) s.heap.objs.size f cdv)) → sp vs H Q E →
      ∃ t, PSs (cxOf CX0 P w K mg base N qual (defScope st) f cdv A outer s H E).nox (defBody st) t ∧ t { nx := fun _ H' => Q .non H', rt := Q } (start N vs) H) : FnOk P w K mg base CX0 (k + 1) f fd ps sp := by
  obtain ⟨oc, od, kV, doc, pm, an, cdv, ct, osl, rfl, lk, hcd⟩ := F.ex
  refine fn_of lk hcd S len fun A outer s H vs Q E hr hsp => ?_
  obtain ⟨t, h, q⟩ := hbody cdv A outer s H vs Q E hr hsp
  exact ⟨t, h.nox, q⟩
theorem Fun.okz {x qual : Str} {st : Stmt} {f : Addr} {fd : FuncData} {N ps : List Str} {k : Nat} {sp : Sp} (F : Fun K x qual st f fd) (S : FnScope N ps (defScope st)) (len : ∀ vs H Q E, sp vs H Q E → vs.length = ps.length)
    (hbody : ∀ (cdv : Value) (A : Around) (outer : List Env) (s : Shared) (H : Hp) (vs : List V) (Q : VK) (E : XK), Room k (A.deeper (envOfC qual (defScope st) s.heap.objs.size f cdv)) → sp vs H Q E →
      ∃ t, ZSs (cxOf CX0 P w K mg base N qual (defScope st) f cdv A outer s H E).nox (defBody st) t ∧ t { nx := fun _ H' => Q .non H', rt := Q } (start N vs) H) : FnOk P w K mg base CX0 (k + 1) f fd ps sp :=
  F.ok S len fun cdv A outer s H vs Q E hr h => let ⟨t, h1, h2⟩ := hbody cdv A outer s H vs Q E hr h; ⟨t, h1.p, h2⟩
theorem Fun.binds {x qual : Str} {st : Stmt} {f : Addr} {fd : FuncData} {ps : List Str} (F : Fun K x qual st f fd)
    (h : ∀ (kV doc pm : Value) (an : Option Addr) (cdv ct : Value) (us : List Value), us.length = ps.length → bindArgs (PySem.W.fnOf x qual (defArgs st) (defBody st) (defScope st) .none kV doc pm an cdv ct) ⟨us, []⟩ = pure (ps.zip us)) : Binds K fd ps [] := by
  obtain ⟨oc, od, kV, doc, pm, an, cdv, ct, osl, rfl, lk, hcd⟩ := F.ex
  exact .all (h kV doc pm an cdv ct)
theorem fun_mk {x qual : Str} {st : Stmt} {f : Addr} {oc : Value} {od an : Option Addr} {osl : Array (Option Value)} {kV doc pm cdv ct : Value} (l : K.lookup f = some ⟨oc, od, .func (PySem.W.fnOf x qual (defArgs st) (defBody st) (defScope st) .none kV doc pm an cdv ct), osl⟩)
    (c : PySem.W.codeIn K cdv qual = true) (k : PySem.W.keepIn K (.ref f) = true) : Fun K x qual st f (PySem.W.fnOf x qual (defArgs st) (defBody st) (defScope st) .none kV doc pm an cdv ct) := ⟨⟨oc, od, kV, doc, pm, an, cdv, ct, osl, rfl, l, c⟩, k⟩
end
theorem small1000 {n : Nat} (h : n ≤ 1000) : n < sizeLine := Nat.lt_of_le_of_lt h (by decide)

section
variable {X : Cx}
end
theorem iteF {A B : Prop} (h : B) : if false = true then A else B := by
  rw [if_neg Bool.false_ne_true]
  exact h
theorem iteT {A B : Prop} (h : A) : if true = true then A else B := by
  rw [if_pos rfl]
  exact h
noncomputable def Same (H H' : Hp) : Prop := ∀ b o, H b = some o → H' b = some o
theorem Same.refl (H : Hp) : Same H H := fun _ _ h => h
theorem Same.trans {H H1 H2 : Hp} (a : Same H H1) (b : Same H1 H2) : Same H H2 := fun c o h => b c o (a c o h)
end L2
set_option Elab.async false
set_option linter.all false
set_option maxRecDepth 100000
set_option maxHeartbeats 4000000
namespace L2
open PySem PySem.Spec PyProof.Rows
noncomputable def clsOf (env : Env) : List (Str × NameKind) → List (Str × Addr) → List (Str × Addr)
  | [], cs => cs
  | y :: r, cs => clsOf env r (if (y.2 == .free) = true then (y.1, (env.cells.lookup y.1).getD 0) :: cs else cs)
theorem closure_ok {env : Env} {scope : Scope} (h : ∀ y ∈ scope.names, y.2 = .free → ∃ c, env.cells.lookup y.1 = some c) : closureFor scope env = pure (clsOf env scope.names []) := by
  simp only [closureFor]
  generalize scope.names = ns at h
  have go : ∀ (ns : List (Str × NameKind)) (cs : List (Str × Addr)), (∀ y ∈ ns, y.2 = .free → ∃ c, env.cells.lookup y.1 = some c) →
      (forIn ns cs fun (x : Str × NameKind) (r : List (Str × Addr)) => (if (x.2 == NameKind.free) = true then do let a ← cellOf env x.1; pure (ForInStep.yield ((x.1, a) :: r)) else pure (ForInStep.yield r) : Sem (ForInStep (List (Str × Addr))))) = (pure (clsOf env ns cs) : Sem (List (Str × Addr))) := by
    intro ns
    induction ns with
    | nil => intro cs _; rfl
    | cons y r ih =>
      intro cs hy
      rw [List.forIn_cons]
      have hr := fun z hz => hy z (List.mem_cons_of_mem _ hz)
      by_cases hf : (y.2 == NameKind.free) = true
      · obtain ⟨c, hc⟩ := hy y List.mem_cons_self (by simpa using hf)
        have e : cellOf env y.1 = pure c := by unfold cellOf; rw [hc]
        rw [if_pos hf, e]
        refine Eq.trans (ih ((y.1, c) :: cs) hr) (congrArg pure ?_)
        show _ = clsOf env r (if (y.2 == .free) = true then (y.1, (env.cells.lookup y.1).getD 0) :: cs else cs)
        rw [if_pos hf, hc]
        rfl
      · rw [if_neg hf]
        refine Eq.trans (ih cs hr) (congrArg pure ?_)
        show _ = clsOf env r (if (y.2 == .free) = true then (y.1, (env.cells.lookup y.1).getD 0) :: cs else cs)
        rw [if_neg hf]
  have e := go ns [] h
  exact (congrArg (fun (t : Sem (List (Str × Addr))) => t >>= fun cs => pure cs) e).trans rfl
theorem clsOf_look {env : Env} : ∀ (ns : List (Str × NameKind)) (cs : List (Str × Addr)), (∀ y ∈ ns, y.2 = .free → ∃ c, env.cells.lookup y.1 = some c) → (∀ n c, cs.lookup n = some c → env.cells.lookup n = some c) →
    ∀ n c, (clsOf env ns cs).lookup n = some c → env.cells.lookup n = some c
  | [], cs, _, hc => hc
  | y :: r, cs, hy, hc => by
    refine clsOf_look r _ (fun z hz => hy z (List.mem_cons_of_mem _ hz)) fun n c e => ?_
    by_cases hf : (y.2 == NameKind.free) = true
    · rw [if_pos hf, List.lookup_cons] at e
      obtain ⟨c', hc'⟩ := hy y List.mem_cons_self (by simpa using hf)
      cases hn : n == y.1 with
      | true =>
        rw [hn] at e
        have en : n = y.1 := by simpa using hn
        rw [hc'] at e
        rw [en, hc']
        exact e
      | false => rw [hn] at e; exact hc n c e
    · rw [if_neg hf] at e
      exact hc n c e
theorem clsOf_has {env : Env} : ∀ (ns : List (Str × NameKind)) (cs : List (Str × Addr)) (n : Str), ((n, NameKind.free) ∈ ns ∨ ∃ c, cs.lookup n = some c) → ∃ c, (clsOf env ns cs).lookup n = some c
  | [], cs, n, h => by
    rcases h with h | h
    · cases h
    · exact h
  | y :: r, cs, n, h => by
    refine clsOf_has r _ n ?_
    rcases h with h | ⟨c, h⟩
    · rcases List.mem_cons.mp h with e | h
      · refine .inr ⟨(env.cells.lookup n).getD 0, ?_⟩
        have e2 : y.2 = .free := by rw [← e]
        have e1 : y.1 = n := by rw [← e]
        rw [if_pos (by rw [e2]; rfl), e1, List.lookup_cons]
        simp
      · exact .inl h
    · refine .inr ?_
      by_cases hf : (y.2 == NameKind.free) = true
      · rw [if_pos hf, List.lookup_cons]
        cases hn : n == y.1 with
        | true => exact ⟨_, rfl⟩
        | false => exact ⟨c, h⟩
      · rw [if_neg hf]; exact ⟨c, h⟩
noncomputable def rlOf (env : Env) (y : Str × NameKind) : Str × NameKind := if (y.2 == NameKind.free && env.scope.kind == .function && env.kindOf y.1 == some .cell) = true then (y.1, NameKind.cell) else (y.1, y.2)
theorem rl_look {env : Env} : ∀ {names : List (Str × NameKind)} {x : Str} {k' : NameKind}, (names.map (rlOf env)).lookup x = some k' →
    ∃ k, (x, k) ∈ names ∧ names.lookup x = some k ∧ (k' = k ∨ (k = .free ∧ k' = .cell))
  | [], _, _, h => by simp at h
  | (n, k) :: r, x, k', h => by
    have ih := @rl_look env r x k'
    rw [List.map_cons] at h
    unfold rlOf at h
    dsimp only at h
    cases hx : x == n with
    | true =>
      have en : x = n := by simpa using hx
      refine ⟨k, by rw [en]; exact List.mem_cons_self, by simp [List.lookup_cons, hx], ?_⟩
      by_cases hc : (k == NameKind.free && env.scope.kind == .function && env.kindOf n == some .cell) = true
      · rw [if_pos hc, List.lookup_cons, hx] at h
        have hk : k = .free := by
          have := (Bool.and_eq_true_iff.mp (Bool.and_eq_true_iff.mp hc).1).1
          simpa using this
        exact .inr ⟨hk, by cases h; rfl⟩
      · rw [if_neg hc, List.lookup_cons, hx] at h
        exact .inl (by cases h; rfl)
    | false =>
      have h' : (r.map (rlOf env)).lookup x = some k' := by
        by_cases hc : (k == NameKind.free && env.scope.kind == .function && env.kindOf n == some .cell) = true
        · rw [if_pos hc, List.lookup_cons, hx] at h; exact h
        · rw [if_neg hc, List.lookup_cons, hx] at h; exact h
      obtain ⟨k, h1, h2, h3⟩ := ih h'
      exact ⟨k, List.mem_cons_of_mem _ h1, by rw [List.lookup_cons, hx]; exact h2, h3⟩
theorem rl_has {env : Env} : ∀ {names : List (Str × NameKind)} {x : Str} {k : NameKind}, names.lookup x = some k → ∃ k', (names.map (rlOf env)).lookup x = some k'
  | [], _, _, h => by simp at h
  | (n, k0) :: r, x, k, h => by
    have ih := @rl_has env r x k
    rw [List.map_cons]
    have e1 : (rlOf env (n, k0)).1 = n := by unfold rlOf; split <;> rfl
    have e0 : rlOf env (n, k0) = (n, (rlOf env (n, k0)).2) := by rw [Prod.ext_iff]; exact ⟨e1, rfl⟩
    rw [e0, List.lookup_cons]
    cases hx : x == n with
    | true => exact ⟨_, rfl⟩
    | false =>
      rw [List.lookup_cons, hx] at h
      exact ih h

noncomputable def cmpX (X : Cx) (nv : List Str) (ix : List (Str × Nat)) (scope : Scope) (C : Addr) (s₀ : Shared) (H₀ : Hp) (fp : List Addr) : Cx :=
  { X with N := nv ++ ix.map (·.1), s₀ := s₀, H₀ := H₀, env := compEnvC scope (clsOf X.env scope.names []) C X.env, outer := X.stack, stack := X.stack, ex := fp, fn := fun _ => false, pn := [], xe := fun _ _ => False }
noncomputable def frV (σ : St) (ix : List (Str × Nat)) : St := ix.map fun p => (σ[p.2]?).join
noncomputable def st0 (nv : List Str) (ix : List (Str × Nat)) (σ : St) : St := nv.map (fun _ => none) ++ frV σ ix
structure CompOk (X : Cx) (nv : List Str) (ix : List (Str × Nat)) (scope : Scope) : Prop where
  kind : scope.kind = .function
  nocell : ∀ y ∈ scope.names, y.2 ≠ .cell
  names : ∀ y ∈ scope.names, y.2 = .local → scope.names.lookup y.1 = some .local
  free : (scope.names.all fun y => !(y.2 == NameKind.free) || (X.env.kindOf y.1 == some NameKind.cell || X.env.kindOf y.1 == some NameKind.free)) = true
  ix : (ix.all fun p => (scope.names.lookup p.1 == some NameKind.free) && (X.N[p.2]? == some p.1)) = true
section
variable {X : Cx} {nv : List Str} {ix : List (Str × Nat)} {scope : Scope} {pins : List (Addr × Obj)} {σ : St} {H : Hp} {s : Shared}
theorem CompOk.fk (co : CompOk X nv ix scope) {y : Str × NameKind} (hy : y ∈ scope.names) (hf : y.2 = .free) : X.env.kindOf y.1 = some .cell ∨ X.env.kindOf y.1 = some .free := by
  have q := List.all_eq_true.mp co.free y hy
  rw [hf] at q
  simpa using q
theorem CompOk.cells (co : CompOk X nv ix scope) (ok : X.Ok) : ∀ y ∈ scope.names, y.2 = .free → ∃ c, X.env.cells.lookup y.1 = some c := fun y hy hf => ok.has y.1 (co.fk hy hf)
theorem CompOk.look (co : CompOk X nv ix scope) (ok : X.Ok) {n : Str} {c : Addr} (h : (clsOf X.env scope.names []).lookup n = some c) : X.env.cells.lookup n = some c :=
  clsOf_look _ _ (co.cells ok) (fun _ _ e => by cases e) n c h
theorem CompOk.ixp (co : CompOk X nv ix scope) {p : Str × Nat} (hp : p ∈ ix) : scope.names.lookup p.1 = some .free ∧ X.N[p.2]? = some p.1 := by
  have q := Bool.and_eq_true_iff.mp (List.all_eq_true.mp co.ix p hp)
  exact ⟨by simpa using q.1, by simpa using q.2⟩
theorem lookup_mem {α : Type} : ∀ {l : List (Str × α)} {n : Str} {k : α}, l.lookup n = some k → (n, k) ∈ l
  | [], _, _, h => by cases h
  | (m, j) :: r, n, k, h => by
    rw [List.lookup_cons] at h
    cases e : n == m with
    | true => rw [e] at h; cases h; have : n = m := by simpa using e
              rw [this]; exact List.mem_cons_self
    | false => rw [e] at h; exact List.mem_cons_of_mem _ (lookup_mem h)
theorem cmpX_ok (co : CompOk X nv ix scope) (I : Inv X pins σ H s) {fp : List Addr} {C : Addr} (hC : s.heap.objs.size ≤ C) (hf : ∀ b ∈ fp, FpOk X pins H b) (hlt : ∀ b ∈ fp, b < s.heap.objs.size) : (cmpX X nv ix scope C s H fp).Ok where
  mod := I.mod
  kind := co.kind
  glob := I.ok.glob
  blt := I.ok.blt
  above := hC
  inj := fun x y c a b => I.ok.inj x y c (co.look I.ok a) (co.look I.ok b)
  has := fun x hk => by
    have z : ∃ k, (x, k) ∈ scope.names ∧ k = .free := by
      rcases hk with hk | hk
      · obtain ⟨k, h1, _, h3⟩ := rl_look (env := X.env) (names := scope.names) hk
        rcases h3 with h3 | ⟨h3, _⟩
        · exact absurd h3.symm (co.nocell _ h1)
        · exact ⟨k, h1, h3⟩
      · obtain ⟨k, h1, _, h3⟩ := rl_look (env := X.env) (names := scope.names) hk
        rcases h3 with h3 | ⟨_, h3⟩
        · exact ⟨k, h1, h3.symm⟩
        · cases h3
    obtain ⟨k, h1, rfl⟩ := z
    exact clsOf_has _ _ x (.inl h1)
  cab := fun x c h _ => by cases h
  hd := I.ok.hd
  frames := I.ok.frames
  stk := .inl rfl
  exf := fun b hb => ⟨Nat.ne_of_lt (Nat.lt_of_lt_of_le (hlt b hb) hC), fun x c e => (hf b hb).2.2.2.2.1 x c (co.look I.ok e)⟩
  bs := fun b o e => I.bs b o e
  bsz := Nat.le_trans I.ok.bsz I.sz
  noex := fun b o e hb => by
    rcases (hf b hb).2.2.2.1 with z | z
    · exact I.ok.noex b o e z
    · exact absurd (Nat.lt_of_lt_of_le (Heap.lt_size e) (Nat.le_trans I.ok.bsz z)) (Nat.lt_irrefl _)
  exfs := fun b hb hs => by
    rcases List.mem_cons.mp (I.stkSub b hs) with e | h
    · exact (hf b hb).2.1 e
    · exact (hf b hb).2.2.1 h
  funs := I.stack
  frf := I.stkFree
noncomputable abbrev lobj (its : List Value) (k : Nat) : Obj := { cls := .type "list", data := .seq its.toArray k }
theorem join_some {o : Option (Option V)} {v : V} (h : o.join = some v) : o = some (some v) := by
  cases o with
  | none => cases h
  | some o' => exact congrArg some h
theorem cmp_start (co : CompOk X nv ix scope) (I : Inv X pins σ H s) {fp : List Addr} {h₁ : Heap} {tk : Nat} {m : Str → Option Value} (hf : ∀ b ∈ fp, FpOk X pins H b) (hlt : ∀ b ∈ fp, b < s.heap.objs.size)
    (hn : h₁.Ns (s.heap.objs.size + 1) m) (old : ∀ b o, s.heap.get? b = some o → h₁.get? b = some o) (hD : h₁.get? s.heap.objs.size = some (lobj [] 0)) :
    Inv (cmpX X nv ix scope (s.heap.objs.size + 1) s H fp) [(s.heap.objs.size, lobj [] 0)] (st0 nv ix σ) H { s with heap := h₁, toks := tk } where
  ok := cmpX_ok co I (Nat.le_succ _) hf hlt
  os := rfl
  bare := I.bare
  base := Un.kept old
  loc := by
    refine ⟨m, hn, fun i x v e1 e2 hv => ?_⟩
    obtain ⟨m₀, _, hl⟩ := I.loc
    have e1' : (nv ++ ix.map (·.1))[i]? = some x := e1
    unfold st0 at e2
    by_cases hi : i < nv.length
    · rw [List.getElem?_append_left (by rw [List.length_map]; exact hi), List.getElem?_map] at e2
      cases q : nv[i]? with
      | none => rw [q] at e2; cases e2
      | some z => rw [q] at e2; cases e2
    · have hi' : nv.length ≤ i := Nat.not_lt.mp hi
      rw [List.getElem?_append_right hi', List.getElem?_map] at e1'
      rw [List.getElem?_append_right (by rw [List.length_map]; exact hi'), List.length_map] at e2
      unfold frV at e2
      rw [List.getElem?_map] at e2
      cases q : ix[i - nv.length]? with
      | none => rw [q] at e1'; cases e1'
      | some p =>
        rw [q] at e1' e2
        have hp : p ∈ ix := List.mem_of_getElem? q
        have ex : p.1 = x := Option.some.inj e1'
        have ev : σ[p.2]? = some (some v) := join_some (Option.some.inj e2)
        obtain ⟨f1, f2⟩ := co.ixp hp
        have hk := co.fk (lookup_mem f1) rfl
        obtain ⟨u, r, l⟩ := hl p.2 p.1 v f2 ev (hk.elim (fun z => .inr (.inl z)) fun z => .inr (.inr z))
        refine ⟨u, r, .inr ⟨?_, ?_⟩⟩
        · obtain ⟨k', hk'⟩ := rl_has (env := X.env) f1
          obtain ⟨k, h1, h2, h3⟩ := rl_look hk'
          rw [f1] at h2
          cases h2
          rw [← ex]
          rcases h3 with h3 | ⟨_, h3⟩
          · exact .inr (hk'.trans (congrArg some h3))
          · exact .inl (hk'.trans (congrArg some h3))
        · obtain ⟨c, hc⟩ := clsOf_has (env := X.env) scope.names [] p.1 (.inl (lookup_mem f1))
          refine ⟨c, by rw [← ex]; exact hc, ?_⟩
          have hc' := co.look I.ok hc
          rcases l with ⟨z, _⟩ | ⟨_, c', z1, o, z2, z3⟩
          · have z' : X.env.kindOf p.1 = some .local := z
            rcases hk with hk | hk
            · have hk' : X.env.kindOf p.1 = some .cell := hk
              rw [z'] at hk'; cases hk'
            · have hk' : X.env.kindOf p.1 = some .free := hk
              rw [z'] at hk'; cases hk'
          · rw [hc'] at z1
            cases z1
            exact ⟨o, old _ _ z2, z3⟩
  cell := fun x c e => by
    obtain ⟨v, o, h1, h2⟩ := I.cell x c (co.look I.ok e)
    exact ⟨v, o, old _ _ h1, h2⟩
  free := I.hok.fresh (Nat.le_succ _)
  freeC := fun x c e => I.freeC x c (co.look I.ok e)
  pin := fun p hp => by
    have e : p = (s.heap.objs.size, lobj [] 0) := by simpa [cmpX] using hp
    subst e
    refine ⟨hD, I.hok.fresh (Nat.le_refl _), Nat.ne_of_lt (Nat.lt_succ_self _), fun hb => ?_, fun v z => by cases z⟩
    rcases List.mem_cons.mp (I.stkSub _ hb) with e | h
    · exact absurd I.lt (by rw [← e]; exact Nat.lt_irrefl _)
    · exact I.nofs (Nat.le_refl _) h
  hok := I.hok.kept old
  len := by
    show (nv.map (fun _ => none) ++ frV σ ix).length = (nv ++ ix.map (·.1)).length
    unfold frV
    simp
theorem Inv.track {D : Addr} {ys its : List _} {k : Nat} (I : Inv X pins σ H s) (rv : Vals ys its) (hz : ys.length ≤ sizeLine) (e : s.heap.get? D = some (lobj its k)) (hn : H D = none) (hd : FpOk X pins H D) : Inv X pins σ (upd H D (.lst ys)) s := by
  have nD : ∀ b u, H b = some u → b ≠ D := fun b u q z => by rw [z, hn] at q; cases q
  obtain ⟨h1, h2, h3, h4, h5, h6⟩ := hd
  refine I.step (s := s) (h' := s.heap) (g' := s.gens) (t' := s.toks) (d' := s.drawn) (ch := [D]) (fun b hb => ?_) (fun b o _ _ _ q _ => q) (fun b o _ _ _ q _ => ⟨o.slots, q⟩) (fun b o hb _ q => ?_) (fun b o _ q => ⟨o, q⟩)
    (fun b xs q => by rw [upd_ne (nD b _ q)]; exact q) (fun b o u q => by rw [upd_ne (nD b _ q)]; exact q) (fun b ps q => ⟨#[], by rw [upd_ne (nD b _ q), q]; simp⟩) (fun m hm => hm) (fun b u q => ?_) I.bare
  · have e : b = D := by simpa using hb
    subst e
    exact ⟨h4, h2, h5, h6⟩
  · rw [upd_ne (fun z => hb (by simp [z]))]; exact q
  · by_cases hb : b = D
    · subst hb
      rw [upd_same] at q
      cases q
      exact ⟨hz, its, k, rv, e⟩
    · rw [upd_ne hb] at q
      exact (I.hok b u q).stay (fun c v _ r => r) (fun c r => by rw [upd_ne (nD c _ r)]; exact r) fun c xs r => by rw [upd_ne (nD c _ r)]; exact r
theorem cmp_end {ps2 : List (Addr × Obj)} {σ2 : St} {H' : Hp} {s' : Shared} {fp : List Addr} {C : Addr} (I : Inv X pins σ H s) (hf : ∀ b ∈ fp, FpOk X pins H b) (Ic : Inv (cmpX X nv ix scope C s H fp) ps2 σ2 H' s') : Inv X pins σ H' s' :=
  I.call' (ch := fp) Ic.os Ic.base Ic.hok Ic.bare fun b hb => ⟨(hf b hb).2.2.2.1, (hf b hb).2.1, (hf b hb).2.2.2.2.1, (hf b hb).2.2.2.2.2⟩

noncomputable def PIf (X : Cx) (ifs : List Expr) (t : TT) : Prop :=
  ∀ (pins : List (Addr × Obj)) (s : Shared) (σ : St) (H : Hp) (Q : Bool → Hp → Prop), Inv X pins σ H s → t σ H Q →
    wpAny (model X.prog X.w) X.A (forIn ifs true fun c r => if r = true then do let ok ← isTrue c X.env (eval c X.env); pure (ForInStep.yield ok) else pure (ForInStep.yield r)) (TP X pins σ Q) X.xe s
@[irreducible] noncomputable def ZIf (X : Cx) (ifs : List Expr) (t : TT) : Prop := PIf X ifs t
noncomputable def tYes : TT := fun _ H Q => Q true H
theorem pif_nil : PIf X [] tYes := fun _ _ _ H _ I h => wpAny_tests_nil ⟨H, I, h⟩
theorem zif_nil : ZIf X [] tYes := by with_unfolding_all exact pif_nil 
end
section
variable {prog : Program} {w : World} {A : Around} {E : Value → Shared → Prop} {R : Result → Shared → Prop} {s : Shared}
theorem compLoop_go {elt target iter : Expr} {ifs : List Expr} {scope : Scope} {pos : Pos} {it acc : Value} {env : Env} (I : Nat → Shared → Prop)
    (turn : ∀ n s, I n s → wpAny (model prog w) A (pyNext it) (fun r s₁ => match r with
      | none => R (.ok .next) s₁
      | some v => wpAny (model prog w) A (letOwnedTupleGo target it v) (fun _ s₁' => wpAny (model prog w) A (assign target env v) (fun _ s₂ =>
          wpAny (model prog w) A (forIn ifs true fun c r => if r = true then do let ok ← isTrue c env (eval c env); pure (ForInStep.yield ok) else pure (ForInStep.yield r)) (fun ok s₃ =>
            if ok = true then wpAny (model prog w) A (eval elt env) (fun x s₄ =>
              wpAny (model prog w) A (call (.builtin "list.append") [acc, x]) (fun _ s₅ => ∃ m, m < n ∧ I m s₅) (fun _ _ => False) s₄) (fun _ _ => False) s₃
            else ∃ m, m < n ∧ I m s₃) (fun _ _ => False) s₂) (fun _ _ => False) s₁') (fun _ _ => False) s₁) (fun _ _ => False) s)
    (n : Nat) (h : I n s) :
    codeAny (model prog w) A (.compLoop (.ListComp elt [⟨target, iter, ifs, 0⟩] scope pos) 0 it acc env) R s := by
  refine codeAny_loop rfl I (fun n s hI => ?_) n h
  show wpAny _ A ((compTurn (.ListComp elt [⟨target, iter, ifs, 0⟩] scope pos) 0 it acc env).onRaise (fun x => do noteFrame x env; theTreesLotGoes x)) _ _ s
  refine wpAny_noted ?_
  rw [compTurn_list]
  refine wpAny_bind (wpAny_standAt (wpAny_bind (wpAny_mono (turn n s hI) (fun r s₁ h₁ => ?_) fun _ _ h' => h'.elim)))
  cases r with
  | none => exact wpAny_pure h₁
  | some v =>
    refine wpAny_bind (wpAny_mono h₁ (fun _ s₁' h₁' => ?_) fun _ _ h' => h'.elim)
    refine wpAny_bind (wpAny_mono h₁' (fun _ s₂ h₂ => wpAny_bind (wpAny_mono h₂ (fun ok s₃ h₃ => ?_) fun _ _ h' => h'.elim)) fun _ _ h' => h'.elim)
    cases ok with
    | false => exact wpAny_pure ⟨rfl, h₃⟩
    | true =>
      exact wpAny_bind (wpAny_bind (wpAny_mono h₃ (fun x s₄ h₄ => wpAny_bind (wpAny_mono h₄ (fun _ s₅ h₅ => wpAny_pure (wpAny_pure ⟨rfl, h₅⟩)) fun _ _ h' => h'.elim)) fun _ _ h' => h'.elim))
end
section
variable {X : Cx} {nv : List Str} {ix : List (Str × Nat)} {scope : Scope} {pins : List (Addr × Obj)} {σ : St} {H : Hp} {s : Shared} {elt tg iter : Expr} {ifs : List Expr} {pos : Pos}
noncomputable def Kp (σ σ2 : St) : Prop := σ.length = σ2.length ∧ ∀ (i : Nat) v, σ[i]? = some (some v) → σ2[i]? = some (some v)
noncomputable def KpG (nv : List Str) (g : TG) : Prop := ∀ (fr : St) (v : V) (H : Hp) (Q : St → Hp → Prop), g v (nv.map (fun _ => none) ++ fr) H Q → g v (nv.map (fun _ => none) ++ fr) H fun σ2 H2 => Kp (nv.map (fun _ => none) ++ fr) σ2 ∧ Q σ2 H2
theorem kpg_name {x : Str} : KpG [x] (gName 0) := fun fr v H Q h => by
  refine ⟨⟨by simp, fun i w e => ?_⟩, h⟩
  cases i with
  | zero => cases e
  | succ i => exact e
noncomputable def CmpW (nv : List Str) (ix : List (Str × Nat)) (g : TG) (ti : TT) (te : TE) (σ : St) (J : It) (Fin : List V → Hp → Prop) (H1 : Hp) : Prop :=
  ∃ W : Nat → Nat → List V → Hp → Prop, (∃ m, W 0 m [] H1) ∧ ∀ i m ys H, W i m ys H →
    (J.stop i H ∧ Fin ys H) ∨ (J.go i H ∧ ys.length < sizeLine ∧ ∃ N : List V → Hp → Prop, (∀ ys' H', N ys' H' → ∃ m', m' < m ∧ W (i + 1) m' ys' H') ∧
      ∀ x H', J.yld i H x H' → g x (st0 nv ix σ) H' fun σ2 H2 => ti σ2 H2 fun b H3 => if b = true then te σ2 H3 fun y H4 => N (ys ++ [y]) H4 else N ys H3)
theorem comp_run {J : It} {fp : List Addr} {it : Addr} {tn : Nat → Heap → Prop} {g : TG} {ti : TT} {te : TE} {Fin : List V → Hp → Prop} {E : Value → Shared → Prop} {RR : Value → Addr → Result → Shared → Prop}
    (co : CompOk X nv ix scope) (hc : X.calm = true) (I : Inv X pins σ H s) (T : Turn X.prog X.w X.K tg J fp it tn) (st : tn 0 s.heap) (hf : ∀ b ∈ fp, FpOk X pins H b)
    (kg : KpG nv g) (hg : ∀ C s₀ H₀ fp, PG (cmpX X nv ix scope C s₀ H₀ fp) tg g) (hi : ∀ C s₀ H₀ fp, PIf (cmpX X nv ix scope C s₀ H₀ fp) ifs ti) (he : ∀ C s₀ H₀ fp, PE (cmpX X nv ix scope C s₀ H₀ fp) elt te)
    (q : CmpW nv ix g ti te σ J Fin H)
    (fin : ∀ D C s' H' ys, Inv X pins σ (upd H' D (.lst ys)) s' → H' D = none → Fin ys H' → (∃ m, s'.heap.Ns C m) → FpOk X pins (upd H' D (.lst ys)) C → RR (.ref D) C (.ok .next) s') :
    wpAny (model X.prog X.w) X.A (newList []) (fun acc s₃ => wpAny (model X.prog X.w) X.A (newFunctionEnv scope X.env.globals (clsOf X.env scope.names []) [] X.env.qual none .none (some X.env)) (fun cenv s₄ =>
      codeAny (model X.prog X.w) X.A (.compStart (.ListComp elt [⟨tg, iter, ifs, 0⟩] scope pos) 0 (.ref it) acc { cenv with scope := relabel scope X.env }) (RR acc cenv.locals) s₄) E s₃) E s := by
  obtain ⟨W, ⟨m0, w0⟩, turn⟩ := q
  refine wpAny_newObj_type (wpAny_newFunctionEnv co.nocell (by intro y hy; simp at hy) (fun h₁ hns₁ hsb₁ => ?_) co.kind)
  dsimp only at hns₁ hsb₁ ⊢
  generalize hH2 : s.heap.push { cls := .type "list", dict := none, data := .seq ([] : List Value).toArray } = H2 at hns₁ hsb₁ ⊢
  have hC : H2.objs.size = s.heap.objs.size + 1 := by rw [← hH2, Heap.size_push]
  rw [hC] at hns₁ hsb₁ ⊢
  have hDC : s.heap.objs.size ≠ s.heap.objs.size + 1 := Nat.ne_of_lt (Nat.lt_succ_self _)
  have below : ∀ b, b < s.heap.objs.size → b ≠ s.heap.objs.size + 1 ∧ b ≠ s.heap.objs.size := fun b hb => ⟨Nat.ne_of_lt (Nat.lt_succ_of_lt hb), Nat.ne_of_lt hb⟩
  have old : ∀ b o, s.heap.get? b = some o → h₁.get? b = some o := fun b o e => hsb₁.extBut b o (below b (Heap.lt_size e)).1 (Heap.get?_push_of_some _ (hH2 ▸ Heap.get?_push_of_some _ e))
  have hacc : h₁.get? s.heap.objs.size = some (lobj [] 0) := hsb₁.extBut _ _ hDC (Heap.get?_push_of_some _ (hH2 ▸ Heap.get?_push_size _ rfl))
  have hlt : ∀ b ∈ fp, b < s.heap.objs.size := fun b hb => by
    obtain ⟨o, e, _⟩ := T.obj 0 _ st b hb
    exact Heap.lt_size e
  have I₁ := fun tk => cmp_start (tk := tk) co I hf hlt hns₁ old hacc
  have st₁ : tn 0 h₁ := T.keep 0 _ _ st fun b _ o e => old b o e
  have fpD : ∀ {H' : Hp}, H' s.heap.objs.size = none → FpOk X pins H' s.heap.objs.size := fun hn => I.fpOk (Nat.le_refl _) hn
  have loop : ∀ tk : Nat, codeAny (model X.prog X.w) X.A (.compLoop (.ListComp elt [⟨tg, iter, ifs, 0⟩] scope pos) 0 (.ref it) (.ref s.heap.objs.size) (compEnvC scope (clsOf X.env scope.names []) (s.heap.objs.size + 1) X.env))
      (RR (.ref s.heap.objs.size) (s.heap.objs.size + 1)) { s with heap := h₁, toks := tk } := by
    intro tk
    refine compLoop_go (fun n s' => ∃ i H' ys its k, Inv (cmpX X nv ix scope (s.heap.objs.size + 1) s H fp) [(s.heap.objs.size, lobj its k)] (st0 nv ix σ) H' s' ∧ Vals ys its ∧ ys.length ≤ sizeLine ∧ tn i s'.heap ∧ (∀ b ∈ fp, H' b = none) ∧ W i n ys H')
      ?_ m0 ⟨0, H, [], [], 0, I₁ tk, .nil, Nat.zero_le _, st₁, fun b hb => (hf b hb).1, w0⟩
    rintro n s3 ⟨i, H3, ys, its, k, I3, rv, hz, st3, fr3, w3⟩
    have fpc : ∀ {H' : Hp} {its : List Value} {k : Nat}, (∀ b ∈ fp, H' b = none) → ∀ b ∈ fp, FpOk (cmpX X nv ix scope (s.heap.objs.size + 1) s H fp) [(s.heap.objs.size, lobj its k)] H' b := fun {H' its k} hn b hb => by
      refine ⟨hn b hb, (below b (hlt b hb)).1, fun hs => ?_, .inl hb, fun x c e => (hf b hb).2.2.2.2.1 x c (co.look I.ok e), fun p hp z => ?_⟩
      · rcases List.mem_cons.mp (I.stkSub b hs) with e | h
        · exact (hf b hb).2.1 e
        · exact (hf b hb).2.2.1 h
      · have e : p = (s.heap.objs.size, lobj its k) := by simpa [cmpX] using hp
        subst e
        exact (below b (hlt b hb)).2 z.symm
    have pD := fun {ps : List (Addr × Obj)} {σ' : St} {H' : Hp} {s' : Shared} (I' : Inv (cmpX X nv ix scope (s.heap.objs.size + 1) s H fp) ((s.heap.objs.size, lobj its k) :: ps) σ' H' s') =>
      I'.pin (s.heap.objs.size, lobj its k) (List.mem_append_right _ List.mem_cons_self)
    rcases turn i n ys H3 w3 with ⟨stop, fin0⟩ | ⟨go, hlt', N, hN, step⟩
    · refine thn (T.done (cmpX X nv ix scope (s.heap.objs.size + 1) s H fp) rfl rfl rfl hc i _ s3 _ H3 _ I3 (fpc fr3) st3 stop) fun r s4 ⟨hr, I4⟩ => ?_
      subst hr
      obtain ⟨p1, p2, _⟩ := pD I4
      have I5 := (cmp_end I hf I4).track rv hz p1 p2 (fpD p2)
      obtain ⟨mC, hmC, _⟩ := I4.loc
      exact fin _ _ s4 H3 ys I5 p2 fin0 ⟨mC, hmC⟩ (I.fpOk (Nat.le_succ _) (by rw [upd_ne (Ne.symm hDC)]; exact I4.free))
    · refine thn (T.item (cmpX X nv ix scope (s.heap.objs.size + 1) s H fp) rfl rfl rfl hc i _ s3 _ H3 _ I3 (fpc fr3) st3 go) fun r s4 ⟨u, hr, h4⟩ => ?_
      subst hr
      refine thn h4 fun _ s5 ⟨x, H5, I5, r5, y5, st5, fr5⟩ => ?_
      have I5' := I5.pinned (fpc fr5) (T.obj _ _ st5)
      refine thn (hg _ _ _ _ _ s5 _ H5 x u _ I5' r5 (kg _ _ _ _ (step x H5 y5))) fun _ s6 ⟨σ6, H6, I6, kp, q6⟩ => ?_
      refine thn (hi _ _ _ _ _ s6 σ6 H6 _ I6 q6) fun b s7 ⟨H7, I7, q7⟩ => ?_
      have again : ∀ {s7 : Shared} {H7 : Hp} {ys' its' : List _} {k' : Nat}, Inv (cmpX X nv ix scope (s.heap.objs.size + 1) s H fp) ([(s.heap.objs.size, lobj its' k')] ++ pinsAt fp s5.heap) σ6 H7 s7 → Vals ys' its' → ys'.length ≤ sizeLine → N ys' H7 →
          ∃ m, m < n ∧ ∃ i H' ys its k, Inv (cmpX X nv ix scope (s.heap.objs.size + 1) s H fp) [(s.heap.objs.size, lobj its k)] (st0 nv ix σ) H' s7 ∧ Vals ys its ∧ ys.length ≤ sizeLine ∧ tn i s7.heap ∧ (∀ b ∈ fp, H' b = none) ∧ W i m ys H' := fun {s7 H7 ys' its' k'} I8 rv' hz' n8 => by
        obtain ⟨m', hm, w8⟩ := hN _ _ n8
        have pn := fun (b : Addr) (o : Obj) (hb : b ∈ fp) (e : s5.heap.get? b = some o) => I8.pin (b, o) (List.mem_append_right _ (List.mem_append_right _ (mem_pinsAt hb e)))
        refine ⟨m', hm, i + 1, H7, ys', its', k', (I8.unpinned).weak kp.1 kp.2, rv', hz', T.keep _ _ _ st5 fun b hb o e => (pn b o hb e).1, fun b hb => ?_, w8⟩
        obtain ⟨o, e, d⟩ := T.obj _ _ st5 b hb
        exact (pn b o hb e).2.1
      cases b with
      | false =>
        rw [if_neg Bool.false_ne_true] at q7 ⊢
        exact again I7 rv hz q7
      | true =>
        rw [if_pos rfl] at q7 ⊢
        refine thn (he _ _ _ _ _ s7 σ6 H7 _ I7 q7) fun u8 s8 ⟨y, H8, I8, r8, q8⟩ => ?_
        obtain ⟨p1, p2, p3, p4, p5⟩ := pD I8
        refine append_at (hsz := by rw [List.size_toArray, ← rv.length]; exact Nat.le_of_lt hlt') p1 fun h9 hs9 hD9 => ?_
        have I9 : Inv (cmpX X nv ix scope (s.heap.objs.size + 1) s H fp) (pinsAt fp s5.heap) σ6 H8 { s8 with heap := h9 } := by
          have Iu : Inv (cmpX X nv ix scope (s.heap.objs.size + 1) s H fp) (pinsAt fp s5.heap) σ6 H8 s8 := I8.pins_of fun p hp => I8.pin p (List.mem_append_right _ (List.mem_append_right _ hp))
          refine Iu.turned (t' := s8.toks) (it := s.heap.objs.size) (fun b o hb e => (hs9.2 b hb).trans e) p2 p3 (.inr (Nat.le_refl _)) (fun x c e z => ?_) fun p hp z => ?_
          · obtain ⟨v, o, e1, _⟩ := I.cell x c (co.look I.ok e)
            exact absurd (Heap.lt_size e1) (by rw [z]; exact Nat.lt_irrefl _)
          · have hp' : p ∈ pinsAt fp s5.heap := by simpa [cmpX] using hp
            obtain ⟨hb, _⟩ := of_pinsAt hp'
            exact (below _ (hlt _ hb)).2 z
        have I10 : Inv (cmpX X nv ix scope (s.heap.objs.size + 1) s H fp) ([(s.heap.objs.size, lobj (its ++ [u8]) (k + 1))] ++ pinsAt fp s5.heap) σ6 H8 { s8 with heap := h9 } :=
          I9.pins_of fun p hp => by
            rcases List.mem_append.mp hp with hp | hp
            · have e : p = (s.heap.objs.size, lobj (its ++ [u8]) (k + 1)) := by simpa using hp
              subst e
              refine ⟨?_, p2, p3, p4, fun v z => by cases z⟩
              rw [List.push_toArray] at hD9
              exact hD9
            · exact I9.pin p (List.mem_append_right _ hp)
        exact again I10 (rv.append (.cons r8 .nil)) (by rw [List.length_append, List.length_singleton]; exact hlt') q8
  exact codeAny_compStart_list (loop _) (T.self _ 0 _ _ _ st₁ (loop _))

noncomputable def tComp (nv : List Str) (ix : List (Str × Nat)) (wi : TI) (g : TG) (ti : TT) (te : TE) : TE := fun σ H Q => wi σ H fun J H1 => CmpW nv ix g ti te σ J (fun ys H2 => ∀ D, H2 D = none → Q (.ref D) (upd H2 D (.lst ys))) H1
theorem pe_comp {wi : TI} {g : TG} {ti : TT} {te : TE} (nv : List Str) (ix : List (Str × Nat)) (hc : X.calm = true) (co : CompOk X nv ix scope) (hit : PI X tg iter wi) (kg : KpG nv g) (hg : ∀ C s₀ H₀ fp, PG (cmpX X nv ix scope C s₀ H₀ fp) tg g)
    (hi : ∀ C s₀ H₀ fp, PIf (cmpX X nv ix scope C s₀ H₀ fp) ifs ti) (he : ∀ C s₀ H₀ fp, PE (cmpX X nv ix scope C s₀ H₀ fp) elt te)
    (hs : ∀ x, foldedSetIterable iter X.env x = pure x := by intro _; rfl) : PE X (.ListComp elt [⟨tg, iter, ifs, 0⟩] scope pos) (tComp nv ix wi g ti te) := by
  intro pins s σ H Q I h
  rw [eval_ListComp]
  refine wpAny_comprehension_free (use := none) rfl hs (closure_ok (co.cells I.ok)) co.kind co.names (thn (hit pins s σ H _ I h) fun v s1 h1 => thn h1 fun itv s2 h2 => ?_)
  obtain ⟨it, fp, tn, J, H2, e, I2, T, st2, f2, q⟩ := h2
  subst e
  refine comp_run co hc I2 T st2 f2 kg hg hi he q fun D C s' H' ys I' hD fin ⟨m, hm⟩ hC => ?_
  obtain ⟨c0, c1, c2, c3, c4, c5⟩ := hC
  exact ⟨m, hm, fun h' hs' => ⟨.ref D, _, I'.turned (t' := s'.toks) (fun b o hb e => (hs'.2 b hb).trans e) c0 c1 c3 c4 c5, rfl, fin D hD⟩⟩
theorem ze_comp {wi : TI} {g : TG} {ti : TT} {te : TE} (nv : List Str) (ix : List (Str × Nat)) (hc : X.calm = true) (co : CompOk X nv ix scope) (hit : ZI X tg iter wi) (kg : KpG nv g) (hg : ∀ C s₀ H₀ fp, ZG (cmpX X nv ix scope C s₀ H₀ fp) tg g)
    (hi : ∀ C s₀ H₀ fp, ZIf (cmpX X nv ix scope C s₀ H₀ fp) ifs ti) (he : ∀ C s₀ H₀ fp, ZE (cmpX X nv ix scope C s₀ H₀ fp) elt te)
    (hs : ∀ x, foldedSetIterable iter X.env x = pure x := by intro _; rfl) : ZE X (.ListComp elt [⟨tg, iter, ifs, 0⟩] scope pos) (tComp nv ix wi g ti te) := by with_unfolding_all exact pe_comp nv ix hc co hit kg hg hi he hs
end
section
variable {nv : List Str} {ix : List (Str × Nat)} {σ : St} {H : Hp} {g : TG} {ti : TT} {te : TE} {Fin : List V → Hp → Prop} {K : PySem.W.Frag} {a : Addr} {xs : List V}
theorem cmp_tup (Pv : Nat → List V → Hp → Prop) (h0 : Pv 0 [] H) (hl : ∀ i ys H, i ≤ xs.length → Pv i ys H → SqT K H a xs)
    (hs : ∀ i x ys H, xs[i]? = some x → Pv i ys H → ys.length < sizeLine ∧ g x (st0 nv ix σ) H fun σ2 H2 => ti σ2 H2 fun b H3 => if b = true then te σ2 H3 fun y H4 => Pv (i + 1) (ys ++ [y]) H4 else Pv (i + 1) ys H3)
    (hd : ∀ ys H, Pv xs.length ys H → Fin ys H) : CmpW nv ix g ti te σ (Itt K a) Fin H := by
  refine ⟨fun i m ys H => m = xs.length - i ∧ i ≤ xs.length ∧ Pv i ys H, ⟨xs.length, by simp, Nat.zero_le _, h0⟩, ?_⟩
  rintro i m ys H ⟨rfl, hi, p⟩
  have q := hl i ys H hi p
  by_cases hlt : i < xs.length
  · have e := hs i xs[i] ys H (by simp [hlt]) p
    refine .inr ⟨⟨xs, xs[i], q, by simp [hlt]⟩, e.1, Pv (i + 1), fun σ' H' p' => ⟨xs.length - (i + 1), by omega, rfl, hlt, p'⟩, fun x H' y => ?_⟩
    obtain ⟨e', y⟩ := y
    subst e'
    exact (hs i x ys _ (y xs q) p).2
  · have e : i = xs.length := by omega
    subst e
    exact .inl ⟨⟨xs, q, Nat.le_refl _⟩, hd ys H p⟩
end
end L2
set_option Elab.async false
set_option linter.all false
set_option maxRecDepth 100000
set_option maxHeartbeats 4000000
namespace L2
open PySem PySem.Spec PyProof.Rows
theorem Same.new {H : Hp} {p : Addr} (h : H p = none) (o : HO) : Same H (upd H p o) := fun b u q => by rw [upd_ne (ne_of_none q h)]; exact q

section
variable {X : Cx} {a b c : Expr} {ta tb tc : TE} {pos : Pos}
theorem op_mulB : OpR X (binaryOp .Mult) (rI (fun i j => IntMulOk i j) fun i j => .int (i * j)) := opI fun _ _ _ _ _ _ _ hc q => mul_int q hc

end
end L2
set_option Elab.async false
set_option linter.all false
set_option maxRecDepth 100000
set_option maxHeartbeats 4000000
namespace L2
open PySem PySem.Spec PyProof.Rows
section
variable {prog : Program} {w : World} {A : Around} {E : Value → Shared → Prop} {s : Shared}
theorem getItem_tuple_whole {t sl : Addr} {items : Array Value} {vl vu : Value} {lo hi : Option Int} {Q : Value → Shared → Prop} (ht : IsTup s.heap t items) (hs : s.heap.IsSliceOf sl vl vu .none) (pl : IsPart vl lo) (pu : IsPart vu hi)
    (hw : HT.sIx items.size 0 lo = 0 ∧ HT.sIx items.size items.size hi = items.size)
    (h : Q (.ref t) s) : wpAny (model prog w) A (getItem (.ref t) (.ref sl)) Q E s := by
  obtain ⟨os, hos, hcs, hds⟩ := id hs
  have hTs : s.TypeIs (.ref sl) "slice" := ⟨os, hos, hcs⟩
  unfold getItem
  try with_reducible refine wpAny_holding ?_
  first | refine wpAny_bind (wpAny_pure ?_) | skip
  refine wpAny_bind (wpAny_sequenceKey ht.typeIs (by decide) ?_)
  refine wpAny_bind (wpAny_callSpecial?_slot (name := Str.ofString "__getitem__") ht.typeIs PyProof.Rows.slot_tuple_getitem
    (wpAny_call_entry PyProof.Rows.slot_tuple_getitem ht.typeIs entry_tuple_getitem ?_ (args_tuple_getitem _ _)))
  show wpAny _ _ (Builtin.Tuple.tupleItemsOf (.ref t) >>= _) _ _ s
  refine wpAny_bind (tupleItemsOf_ ht ?_)
  refine wpAny_bind (wpAny_typeOf hTs ?_)
  rw [if_pos (by decide)]
  refine wpAny_bind (HT.sliceApplied_gen hs pl pu ?_)
  have hyes : ((((HT.sIx items.size 0 lo : Nat) : Int) == 0 && (1 : Int) == 1 && (HT.sIx items.size items.size hi - HT.sIx items.size 0 lo) == items.size) = true) := by
    rw [hw.1, hw.2]
    simp
  show wpAny _ _ (if (((HT.sIx items.size 0 lo : Nat) : Int) == 0 && (1 : Int) == 1 && (HT.sIx items.size items.size hi - HT.sIx items.size 0 lo) == items.size) = true then _ else _) _ _ s
  rw [if_pos hyes]
  refine wpAny_bind (m := Builtin.Tuple.tupleIsExact _) ?_
  unfold Builtin.Tuple.tupleIsExact
  refine wpAny_bind (wpAny_typeOf ht.typeIs (wpAny_pure ?_))
  rw [if_pos (by decide)]
  exact wpAny_bind (wpAny_rule (wpAny_pure ⟨_, rfl, wpAny_pure h⟩))
end
section
variable {X : Cx} {a b c : Expr} {ta tb tc : TE} {pos : Pos}
noncomputable def rSlP (K : PySem.W.Frag) : V → Option Int → Option Int → Hp → VK → Prop := fun x lo hi H Q => ∃ a, x = .ref a ∧ ((∃ xs, H a = some (.tup xs) ∧ ∀ r H', Same H H' → H' r = some (.tup (cutV xs lo hi)) → Q (.ref r) H') ∨
  ∃ xs, SqL K H a xs ∧ ∀ p, H p = none → Q (.ref p) (upd H p (.lst (cutV xs lo hi))))
theorem sl_P : SlR X (rSlP X.K) := by
  intro pins s σ H x v vl vu lo hi sl Q I rx hs pl pu h
  obtain ⟨a, rfl, ⟨xs, hx, q⟩ | ⟨xs, hx, q⟩⟩ := h
  · by_cases hw : HT.sIx xs.length 0 lo = 0 ∧ HT.sIx xs.length xs.length hi = xs.length
    · cases rx
      obtain ⟨its, r, ht, hz⟩ := I.tuple (SqT.of hx)
      have hlen : its.toArray.size = xs.length := by rw [List.size_toArray]; exact r.length.symm
      refine ⟨"tuple", _, PyProof.Rows.slot_tuple_getitem.lookup, ht.typeIs, ?_⟩
      refine getItem_tuple_whole ht hs pl pu (by rw [hlen]; exact hw) ⟨.ref a, H, I, rfl, q a H (Same.refl H) ?_⟩
      rw [hx]
      unfold cutV
      rw [hw.1, hw.2, List.drop_zero, Nat.sub_zero, List.take_of_length_le (Nat.le_refl _)]
    · exact sl_tup pins s σ H _ v vl vu lo hi sl Q I rx hs pl pu ⟨a, xs, rfl, SqT.of hx, hw, fun p hp => q p _ (Same.new hp _) upd_same⟩
  · exact sl_list pins s σ H _ v vl vu lo hi sl Q I rx hs pl pu ⟨a, xs, rfl, hx, q⟩
theorem PE.imp {e : Expr} {t t' : TE} (h : PE X e t) (i : ∀ σ H Q, t' σ H Q → t σ H Q) : PE X e t' := fun pins s σ H Q I q => h pins s σ H Q I (i σ H Q q)
theorem OpR.imp {f : Value → Value → Sem Value} {r r' : R2} (h : OpR X f r) (i : ∀ x y H Q, r' x y H Q → r x y H Q) : OpR X f r' := fun pins s σ H x y v u Q I rx ry q => h pins s σ H x y v u Q I rx ry (i x y H Q q)
noncomputable def tV (i : Nat) : TE := fun σ H Q => match σ[i]? with | some (some v) => Q v H | _ => False
theorem tV_var {i : Nat} (σ : St) (H : Hp) (Q : VK) (h : tV i σ H Q) : tVar i σ H Q := by
  unfold tV at h
  split at h
  · exact ⟨_, by assumption, h⟩
  · exact h.elim
theorem pn (i : Nat) {x : Str} {pos : Pos} (hN : X.N[i]? = some x := by rfl) (hv : Vis X.env.scope x := by first | exact Or.inl rfl | exact Or.inr (Or.inl rfl) | exact Or.inr (Or.inr rfl)) (hd : (x == ("__debug__" : Str)) = false := by decide)
    (hcd : (x == ("__classdict__" : Str)) = false := by decide) : PE X (.Name x pos) (tV i) := (pe_var hN hv hd hcd).imp tV_var
theorem zn (i : Nat) {x : Str} {pos : Pos} (hN : X.N[i]? = some x := by rfl) (hv : Vis X.env.scope x := by first | exact Or.inl rfl | exact Or.inr (Or.inl rfl) | exact Or.inr (Or.inr rfl)) (hd : (x == ("__debug__" : Str)) = false := by decide)
    (hcd : (x == ("__classdict__" : Str)) = false := by decide) : ZE X (.Name x pos) (tV i) := by with_unfolding_all exact pn i hN hv hd hcd
noncomputable def rAddP (K : PySem.W.Frag) : R2 := fun x y H Q => match x, y with
  | .int i, .int j => Q (.int (i + j)) H
  | .str i, .str j => i.length + j.length ≤ sizeLine ∧ Q (.str (i ++ j)) H
  | .ref a, .ref b => (∃ xs ys, H a = some (.lst xs) ∧ H b = some (.lst ys) ∧ xs.length + ys.length ≤ sizeLine ∧ ∀ p, H p = none → Q (.ref p) (upd H p (.lst (xs ++ ys)))) ∨
      ∃ xs ys, H a = some (.tup xs) ∧ H b = some (.tup ys) ∧ xs.length + ys.length ≤ sizeLine ∧ ∀ r H', Same H H' → H' r = some (.tup (xs ++ ys)) → Q (.ref r) H'
  | _, _ => False
theorem op_catA' : OpR X (binaryOp .Add) (fun x y H Q => ∃ a b xs ys, x = .ref a ∧ y = .ref b ∧ H a = some (.tup xs) ∧ H b = some (.tup ys) ∧ xs.length + ys.length ≤ sizeLine ∧ ∀ r H', Same H H' → H' r = some (.tup (xs ++ ys)) → Q (.ref r) H') := by
  intro pins s σ H x y v u Q I rx ry h
  obtain ⟨a, b, xs, ys, rfl, rfl, ha, hb, hz, q⟩ := h
  by_cases hx : xs = []
  · subst hx
    cases rx
    cases ry
    obtain ⟨its, r1, p1, _⟩ := I.tuple (SqT.of ha)
    obtain ⟨its2, r2, p2, _⟩ := I.tuple (SqT.of hb)
    cases r1
    obtain ⟨⟨cls, dd, data, sl⟩, ho, hc, n, hd⟩ := id p1
    obtain ⟨⟨cls2, dd2, data2, sl2⟩, ho2, hc2, n2, hd2⟩ := id p2
    simp only at hc hd hc2 hd2
    subst hc hd hc2 hd2
    exact concat_meets ⟨_, ho, rfl⟩ ⟨_, ho2, rfl⟩ noFill_tuple_add seq_tuple_add PySem.F.slot_tuple_add PySem.F.entry_tuple_add (PySem.F.args_tuple_add_2 _ _)
      (tuple_addW0 a b _ _ n n2 dd dd2 sl sl2 (by rfl)) ⟨ho, ho2, ⟨.ref b, H, I, rfl, q b H (Same.refl H) hb⟩⟩
  · refine op_catT pins s σ H _ _ v u Q I rx ry ⟨a, b, xs, ys, rfl, rfl, SqT.of ha, SqT.of hb, hx, hz, fun e => ?_, fun e p hp => ?_⟩
    · subst e
      exact q a H (Same.refl H) (by rw [List.append_nil]; exact ha)
    · exact q p _ (Same.new hp _) upd_same
theorem op_addP : OpR X (binaryOp .Add) (rAddP X.K) := by
  intro pins s σ H x y v u Q I rx ry h
  unfold rAddP at h
  split at h
  · exact op_add pins s σ H _ _ v u Q I rx ry ⟨_, _, rfl, rfl, h⟩
  · exact op_add_str pins s σ H _ _ v u Q I rx ry ⟨_, _, rfl, rfl, h⟩
  · rcases h with ⟨xs, ys, h1, h2, h3, q⟩ | ⟨xs, ys, h1, h2, h3, q⟩
    · exact op_cat pins s σ H _ _ v u Q I rx ry ⟨_, _, xs, ys, rfl, rfl, h1, h2, h3, q⟩
    · exact op_catA' pins s σ H _ _ v u Q I rx ry ⟨_, _, xs, ys, rfl, rfl, h1, h2, h3, q⟩
  · exact h.elim
noncomputable def rP (C : Int → Int → Prop) (g : Int → Int → V) : R2 := fun x y H Q => match x, y with | .int i, .int j => C i j ∧ Q (g i j) H | _, _ => False
noncomputable def rP0 (g : Int → Int → V) : R2 := fun x y H Q => match x, y with | .int i, .int j => Q (g i j) H | _, _ => False
theorem rP_rI {C : Int → Int → Prop} {g : Int → Int → V} (x y : V) (H : Hp) (Q : VK) (h : rP C g x y H Q) : rI C g x y H Q := by
  unfold rP at h
  split at h
  · exact ⟨_, _, rfl, rfl, h⟩
  · exact h.elim
theorem rP0_rI0 {g : Int → Int → V} (x y : V) (H : Hp) (Q : VK) (h : rP0 g x y H Q) : rI0 g x y H Q := by
  unfold rP0 at h
  split at h
  · exact ⟨_, _, rfl, rfl, h⟩
  · exact h.elim
theorem op_subP : OpR X (binaryOp .Sub) (rP0 fun i j => .int (i - j)) := op_sub.imp rP0_rI0
theorem op_modP : OpR X (binaryOp .Mod) (rP (fun _ j => 0 < j) fun i j => .int (i % j)) := op_mod.imp rP_rI
theorem op_fdivP : OpR X (binaryOp .FloorDiv) (rP CDiv fun i j => .int (i / j)) := op_fdiv.imp rP_rI
theorem op_powP : OpR X (binaryOp .Pow) (rP CPow fun i j => .int (i ^ j.toNat)) := op_pow.imp rP_rI
theorem op_ltP : OpR X (compareOp .Lt) (rP0 fun i j => .bl (decide (i < j))) := op_lt.imp rP0_rI0
theorem op_gtP : OpR X (compareOp .Gt) (rP0 fun i j => .bl (decide (j < i))) := op_gt.imp rP0_rI0
theorem op_geP : OpR X (compareOp .GtE) (rP0 fun i j => .bl (decide (j ≤ i))) := op_ge.imp rP0_rI0
noncomputable def rIsP (neg : Bool) : R2 := fun x y H Q => match y with
  | .non => Q (.bl (if neg then !decide (x = y) else decide (x = y))) H
  | .bl _ => match x with
    | .flt _ => False
    | .byt _ => False
    | .ty _ => False
    | _ => Q (.bl (if neg then !decide (x = y) else decide (x = y))) H
  | _ => False
end
end L2
set_option Elab.async false
set_option linter.all false
set_option maxRecDepth 100000
set_option maxHeartbeats 4000000
namespace L2
open PySem PySem.Spec PyProof.Rows
mutual
inductive DatV (H : Hp) : V → PyData → Prop where
  | non : DatV H .non .none
  | bl (b : Bool) : DatV H (.bl b) (.bool b)
  | int (i : Int) : DatV H (.int i) (.int i)
  | str (x : Str) : DatV H (.str x) (.str x)
  | lst {a : Addr} {xs : List V} {ds : List PyData} (e : H a = some (.lst xs)) (r : DatAll H xs ds) : DatV H (.ref a) (.list ds)
  | tup {a : Addr} {xs : List V} {ds : List PyData} (e : H a = some (.tup xs)) (r : DatAll H xs ds) : DatV H (.ref a) (.tuple ds)
inductive DatAll (H : Hp) : List V → List PyData → Prop where
  | nil : DatAll H [] []
  | cons {x : V} {d : PyData} {xs : List V} {ds : List PyData} (h : DatV H x d) (r : DatAll H xs ds) : DatAll H (x :: xs) (d :: ds)
end
mutual
theorem DatV.same {H H' : Hp} (s : Same H H') : ∀ {x : V} {d : PyData}, DatV H x d → DatV H' x d
  | _, _, .non => .non
  | _, _, .bl b => .bl b
  | _, _, .int i => .int i
  | _, _, .str x => .str x
  | _, _, .lst e r => .lst (s _ _ e) (DatAll.same s r)
  | _, _, .tup e r => .tup (s _ _ e) (DatAll.same s r)
theorem DatAll.same {H H' : Hp} (s : Same H H') : ∀ {xs : List V} {ds : List PyData}, DatAll H xs ds → DatAll H' xs ds
  | _, _, .nil => .nil
  | _, _, .cons h r => .cons (DatV.same s h) (DatAll.same s r)
end
theorem DatAll.ints {H : Hp} : ∀ ns : List Int, DatAll H (ns.map V.int) (ns.map PyData.int)
  | [] => .nil
  | n :: r => .cons (.int n) (DatAll.ints r)
section
variable {X : Cx} {pins : List (Addr × Obj)} {σ : St} {H : Hp} {s : Shared}
mutual
theorem DatV.reads (I : Inv X pins σ H s) : ∀ {x : V} {d : PyData} {v : Value}, DatV H x d → RelV x v → ∃ as, Reads s.heap v d as
  | _, _, _, .non, r => by cases r; exact ⟨_, .none⟩
  | _, _, _, .bl b, r => by cases r; exact ⟨_, .bool b⟩
  | _, _, _, .int i, r => by obtain ⟨t, rfl⟩ := r; exact ⟨_, .int i t⟩
  | _, _, _, .str x, r => by obtain ⟨t, rfl⟩ := r; exact ⟨_, .str x t⟩
  | _, _, _, .lst e q, r => by
    cases r
    obtain ⟨_, its, n, rv, h⟩ := I.lstM e
    obtain ⟨_, h⟩ := h
    obtain ⟨as, z⟩ := DatAll.reads I q rv
    exact ⟨_, reads_list_at h rfl rfl z⟩
  | _, _, _, .tup e q, r => by
    cases r
    obtain ⟨its, rv, ⟨o, h1, h2, n, h3⟩, _⟩ := I.tuple (SqT.of e)
    obtain ⟨as, z⟩ := DatAll.reads I q rv
    exact ⟨_, reads_tuple_at h1 h2 h3 z⟩
theorem DatAll.reads (I : Inv X pins σ H s) : ∀ {xs : List V} {ds : List PyData} {vs : List Value}, DatAll H xs ds → Vals xs vs → ∃ as, ReadsAll s.heap vs ds as
  | _, _, _, .nil, r => by cases r; exact ⟨_, .nil⟩
  | _, _, _, .cons h q, r => by
    cases r with
    | cons r1 r2 =>
      obtain ⟨as, z⟩ := DatV.reads I h r1
      obtain ⟨bs, y⟩ := DatAll.reads I q r2
      exact ⟨_, .cons z y⟩
end
end
section
variable {X : Cx} {a b c : Expr} {ta tb tc : TE} {pos : Pos}
noncomputable def rEqD (neg : Bool) : R2 := fun x y H Q => match scal x y with
  | true => Q (.bl (if neg then !decide (x = y) else decide (x = y))) H
  | false => ∃ d e, DatV H x d ∧ DatV H y e ∧ SeqAt.shaped d = true ∧ SeqAt.shaped e = true ∧ Q (.bl (if neg then !PyData.eqv d e else PyData.eqv d e)) H
theorem op_eqD (hu : X.A.units + 64 < cLine) : OpR X (compareOp .Eq) (rEqD false) := by
  intro pins s σ H x y v u Q I rx ry h
  unfold rEqD at h
  split at h
  · exact op_eq pins s σ H x y v u Q I rx ry ⟨by assumption, h⟩
  · obtain ⟨d, e, h1, h2, h3, h4, q⟩ := h
    obtain ⟨as, r1⟩ := h1.reads I rx
    obtain ⟨bs, r2⟩ := h2.reads I ry
    exact eq_dataH r1 r2 h3 h4 hu ⟨.bl _, H, I, rfl, q⟩
theorem op_neD (hu : X.A.units + 64 < cLine) : OpR X (compareOp .NotEq) (rEqD true) := by
  intro pins s σ H x y v u Q I rx ry h
  unfold rEqD at h
  split at h
  · exact op_ne pins s σ H x y v u Q I rx ry ⟨by assumption, h⟩
  · obtain ⟨d, e, h1, h2, h3, h4, q⟩ := h
    obtain ⟨as, r1⟩ := h1.reads I rx
    obtain ⟨bs, r2⟩ := h2.reads I ry
    exact ne_dataH r1 r2 h3 h4 hu ⟨.bl _, H, I, rfl, q⟩
theorem op_isP : OpR X (compareOp .Is) (rIsP false) := by
  intro pins s σ H x y v u Q I rx ry h
  unfold rIsP at h
  split at h
  · exact op_isN pins s σ H x _ v u Q I rx ry ⟨rfl, h⟩
  · rename_i k
    cases ry
    split at h
    · exact h.elim
    · exact h.elim
    · exact h.elim
    · rename_i hf hb ht
      cases x with
      | non => cases rx; exact wpAny_is_plain rfl (fin_bl I h (by simp))
      | bl j => cases rx; exact wpAny_is_plain rfl (fin_bl I h (by rw [Bool.eq_iff_iff]; simp))
      | int j => obtain ⟨t, rfl⟩ := rx; exact wpAny_is_plain rfl (fin_bl I h (by simp))
      | str j => obtain ⟨t, rfl⟩ := rx; exact wpAny_is_plain rfl (fin_bl I h (by simp))
      | byt j => exact absurd rfl (hb j)
      | flt j => exact absurd rfl (hf j)
      | ref j => cases rx; exact wpAny_is_plain rfl (fin_bl I h (by simp))
      | ty j => exact absurd rfl (ht j)
  · exact h.elim
theorem op_isntP : OpR X (compareOp .IsNot) (rIsP true) := by
  intro pins s σ H x y v u Q I rx ry h
  unfold rIsP at h
  split at h
  · exact op_notN pins s σ H x _ v u Q I rx ry ⟨rfl, h⟩
  · rename_i k
    cases ry
    split at h
    · exact h.elim
    · exact h.elim
    · exact h.elim
    · rename_i hf hb ht
      cases x with
      | non => cases rx; exact wpAny_isNot_plain rfl (fin_bl I h (by simp))
      | bl j => cases rx; exact wpAny_isNot_plain rfl (fin_bl I h (by rw [Bool.eq_iff_iff]; simp))
      | int j => obtain ⟨t, rfl⟩ := rx; exact wpAny_isNot_plain rfl (fin_bl I h (by simp))
      | str j => obtain ⟨t, rfl⟩ := rx; exact wpAny_isNot_plain rfl (fin_bl I h (by simp))
      | byt j => exact absurd rfl (hb j)
      | flt j => exact absurd rfl (hf j)
      | ref j => cases rx; exact wpAny_isNot_plain rfl (fin_bl I h (by simp))
      | ty j => exact absurd rfl (ht j)
  · exact h.elim

noncomputable def tBlP (t : TE) : TT := fun σ H Q => t σ H fun x H1 => match x with | .bl c => Q c H1 | _ => False
theorem blP {x : V} {P : Bool → Prop} (h : match x with | .bl c => P c | _ => False) : ∃ c, x = .bl c ∧ P c := by
  cases x <;> first | exact ⟨_, rfl, h⟩ | exact h.elim
theorem pt_cmpP {op : CmpOp} {r : R2} (ho : OpR X (compareOp op) r) (ha : PE X a ta) (hb : PE X b tb) (hm : behindInMarks op b = false) : PT X (.Compare a [op] [b] pos) (tBlP (tOp r ta tb)) := by
  intro pins s σ H Q I h
  refine wpAny_isTrue_Compare1 (binT ha hb I h fun v u s2 x y H2 I2 rx ry q => ?_) hm
  refine thn (ho pins s2 σ H2 x y v u _ I2 rx ry q) fun z s3 ⟨w', H3, I3, r3, q3⟩ => ?_
  obtain ⟨k, rfl, q3⟩ := blP q3
  cases r3
  exact wpAny_truthy_bool ⟨H3, I3, q3⟩
theorem zt_cmpP {op : CmpOp} {r : R2} (ho : OpR X (compareOp op) r) (ha : ZE X a ta) (hb : ZE X b tb) (hm : behindInMarks op b = false) : ZT X (.Compare a [op] [b] pos) (tBlP (tOp r ta tb)) := by with_unfolding_all exact pt_cmpP ho ha hb hm
theorem pt_valP {e : Expr} {t : TE} (h : PE X e t) (he : ∀ whole, isTrue e X.env whole = (do let v ← whole; standAt e.pos; holding [v] (truthy v)) := by intro _; rfl) : PT X e (tBlP t) := by
  intro pins s σ H Q I q
  refine isTrue_plain (thn (h pins s σ H _ I q) fun v s1 ⟨x, H1, I1, r1, q1⟩ => ?_) (he _)
  obtain ⟨k, rfl, q1⟩ := blP q1
  cases r1
  exact wpAny_truthy_bool ⟨H1, I1, q1⟩
theorem zt_valP {e : Expr} {t : TE} (h : ZE X e t) (he : ∀ whole, isTrue e X.env whole = (do let v ← whole; standAt e.pos; holding [v] (truthy v)) := by intro _; rfl) : ZT X e (tBlP t) := by with_unfolding_all exact pt_valP h he
noncomputable def tAndP (ta tb : TE) : TE := fun σ H Q => ta σ H fun x H1 => match x with | .bl c => if c = true then tb σ H1 Q else Q (.bl false) H1 | _ => False
noncomputable def tNotP (ta : TE) : TE := fun σ H Q => ta σ H fun x H1 => match x with | .bl c => Q (.bl (!c)) H1 | _ => False
variable {rest : List Expr}
theorem pe_andP (ha : PE X a ta) (hb : PE X (.BoolOp .And (b :: rest) pos) tb) : PE X (.BoolOp .And (a :: b :: rest) pos) (tAndP ta tb) := by
  intro pins s σ H Q I h
  refine BoolOp_and (thn (ha pins s σ H _ I h) fun v s1 ⟨x, H1, I1, r1, q1⟩ => ?_)
  obtain ⟨c, rfl, q1⟩ := blP q1
  cases r1
  refine wpAny_truthy_bool ?_
  cases c with
  | true => exact hb pins s1 σ H1 Q I1 q1
  | false => exact ⟨.bl false, H1, I1, rfl, q1⟩
theorem ze_andP (ha : ZE X a ta) (hb : ZE X (.BoolOp .And (b :: rest) pos) tb) : ZE X (.BoolOp .And (a :: b :: rest) pos) (tAndP ta tb) := by with_unfolding_all exact pe_andP ha hb
theorem pe_notP (ha : PE X a ta) : PE X (.UnaryOp .Not a pos) (tNotP ta) := by
  intro pins s σ H Q I h
  refine UnaryOp_ (thn (ha pins s σ H _ I h) fun v s1 ⟨x, H1, I1, r1, q1⟩ => ?_)
  obtain ⟨c, rfl, q1⟩ := blP q1
  cases r1
  exact not_of (wpAny_truthy_bool ⟨.bl (!c), H1, I1, rfl, q1⟩)
theorem ze_notP (ha : ZE X a ta) : ZE X (.UnaryOp .Not a pos) (tNotP ta) := by with_unfolding_all exact pe_notP ha

noncomputable def rIxP (K : PySem.W.Frag) : R2 := fun x y H Q => match x, y with
  | .ref p, .int i => (∃ xs, (SqL K H p xs ∨ H p = some (.tup xs)) ∧ ∃ v, atI xs i = some v ∧ Q v H)
  | _, _ => False
theorem ix_P : IxR X (rIxP X.K) := by
  intro value slice pins s σ H x y v u Q I rx ry h hs
  unfold rIxP at h
  split at h
  · obtain ⟨xs, h1 | h1, w, e, q⟩ := h
    · exact ix_list value slice pins s σ H _ _ v u Q I rx ry ⟨_, xs, _, w, rfl, rfl, h1, e, q⟩ hs
    · exact ix_tup value slice pins s σ H _ _ v u Q I rx ry ⟨_, xs, _, w, rfl, rfl, SqT.of h1, e, q⟩ hs
  · exact h.elim

theorem CallR.imp {f : Value} {r r' : List V → Hp → VK → Prop} (h : CallR X f r) (i : ∀ xs H Q, r' xs H Q → r xs H Q) : CallR X f r' := fun pins s σ H xs us Q I rs q => h pins s σ H xs us Q I rs (i xs H Q q)
noncomputable def rLenP (K : PySem.W.Frag) : List V → Hp → VK → Prop := fun xs H Q => match xs with
  | [.ref p] => ∃ ys, (SqL K H p ys ∨ H p = some (.tup ys)) ∧ Q (.int ys.length) H
  | _ => False
theorem call_lenP : CallR X (.builtin "len") (rLenP X.K) := call_len_seq.imp fun xs H Q h => by
  unfold rLenP at h
  split at h
  · obtain ⟨ys, h1 | h1, q⟩ := h
    · exact ⟨_, ys, rfl, .inl h1, q⟩
    · exact ⟨_, ys, rfl, .inr (SqT.of h1), q⟩
  · exact h.elim
noncomputable def tyName (H : Hp) : V → Option String
  | .non => some "NoneType"
  | .bl _ => some "bool"
  | .int _ => some "int"
  | .str _ => some "str"
  | .ref a => match H a with
    | some (.lst _) => some "list"
    | some (.tup _) => some "tuple"
    | some (.dK _) => some "dict"
    | _ => none
  | _ => none
noncomputable def subTy (t c : String) : Bool := t == c || (t == "bool" && c == "int")
theorem tyOf_name {K : PySem.W.Frag} {H : Hp} {x : V} {t : String} (h : tyName H x = some t) : TyOf K H x (.type t) := by
  unfold tyName at h
  split at h
  all_goals first | (cases h; constructor) | skip
  · split at h
    all_goals first | (cases h; constructor; assumption) | cases h
  · cases h
noncomputable def rIsiP : List V → Hp → VK → Prop := fun xs H Q => match xs with
  | [x, .ty c] => ∃ t, tyName H x = some t ∧ (c == "int" || c == "bool" || c == "tuple" || c == "str" || c == "list") = true ∧ Q (.bl (subTy t c)) H
  | _ => False
theorem kit_of {K : PySem.W.Frag} {H : Hp} {x : V} {t c : String} (h : tyName H x = some t) (hc : (c == "int" || c == "bool" || c == "tuple" || c == "str" || c == "list") = true) : PySem.W.kitOne K (.type t) (.type c) = some (subTy t c) := by
  have ht : t ∈ ["NoneType", "bool", "int", "str", "list", "tuple", "dict"] := by
    unfold tyName at h
    split at h
    all_goals first | (cases h; decide) | skip
    · split at h
      all_goals first | (cases h; decide) | cases h
    · cases h
  have hc' : c ∈ ["int", "bool", "tuple", "str", "list"] := by
    simp only [Bool.or_eq_true, beq_iff_eq] at hc
    simp only [List.mem_cons, List.not_mem_nil, or_false]
    rcases hc with (((hc | hc) | hc) | hc) | hc <;> simp [hc]
  have all : (["NoneType", "bool", "int", "str", "list", "tuple", "dict"].all fun t => ["int", "bool", "tuple", "str", "list"].all fun c => decide (PySem.W.kitOne [] (.type t) (.type c) = some (subTy t c))) = true := by decide +kernel
  have e : PySem.W.kitOne K (.type t) (.type c) = PySem.W.kitOne [] (.type t) (.type c) := rfl
  rw [e]
  exact of_decide_eq_true (List.all_eq_true.mp (List.all_eq_true.mp all t ht) c hc')
theorem call_isiP : CallR X (.builtin "isinstance") rIsiP := by
  intro pins s σ H xs us Q I r h
  unfold rIsiP at h
  split at h
  · obtain ⟨t, h1, h2, q⟩ := h
    obtain ⟨u, w', rfl, r1, r2⟩ := vals2 r
    cases r2
    exact isinst_ok I r1 (tyOf_name h1) (kit_of h1 h2) fun tk => ⟨.bl _, H, I.tok tk, rfl, q⟩
  · exact h.elim
noncomputable def rTupP (K : PySem.W.Frag) : List V → Hp → VK → Prop := fun xs H Q => match xs with
  | [.ref p] => ∃ ys, (SqL K H p ys ∨ H p = some (.tup ys)) ∧ ∀ r H', Same H H' → H' r = some (.tup ys) → Q (.ref r) H'
  | _ => False
theorem call_tupP : CallR X (.type "tuple") (rTupP X.K) := call_tuple_of.imp fun xs H Q h => by
  unfold rTupP at h
  split at h
  · obtain ⟨ys, h1 | h1, q⟩ := h
    · exact ⟨_, ys, rfl, .inl ⟨h1, fun l hl => q l _ (Same.new hl _) upd_same⟩⟩
    · exact ⟨_, ys, rfl, .inr ⟨SqT.of h1, q _ H (Same.refl H) h1⟩⟩
  · exact h.elim
noncomputable def rLstP (K : PySem.W.Frag) : List V → Hp → VK → Prop := fun xs H Q => match xs with
  | [.ref p] => ∃ ys, (SqL K H p ys ∨ H p = some (.tup ys)) ∧ ∀ l, H l = none → Q (.ref l) (upd H l (.lst ys))
  | _ => False
theorem call_lstP : CallR X (.type "list") (rLstP X.K) := call_list_of.imp fun xs H Q h => by
  unfold rLstP at h
  split at h
  · obtain ⟨ys, h1 | h1, q⟩ := h
    · exact ⟨_, ys, rfl, .inl h1, q⟩
    · exact ⟨_, ys, rfl, .inr (SqT.of h1), q⟩
  · exact h.elim
noncomputable def rIntP : List V → Hp → VK → Prop := fun xs H Q => match xs with
  | [.int i] => Q (.int i) H
  | [.bl k] => Q (.int (if k then 1 else 0)) H
  | _ => False
theorem call_intP : CallR X (.type "int") rIntP := call_int1.imp fun xs H Q h => by
  unfold rIntP at h
  split at h
  · exact .inl ⟨_, rfl, h⟩
  · exact .inr ⟨_, rfl, h⟩
  · exact h.elim
noncomputable def rMinP : List V → Hp → VK → Prop := fun xs H Q => match xs with
  | [.int i, .int j] => Q (.int (if j < i then j else i)) H
  | _ => False
theorem call_minP (hc : X.calm = true) : CallR X (.builtin "min") rMinP := (call_min2 hc).imp fun xs H Q h => by
  unfold rMinP at h
  split at h
  · exact ⟨_, _, rfl, h⟩
  · exact h.elim

structure FnA (P : Program) (w : World) (K : PySem.W.Frag) (mg : Str → Option Value) (base : Heap) (x : Str) (k : Nat) (ps : List Str) (sp : Sp) : Prop where
  ex : ∃ f fd, FnOk P w K mg base CX0 k f fd ps sp ∧ Binds K fd ps [] ∧ PySem.W.keepIn K (.ref f) = true ∧ mg x = some (.ref f)
noncomputable def tFn (sp : Sp) (t : TA) : TE := fun σ H Q => t σ H fun vs H1 => sp vs H1 Q E0
theorem pe_fn {x : Str} {k k' : Nat} {ps : List Str} {sp : Sp} {e : Expr} {es : List Expr} {t : TA} {p : Pos} (F : FnA X.prog X.w X.K X.mg X.base x k ps sp) (hr : Room k' X.A) (hk : k ≤ k') (hg : Gl X x)
    (ha : PA X (e :: es) t) (hdb : (x == ("__debug__" : Str)) = false := by decide) (he : starEach (e :: es) X.env = (false, eval e X.env) :: starEach es X.env := by rfl) (hpl : (backTo pos (starEach es X.env)).any (·.1) = false := by rfl) :
    PE X (.Call (.Name x p) (e :: es) [] pos) (tFn sp t) := by
  obtain ⟨f, fd, F1, b1, k1, m1⟩ := F.ex
  refine (pe_call (F1.mono hk) hr hg m1 k1 b1 .nil pass0 ha hdb he hpl).imp fun σ H Q h => ?_
  have e : (fun (vs : List V) (H1 : Hp) => sp (vs ++ []) H1 Q E0) = fun vs H1 => sp vs H1 Q E0 := by
    funext vs H1
    rw [List.append_nil]
  show t σ H fun vs H1 => sp (vs ++ []) H1 Q E0
  rw [e]
  exact h
theorem ze_fn {x : Str} {k k' : Nat} {ps : List Str} {sp : Sp} {e : Expr} {es : List Expr} {t : TA} {p : Pos} (F : FnA X.prog X.w X.K X.mg X.base x k ps sp) (hr : Room k' X.A) (hk : k ≤ k') (hg : Gl X x)
    (ha : ZA X (e :: es) t) (hdb : (x == ("__debug__" : Str)) = false := by decide) (he : starEach (e :: es) X.env = (false, eval e X.env) :: starEach es X.env := by rfl) (hpl : (backTo pos (starEach es X.env)).any (·.1) = false := by rfl) :
    ZE X (.Call (.Name x p) (e :: es) [] pos) (tFn sp t) := by with_unfolding_all exact pe_fn F hr hk hg ha hdb he hpl
end
end L2
set_option Elab.async false
set_option linter.all false
set_option maxRecDepth 100000
set_option maxHeartbeats 4000000
namespace L2
open PySem PySem.Spec PyProof.Rows
theorem pe_ty {X : Cx} {x : Str} {T : String} {pos : Pos} (hg : Gl X x) (hm : X.mg x = none) (hv : bootBuiltins x = some (.type T)) (hn : x ≠ "__name__" := by decide) (hd : (x == ("__debug__" : Str)) = false := by decide) : PE X (.Name x pos) (tC (.ty T)) :=
  pe_bltn hg hm hv (show RelV (.ty T) (.type T) from rfl) hn hd
theorem iteD {p : Prop} [Decidable p] {A B : Prop} (h1 : p → A) (h2 : ¬ p → B) : if decide p = true then A else B := by
  by_cases h : p
  · rw [decide_eq_true h]; exact iteT (h1 h)
  · rw [decide_eq_false h]; exact iteF (h2 h)
theorem iteB {b : Bool} {A B : Prop} (h1 : b = true → A) (h2 : b = false → B) : if b = true then A else B := by
  cases b with
  | true => exact iteT (h1 rfl)
  | false => exact iteF (h2 rfl)
theorem boot_isinstance : bootBuiltins "isinstance" = some (.builtin "isinstance") := by decide +kernel
theorem boot_min' : bootBuiltins "min" = some (.builtin "min") := by decide +kernel
theorem boot_all' : bootBuiltins "all" = some (.builtin "all") := by decide +kernel
theorem boot_int' : bootBuiltins "int" = some (.type "int") := by decide +kernel
theorem boot_bool' : bootBuiltins "bool" = some (.type "bool") := by decide +kernel
theorem boot_tuple' : bootBuiltins "tuple" = some (.type "tuple") := by decide +kernel
theorem boot_list' : bootBuiltins "list" = some (.type "list") := by decide +kernel
theorem boot_str' : bootBuiltins "str" = some (.type "str") := by decide +kernel
end L2
namespace L2
open PySem PySem.Spec PyProof.Rows
noncomputable def rAllP (K : PySem.W.Frag) : List V → Hp → VK → Prop := fun xs H Q => match xs with
  | [.ref p] => ∃ bs : List Bool, SqL K H p (bs.map V.bl) ∧ Q (.bl (bs.all id)) H
  | _ => False
theorem call_allP {X : Cx} (hc : X.calm = true) : CallR X (.builtin "all") (rAllP X.K) := by
  intro pins s σ H xs us Q I r h
  unfold rAllP at h
  split at h
  · rename_i p
    obtain ⟨bs, hq, q⟩ := h
    obtain ⟨u, rfl, rx⟩ := vals1 r
    cases rx
    obtain ⟨its, rv, pl, hz⟩ := I.list hq
    have hlen : its.length = bs.length := by rw [← rv.length, List.length_map]
    have hlt : p < s.heap.objs.size := by
      obtain ⟨_, e, _⟩ := pl.isList
      exact Heap.lt_size e
    refine call_all_walk (wpAny_pyIter_list pl.isList ?_)
    have W : Walks X.prog X.w X.A.in1 s.heap.objs.size [s.heap.objs.size, p] [s.heap.objs.size] its.toArray.size _ _ := Walks.list (show X.A.in1.handled = none from I.ok.hd hc) s.heap.objs.size p (Nat.ne_of_lt hlt) its.toArray
    refine ⟨s.heap.objs.size, _, _, _, _, _, fun i => bs.getD i false, rfl, W, ⟨⟨_, Heap.get?_push_size _ rfl, rfl, rfl⟩, pl.isList.push _⟩, ?_, fun h' tk hk => ?_⟩
    · intro i v s' Q' E' hP hQ
      have hP' : its[i]? = some v := by simpa using hP
      have hi : i < bs.length := by rw [← hlen]; exact (List.getElem?_eq_some_iff.mp hP').1
      obtain ⟨w', e1, e2⟩ := rv.get (i := i) (x := .bl bs[i]) (by rw [List.getElem?_map, List.getElem?_eq_getElem hi]; rfl)
      rw [hP'] at e1
      cases e1
      cases e2
      refine wpAny_truthy_bool ?_
      have e : bs.getD i false = bs[i] := by rw [List.getD_eq_getElem?_getD, List.getElem?_eq_getElem hi]; rfl
      have hQ' : Q' (bs.getD i false) s' := hQ
      rw [e] at hQ'
      exact hQ'
    · have I1 : Inv X pins σ H { s with heap := h', toks := tk } := I.kept fun b o e => hk b o (by simpa using Nat.ne_of_lt (Heap.lt_size e)) (Heap.get?_push_of_some _ e)
      refine ⟨.bl _, H, I1, rfl, ?_⟩
      have e : (List.range its.toArray.size).all (fun i => bs.getD i false) = bs.all id := by
        rw [List.size_toArray, hlen]
        have key : ∀ l : List Bool, (List.range l.length).all (fun i => l.getD i false) = l.all id := by
          intro l
          rw [Bool.eq_iff_iff, List.all_eq_true, List.all_eq_true]
          constructor
          · intro h x hx
            obtain ⟨i, hi, rfl⟩ := List.mem_iff_getElem.mp hx
            have := h i (List.mem_range.mpr hi)
            rw [List.getD_eq_getElem?_getD, List.getElem?_eq_getElem hi] at this
            exact this
          · intro h i hi
            have hi' := List.mem_range.mp hi
            rw [List.getD_eq_getElem?_getD, List.getElem?_eq_getElem hi']
            exact h _ (List.getElem_mem hi')
        exact key bs
      rw [e]
      exact q
  · exact h.elim
theorem dk_empty {P : Program} {w : World} {H : Hp} (h : Heap) (hb : sysModules < h.objs.size) : ObjOk P w H (h.push { cls := .type "dict", data := .dict #[] }) h.objs.size (.dK []) :=
  ⟨Nat.zero_le _, beq_eq_false_iff_ne.mpr (Ne.symm (Nat.ne_of_lt hb)), [], .nil, Heap.DictOf.new h⟩
noncomputable def tDNewK : TE := fun _ H Q => ∀ p, H p = none → Q (.ref p) (upd H p (.dK []))
theorem Inv.big {X : Cx} {pins : List (Addr × Obj)} {σ : St} {H : Hp} {s : Shared} (I : Inv X pins σ H s) : sysModules < s.heap.objs.size := by
  have h : mainGlobals < s.heap.objs.size := (I.mod.glob.keeps I.bk).lt
  exact Nat.lt_trans (by decide) h
theorem pe_dnewK {X : Cx} {pos : Pos} : PE X (.Dict [] [] pos) tDNewK := fun pins s σ H Q I h =>
  wpAny_Dict_empty ⟨.ref s.heap.objs.size, _, I.laid (a := s.heap.objs.size) (o := .dK []) (t' := s.toks) (fun _ _ q => Heap.get?_push_of_some _ q) (Nat.le_refl _) (dk_empty s.heap I.big), rfl, h _ (I.hok.fresh (Nat.le_refl _))⟩
theorem ze_dnewK {X : Cx} {pos : Pos} : ZE X (.Dict [] [] pos) tDNewK := by with_unfolding_all exact pe_dnewK 
end L2
namespace L2
open PySem PySem.Spec PyProof.Rows
section
variable {X : Cx} {e : Expr} {es : List Expr} {t : TA} {p pos : Pos}
theorem pcb_len (hg : Gl X "len") (hm : X.mg "len" = none) (ha : PA X (e :: es) t) (he : starEach (e :: es) X.env = (false, eval e X.env) :: starEach es X.env) (hpl : (backTo pos (starEach es X.env)).any (·.1) = false) :
    PE X (.Call (.Name "len" p) (e :: es) [] pos) (tCB (rLenP X.K) t) := pe_callB call_lenP hg hm PySem.boot_len ha (by decide) (by decide) he hpl
theorem zcb_len (hg : Gl X "len") (hm : X.mg "len" = none) (ha : ZA X (e :: es) t) (he : starEach (e :: es) X.env = (false, eval e X.env) :: starEach es X.env) (hpl : (backTo pos (starEach es X.env)).any (·.1) = false) :
    ZE X (.Call (.Name "len" p) (e :: es) [] pos) (tCB (rLenP X.K) t) := by with_unfolding_all exact pcb_len hg hm ha he hpl
theorem pcb_isinstance (hg : Gl X "isinstance") (hm : X.mg "isinstance" = none) (ha : PA X (e :: es) t) (he : starEach (e :: es) X.env = (false, eval e X.env) :: starEach es X.env) (hpl : (backTo pos (starEach es X.env)).any (·.1) = false) :
    PE X (.Call (.Name "isinstance" p) (e :: es) [] pos) (tCB rIsiP t) := pe_callB call_isiP hg hm boot_isinstance ha (by decide) (by decide) he hpl
theorem zcb_isinstance (hg : Gl X "isinstance") (hm : X.mg "isinstance" = none) (ha : ZA X (e :: es) t) (he : starEach (e :: es) X.env = (false, eval e X.env) :: starEach es X.env) (hpl : (backTo pos (starEach es X.env)).any (·.1) = false) :
    ZE X (.Call (.Name "isinstance" p) (e :: es) [] pos) (tCB rIsiP t) := by with_unfolding_all exact pcb_isinstance hg hm ha he hpl
theorem pcb_min (hc : X.calm = true) (hg : Gl X "min") (hm : X.mg "min" = none) (ha : PA X (e :: es) t) (he : starEach (e :: es) X.env = (false, eval e X.env) :: starEach es X.env) (hpl : (backTo pos (starEach es X.env)).any (·.1) = false) :
    PE X (.Call (.Name "min" p) (e :: es) [] pos) (tCB rMinP t) := pe_callB (call_minP hc) hg hm boot_min' ha (by decide) (by decide) he hpl
theorem zcb_min (hc : X.calm = true) (hg : Gl X "min") (hm : X.mg "min" = none) (ha : ZA X (e :: es) t) (he : starEach (e :: es) X.env = (false, eval e X.env) :: starEach es X.env) (hpl : (backTo pos (starEach es X.env)).any (·.1) = false) :
    ZE X (.Call (.Name "min" p) (e :: es) [] pos) (tCB rMinP t) := by with_unfolding_all exact pcb_min hc hg hm ha he hpl
theorem pcb_all (hc : X.calm = true) (hg : Gl X "all") (hm : X.mg "all" = none) (ha : PA X (e :: es) t) (he : starEach (e :: es) X.env = (false, eval e X.env) :: starEach es X.env) (hpl : (backTo pos (starEach es X.env)).any (·.1) = false) :
    PE X (.Call (.Name "all" p) (e :: es) [] pos) (tCB (rAllP X.K) t) := pe_callB (call_allP hc) hg hm boot_all' ha (by decide) (by decide) he hpl
theorem zcb_all (hc : X.calm = true) (hg : Gl X "all") (hm : X.mg "all" = none) (ha : ZA X (e :: es) t) (he : starEach (e :: es) X.env = (false, eval e X.env) :: starEach es X.env) (hpl : (backTo pos (starEach es X.env)).any (·.1) = false) :
    ZE X (.Call (.Name "all" p) (e :: es) [] pos) (tCB (rAllP X.K) t) := by with_unfolding_all exact pcb_all hc hg hm ha he hpl
theorem pcb_int (hg : Gl X "int") (hm : X.mg "int" = none) (ha : PA X (e :: es) t) (he : starEach (e :: es) X.env = (false, eval e X.env) :: starEach es X.env) (hpl : (backTo pos (starEach es X.env)).any (·.1) = false) :
    PE X (.Call (.Name "int" p) (e :: es) [] pos) (tCB rIntP t) := pe_callTy call_intP hg hm boot_int' ha (by decide) (by decide) he hpl
theorem zcb_int (hg : Gl X "int") (hm : X.mg "int" = none) (ha : ZA X (e :: es) t) (he : starEach (e :: es) X.env = (false, eval e X.env) :: starEach es X.env) (hpl : (backTo pos (starEach es X.env)).any (·.1) = false) :
    ZE X (.Call (.Name "int" p) (e :: es) [] pos) (tCB rIntP t) := by with_unfolding_all exact pcb_int hg hm ha he hpl
theorem pcb_tuple (hg : Gl X "tuple") (hm : X.mg "tuple" = none) (ha : PA X (e :: es) t) (he : starEach (e :: es) X.env = (false, eval e X.env) :: starEach es X.env) (hpl : (backTo pos (starEach es X.env)).any (·.1) = false) :
    PE X (.Call (.Name "tuple" p) (e :: es) [] pos) (tCB (rTupP X.K) t) := pe_callTy call_tupP hg hm boot_tuple' ha (by decide) (by decide) he hpl
theorem zcb_tuple (hg : Gl X "tuple") (hm : X.mg "tuple" = none) (ha : ZA X (e :: es) t) (he : starEach (e :: es) X.env = (false, eval e X.env) :: starEach es X.env) (hpl : (backTo pos (starEach es X.env)).any (·.1) = false) :
    ZE X (.Call (.Name "tuple" p) (e :: es) [] pos) (tCB (rTupP X.K) t) := by with_unfolding_all exact pcb_tuple hg hm ha he hpl
theorem pcb_list (hg : Gl X "list") (hm : X.mg "list" = none) (ha : PA X (e :: es) t) (he : starEach (e :: es) X.env = (false, eval e X.env) :: starEach es X.env) (hpl : (backTo pos (starEach es X.env)).any (·.1) = false) :
    PE X (.Call (.Name "list" p) (e :: es) [] pos) (tCB (rLstP X.K) t) := pe_callTy call_lstP hg hm boot_list' ha (by decide) (by decide) he hpl
theorem zcb_list (hg : Gl X "list") (hm : X.mg "list" = none) (ha : ZA X (e :: es) t) (he : starEach (e :: es) X.env = (false, eval e X.env) :: starEach es X.env) (hpl : (backTo pos (starEach es X.env)).any (·.1) = false) :
    ZE X (.Call (.Name "list" p) (e :: es) [] pos) (tCB (rLstP X.K) t) := by with_unfolding_all exact pcb_list hg hm ha he hpl
theorem pty_int (hg : Gl X "int") (hm : X.mg "int" = none) : PE X (.Name "int" pos) (tC (.ty "int")) := pe_ty hg hm boot_int' (by decide) (by decide)
theorem zty_int (hg : Gl X "int") (hm : X.mg "int" = none) : ZE X (.Name "int" pos) (tC (.ty "int")) := by with_unfolding_all exact pty_int hg hm
theorem pty_bool (hg : Gl X "bool") (hm : X.mg "bool" = none) : PE X (.Name "bool" pos) (tC (.ty "bool")) := pe_ty hg hm boot_bool' (by decide) (by decide)
theorem zty_bool (hg : Gl X "bool") (hm : X.mg "bool" = none) : ZE X (.Name "bool" pos) (tC (.ty "bool")) := by with_unfolding_all exact pty_bool hg hm
theorem pty_tuple (hg : Gl X "tuple") (hm : X.mg "tuple" = none) : PE X (.Name "tuple" pos) (tC (.ty "tuple")) := pe_ty hg hm boot_tuple' (by decide) (by decide)
theorem zty_tuple (hg : Gl X "tuple") (hm : X.mg "tuple" = none) : ZE X (.Name "tuple" pos) (tC (.ty "tuple")) := by with_unfolding_all exact pty_tuple hg hm
end
end L2
set_option Elab.async false
set_option linter.all false
set_option maxRecDepth 100000
set_option maxHeartbeats 4000000
namespace L2
open PySem PySem.Spec PyProof.Rows
end L2
set_option Elab.async false
set_option linter.all false
set_option maxRecDepth 100000
set_option maxHeartbeats 4000000
namespace L2
open PySem PySem.Spec PyProof.Rows
section
variable {X : Cx}
theorem ints_at {ns : List Int} {its : List Value} (rv : Vals (ns.map V.int) its) {i : Nat} {v : Value} (h : its.toArray[i]? = some v) : ∃ t, v = .int (ns.getD i 0) t := by
  have h' : its[i]? = some v := by simpa using h
  have hl : its.length = ns.length := by rw [← rv.length, List.length_map]
  have hi : i < ns.length := by rw [← hl]; exact (List.getElem?_eq_some_iff.mp h').1
  obtain ⟨w', e1, t, e2⟩ := rv.get (i := i) (x := .int ns[i]) (by rw [List.getElem?_map, List.getElem?_eq_getElem hi]; rfl)
  rw [h'] at e1
  cases e1
  refine ⟨t, ?_⟩
  rw [e2, List.getD_eq_getElem?_getD, List.getElem?_eq_getElem hi]
  rfl
noncomputable def rMax1P (K : PySem.W.Frag) : List V → Hp → VK → Prop := fun xs H Q => match xs with
  | [.int i, .int j] => Q (.int (if j > i then j else i)) H
  | [.ref p] => ∃ ns : List Int, (SqL K H p (ns.map V.int) ∨ H p = some (.tup (ns.map V.int))) ∧ ns ≠ [] ∧ ∀ M, M ∈ ns → (∀ n ∈ ns, n ≤ M) → Q (.int M) H
  | _ => False
theorem best_is {ns : List Int} (h : ns ≠ []) : ns.getD (argBest (fun i j => decide (ns.getD i 0 > ns.getD j 0)) (ns.length - 1)) 0 ∈ ns ∧ ∀ n ∈ ns, n ≤ ns.getD (argBest (fun i j => decide (ns.getD i 0 > ns.getD j 0)) (ns.length - 1)) 0 := by
  have hp : 0 < ns.length := List.length_pos_iff.mpr h
  obtain ⟨h1, h2⟩ := argBest_gt (fun i => ns.getD i 0) (ns.length - 1)
  have hlt : argBest (fun i j => decide (ns.getD i 0 > ns.getD j 0)) (ns.length - 1) < ns.length := by omega
  refine ⟨?_, fun n hn => ?_⟩
  · rw [List.getD_eq_getElem?_getD, List.getElem?_eq_getElem hlt]
    exact List.getElem_mem hlt
  · obtain ⟨i, hi, rfl⟩ := List.mem_iff_getElem.mp hn
    have := h2 i (by omega)
    have e : ns.getD i 0 = ns[i] := by rw [List.getD_eq_getElem?_getD, List.getElem?_eq_getElem hi]; rfl
    rw [e] at this
    exact this
theorem call_maxP (hc : X.calm = true) : CallR X (.builtin "max") (rMax1P X.K) := by
  intro pins s σ H xs us Q I r h
  unfold rMax1P at h
  split at h
  · exact call_max2 hc pins s σ H _ us Q I r ⟨_, _, rfl, h⟩
  · rename_i p
    obtain ⟨ns, hq, hne, q⟩ := h
    obtain ⟨u, rfl, rx⟩ := vals1 r
    cases rx
    have hh : X.A.in1.handled = none := I.ok.hd hc
    have hb := best_is hne
    rcases hq with hq | hq
    · obtain ⟨its, rv, pl, hz⟩ := I.list hq
      have hlen : its.length = ns.length := by rw [← rv.length, List.length_map]
      have hlt : p < s.heap.objs.size := by
        obtain ⟨_, e, _⟩ := pl.isList
        exact Heap.lt_size e
      refine call_max_walk (wpAny_pyIter_list pl.isList ?_)
      refine ⟨s.heap.objs.size, _, _, _, _, _, _, rfl, Walks.list hh s.heap.objs.size p (Nat.ne_of_lt hlt) its.toArray, ⟨⟨_, Heap.get?_push_size _ rfl, rfl, rfl⟩, pl.isList.push _⟩, ?_, ?_, CmpOf.ints_gt (fun i => ns.getD i 0) (fun i v hv => ints_at rv hv), fun v h' tk hv hk => ?_⟩
      · intro b hb
        rw [Heap.size_push]
        rcases List.mem_cons.mp hb with rfl | hb
        · exact Nat.lt_succ_self _
        · rcases List.mem_cons.mp hb with rfl | hb
          · exact Nat.lt_succ_of_lt hlt
          · cases hb
      · rw [List.size_toArray, hlen]; exact List.length_pos_iff.mpr hne
      · obtain ⟨t, rfl⟩ := ints_at rv hv
        refine ⟨.int _, H, I.kept fun b o e => hk b o (by simpa using Nat.ne_of_lt (Heap.lt_size e)) (Heap.get?_push_of_some _ e), ⟨t, rfl⟩, ?_⟩
        rw [List.size_toArray, hlen]
        exact q _ hb.1 hb.2
    · obtain ⟨its, rv, pl, hz⟩ := I.tuple (SqT.of hq)
      have hlen : its.length = ns.length := by rw [← rv.length, List.length_map]
      have hlt : p < s.heap.objs.size := pl.lt
      refine call_max_walk (wpAny_pyIter_tuple (show s.heap.IsTuple p its.toArray from pl) ?_)
      refine ⟨s.heap.objs.size, _, _, _, _, _, _, rfl, Walks.tuple hh s.heap.objs.size p (Nat.ne_of_lt hlt) its.toArray, ⟨⟨_, Heap.get?_push_size _ rfl, rfl, rfl⟩, IsTup.keeps pl fun b o e => Heap.get?_push_of_some _ e⟩, ?_, ?_, CmpOf.ints_gt (fun i => ns.getD i 0) (fun i v hv => ints_at rv hv), fun v h' tk hv hk => ?_⟩
      · intro b hb
        rw [Heap.size_push]
        rcases List.mem_cons.mp hb with rfl | hb
        · exact Nat.lt_succ_self _
        · rcases List.mem_cons.mp hb with rfl | hb
          · exact Nat.lt_succ_of_lt hlt
          · cases hb
      · rw [List.size_toArray, hlen]; exact List.length_pos_iff.mpr hne
      · obtain ⟨t, rfl⟩ := ints_at rv hv
        refine ⟨.int _, H, I.kept fun b o e => hk b o (by simpa using Nat.ne_of_lt (Heap.lt_size e)) (Heap.get?_push_of_some _ e), ⟨t, rfl⟩, ?_⟩
        rw [List.size_toArray, hlen]
        exact q _ hb.1 hb.2
  · exact h.elim
theorem noFill_tuple_mul : fillsNumberSlot (.type "tuple") "mul" = pure false :=
  PySem.fillsNumberSlot_seq (id := "tuple.__mul__") (r := some (.builtin "tuple.__rmul__")) F.slot_tuple_mul.lookup (by decide +kernel) F.slot_tuple_rmul.lookup (by decide +kernel)
theorem repeat_tuple : seqRepeat? (.type "tuple") = pure (some (.builtin "tuple.__mul__")) := by
  unfold seqRepeat?
  rw [PySem.seqSlot_of (T := "tuple") (name := "__mul__") (id := "tuple.__mul__") F.slot_tuple_mul.lookup (by decide +kernel), PySem.seqSlot_of (T := "tuple") (name := "__rmul__") (id := "tuple.__rmul__") F.slot_tuple_rmul.lookup (by decide +kernel)]
  rfl

theorem int_rmul_tuple (a : Int) (t : Tok) (l : Addr) (items : Array Value) (n : Nat) :
    Meets (Builtin.«int.__rmul__» ⟨[.int a t, .ref l], []⟩) (fun _ R s => s.heap.get? l = some { cls := .type "tuple", dict := none, data := .seq items n, slots := #[] } ∧ R (.ok (.ret Value.notImplemented)) s) :=
  .of_wp fun prog w A R s h => by obtain ⟨hp, g, d, tk, os⟩ := s; obtain ⟨hl, h⟩ := h; wp_walk; exact ⟨_, rfl, h⟩
theorem tuple_mul_same (l : Addr) (items : Array Value) (n : Nat) (x : Int) (u : Tok) (h1 : (decide (x < -(2 ^ 63)) || decide (x ≥ 2 ^ 63)) = false) (h2 : (items.isEmpty || x == 1) = true) :
    Meets (Builtin.«tuple.__mul__» ⟨[.ref l, .int x u], []⟩) (fun _ R s => s.heap.get? l = some { cls := .type "tuple", dict := none, data := .seq items n, slots := #[] } ∧ R (.ok (.ret (.ref l))) s) :=
  .of_wp fun prog w A R s h => by
    obtain ⟨hp, g, d, tk, os⟩ := s; obtain ⟨hl, h⟩ := h
    wp_walk; refine wpAny_ite_false (by rw [h1]; rfl) ?_; wp_walk; exact ⟨_, rfl, h⟩
theorem tuple_mul_none (l : Addr) (items : Array Value) (n : Nat) (x : Int) (u : Tok) (h1 : (decide (x < -(2 ^ 63)) || decide (x ≥ 2 ^ 63)) = false) (h2 : (items.isEmpty || x == 1) = false) (h3 : (decide (x ≤ 0) || items.isEmpty) = true) :
    Meets (Builtin.«tuple.__mul__» ⟨[.ref l, .int x u], []⟩) (fun _ R s => s.heap.get? l = some { cls := .type "tuple", dict := none, data := .seq items n, slots := #[] } ∧ R (.ok (.ret (.ref s.heap.objs.size))) { s with heap := s.heap.push { cls := .type "tuple", data := .seq #[] } }) :=
  .of_wp fun prog w A R s h => by
    obtain ⟨hp, g, d, tk, os⟩ := s; obtain ⟨hl, h⟩ := h
    wp_walk; refine wpAny_ite_false (by rw [h1]; rfl) ?_; wp_walk; exact ⟨_, rfl, h⟩
theorem tuple_mul_many (l : Addr) (items : Array Value) (n : Nat) (x : Int) (u : Tok) (h1 : (decide (x < -(2 ^ 63)) || decide (x ≥ 2 ^ 63)) = false) (h2 : (items.isEmpty || x == 1) = false) (h3 : (decide (x ≤ 0) || items.isEmpty) = false) (h4 : decide ((items.size : Int) * x > (2 ^ 63 - 1) / 8) = false) (h5 : Builtin.Tuple.tupleTooMany ((items.size : Int) * x) = false) (hz : ((List.replicate x.toNat items).foldl (· ++ ·) #[]).size ≤ sizeLine) :
    Meets (Builtin.«tuple.__mul__» ⟨[.ref l, .int x u], []⟩) (fun _ R s => s.heap.get? l = some { cls := .type "tuple", dict := none, data := .seq items n, slots := #[] } ∧ R (.ok (.ret (.ref s.heap.objs.size))) { s with heap := s.heap.push { cls := .type "tuple", data := .seq ((List.replicate x.toNat items).foldl (· ++ ·) #[]) } }) :=
  .of_wp fun prog w A R s h => by
    obtain ⟨hp, g, d, tk, os⟩ := s; obtain ⟨hl, h⟩ := h
    wp_walk; refine wpAny_ite_false (by rw [h1]; rfl) ?_; wp_walk; refine wpAny_ite_false h4 ?_; wp_walk; exact ⟨_, rfl, h⟩
end
end L2
set_option Elab.async false
set_option linter.all false
set_option maxRecDepth 100000
set_option maxHeartbeats 4000000
namespace L2
open PySem PySem.Spec PyProof.Rows
section
variable {X : Cx}
noncomputable def rMulQ : R2 := fun x y H Q => match x, y with
  | .int i, .int j => IntMulOk i j ∧ Q (.int (i * j)) H
  | .ref a, .int k => (-(2 ^ 63) ≤ k ∧ k < 2 ^ 63) ∧ ((∃ xs, H a = some (.lst xs) ∧ xs.length * k.toNat ≤ sizeLine ∧ ∀ p, H p = none → Q (.ref p) (upd H p (.lst (List.replicate k.toNat xs).flatten))) ∨
      ∃ xs, H a = some (.tup xs) ∧ xs.length * k.toNat ≤ sizeLine ∧ ∀ r H', Same H H' → H' r = some (.tup (List.replicate k.toNat xs).flatten) → Q (.ref r) H')
  | _, _ => False
theorem op_mulQ : OpR X (binaryOp .Mult) rMulQ := by
  intro pins s σ H x y v u Q I rx ry h
  unfold rMulQ at h
  split at h
  · exact op_mulB pins s σ H _ _ v u Q I rx ry ⟨_, _, rfl, rfl, h⟩
  · obtain ⟨⟨hk1, hk2⟩, ⟨xs, h1, h4, q⟩ | ⟨xs, hH, hz, q⟩⟩ := h
    · exact op_rep pins s σ H _ _ v u Q I rx ry ⟨_, _, xs, rfl, rfl, h1, hk1, hk2, h4, q⟩
    rename_i l k
    cases rx
    obtain ⟨t, rfl⟩ := ry
    obtain ⟨z, its, r, n, e⟩ := I.hok l _ hH
    have hl : its.length = xs.length := r.length.symm
    have hemp : its.toArray.isEmpty = xs.isEmpty := by
      cases r <;> rfl
    have g1 : (decide (k < -(2 ^ 63)) || decide (k ≥ 2 ^ 63)) = false := by
      rw [Bool.or_eq_false_iff]
      exact ⟨decide_eq_false (by omega), decide_eq_false (by omega)⟩
    refine wpAny_binaryOp_repeat_ref (T := "tuple") (U := "int") (by decide) ⟨_, e, rfl⟩ (fun s' => typeIs_int s' k t) noFill_tuple_mul F.fills_int_mul F.slot_int_rmul repeat_tuple F.slot_int_index.lookup
      (call_meets F.slot_int_rmul (typeIs_int s k t) F.entry_int_rmul (F.args_int_rmul_2 _ _) (int_rmul_tuple k t l its.toArray n) ⟨e, rfl, ⟨_, e, rfl⟩, ?_⟩)
    by_cases c1 : (its.toArray.isEmpty || k == 1) = true
    · refine call_meets F.slot_tuple_mul ⟨_, e, rfl⟩ F.entry_tuple_mul (F.args_tuple_mul_2 _ _) (tuple_mul_same l its.toArray n k t g1 c1) ⟨e, ?_⟩
      refine ⟨.ref l, H, I, rfl, q l H (Same.refl H) ?_⟩
      rw [hH]
      rw [Bool.or_eq_true] at c1
      rcases c1 with c1 | c1
      · rw [hemp, List.isEmpty_iff] at c1
        subst c1
        have : (List.replicate k.toNat ([] : List V)).flatten = [] := by
          induction k.toNat with
          | zero => rfl
          | succ m ih => rw [List.replicate_succ, List.flatten_cons, ih]; rfl
        rw [this]
      · have : k = 1 := by simpa using c1
        subst this
        show some (HO.tup xs) = some (.tup (List.replicate 1 xs).flatten)
        simp
    · have c1' : (its.toArray.isEmpty || k == 1) = false := by simpa using c1
      have he : its.toArray.isEmpty = false := (Bool.or_eq_false_iff.mp c1').1
      by_cases c2 : k ≤ 0
      · refine call_meets F.slot_tuple_mul ⟨_, e, rfl⟩ F.entry_tuple_mul (F.args_tuple_mul_2 _ _) (tuple_mul_none l its.toArray n k t g1 c1' (by rw [decide_eq_true c2]; rfl)) ⟨e, ?_⟩
        have e0 : (List.replicate k.toNat xs).flatten = [] := by
          have : k.toNat = 0 := by omega
          rw [this]; rfl
        have I2 : Inv X pins σ (upd H s.heap.objs.size (.tup [])) { s with heap := s.heap.push { cls := .type "tuple", data := .seq #[] } } :=
          I.laid (t' := s.toks) (o := .tup []) (fun b ob q => Heap.get?_push_of_some _ q) (Nat.le_refl _) ⟨Nat.zero_le _, [], .nil, TupD.new _ _⟩
        exact ⟨.ref s.heap.objs.size, _, I2, rfl, q _ _ (Same.new (I.hok.fresh (Nat.le_refl _)) _) (by rw [e0]; exact upd_same)⟩
      · have hcast : (its.toArray.size : Int) * k = ((xs.length * k.toNat : Nat) : Int) := by
          rw [List.size_toArray, hl]
          have : k = (k.toNat : Int) := by omega
          conv => lhs; rw [this]
          norm_cast
        have hb : (sizeLine : Nat) ≤ (2 ^ 63 - 1) / 8 := by decide
        have g4 : decide ((its.toArray.size : Int) * k > (2 ^ 63 - 1) / 8) = false := by
          refine decide_eq_false ?_
          rw [hcast]
          omega
        have g5 : Builtin.Tuple.tupleTooMany ((its.toArray.size : Int) * k) = false := by
          unfold Builtin.Tuple.tupleTooMany
          rw [hcast]
          exact decide_eq_false (by omega)
        have f0 : List.foldl (fun x1 x2 => x1 ++ x2) #[] (List.replicate k.toNat its.toArray) = (List.replicate k.toNat its).flatten.toArray := by
          have := foldl_rep its k.toNat []
          rw [List.nil_append] at this
          exact this
        refine call_meets F.slot_tuple_mul ⟨_, e, rfl⟩ F.entry_tuple_mul (F.args_tuple_mul_2 _ _) (tuple_mul_many l its.toArray n k t g1 c1' (by rw [decide_eq_false c2, he]; rfl) g4 g5 (by rw [f0, List.size_toArray, len_rep, hl, Nat.mul_comm]; exact hz)) ⟨e, ?_⟩
        rw [f0]
        have I2 : Inv X pins σ (upd H s.heap.objs.size (.tup (List.replicate k.toNat xs).flatten)) { s with heap := s.heap.push { cls := .type "tuple", data := .seq (List.replicate k.toNat its).flatten.toArray } } :=
          I.laid (t' := s.toks) (o := .tup (List.replicate k.toNat xs).flatten) (fun b ob q => Heap.get?_push_of_some _ q) (Nat.le_refl _) ⟨by rw [len_rep, Nat.mul_comm]; exact hz, _, r.rep k.toNat, TupD.new _ _⟩
        exact ⟨.ref s.heap.objs.size, _, I2, rfl, q _ _ (Same.new (I.hok.fresh (Nat.le_refl _)) _) upd_same⟩
  · exact h.elim
noncomputable def Itrs (lo c : Int) (n : Nat) : It := ⟨fun i _ => i < n, fun i H x H' => H' = H ∧ x = .int (lo + i * c), fun i _ => n ≤ i⟩
theorem turn_rangeS {P : Program} {w : World} {K : PySem.W.Frag} {tg : Expr} (it : Addr) (lo c : Int) (n : Nat) : Turn P w K tg (Itrs lo c n) [it] it (fun i h => IsRangeIter h it (lo + (i : Nat) * c) ((n : Int) - (i : Nat)) c) where
  mem := by simp
  obj := fun i h st b hb => by
    have e : b = it := by simpa using hb
    subst e
    exact ⟨_, st, fun v z => by
      have z' : Data.fields _ = Data.cell v := z
      cases z'⟩
  keep := fun i h h' st k => k it (by simp) _ st
  item := by
    intro X hP hw hK hc i pins s σ H E I hf st hg
    subst hP hw hK
    obtain ⟨f0, f1, f2, f3, f4, f5⟩ := hf it (by simp)
    have W := Walks.range (prog := X.prog) (w := X.w) (I.ok.hd hc) it lo c n
    refine W.item i s _ _ hg st fun v h' tk hv st' kk => ?_
    obtain ⟨t, rfl⟩ := hv
    have I1 : Inv X pins σ H { s with heap := h', toks := tk } := I.turned (fun b o hb e => kk b o (by simpa using hb) e) f0 f1 f3 f4 f5
    exact ⟨_, rfl, go_of (s := { s with heap := h', toks := tk }) (n := "range_iterator") st' rfl rfl (by decide) ⟨.int (lo + i * c), H, I1, ⟨t, rfl⟩, ⟨rfl, rfl⟩, st', fun b hb => (hf b hb).1⟩⟩
  done := by
    intro X hP hw hK hc i pins s σ H E I hf st hg
    subst hP hw hK
    obtain ⟨f0, f1, f2, f3, f4, f5⟩ := hf it (by simp)
    exact wpAny_pyNext_range_end (I.ok.hd hc) st (by have : n ≤ i := hg; omega) fun h' eb => ⟨rfl, I.turned (t' := s.toks) (fun b o hb e => eb b o hb e) f0 f1 f3 f4 f5⟩
  self := fun _ _ _ _ _ st h => wpAny_pyIter_rangeiter st h
theorem size_nonneg {a b c : Int} (hc : c ≠ 0) : 0 ≤ Builtin.Range.rangeSize a b c := by
  unfold Builtin.Range.rangeSize
  split
  · split
    · have := Int.ediv_nonneg (a := b - a - 1) (b := c) (by omega) (by omega); omega
    · omega
  · split
    · have := Int.ediv_nonneg (a := a - b - 1) (b := -c) (by omega) (by omega); omega
    · omega
noncomputable def iRng3 {tg : Expr} (ta : TA) : TI := fun σ H R => ta σ H fun vs H1 => ∃ i j c : Int, vs = [.int i, .int j, .int c] ∧ (c ≠ 0 ∧ (c < 2 ^ 29 ∧ -(2 ^ 29) < c) ∧ Builtin.Range.small i j c = true) ∧ R (Itrs i c (Builtin.Range.rangeSize i j c).toNat) H1
theorem pi_range3 {tg : Expr} {a b d : Expr} {ta : TA} {p pos : Pos} (hg : Gl X "range") (hm : X.mg "range" = none) (ha : PA X [a, b, d] ta) (hs : starEach [a, b, d] X.env = [(false, eval a X.env), (false, eval b X.env), (false, eval d X.env)] := by rfl) (hs2 : starEach [b, d] X.env = [(false, eval b X.env), (false, eval d X.env)] := by rfl) :
    PI X tg (.Call (.Name "range" p) [a, b, d] [] pos) (iRng3 (tg := tg) ta) := by
  intro pins s σ H R I h
  refine Call_ (ld_blt I hg hm boot_range (PyProof.Rows.callWith_type1 (thn (ha pos pins s σ H _ I h) fun us s1 ⟨vs, H1, I1, r1, q1⟩ => ?_) (by rw [hs, hs2]) (by rw [hs2]; rfl)))
  obtain ⟨i, j, c, e, ⟨hc0, ⟨hcb, hcb2⟩, hsm⟩, q⟩ := q1
  subst e
  cases r1 with
  | cons r rr =>
    cases rr with
    | cons r' rr =>
      cases rr with
      | cons r'' rr =>
        cases rr
        obtain ⟨t, rfl⟩ := r
        obtain ⟨t', rfl⟩ := r'
        obtain ⟨t'', rfl⟩ := r''
        refine PySem.call_range_3 hc0 ?_ (Or.inl (PyProof.noPylong_small (by omega)))
        refine wpAny_pyIter_range (IsRange.new ..) hsm ?_
        have I2 : Inv X pins σ H1 { s1 with heap := s1.heap.push { cls := .type "range", data := .fields #[.int i t, .int j t', .int c t''] } } := I1.kept (t' := s1.toks) fun b o e => Heap.get?_push_of_some _ e
        refine ⟨(s1.heap.push { cls := .type "range", data := .fields #[.int i t, .int j t', .int c t''] }).objs.size, [(s1.heap.push { cls := .type "range", data := .fields #[.int i t, .int j t', .int c t''] }).objs.size], _, _, H1, rfl,
          I2.kept (t' := s1.toks) fun b o e => Heap.get?_push_of_some _ e, turn_rangeS _ i c (Builtin.Range.rangeSize i j c).toNat, ?_, fun b hb => ?_, q⟩
        · have e1 : i + ((0 : Nat) : Int) * c = i := by simp
          have e2 : (((Builtin.Range.rangeSize i j c).toNat : Nat) : Int) - ((0 : Nat) : Int) = Builtin.Range.rangeSize i j c := by have := size_nonneg (a := i) (b := j) hc0; omega
          show IsRangeIter _ _ (i + ((0 : Nat) : Int) * c) ((((Builtin.Range.rangeSize i j c).toNat : Nat) : Int) - ((0 : Nat) : Int)) c
          rw [e1, e2]
          exact Heap.get?_push_size _ rfl
        · have e : b = (s1.heap.push { cls := .type "range", data := .fields #[.int i t, .int j t', .int c t''] }).objs.size := by simpa using hb
          subst e
          exact I2.fpOk (Nat.le_refl _) (I2.hok.fresh (Nat.le_refl _))
theorem zi_range3 {tg : Expr} {a b d : Expr} {ta : TA} {p pos : Pos} (hg : Gl X "range") (hm : X.mg "range" = none) (ha : ZA X [a, b, d] ta) (hs : starEach [a, b, d] X.env = [(false, eval a X.env), (false, eval b X.env), (false, eval d X.env)] := by rfl) (hs2 : starEach [b, d] X.env = [(false, eval b X.env), (false, eval d X.env)] := by rfl) :
    ZI X tg (.Call (.Name "range" p) [a, b, d] [] pos) (iRng3 (tg := tg) ta) := by with_unfolding_all exact pi_range3 hg hm ha hs hs2
theorem for_rangeS {lo c : Int} {n : Nat} {g : TG} {tb : TS} {D : Ends} {σ : St} {H : Hp} (Pv : Nat → St → Hp → Prop) (h0 : Pv 0 σ H)
    (hs : ∀ i σ H, i < n → Pv i σ H → g (.int (lo + i * c)) σ H fun σ2 H2 => tb { D with nx := Pv (i + 1), ct := Pv (i + 1), bk := D.nx } σ2 H2) (hd : ∀ σ H, Pv n σ H → D.nx σ H) :
    ∃ W : Nat → Nat → St → Hp → Prop, (∃ m, W 0 m σ H) ∧ ∀ i m σ H, W i m σ H →
      ((Itrs lo c n).stop i H ∧ D.nx σ H) ∨ ((Itrs lo c n).go i H ∧ ∃ N : St → Hp → Prop, (∀ σ' H', N σ' H' → ∃ m', m' < m ∧ W (i + 1) m' σ' H') ∧ ∀ x H', (Itrs lo c n).yld i H x H' → g x σ H' fun σ2 H2 => tb { D with nx := N, ct := N, bk := D.nx } σ2 H2) := by
  refine ⟨fun i m σ H => m = n - i ∧ i ≤ n ∧ Pv i σ H, ⟨n, by simp, Nat.zero_le _, h0⟩, ?_⟩
  rintro i m σ H ⟨rfl, hi, p⟩
  by_cases hlt : i < n
  · refine .inr ⟨hlt, Pv (i + 1), fun σ' H' p' => ⟨n - (i + 1), by omega, rfl, hlt, p'⟩, fun x H' y => ?_⟩
    obtain ⟨e, y⟩ := y
    subst e y
    exact hs i σ _ hlt p
  · have e : i = n := by omega
    subst e
    exact .inl ⟨Nat.le_refl _, hd σ H p⟩
end
section
variable {X : Cx} {e : Expr} {es : List Expr} {t : TA} {p pos : Pos}
theorem boot_repr' : bootBuiltins "repr" = some (.builtin "repr") := by decide +kernel
theorem boot_max' : bootBuiltins "max" = some (.builtin "max") := by decide +kernel
theorem boot_abs' : bootBuiltins "abs" = some (.builtin "abs") := by decide +kernel
theorem pcb_max (hc : X.calm = true) (hg : Gl X "max") (hm : X.mg "max" = none) (ha : PA X (e :: es) t) (he : starEach (e :: es) X.env = (false, eval e X.env) :: starEach es X.env) (hpl : (backTo pos (starEach es X.env)).any (·.1) = false) :
    PE X (.Call (.Name "max" p) (e :: es) [] pos) (tCB (rMax1P X.K) t) := pe_callB (call_maxP hc) hg hm boot_max' ha (by decide) (by decide) he hpl
theorem zcb_max (hc : X.calm = true) (hg : Gl X "max") (hm : X.mg "max" = none) (ha : ZA X (e :: es) t) (he : starEach (e :: es) X.env = (false, eval e X.env) :: starEach es X.env) (hpl : (backTo pos (starEach es X.env)).any (·.1) = false) :
    ZE X (.Call (.Name "max" p) (e :: es) [] pos) (tCB (rMax1P X.K) t) := by with_unfolding_all exact pcb_max hc hg hm ha he hpl
noncomputable def rAbsP : List V → Hp → VK → Prop := fun xs H Q => match xs with
  | [.int i] => Q (.int (if i < 0 then -i else i)) H
  | _ => False
theorem call_absP : CallR X (.builtin "abs") rAbsP := call_abs.imp fun xs H Q h => by
  unfold rAbsP at h
  split at h
  · exact ⟨_, rfl, h⟩
  · exact h.elim
theorem pcb_abs (hg : Gl X "abs") (hm : X.mg "abs" = none) (ha : PA X (e :: es) t) (he : starEach (e :: es) X.env = (false, eval e X.env) :: starEach es X.env) (hpl : (backTo pos (starEach es X.env)).any (·.1) = false) :
    PE X (.Call (.Name "abs" p) (e :: es) [] pos) (tCB rAbsP t) := pe_callB call_absP hg hm boot_abs' ha (by decide) (by decide) he hpl
noncomputable def rAppP : V → List V → Hp → VK → Prop := fun x vs H Q => match x, vs with
  | .ref l, [y] => ∃ xs, H l = some (.lst xs) ∧ xs.length < sizeLine ∧ Q .non (upd H l (.lst (xs ++ [y])))
  | _, _ => False
theorem mt_appP : MtM X "list.append" rAppP := fun pins s σ H x vs v us Q I rx rv h => by
  unfold rAppP at h
  split at h
  · obtain ⟨xs, h1, h2, q⟩ := h
    exact mt_append pins s σ H _ _ v us Q I rx rv ⟨_, xs, _, rfl, rfl, h1, h2, q⟩
  · exact h.elim
variable {o : Expr} {to : TE} {apos cpos : Pos}
theorem pm_append (ho : PE X o to) (ha : PA X (e :: es) t) (hbase : attributeBase o "append" X.env (eval o X.env) = eval o X.env := by rfl)
    (hfew : ((backTo cpos (starEach (e :: es) X.env)).all (fun x => !x.1) && (backToKw cpos (keywordEach [] X.env)).all (fun x => x.1.isSome)
      && decide ((e :: es).length + ([] : List Keyword).length + (if ([] : List Keyword).isEmpty then 0 else 1) < 30)) = true := by rfl)
    (hline : (apos.endLine == cpos.line) = true := by rfl) (hs : starEach (e :: es) X.env = (false, eval e X.env) :: starEach es X.env := by rfl) (hplain : (backTo cpos (starEach es X.env)).any (·.1) = false := by rfl) :
    PE X (.Call (.Attribute o "append" apos) (e :: es) [] cpos) (fun σ H Q => to σ H fun x H1 => tyV X.K "list" x H1 ∧ t σ H1 fun xs H2 => rAppP x xs H2 Q) :=
  pe_bm PySem.F.plainAttrs_list PySem.F.slot_list_append PySem.F.type_list_append mt_appP ho ha hbase hfew hline hs hplain
theorem zm_append (ho : ZE X o to) (ha : ZA X (e :: es) t) (hbase : attributeBase o "append" X.env (eval o X.env) = eval o X.env := by rfl)
    (hfew : ((backTo cpos (starEach (e :: es) X.env)).all (fun x => !x.1) && (backToKw cpos (keywordEach [] X.env)).all (fun x => x.1.isSome)
      && decide ((e :: es).length + ([] : List Keyword).length + (if ([] : List Keyword).isEmpty then 0 else 1) < 30)) = true := by rfl)
    (hline : (apos.endLine == cpos.line) = true := by rfl) (hs : starEach (e :: es) X.env = (false, eval e X.env) :: starEach es X.env := by rfl) (hplain : (backTo cpos (starEach es X.env)).any (·.1) = false := by rfl) :
    ZE X (.Call (.Attribute o "append" apos) (e :: es) [] cpos) (fun σ H Q => to σ H fun x H1 => tyV X.K "list" x H1 ∧ t σ H1 fun xs H2 => rAppP x xs H2 Q) := by with_unfolding_all exact pm_append ho ha hbase hfew hline hs hplain
theorem tyL {K : PySem.W.Frag} {H : Hp} {l : Addr} {xs : List V} (h : H l = some (.lst xs)) : tyV K "list" (.ref l) H := .inl ⟨rfl, xs, SqL.of h⟩
end
end L2
set_option Elab.async false
set_option linter.all false
set_option maxRecDepth 100000
set_option maxHeartbeats 4000000
namespace L2
open PySem PySem.Spec PyProof.Rows
structure ShOk (d : PyData) (k L : Nat) : Prop where
  sh : d.showable = true
  nd : d.hasDict = false
  dp : d.depth ≤ k
  ln : d.shown.length ≤ L
theorem ShOk.mono {d : PyData} {k L k' L' : Nat} (h : ShOk d k L) (hk : k ≤ k') (hL : L ≤ L') : ShOk d k' L' := ⟨h.sh, h.nd, Nat.le_trans h.dp hk, Nat.le_trans h.ln hL⟩
theorem ShOk.int {i : Int} (h : i.natAbs.log2 < 100) : ShOk (.int i) 1 101 := by
  refine ⟨?_, by simp only [PyData.hasDict], by simp only [PyData.depth]; decide, ?_⟩
  · simp only [PyData.showable]; exact decide_eq_true (by omega)
  · simp only [PyData.shown]
    rw [PySem.ofString_length]
    exact int_text_length_le (k := 100) (by decide) h
theorem log2_small {i : Int} {n : Nat} (h : i.natAbs < 2 ^ n) : i.natAbs.log2 < n ∨ i.natAbs = 0 := by
  by_cases h0 : i.natAbs = 0
  · exact .inr h0
  · exact .inl ((Nat.log2_lt h0).mpr h)
theorem ShOk.intB {i : Int} (h1 : -(2 ^ 100) < i) (h2 : i < 2 ^ 100) : ShOk (.int i) 1 101 := by
  refine ShOk.int ?_
  have h : i.natAbs < 2 ^ 100 := by omega
  rcases log2_small h with h | h
  · exact h
  · rw [h]; decide
theorem ShOk.non : ShOk .none 1 101 := ⟨rfl, rfl, by simp only [PyData.depth]; decide, by simp only [PyData.shown]; decide⟩
theorem ShOk.bl (b : Bool) : ShOk (.bool b) 1 101 := ⟨rfl, rfl, by simp only [PyData.depth]; decide, by simp only [PyData.shown]; cases b <;> decide⟩
theorem sh_all {k L : Nat} : ∀ {ds : List PyData}, (∀ d ∈ ds, ShOk d k L) → PyData.showableAll ds = true ∧ PyData.hasDictAll ds = false ∧ PyData.depthAll ds ≤ k ∧ ((PyData.shownAll ds).map (·.length)).sum ≤ ds.length * L ∧ (PyData.shownAll ds).length = ds.length
  | [], _ => ⟨rfl, rfl, by simp only [PyData.depthAll]; exact Nat.zero_le _, by simp [PyData.shownAll], by simp [PyData.shownAll]⟩
  | d :: r, h => by
    obtain ⟨h1, h2, h3, h4, h5⟩ := sh_all (ds := r) fun x hx => h x (List.mem_cons_of_mem _ hx)
    have hd := h d List.mem_cons_self
    refine ⟨?_, ?_, ?_, ?_, ?_⟩
    · simp only [PyData.showableAll, hd.sh, h1, Bool.and_self]
    · simp only [PyData.hasDictAll, hd.nd, h2, Bool.or_self]
    · simp only [PyData.depthAll]; exact Nat.max_le.mpr ⟨hd.dp, h3⟩
    · simp only [PyData.shownAll, List.map_cons, List.sum_cons, List.length_cons, Nat.succ_mul]
      have := hd.ln; omega
    · simp only [PyData.shownAll, List.length_cons, h5]
theorem ShOk.tuple {ds : List PyData} {k L : Nat} (h : ∀ d ∈ ds, ShOk d k L) : ShOk (.tuple ds) (k + 1) (ds.length * (L + 2) + 3) := by
  obtain ⟨h1, h2, h3, h4, h5⟩ := sh_all h
  refine ⟨by simp only [PyData.showable]; exact h1, by simp only [PyData.hasDict]; exact h2, by simp only [PyData.depth]; omega, ?_⟩
  simp only [PyData.shown]
  have := tupleText_len_le (PyData.shownAll ds)
  rw [h5] at this
  rw [Nat.mul_add]
  omega
theorem ShOk.list {ds : List PyData} {k L : Nat} (h : ∀ d ∈ ds, ShOk d k L) : ShOk (.list ds) (k + 1) (ds.length * (L + 2) + 3) := by
  obtain ⟨h1, h2, h3, h4, h5⟩ := sh_all h
  refine ⟨by simp only [PyData.showable]; exact h1, by simp only [PyData.hasDict]; exact h2, by simp only [PyData.depth]; omega, ?_⟩
  simp only [PyData.shown]
  have := listText_len_le (PyData.shownAll ds)
  rw [h5] at this
  rw [Nat.mul_add]
  omega
theorem DatV.ints {H : Hp} {a : Addr} {ns : List Int} (e : H a = some (.tup (ns.map V.int))) : DatV H (.ref a) (.tuple (ns.map PyData.int)) := .tup e (DatAll.ints ns)
theorem Same.updN {H H' : Hp} {t : Addr} {o : HO} (y : Same H H') (h : H t = none) : Same H (upd H' t o) := fun b u e => by
  rw [upd_ne (ne_of_none e h)]
  exact y b u e
end L2
namespace L2
open PySem PySem.Spec PyProof.Rows
theorem canInts : ∀ ns : List Int, PyData.canLayAll0 (ns.map PyData.int) = true ∧ PyData.depthAll (ns.map PyData.int) ≤ 1
  | [] => ⟨by simp [PyData.canLayAll0], by simp [PyData.depthAll]⟩
  | n :: r => by
    obtain ⟨h1, h2⟩ := canInts r
    refine ⟨by simp only [List.map_cons, PyData.canLayAll0, PyData.canLay0, h1, Bool.and_self], ?_⟩
    simp only [List.map_cons, PyData.depthAll, PyData.depth]
    omega
theorem shaped_list_ints (ns : List Int) : SeqAt.shaped (.list (ns.map PyData.int)) = true := by
  obtain ⟨h1, h2⟩ := canInts ns
  unfold SeqAt.shaped
  rw [Bool.and_eq_true]
  exact ⟨by simp only [PyData.canLay0]; exact h1, decide_eq_true (by simp only [PyData.depth]; omega)⟩
end L2
namespace L2
open PySem PySem.Spec PyProof.Rows
theorem SqL.same {K : PySem.W.Frag} {H H' : Hp} {a : Addr} {xs : List V} (e : Same H H') (h : SqL K H a xs) : SqL K H' a xs := by
  rcases h with (h | ⟨o, h⟩) | h
  · exact .inl (.inl (e _ _ h))
  · exact .inl (.inr ⟨o, e _ _ h⟩)
  · exact .inr h
end L2
namespace L2
open PySem PySem.Spec PyProof.Rows
end L2
set_option Elab.async false
set_option linter.all false
set_option maxRecDepth 100000
set_option maxHeartbeats 4000000
namespace K29
open PySem L2
noncomputable def top (i : Nat) : Stmt := PySem.Challenge.pw_partrests_k29_claims_shown.main.body.getD i (.Pass ⟨0, 0, 0, 0⟩)
noncomputable def Hand (H : Hp) (a : Addr) (n : Nat) : Prop := ∃ g s c : Int, H a = some (.lst [.int g, .int s, .int c]) ∧ 0 ≤ g ∧ 0 ≤ s ∧ s < 2305843009213693951 ∧ 0 ≤ c ∧ c ≤ n
noncomputable def Step (a : Addr) (n : Nat) (H H' : Hp) : Prop := (∀ b o, b ≠ a → H b = some o → H' b = some o) ∧ Hand H' a n
theorem Hand.mono {H : Hp} {a : Addr} {n m : Nat} (h : Hand H a n) (k : n ≤ m) : Hand H a m := let ⟨g, s, c, e, h1, h2, h3, h4, h5⟩ := h; ⟨g, s, c, e, h1, h2, h3, h4, by omega⟩
theorem Hand.same {H H' : Hp} {a : Addr} {n : Nat} (h : Hand H a n) (y : Same H H') : Hand H' a n := let ⟨g, s, c, e, r⟩ := h; ⟨g, s, c, y _ _ e, r⟩
theorem Hand.at {H : Hp} {a : Addr} {n : Nat} (h : Hand H a n) : ∃ xs, H a = some (.lst xs) := let ⟨_, _, _, e, _⟩ := h; ⟨_, e⟩
theorem Hand.ne {H : Hp} {a b : Addr} {n : Nat} (h : Hand H a n) (hb : H b = none) : b ≠ a := fun z => by
  obtain ⟨xs, e⟩ := h.at
  rw [z, e] at hb
  cases hb
theorem Step.trans {a : Addr} {n m : Nat} {H H1 H2 : Hp} (x : Step a n H H1) (y : Step a m H1 H2) : Step a m H H2 := ⟨fun b o k e => y.1 b o k (x.1 b o k e), y.2⟩
theorem Step.same {a : Addr} {n : Nat} {H H1 H2 : Hp} (x : Step a n H H1) (y : Same H1 H2) : Step a n H H2 := ⟨fun b o k e => y b o (x.1 b o k e), x.2.same y⟩
theorem Step.refl {a : Addr} {n : Nat} {H : Hp} (h : Hand H a n) : Step a n H H := ⟨fun _ _ _ e => e, h⟩
theorem Step.of_same {a : Addr} {n : Nat} {H H1 : Hp} (h : Hand H a n) (y : Same H H1) : Step a n H H1 := (Step.refl h).same y
theorem Step.mono {a : Addr} {n m : Nat} {H H' : Hp} (x : Step a n H H') (k : n ≤ m) : Step a m H H' := ⟨x.1, x.2.mono k⟩
theorem Step.tup {a b : Addr} {n m : Nat} {H H1 : Hp} {xs : List V} (h : Hand H a m) (x : Step a n H H1) (e : H b = some (.tup xs)) : H1 b = some (.tup xs) := by
  obtain ⟨ys, e'⟩ := h.at
  exact x.1 b _ (ne_of e e' (by intro z; cases z)) e
theorem atI_of {xs : List V} {k : Int} {j : Nat} {v : V} (h : k = (j : Int)) (hx : xs[j]? = some v) : atI xs k = some v := by subst h; exact atI_nat hx
theorem getI {ns : List Int} {j : Nat} (h : j < ns.length) : (ns.map V.int)[j]? = some (.int ns[j]) := by rw [List.getElem?_map, List.getElem?_eq_getElem h]; rfl
theorem rep_flat (n : Nat) (x : Int) : (List.replicate n [V.int x]).flatten = (List.replicate n x).map V.int := by
  induction n with
  | zero => rfl
  | succ n ih => rw [List.replicate_succ, List.flatten_cons, ih, List.replicate_succ, List.map_cons]; rfl
theorem le_line {n : Nat} (h : n ≤ 1000) : n ≤ sizeLine := Nat.le_of_lt (small1000 h)
theorem mulR {a b : Int} (h1 : -(2 ^ 64) < b) (h2 : b < 2 ^ 64) : IntMulOk a b := IntMulOk.of_right (intBits_le_64 h1 h2)
theorem mulL {a b : Int} (h1 : -(2 ^ 64) < a) (h2 : a < 2 ^ 64) : IntMulOk a b := IntMulOk.of_left (intBits_le_64 h1 h2)
section
variable {P : Program} {w : World} {K : PySem.W.Frag} {mg : Str → Option Value} {base : Heap} {f : Addr} {fd : FuncData}
theorem sc_take : FnScope ["_law_hand_here", "_law_many", "_law_digit", "_law_blent"] ["_law_hand_here", "_law_many"] (defScope (top 23)) := ⟨rfl, rfl, rfl, by decide +kernel, rfl, by decide +kernel, by decide +kernel⟩
noncomputable def sp_take : Sp := fun vs H Q _ => ∃ (a : Addr) (m : Int) (n : Nat), vs = [.ref a, .int m] ∧ Hand H a n ∧ n < 1000000000 ∧ 0 < m ∧ m < 1073741824 ∧ ∀ r H', 0 ≤ r → r < m → Step a (n + 1) H H' → Q (.int r) H'
theorem ok_take (F : Fun K "_law_take" "_law_take" (top 23) f fd) : FnOk P w K mg base CX0 1 f fd ["_law_hand_here", "_law_many"] sp_take := by
  refine F.ok sc_take (fun vs H Q E h => ?_) (fun cdv A outer s H vs Q E hr h => ?_)
  · obtain ⟨a, m, n, rfl, _⟩ := h; rfl
  obtain ⟨a, m, n, rfl, ⟨g, z, c, hl, g0, z0, z1, c0, c1⟩, n1, m0, m1, q⟩ := h
  have nd := sc_take.nd
  refine ⟨_, (pss_cons (ps_if (pt_cmpP op_gtP (pe_ix ix_P (pn 0) pe_int (fun _ _ => rfl)) pe_int (nomark _)) (pss_cons (ps_set (i := 2) nd rfl (Or.inl rfl) (pe_op op_modP (pe_ix ix_P (pn 0) pe_int (fun _ _ => rfl)) (pn 1)))
      (pss_cons (ps_asg (pe_op op_fdivP (pe_ix ix_P (pn 0) pe_int (fun _ _ => rfl)) (pn 1)) (pg_sub (pn 0) pe_int set_list))
      (pss_one (ps_ret (pn 2))))) pss_nil)
      (pss_cons (ps_asg (pe_op op_addP (pe_ix ix_P (pn 0) pe_int (fun _ _ => rfl)) pe_int) (pg_sub (pn 0) pe_int set_list))
      (pss_cons (ps_set (i := 3) nd rfl (Or.inl rfl) (pe_op op_modP (pe_op op_mulQ (pe_op op_addP (pe_op op_addP (pe_ix ix_P (pn 0) pe_int (fun _ _ => rfl)) (pe_op op_mulQ (pe_op op_mulQ pe_int (pe_ix ix_P (pn 0) pe_int (fun _ _ => rfl))) (pe_ix ix_P (pn 0) pe_int (fun _ _ => rfl)))) pe_int) pe_int) pe_int))
      (pss_cons (ps_set (i := 3) nd rfl (Or.inl rfl) (pe_op op_modP (pe_op op_mulQ (pn 3) (pe_op op_addP (pe_op op_modP (pn 3) pe_int) (pe_op op_mulQ pe_int (pe_ix ix_P (pn 0) pe_int (fun _ _ => rfl))))) pe_int))
      (pss_one (ps_ret (pe_op op_modP (pe_op op_addP (pe_op op_fdivP (pn 3) pe_int) (pe_op op_fdivP (pn 3) pe_int)) (pn 1)))))))), ?_⟩
  refine ⟨_, .inl (SqL.of hl), .int g, rfl, ?_⟩
  refine iteD (fun hg => ?_) (fun hg => ?_)
  · refine ⟨_, .inl (SqL.of hl), .int g, rfl, m0, ?_⟩
    refine ⟨_, .inl (SqL.of hl), .int g, rfl, ⟨m0, m1⟩, ?_⟩
    refine ⟨a, _, _, _, rfl, rfl, hl, rfl, ?_⟩
    refine q _ _ (Int.emod_nonneg _ (by omega)) (Int.emod_lt_of_pos _ m0) ⟨fun b o n e => ?_, g / m, z, c, upd_same, Int.ediv_nonneg g0 (by omega), z0, z1, c0, by omega⟩
    rw [upd_ne n]; exact e
  · refine ⟨_, .inl (SqL.of hl), .int c, rfl, ?_⟩
    refine ⟨a, _, _, _, rfl, rfl, hl, rfl, ?_⟩
    refine ⟨_, .inl (SqL.of upd_same), .int z, rfl, ?_⟩
    refine ⟨_, .inl (SqL.of upd_same), .int (c + 1), rfl, mulL (by decide) (by decide), ?_⟩
    refine ⟨_, .inl (SqL.of upd_same), .int (c + 1), rfl, mulR (by omega) (by omega), mulR (by decide) (by decide), (show (0 : Int) < 2305843009213693921 by decide), ?_⟩
    generalize hb1 : (z + 65537 * (c + 1) * (c + 1) + 11) * 48271 % 2305843009213693921 = b1
    have e1 : 0 ≤ b1 := by rw [← hb1]; exact Int.emod_nonneg _ (by decide)
    have e2 : b1 < 2305843009213693921 := by rw [← hb1]; exact Int.emod_lt_of_pos _ (by decide)
    refine ⟨(show (0 : Int) < 1000003 by decide), ?_⟩
    refine ⟨_, .inl (SqL.of upd_same), .int (c + 1), rfl, mulL (by decide) (by decide), mulL (by omega) (by omega), (show (0 : Int) < 2305843009213693907 by decide), ?_⟩
    refine ⟨⟨by decide, by decide⟩, ⟨by decide, by decide⟩, m0, ?_⟩
    refine q _ _ (Int.emod_nonneg _ (by omega)) (Int.emod_lt_of_pos _ m0) ⟨fun b o n e => ?_, g, z, c + 1, upd_same, g0, z0, z1, by omega, by omega⟩
    rw [upd_ne n]; exact e
theorem sc_hand : FnScope ["_law_script", "_law_k", "_law_cell", "_law_great"] ["_law_script", "_law_k"] (defScope (top 22)) := ⟨rfl, rfl, rfl, by decide +kernel, rfl, by decide +kernel, by decide +kernel⟩
noncomputable def sp_hand (K : PySem.W.Frag) : Sp := fun vs H Q _ => ∃ (a : Addr) (k : Int) (ns : List Int), vs = [.ref a, .int k] ∧ SqL K H a (ns.map V.int) ∧ 0 ≤ k ∧ k ≤ 100 ∧ ∀ p H', H p = none → Same H H' → Hand H' p 0 → Q (.ref p) H'
theorem big_ok2 : IntMulOk ((10 : Int) ^ Int.toNat 60) ((10 : Int) ^ Int.toNat 60) := by unfold IntMulOk; decide +kernel
theorem big_ok3 : IntMulOk ((10 : Int) ^ Int.toNat 60 * (10 : Int) ^ Int.toNat 60) ((10 : Int) ^ Int.toNat 60) := by unfold IntMulOk; decide +kernel
theorem big_ok4 : IntMulOk ((10 : Int) ^ Int.toNat 60 * (10 : Int) ^ Int.toNat 60 * (10 : Int) ^ Int.toNat 60) ((10 : Int) ^ Int.toNat 60) := by unfold IntMulOk; decide +kernel
theorem ok_hand (F : Fun K "_law_hand" "_law_hand" (top 22) f fd) (m_abs : mg "abs" = none) (m_len : mg "len" = none) : FnOk P w K mg base CX0 1 f fd ["_law_script", "_law_k"] (sp_hand K) := by
  refine F.ok sc_hand (fun vs H Q E h => ?_) (fun cdv A outer s H vs Q E hr h => ?_)
  · obtain ⟨a, k, ns, rfl, _⟩ := h; rfl
  obtain ⟨a, k, ns, rfl, hS, k0, k1, q⟩ := h
  have nd := sc_hand.nd
  have rest : ∃ t, PSs (cxOf CX0 P w K mg base ["_law_script", "_law_k", "_law_cell", "_law_great"] "_law_hand" (defScope (top 22)) f cdv A outer s H E).nox ((defBody (top 22)).drop 1) t ∧
      ∀ v : Int, 0 ≤ v → t { nx := fun _ H' => Q .non H', rt := Q } [some (.ref a), some (.int k), some (.int v), none] H := by
    refine ⟨_, (pss_cons (ps_set (i := 3) nd rfl (Or.inl rfl) (pe_ifExp (pt_cmpP op_geP (pn 2) (pe_op op_powP pe_int pe_int) (nomark _)) (pe_op op_modP (pn 2) (pe_op op_mulQ (pe_op op_mulQ (pe_op op_mulQ (pe_op op_powP pe_int pe_int) (pe_op op_powP pe_int pe_int)) (pe_op op_powP pe_int pe_int)) (pe_op op_powP pe_int pe_int))) pe_int))
      (pss_one (ps_ret (pe_lst (pa_cons (pn 3) (pa_cons (pe_op op_modP (pe_op op_mulQ (pe_op op_addP (pe_op op_addP (pe_op op_modP (pn 2) pe_int) (pe_op op_mulQ (pe_op op_mulQ pe_int (pn 1)) (pn 1))) pe_int) pe_int) pe_int) (pa_cons pe_int pa_nil))))))), ?_⟩
    intro v v0
    have e1 : 0 ≤ v % 2305843009213693951 := Int.emod_nonneg _ (by decide)
    have e2 : v % 2305843009213693951 < 2305843009213693951 := Int.emod_lt_of_pos _ (by decide)
    have e3 : 0 ≤ 7919 * k * k := Int.mul_nonneg (Int.mul_nonneg (by decide) k0) k0
    have e5 : 0 ≤ (v % 2305843009213693951 + 7919 * k * k + 3) * 48271 % 2305843009213693921 := Int.emod_nonneg _ (by decide)
    have e6 : (v % 2305843009213693951 + 7919 * k * k + 3) * 48271 % 2305843009213693921 < 2305843009213693921 := Int.emod_lt_of_pos _ (by decide)
    refine ⟨⟨by decide, by decide, by decide⟩, ?_⟩
    refine iteD (fun hv => ?_) (fun hv => ?_)
    · refine ⟨⟨by decide, by decide, by decide⟩, ⟨by decide, by decide, by decide⟩, big_ok2, ⟨by decide, by decide, by decide⟩, big_ok3, ⟨by decide, by decide, by decide⟩, big_ok4, (show (0 : Int) < 10 ^ Int.toNat 60 * 10 ^ Int.toNat 60 * 10 ^ Int.toNat 60 * 10 ^ Int.toNat 60 by decide), ?_⟩
      refine ⟨(show (0 : Int) < 2305843009213693951 by decide), mulL (by decide) (by decide), mulR (by omega) (by omega), mulR (by decide) (by decide), (show (0 : Int) < 2305843009213693921 by decide), (by show 3 ≤ sizeLine; decide), fun p hp => ?_⟩
      exact q p _ hp (Same.new hp _) ⟨_, _, 0, upd_same, Int.emod_nonneg _ (by decide), e5, by omega, by decide, by decide⟩
    · refine ⟨(show (0 : Int) < 2305843009213693951 by decide), mulL (by decide) (by decide), mulR (by omega) (by omega), mulR (by decide) (by decide), (show (0 : Int) < 2305843009213693921 by decide), (by show 3 ≤ sizeLine; decide), fun p hp => ?_⟩
      exact q p _ hp (Same.new hp _) ⟨_, _, 0, upd_same, by decide, e5, by omega, by decide, by decide⟩
  obtain ⟨t2, ht2, rest⟩ := rest
  refine ⟨_, (pss_cons (ps_set (i := 2) nd rfl (Or.inl rfl) (pe_ifExp (pt_cmpP op_ltP (pn 1) (pcb_len rfl m_len (pa_cons (pn 0) pa_nil) rfl rfl) (nomark _)) (pcb_abs rfl m_abs (pa_cons (pe_ix ix_P (pn 0) (pn 1) (fun _ _ => rfl)) pa_nil) rfl rfl) pe_int))
      ht2), ?_⟩
  refine ⟨_, .inl hS, ?_⟩
  refine iteD (fun hk => ?_) (fun hk => ?_)
  · rw [List.length_map] at hk
    have hj : k.toNat < ns.length := by omega
    refine ⟨_, .inl hS, .int ns[k.toNat], atI_of (by omega) (getI hj), ?_⟩
    exact rest _ (by split <;> omega)
  · exact rest 0 (by decide)
end
end K29
set_option Elab.async false
set_option linter.all false
set_option maxRecDepth 100000
set_option maxHeartbeats 4000000
namespace L2
open PySem PySem.Spec PyProof.Rows
section
variable {X : Cx}
noncomputable def rGetL (K : PySem.W.Frag) : V → V → Hp → VK → Prop := fun x y H Q => match x, y with
  | .ref p, .int i => ∃ xs v, SqL K H p xs ∧ 0 ≤ i ∧ xs[i.toNat]? = some v ∧ Q v H
  | _, _ => False
theorem get_list : PGet X (rGetL X.K) := by
  intro pins s σ H x y v u Q I rx ry h
  unfold rGetL at h
  split at h
  · rename_i p i
    obtain ⟨xs, z, hq, h0, he, q⟩ := h
    cases rx
    obtain ⟨t, rfl⟩ := ry
    obtain ⟨its, r, pl, hz⟩ := I.list hq
    obtain ⟨w, ew, rw'⟩ := r.get he
    have hl := r.length
    have hn := line63
    have hi : i.toNat < its.length := (List.getElem?_eq_some_iff.mp ew).1
    exact wpAny_getItem_list pl.isList h0 (by omega) (by simpa using ew) ⟨z, H, I, rw', q⟩
  · exact h.elim
noncomputable def ipP (f : Int → Int → Int) : TIp := fun x y H Q => match x, y with
  | .int i, .int j => Q (.int (f i j)) H
  | _, _ => False
theorem ipP_I {f : Int → Int → Int} {x y : V} {H : Hp} {Q : VK} (h : ipP f x y H Q) : ipI f x y H Q := by
  unfold ipP at h
  split at h
  · exact ⟨_, _, rfl, rfl, h⟩
  · exact h.elim
theorem ip_addP : PIp X .Add (ipP fun i j => i + j) := fun pins s σ H x y v u Q I r1 r2 h => ip_add pins s σ H x y v u Q I r1 r2 (ipP_I h)
noncomputable def rSetP : V → V → V → Hp → (Hp → Prop) → Prop := fun o i v H Q => match o, i with
  | .ref p, .int k => ∃ xs, H p = some (.lst xs) ∧ 0 ≤ k ∧ k.toNat < xs.length ∧ Q (upd H p (.lst (xs.set k.toNat v)))
  | _, _ => False
theorem set_listP : PSet X rSetP := fun pins s σ H o i v ov iv u Q I r1 r2 r3 h => by
  unfold rSetP at h
  split at h
  · obtain ⟨xs, h1, h2, h3, q⟩ := h
    refine set_list pins s σ H _ _ v ov iv u Q I r1 r2 r3 ⟨_, xs, _, _, rfl, rfl, h1, ?_, q⟩
    unfold ixN
    rw [if_pos h2, if_pos (by omega)]
  · exact h.elim
end
section
variable {X : Cx} {e : Expr} {es : List Expr} {t : TA} {o : Expr} {to : TE} {apos cpos : Pos}
end
theorem eqv_list_nil (ds : List PyData) : PyData.eqv (.list ds) (.list []) = ds.isEmpty := by cases ds <;> simp [PyData.eqv, PyData.eqvAll]
theorem DatV.listInts {H : Hp} {a : Addr} {ns : List Int} (e : H a = some (.lst (ns.map V.int))) : DatV H (.ref a) (.list (ns.map PyData.int)) := .lst e (DatAll.ints ns)
end L2
namespace L2
open PySem PySem.Spec PyProof.Rows
theorem isE_map {α β : Type} (f : α → β) (l : List α) : (l.map f).isEmpty = l.isEmpty := by cases l <;> rfl
end L2
namespace L2
open PySem PySem.Spec PyProof.Rows
section
variable {X : Cx} {e : Expr} {es : List Expr} {t : TA} {p pos : Pos} {K : PySem.W.Frag} {o : Expr} {to : TE} {apos cpos : Pos}
end
end L2
namespace L2
open PySem
end L2
namespace MRow
noncomputable def putN : Nat → (Nat → Int) → Nat → Nat → Int
  | 0, f, _, n => f n
  | k + 1, f, s, n => f n + (if s ≤ n then putN k f s (n - s) else 0)
noncomputable def put (f : Nat → Int) (s n : Nat) : Int := putN n f s n
theorem putN_more {f : Nat → Int} {s : Nat} (hs : 0 < s) : ∀ (k n : Nat), n ≤ k → putN k f s n = putN n f s n
  | 0, n, h => by have : n = 0 := by omega
                  subst this; rfl
  | k + 1, 0, _ => by
    show f 0 + (if s ≤ 0 then _ else 0) = f 0
    rw [if_neg (by omega)]; omega
  | k + 1, n + 1, h => by
    show f (n + 1) + (if s ≤ n + 1 then putN k f s (n + 1 - s) else 0) = f (n + 1) + (if s ≤ n + 1 then putN n f s (n + 1 - s) else 0)
    by_cases hn : s ≤ n + 1
    · rw [if_pos hn, if_pos hn, putN_more hs k _ (by omega), putN_more hs n _ (by omega)]
    · rw [if_neg hn, if_neg hn]
theorem put_eq (f : Nat → Int) {s : Nat} (hs : 0 < s) (n : Nat) : put f s n = f n + (if s ≤ n then put f s (n - s) else 0) := by
  unfold put
  rw [← putN_more hs (n + 1) n (by omega)]
  show f n + (if s ≤ n then putN n f s (n - s) else 0) = _
  by_cases hn : s ≤ n
  · rw [if_pos hn, if_pos hn, putN_more hs n _ (by omega)]
  · rw [if_neg hn, if_neg hn]
noncomputable def dl : Nat → Int := fun n => if n = 0 then 1 else 0
noncomputable def R : Nat → Nat → Int
  | 0 => dl
  | s + 1 => put (R s) (s + 1)
noncomputable def tb (f : Nat → Int) (L : Nat) : List Int := (List.range L).map f
theorem tb_len (f : Nat → Int) (L : Nat) : (tb f L).length = L := by simp [tb]
theorem tb_at {f : Nat → Int} {L j : Nat} (h : j < (tb f L).length) : (tb f L)[j] = f j := by simp [tb]
theorem tb_get {f : Nat → Int} {L j : Nat} (h : j < L) : (tb f L)[j]? = some (f j) := by
  rw [List.getElem?_eq_getElem (by rw [tb_len]; exact h), tb_at]
theorem tb_ext {f g : Nat → Int} {L : Nat} (h : ∀ j, j < L → f j = g j) : tb f L = tb g L := by
  unfold tb
  exact List.map_congr_left fun j hj => h j (List.mem_range.mp hj)
theorem tb_dl (n : Nat) : tb dl (n + 1) = 1 :: List.replicate n 0 := by
  refine List.ext_getElem (by simp [tb]) fun i h1 h2 => ?_
  rw [tb_at]
  cases i with
  | zero => rfl
  | succ i => simp [dl]
noncomputable def up (f g : Nat → Int) (k : Nat) : Nat → Int := fun j => if j < k then g j else f j
theorem tb_set {f g : Nat → Int} {L k : Nat} (h : k < L) : (tb (up f g k) L).set k (g k) = tb (up f g (k + 1)) L := by
  refine List.ext_getElem (by rw [List.length_set, tb_len, tb_len]) fun i h1 h2 => ?_
  rw [List.getElem_set, tb_at h2]
  unfold up
  by_cases hk : k = i
  · subst hk; simp
  · rw [if_neg hk, tb_at]
    by_cases hi : i < k
    · rw [if_pos hi, if_pos (by omega)]
    · rw [if_neg hi, if_neg (by omega)]
theorem put_low (f : Nat → Int) {s n : Nat} (hs : 0 < s) (h : n < s) : put f s n = f n := by rw [put_eq f hs, if_neg (by omega)]; omega
theorem up_start (f : Nat → Int) {s : Nat} (hs : 0 < s) (L : Nat) : tb (up f (put f s) s) L = tb f L := tb_ext fun j _ => by
  unfold up
  by_cases h : j < s
  · rw [if_pos h, put_low f hs h]
  · rw [if_neg h]
theorem up_all (f g : Nat → Int) {k L : Nat} (h : L ≤ k) : tb (up f g k) L = tb g L := tb_ext fun j hj => by
  unfold up
  rw [if_pos (by omega)]
end MRow
set_option Elab.async false
set_option linter.all false
set_option maxRecDepth 100000
set_option maxHeartbeats 4000000
namespace K29
open PySem L2 MRow
section
variable {P : Program} {w : World} {K : PySem.W.Frag} {mg : Str → Option Value} {base : Heap} {f : Addr} {fd : FuncData}
theorem sc_begun : FnScope ["most"] ["most"] (defScope (top 11)) := ⟨rfl, rfl, rfl, by decide +kernel, rfl, by decide +kernel, by decide +kernel⟩
noncomputable def sp_begun : Sp := fun vs H Q _ => ∃ n : Nat, vs = [.int n] ∧ n ≤ 1000 ∧ ∀ p H', H p = none → Same H H' → H' p = some (.lst ((tb dl (n + 1)).map V.int)) → Q (.ref p) H'
theorem fresh_back {H H' : Hp} {p : Addr} (y : Same H H') (h : H' p = none) : H p = none := by
  cases e : H p with
  | none => rfl
  | some o =>
    have := y _ _ e
    rw [h] at this
    cases this
theorem ok_begun (F : Fun K "begun" "begun" (top 11) f fd)  : FnOk P w K mg base CX0 1 f fd ["most"] sp_begun := by
  refine F.ok sc_begun (fun vs H Q E h => ?_) (fun cdv A outer s H vs Q E hr h => ?_)
  · obtain ⟨n, rfl, _⟩ := h; rfl
  obtain ⟨n, rfl, hn, q⟩ := h
  have nd := sc_begun.nd
  refine ⟨_, (pss_one (ps_ret (pe_op op_addP (pe_lst (pa_cons pe_int pa_nil)) (pe_op op_mulQ (pe_lst (pa_cons pe_int pa_nil)) (pn 0))))), ?_⟩
  refine ⟨by show 1 ≤ sizeLine; decide, fun d hd => ?_⟩
  have g1 := Same.new hd (.lst [.int 1])
  refine ⟨by show 1 ≤ sizeLine; decide, fun d2 hd2 => ?_⟩
  have g2 := Same.new hd2 (.lst [.int 0])
  refine ⟨⟨by omega, by omega⟩, .inl ⟨_, upd_same, le_line (by show 1 * (n : Int).toNat ≤ 1000; omega), fun d3 hd3 => ?_⟩⟩
  have g3 := Same.new hd3 (.lst (List.replicate (n : Int).toNat [V.int 0]).flatten)
  refine .inl ⟨_, _, g3 _ _ (g2 _ _ upd_same), upd_same, ?_, fun d4 hd4 => ?_⟩
  · rw [len_rep, sizeLine_eq]; show 1 + _ * 1 ≤ _; omega
  · refine q d4 _ (fresh_back ((g1.trans g2).trans g3) hd4) (((g1.trans g2).trans g3).trans (Same.new hd4 _)) ?_
    rw [upd_same, rep_flat, tb_dl]
    rfl
theorem sc_put_on : FnScope ["row", "size", "told", "n"] ["row", "size"] (defScope (top 12)) := ⟨rfl, rfl, rfl, by decide +kernel, rfl, by decide +kernel, by decide +kernel⟩
noncomputable def sp_put_on : Sp := fun vs H Q _ => ∃ (a : Addr) (s L : Nat) (g : Nat → Int), vs = [.ref a, .int s] ∧ 0 < s ∧ s ≤ 1000000 ∧ L ≤ 1000 ∧ H a = some (.lst ((tb g L).map V.int)) ∧ ∀ p H', H p = none → Same H H' → H' p = some (.lst ((tb (put g s) L).map V.int)) → Q (.ref p) H'
theorem ok_put_on (F : Fun K "put_on" "put_on" (top 12) f fd) (m_len : mg "len" = none) (m_list : mg "list" = none) (m_range : mg "range" = none) : FnOk P w K mg base CX0 1 f fd ["row", "size"] sp_put_on := by
  refine F.ok sc_put_on (fun vs H Q E h => ?_) (fun cdv A outer s H vs Q E hr h => ?_)
  · obtain ⟨a, z, L, g, rfl, _⟩ := h; rfl
  obtain ⟨a, z, L, g, rfl, hz, hz2, hL, ha, q⟩ := h
  have nd := sc_put_on.nd
  refine ⟨_, (pss_cons (ps_set (i := 2) nd rfl (Or.inl rfl) (pcb_list rfl m_list (pa_cons (pn 0) pa_nil) rfl rfl))
      (pss_cons (ps_for PassesOwn.never rfl (pi_range2 rfl m_range (pa_cons (pn 1) (pa_cons (pcb_len rfl m_len (pa_cons (pn 0) pa_nil) rfl rfl) pa_nil))) (pg_name (i := 3) nd rfl (Or.inl rfl)) (pss_one (ps_augS (pn 2) (pn 3) get_list (pe_ix ix_P (pn 2) (pe_op op_subP (pn 3) (pn 1)) (fun _ _ => rfl)) ip_addP set_listP)))
      (pss_one (ps_ret (pn 2))))), ?_⟩
  refine ⟨_, .inl (SqL.of ha), fun p hp => ?_⟩
  have y0 := Same.new hp (.lst ((tb g L).map V.int))
  refine ⟨_, .inl (SqL.of (y0 _ _ ha)), ?_⟩
  rw [List.length_map, tb_len]
  refine ⟨(z : Int), (L : Int), rfl, ⟨by omega, by omega, by omega, by omega⟩, ?_⟩
  refine for_range (fun i σ H' => Same H H' ∧ H' p = some (.lst ((tb (up g (put g z) (z + i)) L).map V.int)) ∧ ∃ pp, σ = [some (.ref a), some (.int z), some (.ref p), pp]) ⟨y0, by rw [Nat.add_zero, up_start g hz]; exact upd_same, none, rfl⟩ ?_ ?_
  · rintro i σ H' hi ⟨y, hp', pp, rfl⟩
    have hn : z + i < L := by omega
    have hget : ∀ j, j < L → ((tb (up g (put g z) (z + i)) L).map V.int)[j]? = some (.int (up g (put g z) (z + i) j)) := fun j hj => by rw [List.getElem?_map, tb_get hj]; rfl
    have e1 : ((z : Int) + (i : Int)).toNat = z + i := by omega
    refine ⟨_, _, SqL.of hp', by omega, by rw [e1]; exact hget _ hn, ?_⟩
    refine ⟨_, .inl (SqL.of hp'), .int (up g (put g z) (z + i) i), atI_of (j := i) (by omega) (hget i (by omega)), ?_⟩
    refine ⟨_, hp', by omega, by rw [e1, List.length_map, tb_len]; exact hn, Same.updN y hp, ?_, _, rfl⟩
    rw [upd_same, e1]
    have e2 : up g (put g z) (z + i) (z + i) + up g (put g z) (z + i) i = put g z (z + i) := by
      unfold up
      rw [if_neg (Nat.lt_irrefl _), if_pos (by omega), put_eq g hz (z + i), if_pos (by omega), Nat.add_sub_cancel_left]
    dsimp only
    rw [e2, ← List.map_set, tb_set hn]
    rfl
  · rintro σ H' ⟨y, hp', pp, rfl⟩
    refine q p H' hp y ?_
    rw [hp', up_all _ _ (by omega)]
end
end K29
set_option Elab.async false
set_option linter.all false
set_option maxRecDepth 100000
set_option maxHeartbeats 4000000
namespace L2
open PySem PySem.Spec PyProof.Rows
section
variable {prog : Program} {w : World} {A : Around} {E : Value → Shared → Prop} {s : Shared}
theorem nextOf_tup_item {it t : Addr} {i : Nat} {items : Array Value} {x : Value} {Q : Value → Shared → Prop} (hit : s.heap.IsTupleIter it t i) (ht : s.heap.IsTuple t items) (hx : items[i]? = some x)
    (hQ : ∀ h', h'.IsTupleIter it t (i + 1) → Heap.SameBut it s.heap h' → Q x { s with heap := h' }) : wpAny (model prog w) A (Builtin.SmallTypes.nextOf (.ref it)) Q E s := by
  obtain ⟨ot, h1, c1, d1⟩ := id hit
  obtain ⟨og, h2, c2, n2, d2⟩ := ht
  unfold Builtin.SmallTypes.nextOf
  refine wpAny_bind (wpAny_callSpecial?_slot hit.typeIs F.slot_tuple_iterator_next (wpAny_call_entry F.slot_tuple_iterator_next hit.typeIs F.entry_tuple_iterator_next ?_ (F.args_tuple_iterator_next_1 _)))
  refine wpAny_bind (m := field (.ref it) 0) (wpAny_field h1 d1 (x := .ref t) rfl ?_)
  have hnn : ¬ ((Value.ref t == Value.none) = true) := fun z => Bool.false_ne_true z
  show wpAny _ _ (if (Value.ref t == Value.none) = true then _ else _) _ _ _
  rw [if_neg hnn]
  refine wpAny_bind (m := field (.ref it) 1) (wpAny_field h1 d1 (x := .int i 0) rfl (wpAny_bind (m := seqItems? (.ref t)) (wpAny_seqItems h2 d2 ?_)))
  simp only [Int.toNat_natCast, hx]
  refine wpAny_bind (wpAny_setField h1 d1 (by simp) (wpAny_pure ⟨_, rfl, wpAny_pure (hQ _ ⟨_, Heap.get?_update_self _ h1 (Obj.isFreed_of_fields (Obj.data_mapFields d1 _)), (Obj.cls_mapFields ..).trans c1, ?_⟩ (Heap.SameBut.update ..))⟩))
  rw [Obj.data_mapFields d1]
  simp [rawInt]
theorem nextOf_tup_end {it t : Addr} {i : Nat} {items : Array Value} {Q : Value → Shared → Prop} (hh : A.handled = none) (hit : s.heap.IsTupleIter it t i) (ht : s.heap.IsTuple t items) (hx : items[i]? = none)
    (hE : ∀ h' e, Heap.ExtBut it s.heap h' → (∃ o, h'.get? e = some o ∧ o.cls = .type "StopIteration") → E (.ref e) { s with heap := h' }) : wpAny (model prog w) A (Builtin.SmallTypes.nextOf (.ref it)) Q E s := by
  obtain ⟨ot, h1, c1, d1⟩ := id hit
  obtain ⟨og, h2, c2, n2, d2⟩ := ht
  unfold Builtin.SmallTypes.nextOf
  refine wpAny_bind (wpAny_callSpecial?_slot hit.typeIs F.slot_tuple_iterator_next (wpAny_call_entry F.slot_tuple_iterator_next hit.typeIs F.entry_tuple_iterator_next ?_ (F.args_tuple_iterator_next_1 _)))
  refine wpAny_bind (m := field (.ref it) 0) (wpAny_field h1 d1 (x := .ref t) rfl ?_)
  have hnn : ¬ ((Value.ref t == Value.none) = true) := fun z => Bool.false_ne_true z
  show wpAny _ _ (if (Value.ref t == Value.none) = true then _ else _) _ _ _
  rw [if_neg hnn]
  refine wpAny_bind (m := field (.ref it) 1) (wpAny_field h1 d1 (x := .int i 0) rfl (wpAny_bind (m := seqItems? (.ref t)) (wpAny_seqItems h2 d2 ?_)))
  simp only [Int.toNat_natCast, hx]
  refine wpAny_bind (wpAny_rule (wpAny_bind (wpAny_setField h1 d1 (by simp) (wpAny_bind (m := newExc (.type "StopIteration") []) ?_))))
  simp only [newExc, newTuple, raiseNew]
  refine wpAny_bind (wpAny_newObj_type (wpAny_bind (m := firstArgMember _ _) (wpAny_of_eq (a := Value.none) (by first | rfl | (simp only [firstArgMember]; rfl)) (wpAny_newObj_type (wpAny_bind (wpAny_handled ?_)) (by size_fits)))) (by size_fits))
  first | rw [show A.in1.handled = none from hh] | rw [hh]
  exact wpAny_bind (wpAny_pure (wpAny_throw (hE _ _ (((Heap.SameBut.update ..).extBut.push _).push _) ⟨_, Heap.get?_push_size _ rfl, rfl⟩)))
end
section
variable {X : Cx} {pins : List (Addr × Obj)} {σ : St} {H : Hp} {s : Shared}
theorem Inv.trackT {D : Addr} {ys : List V} {its : List Value} (I : Inv X pins σ H s) (rv : Vals ys its) (hz : ys.length ≤ sizeLine) (e : TupD s.heap D its.toArray) (hd : FpOk X pins H D) : Inv X pins σ (upd H D (.tup ys)) s := by
  obtain ⟨h1, h2, h3, h4, h5, h6⟩ := hd
  have nD : ∀ b u, H b = some u → b ≠ D := fun b u q z => by rw [z, h1] at q; cases q
  refine I.step (s := s) (h' := s.heap) (g' := s.gens) (t' := s.toks) (d' := s.drawn) (ch := [D]) (fun b hb => ?_) (fun b o _ _ _ q _ => q) (fun b o _ _ _ q _ => ⟨o.slots, q⟩) (fun b o hb _ q => ?_) (fun b o _ q => ⟨o, q⟩)
    (fun b xs q => (upd_ne (nD b _ q)).trans q) (fun b o u q => (upd_ne (nD b _ q)).trans q) (fun b ps q => ⟨#[], by rw [upd_ne (nD b _ q), q]; simp⟩) (fun m hm => hm) (fun b u q => ?_) I.bare
  · have : b = D := by simpa using hb
    subst this
    exact ⟨h4, h2, h5, h6⟩
  · rw [upd_ne (fun z => hb (by simp [z]))]; exact q
  · by_cases hb : b = D
    · subst hb
      rw [upd_same] at q
      cases q
      exact ⟨hz, its, rv, e⟩
    · rw [upd_ne hb] at q
      exact (I.hok b u q).stay (fun c v _ r => r) (fun c r => (upd_ne (nD c _ r)).trans r) fun c xs r => (upd_ne (nD c _ r)).trans r
noncomputable def rngO (p : Addr) (i j c : Int) : HO := .ext fun h => ∃ t u v, IsRange h p i j c t u v
theorem rng_laid {pins : List (Addr × Obj)} {σ : St} {H : Hp} {s : Shared} {i j c : Int} {t u v : Tok} {tk : Nat} (I : Inv X pins σ H s) : Inv X pins σ (upd H s.heap.objs.size (rngO s.heap.objs.size i j c)) { s with heap := s.heap.push { cls := .type "range", data := .fields #[.int i t, .int j u, .int c v] }, toks := tk } := by
  refine I.laid (fun b o e => Heap.get?_push_of_some _ e) (Nat.le_refl _) ⟨⟨t, u, v, IsRange.new ..⟩, ⟨_, Heap.get?_push_size _ rfl⟩, ?_⟩
  rintro h1 h2 ⟨t, u, v, e⟩ k
  exact ⟨t, u, v, k _ e⟩
noncomputable def rRng : List V → Hp → VK → Prop := fun vs H1 Q => match vs with
  | [.int i, .int j] => ∀ p, H1 p = none → Q (.ref p) (upd H1 p (rngO p i j 1))
  | [.int i, .int j, .int c] => (c ≠ 0 ∧ c < 2 ^ 29 ∧ -(2 ^ 29) < c) ∧ ∀ p, H1 p = none → Q (.ref p) (upd H1 p (rngO p i j c))
  | _ => False
theorem call_rng : CallR X (.type "range") rRng := by
  intro pins s σ H xs us Q I r h
  unfold rRng at h
  split at h
  · obtain ⟨u1, u2, rfl, ⟨t1, rfl⟩, t2, rfl⟩ := vals2 r
    exact call_range_2 ⟨.ref s.heap.objs.size, _, rng_laid I, rfl, h _ (I.hok.fresh (Nat.le_refl _))⟩
  · obtain ⟨⟨h1, h2, h3⟩, q⟩ := h
    cases r with
    | cons a1 r =>
      cases r with
      | cons a2 r =>
        cases r with
        | cons a3 r =>
          cases r
          obtain ⟨t1, rfl⟩ := a1
          obtain ⟨t2, rfl⟩ := a2
          obtain ⟨t3, rfl⟩ := a3
          exact PySem.call_range_3 h1 ⟨.ref s.heap.objs.size, _, rng_laid I, rfl, q _ (I.hok.fresh (Nat.le_refl _))⟩ (Or.inl (PyProof.noPylong_small (by omega)))
  · exact h.elim
noncomputable def rLstR : List V → Hp → VK → Prop := fun vs H Q => match vs with
  | [.ref p] => ∃ i j c, H p = some (rngO p i j c) ∧ Builtin.Range.small i j c = true ∧ c ≠ 0 ∧ (Builtin.Range.rangeSize i j c).toNat ≤ 1000000 ∧ ∀ l, H l = none → Q (.ref l) (upd H l (.lst (((List.range (Builtin.Range.rangeSize i j c).toNat).map fun (k : Nat) => i + (k : Int) * c).map V.int)))
  | _ => False
theorem vals_of_items {F : Nat → Int} : ∀ (n : Nat) {us : List Value}, us.length = n → (∀ (j : Nat) (v : Value), us[j]? = some v → ∃ t, v = .int (F j) t) → Vals (((List.range n).map F).map V.int) us := by
  intro n us hl h
  have : ∀ (us : List Value) (G : Nat → Int), (∀ (j : Nat) (v : Value), us[j]? = some v → ∃ t, v = .int (G j) t) → Vals (((List.range us.length).map G).map V.int) us := by
    intro us
    induction us with
    | nil => intro G _; exact .nil
    | cons u r ih =>
      intro G hG
      rw [List.length_cons, List.range_succ_eq_map, List.map_cons, List.map_cons]
      refine .cons (hG 0 u rfl) ?_
      have := ih (fun j => G (j + 1)) fun j v e => hG (j + 1) v (by simpa using e)
      have e : ((List.range r.length).map Nat.succ).map G = (List.range r.length).map (fun j => G (j + 1)) := by rw [List.map_map]; rfl
      rw [e]
      exact this
  have := this us F h
  rw [hl] at this
  exact this
theorem call_lrng (hc : X.calm = true) : CallR X (.type "list") rLstR := by
  intro pins s σ H xs us Q I r h
  unfold rLstR at h
  split at h
  · rename_i p
    obtain ⟨i, j, c, hp, hs, hc0, hn, q⟩ := h
    obtain ⟨u, rfl, rx⟩ := vals1 r
    cases rx
    obtain ⟨⟨t, u, v, hr⟩, _⟩ := I.hok p _ hp
    have h0 := size_nonneg (a := i) (b := j) hc0
    refine call_list_range (I.ok.hd hc) hr hs (n := (Builtin.Range.rangeSize i j c).toNat) (by omega) (by omega) fun h' tk acc' c' hk hS hit => ?_
    have rv : Vals (((List.range (Builtin.Range.rangeSize i j c).toNat).map fun (k : Nat) => i + (k : Int) * c).map V.int) acc'.toList := vals_of_items _ (by rw [Array.length_toList]; exact hit.1) fun k v e => hit.2 k v (by simpa using e)
    refine ⟨.ref s.heap.objs.size, _, I.laid (t' := tk) hk (Nat.le_refl _) (show ObjOk X.prog X.w _ h' _ (.lst (((List.range (Builtin.Range.rangeSize i j c).toNat).map fun (k : Nat) => i + (k : Int) * c).map V.int)) from ⟨?_, acc'.toList, c', rv, hS⟩), rfl, q _ (I.hok.fresh (Nat.le_refl _))⟩
    rw [List.length_map, List.length_map, List.length_range, sizeLine_eq]
    omega
  · exact h.elim
theorem boot_list'' : bootBuiltins "list" = some (.type "list") := by decide +kernel
variable {e : Expr} {es : List Expr} {t : TA} {p pos : Pos}
theorem pcb_range (hg : Gl X "range") (hm : X.mg "range" = none) (ha : PA X (e :: es) t) (he : starEach (e :: es) X.env = (false, eval e X.env) :: starEach es X.env) (hpl : (backTo pos (starEach es X.env)).any (·.1) = false) :
    PE X (.Call (.Name "range" p) (e :: es) [] pos) (tCB rRng t) := pe_callTy call_rng hg hm boot_range ha (by decide) (by decide) he hpl
theorem zcb_range (hg : Gl X "range") (hm : X.mg "range" = none) (ha : ZA X (e :: es) t) (he : starEach (e :: es) X.env = (false, eval e X.env) :: starEach es X.env) (hpl : (backTo pos (starEach es X.env)).any (·.1) = false) :
    ZE X (.Call (.Name "range" p) (e :: es) [] pos) (tCB rRng t) := by with_unfolding_all exact pcb_range hg hm ha he hpl
theorem pcb_lrange (hc : X.calm = true) (hg : Gl X "list") (hm : X.mg "list" = none) (ha : PA X (e :: es) t) (he : starEach (e :: es) X.env = (false, eval e X.env) :: starEach es X.env) (hpl : (backTo pos (starEach es X.env)).any (·.1) = false) :
    PE X (.Call (.Name "list" p) (e :: es) [] pos) (tCB rLstR t) := pe_callTy (call_lrng hc) hg hm boot_list'' ha (by decide) (by decide) he hpl
theorem zcb_lrange (hc : X.calm = true) (hg : Gl X "list") (hm : X.mg "list" = none) (ha : ZA X (e :: es) t) (he : starEach (e :: es) X.env = (false, eval e X.env) :: starEach es X.env) (hpl : (backTo pos (starEach es X.env)).any (·.1) = false) :
    ZE X (.Call (.Name "list" p) (e :: es) [] pos) (tCB rLstR t) := by with_unfolding_all exact pcb_lrange hc hg hm ha he hpl
end
end L2
set_option Elab.async false
set_option linter.all false
set_option maxRecDepth 100000
set_option exponentiation.threshold 3000
set_option maxHeartbeats 4000000
namespace M27
open PySem L2 MRow
noncomputable def Bad (ns : List Int) (m a q : Int) (j : Nat) : Prop := ∃ x, ns[j]? = some x ∧ (j : Int) % m = a ∧ x % q ≠ 0
noncomputable def IsF (ns : List Int) (m a q : Int) (v : V) : Prop := (v = .non ∧ ∀ j, ¬ Bad ns m a q j) ∨ ∃ p : Nat, p < ns.length ∧ v = .int p ∧ Bad ns m a q p ∧ ∀ j, j < p → ¬ Bad ns m a q j
noncomputable def CB (m a q : Int) : Prop := 1 ≤ m ∧ m ≤ 600 ∧ 0 ≤ a ∧ a < m ∧ 2 ≤ q ∧ q ≤ 1000000
theorem size_up {a b m : Int} (hm : 1 ≤ m) : Builtin.Range.rangeSize a b m = if a < b then (b - a - 1) / m + 1 else 0 := by
  unfold Builtin.Range.rangeSize
  rw [if_pos (by omega)]
theorem size_lt {a b m : Int} {i : Nat} (hm : 1 ≤ m) (h : i < (Builtin.Range.rangeSize a b m).toNat) : a + (i : Int) * m < b := by
  rw [size_up hm] at h
  by_cases hab : a < b
  · rw [if_pos hab] at h
    have h0 : 0 ≤ (b - a - 1) / m := Int.ediv_nonneg (by omega) (by omega)
    have h1 : (i : Int) ≤ (b - a - 1) / m := by omega
    have h2 : (i : Int) * m ≤ (b - a - 1) / m * m := Int.mul_le_mul_of_nonneg_right h1 (by omega)
    have h3 := Int.ediv_mul_le (b - a - 1) (b := m) (by omega)
    omega
  · rw [if_neg hab] at h
    simp at h
theorem size_all {a b m : Int} (hm : 1 ≤ m) {j : Int} (h : j < b) : j < a + ((Builtin.Range.rangeSize a b m).toNat : Int) * m := by
  rw [size_up hm]
  by_cases hab : a < b
  · rw [if_pos hab]
    have h0 : 0 ≤ (b - a - 1) / m := Int.ediv_nonneg (by omega) (by omega)
    have e : (((b - a - 1) / m + 1).toNat : Int) = (b - a - 1) / m + 1 := by omega
    rw [e]
    have := Int.lt_ediv_add_one_mul_self (b - a - 1) (b := m) (by omega)
    omega
  · rw [if_neg hab]
    simp
    omega
theorem size_le {a b m : Int} (hm : 1 ≤ m) (h : b - a ≤ 1000) : (Builtin.Range.rangeSize a b m).toNat ≤ 1000 := by
  rw [size_up hm]
  by_cases hab : a < b
  · rw [if_pos hab]
    have h0 : 0 ≤ (b - a - 1) / m := Int.ediv_nonneg (by omega) (by omega)
    have h1 : (b - a - 1) / m ≤ b - a - 1 := Int.ediv_le_self _ (by omega)
    omega
  · rw [if_neg hab]; decide
theorem small_up {a b m : Int} (hm : 1 ≤ m) (hm' : m ≤ 1000000) (ha : 0 ≤ a) (ha' : a ≤ 1000000) (hb : 0 ≤ b) (hb' : b ≤ 1000000) : Builtin.Range.small a b m = true := by
  have e := size_up (a := a) (b := b) hm
  unfold Builtin.Range.small
  rw [e]
  by_cases hab : a < b
  · rw [if_pos hab]
    have h0 : 0 ≤ (b - a - 1) / m := Int.ediv_nonneg (by omega) (by omega)
    have h1 : (b - a - 1) / m ≤ b - a - 1 := Int.ediv_le_self _ (by omega)
    simp only [Builtin.Range.rangeFitsLong, Bool.and_eq_true, Bool.or_eq_true, decide_eq_true_eq, beq_iff_eq, show m > 0 by omega, if_true]
    generalize (b - a - 1) / m = k at h0 h1
    omega
  · rw [if_neg hab]
    simp only [Builtin.Range.rangeFitsLong, Bool.and_eq_true, Bool.or_eq_true, decide_eq_true_eq, beq_iff_eq, show m > 0 by omega, if_true]
    omega
theorem next_ok {ns : List Int} {m a q : Int} (hm : 1 ≤ m) {i P : Nat} (hP : (P : Int) = a + (i : Int) * m) (h : ∀ j : Nat, (j : Int) < a + (i : Int) * m → ¬ Bad ns m a q j) (hb : ¬ Bad ns m a q P) :
    ∀ j : Nat, (j : Int) < a + ((i + 1 : Nat) : Int) * m → ¬ Bad ns m a q j := by
  intro j hj hB
  by_cases hl : (j : Int) < a + (i : Int) * m
  · exact h j hl hB
  · have hc : (j : Int) % m = a := by obtain ⟨_, _, e, _⟩ := hB; exact e
    have e := Int.mul_ediv_add_emod (j : Int) m
    rw [hc] at e
    have h1 : m * (i : Int) ≤ m * ((j : Int) / m) := by rw [Int.mul_comm m (i : Int)]; omega
    have h2 : m * ((j : Int) / m) < m * ((i : Int) + 1) := by
      rw [Int.mul_comm m ((i : Int) + 1)]
      have : (((i + 1 : Nat) : Int)) = (i : Int) + 1 := by omega
      rw [this] at hj
      omega
    have h3 := Int.le_of_mul_le_mul_left h1 (by omega)
    have h4 := Int.lt_of_mul_lt_mul_left h2 (by omega)
    have h5 : (j : Int) / m = i := by omega
    rw [h5, Int.mul_comm] at e
    have : j = P := by omega
    subst this
    exact hb hB
theorem class_mod {m a : Int} (h0 : 0 ≤ a) (h1 : a < m) (i : Int) : (a + i * m) % m = a := by
  rw [Int.add_mul_emod_self_right]
  exact Int.emod_eq_of_lt h0 h1
noncomputable def bnd : Nat → Nat
  | 0 => 1
  | s + 1 => (600 / (s + 1) + 1) * bnd s
theorem put_in {f : Nat → Int} {s B : Nat} (hs : 0 < s) (h : ∀ n, n ≤ 600 → 0 ≤ f n ∧ f n ≤ (B : Int)) : ∀ (k n : Nat), n ≤ k → n ≤ 600 → 0 ≤ put f s n ∧ put f s n ≤ (((n / s + 1) * B : Nat) : Int) := by
  intro k
  induction k with
  | zero =>
    intro n hk hn
    have : n = 0 := by omega
    subst this
    rw [put_eq f hs, if_neg (by omega), Nat.zero_div]
    have := h 0 (by omega)
    omega
  | succ k ih =>
    intro n hk hn
    rw [put_eq f hs]
    have := h n hn
    by_cases hsn : s ≤ n
    · rw [if_pos hsn]
      have h2 := ih (n - s) (by omega) (by omega)
      have e : n / s = (n - s) / s + 1 := Nat.div_eq_sub_div hs hsn
      rw [e, Nat.succ_mul]
      omega
    · rw [if_neg hsn, Nat.div_eq_of_lt (by omega)]
      omega
theorem R_in : ∀ (s n : Nat), n ≤ 600 → 0 ≤ R s n ∧ R s n ≤ (bnd s : Int)
  | 0, n, _ => by
    show 0 ≤ dl n ∧ dl n ≤ ((1 : Nat) : Int)
    unfold dl
    split <;> omega
  | s + 1, n, hn => by
    have h := put_in (f := R s) (s := s + 1) (B := bnd s) (Nat.succ_pos s) (R_in s) n n (Nat.le_refl _) hn
    refine ⟨h.1, Int.le_trans h.2 ?_⟩
    show (((n / (s + 1) + 1) * bnd s : Nat) : Int) ≤ (((600 / (s + 1) + 1) * bnd s : Nat) : Int)
    have h1 : n / (s + 1) ≤ 600 / (s + 1) := Nat.div_le_div_right hn
    have := Nat.mul_le_mul_right (bnd s) (Nat.succ_le_succ h1)
    exact Int.ofNat_le.mpr this
theorem bnd_mono : ∀ (d s : Nat), bnd s ≤ bnd (s + d)
  | 0, s => Nat.le_refl _
  | d + 1, s => by
    refine Nat.le_trans (bnd_mono d s) ?_
    show bnd (s + d) ≤ (600 / (s + d + 1) + 1) * bnd (s + d)
    exact Nat.le_mul_of_pos_left _ (Nat.succ_pos _)
theorem bnd_600 : bnd 600 < 2 ^ 1300 := by decide +kernel
theorem R_small {s n : Nat} (hs : s ≤ 600) (hn : n ≤ 600) : (R s n).natAbs < 2 ^ 1300 := by
  have h := R_in s n hn
  have h1 : bnd s ≤ bnd 600 := by have := bnd_mono (600 - s) s; rwa [Nat.add_sub_cancel' hs] at this
  have h2 := bnd_600
  have h3 : (R s n).natAbs ≤ bnd s := by omega
  exact Nat.lt_of_le_of_lt (Nat.le_trans h3 h1) h2
theorem shW {i : Int} (h : i.natAbs < 2 ^ 1300) : ShOk (.int i) 1 1301 := by
  have hl : i.natAbs.log2 < 1300 := by
    rcases log2_small h with h | h
    · exact h
    · rw [h]; decide
  refine ⟨?_, by simp only [PyData.hasDict], by simp only [PyData.depth]; decide, ?_⟩
  · simp only [PyData.showable]; exact decide_eq_true (by omega)
  · simp only [PyData.shown]
    rw [PySem.ofString_length]
    exact int_text_length_le (k := 1300) (by decide) hl
theorem shT {ns : List Int} (h : ∀ n ∈ ns, n.natAbs < 2 ^ 1300) : ShOk (.tuple (ns.map PyData.int)) 2 (ns.length * 1303 + 3) := by
  have := ShOk.tuple (ds := ns.map PyData.int) (k := 1) (L := 1301) fun d hd => by
    obtain ⟨n, hn, rfl⟩ := List.mem_map.mp hd
    exact shW (h n hn)
  rw [List.length_map] at this
  exact this
theorem pow_big {n : Int} (h1 : -(2 ^ 40) < n) (h2 : n < 2 ^ 40) : n.natAbs < 2 ^ 1300 := by
  have h : n.natAbs < 2 ^ 40 := by omega
  exact Nat.lt_of_lt_of_le h (Nat.pow_le_pow_right (by decide) (by decide))
end M27
set_option Elab.async false
set_option linter.all false
set_option maxRecDepth 100000
set_option maxHeartbeats 4000000
namespace L2
open PySem PySem.Spec PyProof.Rows
mutual
inductive DatX (H : Hp) : V → PyData → Prop where
  | non : DatX H .non .none
  | bl (b : Bool) : DatX H (.bl b) (.bool b)
  | int (i : Int) : DatX H (.int i) (.int i)
  | str (x : Str) : DatX H (.str x) (.str x)
  | dct {a : Addr} (e : H a = some (.dK [])) : DatX H (.ref a) (.dict [])
  | tup {a : Addr} {xs : List V} {ds : List PyData} (e : H a = some (.tup xs)) (r : DatXs H xs ds) : DatX H (.ref a) (.tuple ds)
inductive DatXs (H : Hp) : List V → List PyData → Prop where
  | nil : DatXs H [] []
  | cons {x : V} {d : PyData} {xs : List V} {ds : List PyData} (h : DatX H x d) (r : DatXs H xs ds) : DatXs H (x :: xs) (d :: ds)
end
mutual
theorem DatX.same {H H' : Hp} (s : Same H H') : ∀ {x : V} {d : PyData}, DatX H x d → DatX H' x d
  | _, _, .non => .non
  | _, _, .bl b => .bl b
  | _, _, .int i => .int i
  | _, _, .str x => .str x
  | _, _, .dct e => .dct (s _ _ e)
  | _, _, .tup e r => .tup (s _ _ e) (DatXs.same s r)
theorem DatXs.same {H H' : Hp} (s : Same H H') : ∀ {xs : List V} {ds : List PyData}, DatXs H xs ds → DatXs H' xs ds
  | _, _, .nil => .nil
  | _, _, .cons h r => .cons (DatX.same s h) (DatXs.same s r)
end
section
variable {X : Cx} {pins : List (Addr × Obj)} {σ : St} {H : Hp} {s : Shared}
mutual
theorem DatX.reads (I : Inv X pins σ H s) : ∀ {x : V} {d : PyData} {v : Value}, DatX H x d → RelV x v → ∃ as, Reads s.heap v d as ∧ sysModules ∉ as
  | _, _, _, .non, r => by cases r; exact ⟨_, .none, by simp⟩
  | _, _, _, .bl b, r => by cases r; exact ⟨_, .bool b, by simp⟩
  | _, _, _, .int i, r => by obtain ⟨t, rfl⟩ := r; exact ⟨_, .int i t, by simp⟩
  | _, _, _, .str x, r => by obtain ⟨t, rfl⟩ := r; exact ⟨_, .str x t, by simp⟩
  | _, _, _, .dct (a := a) e, r => by
    cases r
    obtain ⟨_, hne, vs, kv, o, es, ep, ho, ⟨hc, _⟩, hd, _, hp, _⟩ := I.hok a _ e
    cases kv
    have hes : es.toList = [] := by
      cases h : es.toList with
      | nil => rfl
      | cons x y => rw [h] at hp; cases hp
    have z : Reads s.heap (.ref a) (.dict []) (a :: [] ++ []) := .dict ho hc hd (by rw [hes]; exact .nil) (by rw [hes]; exact .nil)
    refine ⟨_, z, fun m => ?_⟩
    have : sysModules = a := by simpa using m
    rw [this] at hne
    simp at hne
  | _, _, _, .tup e q, r => by
    cases r
    obtain ⟨its, rv, ⟨o, h1, h2, n, h3⟩, _⟩ := I.tuple (SqT.of e)
    obtain ⟨as, z, hz⟩ := DatXs.reads I q rv
    exact ⟨_, reads_tuple_at h1 h2 h3 z, hz⟩
theorem DatXs.reads (I : Inv X pins σ H s) : ∀ {xs : List V} {ds : List PyData} {vs : List Value}, DatXs H xs ds → Vals xs vs → ∃ as, ReadsAll s.heap vs ds as ∧ sysModules ∉ as
  | _, _, _, .nil, r => by cases r; exact ⟨_, .nil, by simp⟩
  | _, _, _, .cons h q, r => by
    cases r with
    | cons r1 r2 =>
      obtain ⟨as, z, hz⟩ := DatX.reads I h r1
      obtain ⟨bs, y, hy⟩ := DatXs.reads I q r2
      exact ⟨_, .cons z y, by rw [List.mem_append]; exact fun m => m.elim hz hy⟩
end
end
structure ShX (d : PyData) (k L : Nat) : Prop where
  sh : d.showable = true
  dp : d.depth ≤ k
  ln : d.shown.length ≤ L
theorem ShX.mono {d : PyData} {k L k' L' : Nat} (h : ShX d k L) (hk : k ≤ k') (hL : L ≤ L') : ShX d k' L' := ⟨h.sh, Nat.le_trans h.dp hk, Nat.le_trans h.ln hL⟩
theorem ShOk.x {d : PyData} {k L : Nat} (h : ShOk d k L) : ShX d k L := ⟨h.sh, h.dp, h.ln⟩
theorem ShX.dct : ShX (.dict []) 1 101 := ⟨by simp [PyData.showable, PyData.showableKv], by simp [PyData.depth, PyData.depthKv], by simp only [PyData.shown]; decide⟩
noncomputable def SeenV (H : Hp) (x : V) (k L : Nat) : Prop := ∃ d, DatV H x d ∧ ShOk d k L
noncomputable def SeenX (H : Hp) (x : V) (k L : Nat) : Prop := ∃ d, DatX H x d ∧ ShX d k L
noncomputable def Seen (H : Hp) (x : V) (k L : Nat) : Prop := SeenV H x k L ∨ SeenX H x k L
theorem SeenV.mono {H : Hp} {x : V} {k L k' L' : Nat} (h : SeenV H x k L) (hk : k ≤ k') (hL : L ≤ L') : SeenV H x k' L' := let ⟨d, h1, h2⟩ := h; ⟨d, h1, h2.mono hk hL⟩
theorem SeenX.mono {H : Hp} {x : V} {k L k' L' : Nat} (h : SeenX H x k L) (hk : k ≤ k') (hL : L ≤ L') : SeenX H x k' L' := let ⟨d, h1, h2⟩ := h; ⟨d, h1, h2.mono hk hL⟩
theorem SeenV.same {H H' : Hp} {x : V} {k L : Nat} (y : Same H H') (h : SeenV H x k L) : SeenV H' x k L := let ⟨d, h1, h2⟩ := h; ⟨d, h1.same y, h2⟩
theorem SeenX.same {H H' : Hp} {x : V} {k L : Nat} (y : Same H H') (h : SeenX H x k L) : SeenX H' x k L := let ⟨d, h1, h2⟩ := h; ⟨d, h1.same y, h2⟩
theorem Seen.same {H H' : Hp} {x : V} {k L : Nat} (y : Same H H') (h : Seen H x k L) : Seen H' x k L := h.elim (fun h => .inl (h.same y)) fun h => .inr (h.same y)
theorem SeenV.all {H : Hp} {k L : Nat} : ∀ {xs : List V}, (∀ x ∈ xs, SeenV H x k L) → ∃ ds, DatAll H xs ds ∧ ds.length = xs.length ∧ ∀ d ∈ ds, ShOk d k L
  | [], _ => ⟨[], .nil, rfl, fun d hd => (nomatch hd)⟩
  | x :: r, h => by
    obtain ⟨ds, h1, h2, h3⟩ := SeenV.all (xs := r) fun y hy => h y (List.mem_cons_of_mem _ hy)
    obtain ⟨d, g1, g2⟩ := h x List.mem_cons_self
    refine ⟨d :: ds, .cons g1 h1, by rw [List.length_cons, List.length_cons, h2], fun e he => ?_⟩
    rcases List.mem_cons.mp he with rfl | he
    · exact g2
    · exact h3 e he
theorem SeenV.lst {H : Hp} {a : Addr} {xs : List V} {k L : Nat} (e : H a = some (.lst xs)) (h : ∀ x ∈ xs, SeenV H x k L) : SeenV H (.ref a) (k + 1) (xs.length * (L + 2) + 3) := by
  obtain ⟨ds, h1, h2, h3⟩ := SeenV.all h
  exact ⟨_, .lst e h1, by rw [← h2]; exact ShOk.list h3⟩
theorem SeenV.int {H : Hp} {i : Int} (h1 : -(2 ^ 100) < i) (h2 : i < 2 ^ 100) : SeenV H (.int i) 1 101 := ⟨_, .int i, ShOk.intB h1 h2⟩
theorem SeenV.non {H : Hp} : SeenV H .non 1 101 := ⟨_, .non, ShOk.non⟩
theorem SeenV.bl {H : Hp} (b : Bool) : SeenV H (.bl b) 1 101 := ⟨_, .bl b, ShOk.bl b⟩
theorem SeenX.dct {H : Hp} {a : Addr} (e : H a = some (.dK [])) : SeenX H (.ref a) 1 101 := ⟨_, .dct e, ShX.dct⟩
section
variable {X : Cx}
end
end L2
set_option Elab.async false
set_option linter.all false
set_option maxRecDepth 100000
set_option maxHeartbeats 4000000
namespace L2
open PySem PySem.Spec PyProof.Rows
section
variable {X : Cx} {es : List Expr} {t : TA} {pos : Pos}
noncomputable def tLstN (t : TA) : TE := fun σ H Q => t σ H fun xs H1 => xs.length ≤ sizeLine ∧ ∀ p, H1 p = none → p ≠ sysModules → Q (.ref p) (upd H1 p (.lst xs))
theorem pe_lstN (h : PA X es t) : PE X (.List es pos) (tLstN t) := by
  intro pins s σ H Q I hq
  refine wpAny_List_spliced (thn (h pos pins s σ H _ I hq) fun us s1 ⟨xs, H1, I1, r, z, q⟩ => ⟨by rw [← r.length]; exact z, ?_⟩)
  have hf : H1 s1.heap.objs.size = none := I1.hok.fresh (Nat.le_refl _)
  refine ⟨.ref s1.heap.objs.size, upd H1 s1.heap.objs.size (.lst xs), I1.laid (t' := s1.toks) (fun b u e => Heap.get?_push_of_some _ e) (Nat.le_refl _) ?_, rfl, q _ hf (Ne.symm (Nat.ne_of_lt I1.big))⟩
  exact ⟨z, us, 0, r, Heap.get?_push_size _ rfl⟩
theorem ze_lstN (h : ZA X es t) : ZE X (.List es pos) (tLstN t) := by with_unfolding_all exact pe_lstN h
noncomputable def rReprL : List V → Hp → VK → Prop := fun xs H Q => match xs with
  | [.ref a] => ∃ us ds, H a = some (.lst us) ∧ ((DatAll H us ds ∧ (PyData.list ds).hasDict = false) ∨ (a ≠ sysModules ∧ DatXs H us ds)) ∧ ShX (.list ds) 60 16777216 ∧ Q (.str (PyData.list ds).shown) H
  | _ => False
theorem call_reprL {k : Nat} (hr : Room k X.A) : CallR X (.builtin "repr") rReprL := by
  intro pins s σ H xs us Q I r h
  unfold rReprL at h
  split at h
  · rename_i a
    obtain ⟨ys, ds, e, hd, ⟨h1, h3, h4⟩, q⟩ := h
    obtain ⟨u, rfl, rx⟩ := vals1 r
    cases rx
    obtain ⟨_, its, n, rv, _, hh⟩ := I.lstM e
    obtain ⟨as, z, hz⟩ : ∃ as, ReadsAll s.heap its ds as ∧ ((PyData.list ds).hasDict = true → sysModules ∉ a :: as) := by
      rcases hd with ⟨hd, hn⟩ | ⟨hn, hd⟩
      · obtain ⟨as, z⟩ := DatAll.reads I hd rv
        exact ⟨as, z, fun c => by rw [hn] at c; cases c⟩
      · obtain ⟨as, z, hz⟩ := DatXs.reads I hd rv
        refine ⟨as, z, fun _ m => ?_⟩
        rcases List.mem_cons.mp m with m | m
        · exact hn m.symm
        · exact hz m
    exact repr_of_reads' (reads_list_at hh rfl rfl z) h1 hz hr.gd (by have := hr.un; omega) (fun _ _ e => e) (fun h' u tk hk => ⟨.str _, H, I.kept hk, ⟨u, rfl⟩, q⟩) (by rw [sizeLine_eq]; exact h4)
  · exact h.elim
theorem pcb_reprL {k : Nat} {e : Expr} {es : List Expr} {t : TA} {p pos : Pos} (hr : Room k X.A) (hg : Gl X "repr") (hm : X.mg "repr" = none) (ha : PA X (e :: es) t) (he : starEach (e :: es) X.env = (false, eval e X.env) :: starEach es X.env) (hpl : (backTo pos (starEach es X.env)).any (·.1) = false) :
    PE X (.Call (.Name "repr" p) (e :: es) [] pos) (tCB rReprL t) := pe_callB (call_reprL hr) hg hm boot_repr' ha (by decide) (by decide) he hpl
theorem zcb_reprL {k : Nat} {e : Expr} {es : List Expr} {t : TA} {p pos : Pos} (hr : Room k X.A) (hg : Gl X "repr") (hm : X.mg "repr" = none) (ha : ZA X (e :: es) t) (he : starEach (e :: es) X.env = (false, eval e X.env) :: starEach es X.env) (hpl : (backTo pos (starEach es X.env)).any (·.1) = false) :
    ZE X (.Call (.Name "repr" p) (e :: es) [] pos) (tCB rReprL t) := by with_unfolding_all exact pcb_reprL hr hg hm ha he hpl
theorem zss_never' {sts : List Stmt} : ZSs X sts tNever := by with_unfolding_all exact pss_never
theorem DatXs.ints {H : Hp} : ∀ ns : List Int, DatXs H (ns.map V.int) (ns.map PyData.int)
  | [] => .nil
  | n :: r => .cons (.int n) (DatXs.ints r)
end
end L2
set_option Elab.async false
set_option linter.all false
set_option maxRecDepth 100000
set_option exponentiation.threshold 3000
set_option maxHeartbeats 4000000
namespace K29
open PySem L2 MRow M27
section
variable {P : Program} {w : World} {K : PySem.W.Frag} {mg : Str → Option Value} {base : Heap} {f : Addr} {fd : FuncData}
theorem sc_of_sizes : FnScope ["some", "most", "row", "size"] ["some", "most"] (defScope (top 15)) := ⟨rfl, rfl, rfl, by decide +kernel, rfl, by decide +kernel, by decide +kernel⟩
noncomputable def upto (n : Nat) : List V := ((List.range n).map fun (k : Nat) => (1 : Int) + (k : Int) * 1).map V.int
noncomputable def sp_of_sizes : Sp := fun vs H Q _ => ∃ (l : Addr) (n : Nat), vs = [.ref l, .int n] ∧ n ≤ 600 ∧ H l = some (.lst (upto n)) ∧ ∀ p H', Same H H' → H' p = some (.lst ((tb (R n) (n + 1)).map V.int)) → Q (.ref p) H'
theorem ok_of_sizes (F : Fun K "of_sizes" "of_sizes" (top 15) f fd)  (F_begun : FnA P w K mg base "begun" 1 ["most"] sp_begun) (F_put_on : FnA P w K mg base "put_on" 1 ["row", "size"] sp_put_on) : FnOk P w K mg base CX0 2 f fd ["some", "most"] sp_of_sizes := by
  refine F.okz sc_of_sizes (fun vs H Q E h => ?_) (fun cdv A outer s H vs Q E hr h => ?_)
  · obtain ⟨l, n, rfl, _⟩ := h; rfl
  obtain ⟨l, n, rfl, hn, hl, q⟩ := h
  have nd := sc_of_sizes.nd
  have hul : (upto n).length = n := by unfold upto; simp
  refine ⟨_, (zss_cons (zs_set (i := 2) nd rfl (Or.inl rfl) (ze_fn F_begun hr (by decide) rfl (za_cons (zn 1) za_nil)))
      (zss_cons (zs_for PassesOwn.never rfl (zi_list (zn 0)) (zg_name (i := 3) nd rfl (Or.inl rfl)) (zss_one (zs_set (i := 2) nd rfl (Or.inl rfl) (ze_fn F_put_on hr (by decide) rfl (za_cons (zn 2) (za_cons (zn 3) za_nil))))))
      (zss_one (zs_ret (zn 2))))), ?_⟩
  refine ⟨n, rfl, by omega, fun p H1 hp y1 hp1 => ?_⟩
  refine ⟨l, rfl, ⟨_, SqL.of (y1 _ _ hl)⟩, for_list (xs := upto n) (fun i σ H' => Same H H' ∧ ∃ r p3, σ = [some (.ref l), some (.int n), some (.ref r), p3] ∧ H' r = some (.lst ((tb (R i) (n + 1)).map V.int))) ⟨y1, p, _, rfl, hp1⟩ ?_ ?_ ?_⟩
  · rintro i σ H' _ ⟨y, _⟩
    exact SqL.of (y _ _ hl)
  · rintro i x σ H' hx ⟨y, r, p3, rfl, hr'⟩
    have hi : i < n := by rw [← hul]; exact (List.getElem?_eq_some_iff.mp hx).1
    have ex : x = .int ((i + 1 : Nat) : Int) := by
      unfold upto at hx
      rw [List.getElem?_map, List.getElem?_map, List.getElem?_range hi] at hx
      have := (Option.some.inj hx).symm
      rw [this]
      show V.int (1 + (i : Int) * 1) = V.int ((i + 1 : Nat) : Int)
      congr 1
      omega
    subst ex
    refine ⟨r, i + 1, n + 1, R i, rfl, by omega, by omega, by omega, hr', fun p2 H2 hp2 y2 hp2' => ?_⟩
    exact ⟨y.trans y2, p2, _, rfl, hp2'⟩
  · rintro σ H' ⟨y, r, p3, rfl, hr'⟩
    rw [hul] at hr'
    exact q r H' y hr'
theorem sc_counted : FnScope ["kind", "most", "word"] ["kind", "most"] (defScope (top 19)) := ⟨rfl, rfl, rfl, by decide +kernel, rfl, by decide +kernel, by decide +kernel⟩
noncomputable def sp_counted : Sp := fun vs H Q _ => ∃ (k : Addr) (n : Nat), vs = [.ref k, .int n] ∧ n ≤ 600 ∧ H k = some (.tup [.str "all"]) ∧ ∀ p H', Same H H' → H' p = some (.lst ((tb (R n) (n + 1)).map V.int)) → Q (.ref p) H'
theorem ok_counted (F : Fun K "counted" "counted" (top 19) f fd) (m_list : mg "list" = none) (m_min : mg "min" = none) (m_range : mg "range" = none) (F_of_sizes : FnA P w K mg base "of_sizes" 2 ["some", "most"] sp_of_sizes) : FnOk P w K mg base CX0 3 f fd ["kind", "most"] sp_counted := by
  refine F.okz sc_counted (fun vs H Q E h => ?_) (fun cdv A outer s H vs Q E hr h => ?_)
  · obtain ⟨k, n, rfl, _⟩ := h; rfl
  obtain ⟨k, n, rfl, hn, hk, q⟩ := h
  have nd := sc_counted.nd
  have hu := hr.units
  refine ⟨_, (zss_cons (zs_set (i := 2) nd rfl (Or.inl rfl) (ze_ix ix_P (zn 0) ze_int (fun _ _ => rfl)))
      (zss_cons (zs_if (zt_cmpP (op_eqD hu) (zn 2) ze_str (nomark _)) zss_never' zss_nil)
      (zss_cons (zs_if (zt_cmpP (op_eqD hu) (zn 2) ze_str (nomark _)) zss_never' zss_nil)
      (zss_cons (zs_if (zt_cmpP (op_eqD hu) (zn 2) ze_str (nomark _)) zss_never' zss_nil)
      (zss_cons (zs_if (zt_cmpP (op_eqD hu) (zn 2) ze_str (nomark _)) zss_never' zss_nil)
      (zss_cons (zs_if (zt_cmpP (op_eqD hu) (zn 2) ze_str (nomark _)) zss_never' zss_nil)
      (zss_cons (zs_if (zt_cmpP (op_eqD hu) (zn 2) ze_str (nomark _)) (zss_one (zs_ret (ze_fn F_of_sizes hr (by decide) rfl (za_cons (zcb_lrange rfl rfl m_list (za_cons (zcb_range rfl m_range (za_cons ze_int (za_cons (ze_op op_addP (zn 1) ze_int) za_nil)) rfl rfl) za_nil) rfl rfl) (za_cons (zn 1) za_nil))))) zss_nil)
      zss_never'))))))), ?_⟩
  refine ⟨_, .inr hk, .str "all", rfl, ?_⟩
  refine fun rp hrp => ?_
  have g1 := Same.new hrp (rngO rp 1 ((n : Int) + 1) 1)
  have es : Builtin.Range.rangeSize 1 ((n : Int) + 1) 1 = (n : Int) := by
    rw [size_up (by decide)]
    by_cases h : (1 : Int) < (n : Int) + 1
    · rw [if_pos h, Int.ediv_one]; omega
    · rw [if_neg h]; omega
  have es2 : (Builtin.Range.rangeSize 1 ((n : Int) + 1) 1).toNat = n := by rw [es]; omega
  refine ⟨1, (n : Int) + 1, 1, upd_same, small_up (by decide) (by decide) (by decide) (by decide) (by omega) (by omega), by decide, by rw [es2]; omega, fun l hl => ?_⟩
  rw [es2]
  have g2 := Same.new hl (.lst (upto n))
  exact ⟨l, n, rfl, hn, upd_same, fun p H' y hp => q p H' ((g1.trans g2).trans y) hp⟩
theorem sc_counts : FnScope ["kind", "most"] ["kind", "most"] (defScope (top 20)) := ⟨rfl, rfl, rfl, by decide +kernel, rfl, by decide +kernel, by decide +kernel⟩
noncomputable def sp_counts : Sp := fun vs H Q _ => ∃ (k : Addr) (n : Nat), vs = [.ref k, .int n] ∧ n ≤ 600 ∧ H k = some (.tup [.str "all"]) ∧ ∀ p H', Same H H' → H' p = some (.tup ((tb (R n) (n + 1)).map V.int)) → Q (.ref p) H'
theorem ok_counts (F : Fun K "counts" "counts" (top 20) f fd) (m_tuple : mg "tuple" = none) (F_counted : FnA P w K mg base "counted" 3 ["kind", "most"] sp_counted) : FnOk P w K mg base CX0 4 f fd ["kind", "most"] sp_counts := by
  refine F.okz sc_counts (fun vs H Q E h => ?_) (fun cdv A outer s H vs Q E hr h => ?_)
  · obtain ⟨k, n, rfl, _⟩ := h; rfl
  obtain ⟨k, n, rfl, hn, hk, q⟩ := h
  have nd := sc_counts.nd
  refine ⟨_, (zss_one (zs_ret (zcb_tuple rfl m_tuple (za_cons (ze_fn F_counted hr (by decide) rfl (za_cons (zn 0) (za_cons (zn 1) za_nil))) za_nil) rfl rfl))), ?_⟩
  refine ⟨k, n, rfl, hn, hk, fun p H1 y1 hp1 => ?_⟩
  exact ⟨_, .inl (SqL.of hp1), fun r2 H2 y2 hr2 => q r2 H2 (y1.trans y2) hr2⟩
theorem sc_q : FnScope ["_law_hand_here", "_law_way"] ["_law_hand_here"] (defScope (top 24)) := ⟨rfl, rfl, rfl, by decide +kernel, rfl, by decide +kernel, by decide +kernel⟩
noncomputable def sp_q : Sp := fun vs H Q _ => ∃ (p : Addr) (k : Nat), vs = [.ref p] ∧ Hand H p k ∧ k < 1000000 ∧ ∀ v H', 2 ≤ v → v ≤ 1000000 → Step p (k + 2) H H' → Q (.int v) H'
theorem pick6 {k : Int} (h0 : 0 ≤ k) (h1 : k < 6) : ∃ m : Int, atI [V.int 2, .int 3, .int 5, .int 7, .int 11, .int (10 ^ Int.toNat 6)] k = some (.int m) ∧ 2 ≤ m ∧ m ≤ 1000000 := by
  have : k = 0 ∨ k = 1 ∨ k = 2 ∨ k = 3 ∨ k = 4 ∨ k = 5 := by omega
  rcases this with rfl | rfl | rfl | rfl | rfl | rfl
  · exact ⟨2, rfl, by decide⟩
  · exact ⟨3, rfl, by decide⟩
  · exact ⟨5, rfl, by decide⟩
  · exact ⟨7, rfl, by decide⟩
  · exact ⟨11, rfl, by decide⟩
  · exact ⟨10 ^ Int.toNat 6, rfl, by decide⟩
theorem pick4 {b c d e k : Int} (h0 : 0 ≤ k) (h1 : k < 4) (hb : 1 ≤ b ∧ b ≤ 1000000) (hc : 1 ≤ c ∧ c ≤ 1000000) (hd : 1 ≤ d ∧ d ≤ 1000000) (he : 1 ≤ e ∧ e ≤ 1000000) : ∃ m : Int, atI [V.int b, .int c, .int d, .int e] k = some (.int m) ∧ (1 ≤ m ∧ m ≤ 1000000) ∧ (m = b ∨ m = c ∨ m = d ∨ m = e) := by
  have : k = 0 ∨ k = 1 ∨ k = 2 ∨ k = 3 := by omega
  rcases this with rfl | rfl | rfl | rfl
  · exact ⟨b, rfl, hb, .inl rfl⟩
  · exact ⟨c, rfl, hc, .inr (.inl rfl)⟩
  · exact ⟨d, rfl, hd, .inr (.inr (.inl rfl))⟩
  · exact ⟨e, rfl, he, .inr (.inr (.inr rfl))⟩
theorem ok_q (F : Fun K "_law_q" "_law_q" (top 24) f fd)  (F_law_take : FnA P w K mg base "_law_take" 1 ["_law_hand_here", "_law_many"] sp_take) : FnOk P w K mg base CX0 2 f fd ["_law_hand_here"] sp_q := by
  refine F.okz sc_q (fun vs H Q E h => ?_) (fun cdv A outer s H vs Q E hr h => ?_)
  · obtain ⟨p, k, rfl, _⟩ := h; rfl
  obtain ⟨p, k, rfl, hh, hk, q⟩ := h
  have nd := sc_q.nd
  refine ⟨_, (zss_cons (zs_set (i := 1) nd rfl (Or.inl rfl) (ze_fn F_law_take hr (by decide) rfl (za_cons (zn 0) (za_cons ze_int za_nil))))
      (zss_one (zs_ret (ze_ifExp (zt_cmpP op_ltP (zn 1) ze_int (nomark _)) (ze_ix ix_P (ze_lst (za_cons ze_int (za_cons ze_int (za_cons ze_int (za_cons ze_int (za_cons ze_int (za_cons (ze_op op_powP ze_int ze_int) za_nil))))))) (zn 1) (fun _ _ => rfl)) (ze_op op_addP ze_int (ze_fn F_law_take hr (by decide) rfl (za_cons (zn 0) (za_cons (ze_ix ix_P (ze_lst (za_cons ze_int (za_cons ze_int za_nil))) (ze_op op_subP (zn 1) ze_int) (fun _ _ => rfl)) za_nil)))))))), ?_⟩
  refine ⟨p, 8, k, rfl, hh, by omega, by decide, by decide, fun way H1 w0 w1 st1 => ?_⟩
  refine iteD (fun c => ?_) (fun c => ?_)
  · refine ⟨⟨by decide, by decide⟩, by show 6 ≤ sizeLine; decide, fun d hd => ?_⟩
    obtain ⟨m, em, hm0, hm1⟩ := pick6 w0 c
    refine ⟨_, .inl (SqL.of upd_same), .int m, em, ?_⟩
    exact q m _ hm0 hm1 ((st1.same (Same.new hd _)).mono (by omega))
  · refine ⟨by show 2 ≤ sizeLine; decide, fun d hd => ?_⟩
    obtain ⟨m, em, hm0, hm1⟩ : ∃ m : Int, atI [V.int 40, .int 999999] (way - 6) = some (.int m) ∧ 1 ≤ m ∧ m ≤ 999999 := by
      have : way = 6 ∨ way = 7 := by omega
      rcases this with rfl | rfl
      · exact ⟨40, rfl, by decide⟩
      · exact ⟨999999, rfl, by decide⟩
    refine ⟨_, .inl (SqL.of upd_same), .int m, em, ?_⟩
    have st2 := st1.same (Same.new hd (.lst [.int 40, .int 999999]))
    refine ⟨p, m, k + 1, rfl, st2.2, by omega, by omega, by omega, fun r H3 r0 r1 st3 => ?_⟩
    exact q (2 + r) _ (by omega) (by omega) (st2.trans st3)
theorem sc_number : FnScope ["_law_hand_here", "_law_far"] ["_law_hand_here"] (defScope (top 25)) := ⟨rfl, rfl, rfl, by decide +kernel, rfl, by decide +kernel, by decide +kernel⟩
noncomputable def sp_number : Sp := fun vs H Q _ => ∃ (p : Addr) (k : Nat), vs = [.ref p] ∧ Hand H p k ∧ k < 1000000 ∧ ∀ v H', -2000000 ≤ v → v ≤ 2000000 → Step p (k + 2) H H' → Q (.int v) H'
theorem ok_number (F : Fun K "_law_number" "_law_number" (top 25) f fd)  (F_law_take : FnA P w K mg base "_law_take" 1 ["_law_hand_here", "_law_many"] sp_take) : FnOk P w K mg base CX0 2 f fd ["_law_hand_here"] sp_number := by
  refine F.okz sc_number (fun vs H Q E h => ?_) (fun cdv A outer s H vs Q E hr h => ?_)
  · obtain ⟨p, k, rfl, _⟩ := h; rfl
  obtain ⟨p, k, rfl, hh, hk, q⟩ := h
  have nd := sc_number.nd
  refine ⟨_, (zss_cons (zs_set (i := 1) nd rfl (Or.inl rfl) (ze_ix ix_P (ze_lst (za_cons ze_int (za_cons ze_int (za_cons ze_int (za_cons (ze_op op_powP ze_int ze_int) za_nil))))) (ze_fn F_law_take hr (by decide) rfl (za_cons (zn 0) (za_cons ze_int za_nil))) (fun _ _ => rfl)))
      (zss_one (zs_ret (ze_op op_subP (ze_fn F_law_take hr (by decide) rfl (za_cons (zn 0) (za_cons (ze_op op_addP (ze_op op_mulQ ze_int (zn 1)) ze_int) za_nil))) (zn 1))))), ?_⟩
  refine ⟨⟨by decide, by decide⟩, by show 4 ≤ sizeLine; decide, fun d hd => ?_⟩
  have st0 := Step.of_same hh (Same.new hd (.lst [.int 1, .int 10, .int 1000, .int (10 ^ Int.toNat 6)]))
  refine ⟨p, 4, k, rfl, st0.2, by omega, by decide, by decide, fun way H1 w0 w1 st1 => ?_⟩
  obtain ⟨m, em, ⟨hm0, hm1⟩, _⟩ := pick4 (b := 1) (c := 10) (d := 1000) (e := 10 ^ Int.toNat 6) w0 w1 (by decide) (by decide) (by decide) (by decide)
  have hdp : d ≠ p := hh.ne hd
  refine ⟨_, .inl (SqL.of (st1.1 _ _ hdp upd_same)), .int m, em, ?_⟩
  refine ⟨mulL (by decide) (by decide), p, 2 * m + 1, k + 1, rfl, st1.2, by omega, by omega, by omega, fun r H3 r0 r1 st3 => ?_⟩
  exact q (r - m) _ (by omega) (by omega) ((st0.trans st1).trans st3)
theorem sc_claim : FnScope ["_law_hand_here", "_law_q_here", "_law_m"] ["_law_hand_here", "_law_q_here"] (defScope (top 26)) := ⟨rfl, rfl, rfl, by decide +kernel, rfl, by decide +kernel, by decide +kernel⟩
noncomputable def sp_claim : Sp := fun vs H Q _ => ∃ (p : Addr) (k : Nat) (v : Int), vs = [.ref p, .int v] ∧ Hand H p k ∧ k < 1000000 ∧ 2 ≤ v ∧ v ≤ 1000000 ∧ ∀ m a c H', CB m a v → Step p (k + 3) H H' → H' c = some (.tup [.int m, .int a, .int v]) → Q (.ref c) H'
theorem ok_claim (F : Fun K "_law_claim" "_law_claim" (top 26) f fd)  (F_law_take : FnA P w K mg base "_law_take" 1 ["_law_hand_here", "_law_many"] sp_take) : FnOk P w K mg base CX0 2 f fd ["_law_hand_here", "_law_q_here"] sp_claim := by
  refine F.okz sc_claim (fun vs H Q E h => ?_) (fun cdv A outer s H vs Q E hr h => ?_)
  · obtain ⟨p, k, v, rfl, _⟩ := h; rfl
  obtain ⟨p, k, v, rfl, hh, hk, v0, v1, q⟩ := h
  have nd := sc_claim.nd
  refine ⟨_, (zss_cons (zs_set (i := 2) nd rfl (Or.inl rfl) (ze_op op_addP ze_int (ze_fn F_law_take hr (by decide) rfl (za_cons (zn 0) (za_cons (ze_ix ix_P (ze_lst (za_cons ze_int (za_cons ze_int (za_cons ze_int (za_cons ze_int za_nil))))) (ze_fn F_law_take hr (by decide) rfl (za_cons (zn 0) (za_cons ze_int za_nil))) (fun _ _ => rfl)) za_nil)))))
      (zss_one (zs_ret (ze_tup (za_cons (zn 2) (za_cons (ze_fn F_law_take hr (by decide) rfl (za_cons (zn 0) (za_cons (zn 2) za_nil))) (za_cons (zn 1) za_nil))))))), ?_⟩
  refine ⟨by show 4 ≤ sizeLine; decide, fun d hd => ?_⟩
  have st0 := Step.of_same hh (Same.new hd (.lst [.int 8, .int 8, .int 60, .int 600]))
  refine ⟨p, 4, k, rfl, st0.2, by omega, by decide, by decide, fun way H1 w0 w1 st1 => ?_⟩
  obtain ⟨m, em, _, hm⟩ := pick4 (b := 8) (c := 8) (d := 60) (e := 600) w0 w1 (by decide) (by decide) (by decide) (by decide)
  have hdp : d ≠ p := hh.ne hd
  refine ⟨_, .inl (SqL.of (st1.1 _ _ hdp upd_same)), .int m, em, ?_⟩
  refine ⟨p, m, k + 1, rfl, st1.2, by omega, by omega, by omega, fun r H3 r0 r1 st3 => ?_⟩
  refine ⟨p, 1 + r, k + 2, rfl, st3.2, by omega, by omega, by omega, fun r2 H4 s0 s1 st4 => ?_⟩
  refine ⟨by show 3 ≤ sizeLine; decide, fun d2 hd2 => ?_⟩
  exact q (1 + r) r2 d2 _ ⟨by omega, by omega, s0, s1, v0, v1⟩ ((((st0.trans st1).trans st3).trans st4).same (Same.new hd2 _)) upd_same
end
end K29
set_option Elab.async false
set_option linter.all false
set_option maxRecDepth 100000
set_option exponentiation.threshold 3000
set_option maxHeartbeats 4000000
namespace K29
open PySem L2 MRow M27
section
variable {P : Program} {w : World} {K : PySem.W.Frag} {mg : Str → Option Value} {base : Heap} {f : Addr} {fd : FuncData}
theorem Step.updN {p r : Addr} {k : Nat} {H H' : Hp} {o : HO} (st : Step p k H H') (hr : H r = none) (hrp : r ≠ p) : Step p k H (upd H' r o) := by
  refine ⟨fun b u hb e => ?_, ?_⟩
  · rw [upd_ne (ne_of_none e hr)]; exact st.1 b u hb e
  · obtain ⟨g, s, c, e, h⟩ := st.2
    exact ⟨g, s, c, by rw [upd_ne (Ne.symm hrp)]; exact e, h⟩
theorem Step.fresh {p r : Addr} {k n : Nat} {H H' : Hp} (h : Hand H p n) (st : Step p k H H') (hr : H' r = none) : H r = none := by
  cases e : H r with
  | none => rfl
  | some o =>
    have hne : r ≠ p := fun z => by
      obtain ⟨g, s, c, e2, _⟩ := st.2
      rw [z, e2] at hr
      cases hr
    have := st.1 r o hne e
    rw [this] at hr
    cases hr
noncomputable def InB (ns : List Int) : Prop := ∀ n ∈ ns, -4000000 ≤ n ∧ n ≤ 4000000
theorem sc_row : FnScope ["_law_hand_here", "_law_claim_here", "_law_m", "_law_a", "_law_q_here", "_law_size", "_law_most", "_law_row_here", "_law_place", "_law_mine"] ["_law_hand_here", "_law_claim_here"] (defScope (top 27)) := ⟨rfl, rfl, rfl, by decide +kernel, rfl, by decide +kernel, by decide +kernel⟩
noncomputable def sp_row : Sp := fun vs H Q _ => ∃ (p c : Addr) (k : Nat) (m a v : Int), vs = [.ref p, .ref c] ∧ Hand H p k ∧ k < 100000 ∧ H c = some (.tup [.int m, .int a, .int v]) ∧ CB m a v ∧ ∀ r H' ns, H r = none → r ≠ p → Step p (k + 400) H H' → H' r = some (.lst (ns.map V.int)) → ns.length ≤ 121 → InB ns → Q (.ref r) H'
theorem mine_in {v t r : Int} (hv : 2 ≤ v) (ht : t = 1000000 / v) (r0 : 0 ≤ r) (r1 : r < 2 * t + 1) : -4000000 ≤ v * (r - t) ∧ v * (r - t) ≤ 4000000 := by
  have h1 : t * v ≤ 1000000 := by rw [ht]; exact Int.ediv_mul_le _ (by omega)
  rw [Int.mul_comm] at h1
  have h2 : v * (r - t) ≤ v * t := Int.mul_le_mul_of_nonneg_left (by omega) (by omega)
  have h3 : v * (-t) ≤ v * (r - t) := Int.mul_le_mul_of_nonneg_left (by omega) (by omega)
  rw [Int.mul_neg] at h3
  omega
theorem ok_row (F : Fun K "_law_row" "_law_row" (top 27) f fd) (m_range : mg "range" = none) (F_law_take : FnA P w K mg base "_law_take" 1 ["_law_hand_here", "_law_many"] sp_take) (F_law_number : FnA P w K mg base "_law_number" 2 ["_law_hand_here"] sp_number) : FnOk P w K mg base CX0 3 f fd ["_law_hand_here", "_law_claim_here"] sp_row := by
  refine F.okz sc_row (fun vs H Q E h => ?_) (fun cdv A outer s H vs Q E hr h => ?_)
  · obtain ⟨p, c, k, m, a, v, rfl, _⟩ := h; rfl
  obtain ⟨p, c, k, m, a, v, rfl, hh, hk, hc, ⟨m1, m2, a0, a1, v1, v2⟩, q⟩ := h
  have nd := sc_row.nd
  have hu := hr.units
  refine ⟨_, (zss_cons (zs_asg (zn 1) (zg_tup rfl (zgs_cons (zg_name (i := 2) nd rfl (Or.inl rfl)) (zgs_cons (zg_name (i := 3) nd rfl (Or.inl rfl)) (zgs_cons (zg_name (i := 4) nd rfl (Or.inl rfl)) zgs_nil)))))
      (zss_cons (zs_set (i := 5) nd rfl (Or.inl rfl) (ze_op op_addP ze_int (ze_fn F_law_take hr (by decide) rfl (za_cons (zn 0) (za_cons (ze_ix ix_P (ze_lst (za_cons ze_int (za_cons ze_int (za_cons ze_int za_nil)))) (ze_fn F_law_take hr (by decide) rfl (za_cons (zn 0) (za_cons ze_int za_nil))) (fun _ _ => rfl)) za_nil)))))
      (zss_cons (zs_par (i := 6) (j := 7) rfl nd rfl rfl (by decide) rfl rfl (za_cons (ze_op op_fdivP (ze_op op_powP ze_int ze_int) (zn 4)) (za_cons (ze_lst za_nil) za_nil)) rfl)
      (zss_cons (zs_for PassesOwn.never rfl (zi_range1 rfl m_range (za_cons (zn 5) za_nil)) (zg_name (i := 8) nd rfl (Or.inl rfl)) (zss_cons (zs_set (i := 9) nd rfl (Or.inl rfl) (ze_op op_mulQ (zn 4) (ze_op op_subP (ze_fn F_law_take hr (by decide) rfl (za_cons (zn 0) (za_cons (ze_op op_addP (ze_op op_mulQ ze_int (zn 6)) ze_int) za_nil))) (zn 6))))
      (zss_one (zs_expr (zm_append (zn 7) (za_cons (ze_ifExp (zt_cmpP (op_eqD hu) (ze_op op_modP (zn 8) (zn 2)) (zn 3) (nomark _)) (zn 9) (ze_fn F_law_number hr (by decide) rfl (za_cons (zn 0) za_nil))) za_nil))))))
      (zss_one (zs_ret (zn 7))))))), ?_⟩
  refine ⟨c, _, rfl, SqT.of hc, rfl, _, _, rfl, _, _, rfl, _, _, rfl, rfl, ?_⟩
  refine ⟨by show 3 ≤ sizeLine; decide, fun d hd => ?_⟩
  have st0 := Step.of_same hh (Same.new hd (.lst [.int 12, .int 60, .int 121]))
  refine ⟨p, 3, k, rfl, st0.2, by omega, by decide, by decide, fun way H1 w0 w1 st1 => ?_⟩
  have hdp : d ≠ p := hh.ne hd
  obtain ⟨z, ez, z0, z1⟩ : ∃ z : Int, atI [V.int 12, .int 60, .int 121] way = some (.int z) ∧ 1 ≤ z ∧ z ≤ 121 := by
    have : way = 0 ∨ way = 1 ∨ way = 2 := by omega
    rcases this with rfl | rfl | rfl
    · exact ⟨12, rfl, by decide⟩
    · exact ⟨60, rfl, by decide⟩
    · exact ⟨121, rfl, by decide⟩
  refine ⟨_, .inl (SqL.of (st1.1 _ _ hdp upd_same)), .int z, ez, ?_⟩
  refine ⟨p, z, k + 1, rfl, st1.2, by omega, by omega, by omega, fun r H3 r0 r1 st3 => ?_⟩
  have st := (st0.trans st1).trans st3
  obtain ⟨t, ht⟩ : ∃ t : Int, t = 1000000 / v := ⟨_, rfl⟩
  have e6 : (10 : Int) ^ Int.toNat 6 / v = t := by rw [ht]; rfl
  have ht0 : 0 ≤ t := by rw [ht]; exact Int.ediv_nonneg (by omega) (by omega)
  have ht1 : t ≤ 1000000 := by rw [ht]; exact Int.ediv_le_self _ (by omega)
  refine ⟨⟨by decide, by decide⟩, ⟨by omega, by omega⟩, Nat.zero_le _, fun rr hrr => ?_⟩
  have hrH := Step.fresh hh st hrr
  have hrp : rr ≠ p := st.2.ne hrr
  refine ⟨_, _, rfl, ?_⟩
  refine ⟨1 + r, rfl, by omega, by omega, for_range (fun i σ H' => Step p (k + 2 + 3 * i) H H' ∧ ∃ ns p8 p9, ns.length = i ∧ InB ns ∧ H' rr = some (.lst (ns.map V.int)) ∧ σ = [some (.ref p), some (.ref c), some (.int m), some (.int a), some (.int v), some (.int (1 + r)), some (.int t), some (.ref rr), p8, p9])
    ⟨Step.updN st hrH hrp, [], none, none, rfl, fun n hn => (nomatch hn), upd_same, by rw [← e6]; rfl⟩ ?_ ?_⟩
  · rintro i σ H' hi ⟨sti, ns, p8, p9, hl, hb, hrr', rfl⟩
    have hi2 : i < 122 := by omega
    refine ⟨mulL (by decide) (by decide), p, 2 * t + 1, k + 2 + 3 * i, rfl, sti.2, by omega, by omega, by omega, fun x H4 x0 x1 st4 => ?_⟩
    have hm := mine_in v1 ht x0 x1
    have hrr4 := st4.1 _ _ hrp hrr'
    refine ⟨mulL (by omega) (by omega), tyL hrr4, (show (0 : Int) < m by omega), ?_⟩
    have fini : ∀ (H9 : Hp) (y : Int) (D : Ends) , True := fun _ _ _ => trivial
    refine iteD (fun c => ?_) (fun c => ?_)
    · refine ⟨_, hrr4, by rw [List.length_map]; exact small1000 (by omega), ?_⟩
      refine ⟨Step.updN ((sti.trans st4).mono (by omega)) hrH hrp, ns ++ [v * (x - t)], _, _, by rw [List.length_append, hl]; rfl, ?_, by rw [upd_same, List.map_append]; rfl, rfl⟩
      intro n hn
      rcases List.mem_append.mp hn with hn | hn
      · exact hb n hn
      · have : n = v * (x - t) := by simpa using hn
        rw [this]; exact hm
    · refine ⟨p, k + 2 + 3 * i + 1, rfl, st4.2, by omega, fun y H5 y0 y1 st5 => ?_⟩
      have hrr5 := st5.1 _ _ hrp hrr4
      refine ⟨_, hrr5, by rw [List.length_map]; exact small1000 (by omega), ?_⟩
      refine ⟨Step.updN (((sti.trans st4).trans st5).mono (by omega)) hrH hrp, ns ++ [y], _, _, by rw [List.length_append, hl]; rfl, ?_, by rw [upd_same, List.map_append]; rfl, rfl⟩
      intro n hn
      rcases List.mem_append.mp hn with hn | hn
      · exact hb n hn
      · have : n = y := by simpa using hn
        rw [this]; omega
  · rintro σ H' ⟨sti, ns, p8, p9, hl, hb, hrr', rfl⟩
    exact q rr H' ns hrH hrp (sti.mono (by omega)) hrr' (by omega) hb
theorem sc_bent : FnScope ["_law_hand_here", "_law_claim_here", "_law_row_here", "_law_m", "_law_a", "_law_q_here", "_law_spots", "_law_spot"] ["_law_hand_here", "_law_claim_here", "_law_row_here"] (defScope (top 28)) := ⟨rfl, rfl, rfl, by decide +kernel, rfl, by decide +kernel, by decide +kernel⟩
noncomputable def InB2 (ns : List Int) : Prop := ∀ n ∈ ns, -5000000 ≤ n ∧ n ≤ 5000000
noncomputable def Step2 (p r : Addr) (k : Nat) (H H' : Hp) : Prop := (∀ b o, b ≠ p → b ≠ r → H b = some o → H' b = some o) ∧ Hand H' p k
noncomputable def sp_bent : Sp := fun vs H Q _ => ∃ (p c r : Addr) (k : Nat) (m a v : Int) (ns : List Int), vs = [.ref p, .ref c, .ref r] ∧ Hand H p k ∧ k < 100000 ∧ H c = some (.tup [.int m, .int a, .int v]) ∧ CB m a v ∧ r ≠ p ∧ H r = some (.lst (ns.map V.int)) ∧ ns.length ≤ 121 ∧ InB ns ∧ ∀ t H' ms, Step2 p r (k + 2) H H' → H' t = some (.tup (ms.map V.int)) → ms.length ≤ 121 → InB2 ms → Q (.ref t) H'
theorem ok_bent (F : Fun K "_law_bent" "_law_bent" (top 28) f fd) (m_int : mg "int" = none) (m_len : mg "len" = none) (m_list : mg "list" = none) (m_range : mg "range" = none) (m_tuple : mg "tuple" = none) (F_law_take : FnA P w K mg base "_law_take" 1 ["_law_hand_here", "_law_many"] sp_take) : FnOk P w K mg base CX0 2 f fd ["_law_hand_here", "_law_claim_here", "_law_row_here"] sp_bent := by
  refine F.okz sc_bent (fun vs H Q E h => ?_) (fun cdv A outer s H vs Q E hr h => ?_)
  · obtain ⟨p, c, r, k, m, a, v, ns, rfl, _⟩ := h; rfl
  obtain ⟨p, c, r, k, m, a, v, ns, rfl, hh, hk, hc, ⟨m1, m2, a0, a1, v1, v2⟩, hrp, hrow, hl, hb, q⟩ := h
  have nd := sc_bent.nd
  have hu := hr.units
  refine ⟨_, (zss_cons (zs_asg (zn 1) (zg_tup rfl (zgs_cons (zg_name (i := 3) nd rfl (Or.inl rfl)) (zgs_cons (zg_name (i := 4) nd rfl (Or.inl rfl)) (zgs_cons (zg_name (i := 5) nd rfl (Or.inl rfl)) zgs_nil)))))
      (zss_cons (zs_set (i := 6) nd rfl (Or.inl rfl) (zcb_lrange rfl rfl m_list (za_cons (zcb_range rfl m_range (za_cons (zn 4) (za_cons (zcb_len rfl m_len (za_cons (zn 2) za_nil) rfl rfl) (za_cons (zn 3) za_nil))) rfl rfl) za_nil) rfl rfl))
      (zss_cons (zs_if (ZW.zt (zw_and (zt_cmpP (op_neD hu) (zn 6) (ze_lst za_nil) (nomark _)) (zw_and1 (zt_cmpP (op_eqD hu) (ze_fn F_law_take hr (by decide) rfl (za_cons (zn 0) (za_cons ze_int za_nil))) ze_int (nomark _))))) (zss_cons (zs_set (i := 7) nd rfl (Or.inl rfl) (ze_ix ix_P (zn 6) (ze_fn F_law_take hr (by decide) rfl (za_cons (zn 0) (za_cons (zcb_len rfl m_len (za_cons (zn 6) za_nil) rfl rfl) za_nil))) (fun _ _ => rfl)))
      (zss_one (zs_asg (ze_op op_addP (ze_ix ix_P (zn 2) (zn 7) (fun _ _ => rfl)) (ze_ix ix_P (ze_lst (za_cons ze_int (za_cons (ze_un un_neg ze_int) za_nil))) (zcb_int rfl m_int (za_cons (ze_cmpR op_gtP (ze_ix ix_P (zn 2) (zn 7) (fun _ _ => rfl)) ze_int (nomark _)) za_nil) rfl rfl) (fun _ _ => rfl))) (zg_sub (zn 2) (zn 7) set_list)))) zss_nil)
      (zss_one (zs_ret (zcb_tuple rfl m_tuple (za_cons (zn 2) za_nil) rfl rfl)))))), ?_⟩
  refine ⟨c, _, rfl, SqT.of hc, rfl, _, _, rfl, _, _, rfl, _, _, rfl, rfl, ?_⟩
  refine ⟨_, .inl (SqL.of hrow), ⟨by omega, by omega, by omega⟩, fun rp hrng => ?_⟩
  rw [List.length_map]
  have g1 := Same.new hrng (rngO rp a (ns.length : Int) m)
  have hsz : (Builtin.Range.rangeSize a (ns.length : Int) m).toNat ≤ 1000 := size_le m1 (by omega)
  refine ⟨a, (ns.length : Int), m, upd_same, small_up (by omega) (by omega) (by omega) (by omega) (by omega) (by omega), by omega, by omega, fun l hlf => ?_⟩
  generalize hN : (Builtin.Range.rangeSize a (ns.length : Int) m).toNat = N at hsz
  have hlt : ∀ i : Nat, i < N → a + (i : Int) * m < (ns.length : Int) := fun i hi => size_lt m1 (by rw [hN]; exact hi)
  have g2 := Same.new hlf (.lst (((List.range N).map fun (k : Nat) => a + (k : Int) * m).map V.int))
  refine ⟨Nat.zero_le _, fun d hd => ?_⟩
  have g3 := Same.new hd (.lst [])
  have g := (g1.trans g2).trans g3
  have hS : (upd (upd (upd H rp (rngO rp a (ns.length : Int) m)) l (.lst (((List.range N).map fun (k : Nat) => a + (k : Int) * m).map V.int))) d (.lst [])) l = some (.lst (((List.range N).map fun (k : Nat) => a + (k : Int) * m).map V.int)) := g3 _ _ upd_same
  have hlp : l ≠ p := (hh.same g1).ne hlf
  have hlr : l ≠ r := fun z => by rw [z, g1 _ _ hrow] at hlf; cases hlf
  have hD : (upd (upd (upd H rp (rngO rp a (ns.length : Int) m)) l (.lst (((List.range N).map fun (k : Nat) => a + (k : Int) * m).map V.int))) d (.lst [])) d = some (.lst []) := upd_same
  generalize upd (upd (upd H rp (rngO rp a (ns.length : Int) m)) l (.lst (((List.range N).map fun (k : Nat) => a + (k : Int) * m).map V.int))) d (.lst []) = H1 at g hS hD ⊢
  refine ⟨_, _, .listInts hS, .listInts (ns := []) hD, shaped_list_ints _, shaped_list_ints [], ?_⟩
  have hb2 : InB2 ns := fun n hn => by have := hb n hn; omega
  refine iteB (fun c1 => ?_) (fun c1 => ?_)
  · rw [if_pos rfl, List.map_nil, eqv_list_nil, isE_map, isE_map] at c1
    have hN0 : 0 < N := by
      cases N with
      | zero => cases c1
      | succ N => omega
    refine ⟨p, 2, k, rfl, hh.same g, by omega, by decide, by decide, fun y H2 y0 y1 st2 => ?_⟩
    have hS2 := st2.1 _ _ hlp hS
    have hrow2 := st2.1 _ _ hrp (g _ _ hrow)
    refine iteD (fun c2 => ?_) (fun c2 => ?_)
    · refine ⟨_, .inl (SqL.of hS2), ?_⟩
      have hlen : (((List.range N).map fun (k : Nat) => a + (k : Int) * m).map V.int).length = N := by simp
      rw [hlen]
      refine ⟨p, (N : Int), k + 1, rfl, st2.2, by omega, by omega, by omega, fun x H3 x0 x1 st3 => ?_⟩
      have hS3 := st3.1 _ _ hlp hS2
      have hrow3 := st3.1 _ _ hrp hrow2
      obtain ⟨i, hi⟩ : ∃ i : Nat, x = (i : Int) := ⟨x.toNat, by omega⟩
      have hiN : i < N := by omega
      have hil := hlt i hiN
      have him : 0 ≤ (i : Int) * m := Int.mul_nonneg (by omega) (by omega)
      obtain ⟨j, hj⟩ : ∃ j : Nat, a + (i : Int) * m = (j : Int) := ⟨(a + (i : Int) * m).toNat, by omega⟩
      have hjl : j < ns.length := by omega
      have hat : atI (((List.range N).map fun (k : Nat) => a + (k : Int) * m).map V.int) x = some (.int (j : Int)) := by
        refine atI_of hi ?_
        rw [List.getElem?_map, List.getElem?_map, List.getElem?_range hiN]
        show some (V.int (a + (i : Int) * m)) = _
        rw [hj]
      refine ⟨_, .inl (SqL.of hS3), .int (j : Int), hat, ?_⟩
      refine ⟨_, .inl (SqL.of hrow3), .int ns[j], atI_of rfl (getI hjl), ?_⟩
      refine ⟨_, rfl, by show 2 ≤ sizeLine; decide, fun d4 hd4 => ?_⟩
      have g4 := Same.new hd4 (.lst [.int 1, .int (-1)])
      have hrow4 := g4 _ _ hrow3
      refine ⟨_, .inl (SqL.of hrow4), .int ns[j], atI_of rfl (getI hjl), ?_⟩
      have hst := (st2.trans st3).same g4
      have last : ∀ w : Int, (w = 1 ∨ w = -1) → ∀ H9, Same (upd (upd H3 d4 (.lst [.int 1, .int (-1)])) r (.lst ((ns.map V.int).set j (.int (ns[j] + w))))) H9 → ∀ t, H9 t = some (.tup ((ns.map V.int).set j (.int (ns[j] + w)))) → Q (.ref t) H9 := by
        intro w hw H9 y9 t ht
        rw [← List.map_set] at ht
        refine q t H9 _ ⟨fun b o hbp hbr e => y9 _ _ (by rw [upd_ne hbr]; exact hst.1 b o hbp (g _ _ e)), ?_⟩ ht (by rw [List.length_set]; exact hl) ?_
        · obtain ⟨gg, s9, c9, e9, h9⟩ := hst.2
          exact ⟨gg, s9, c9, y9 _ _ (by rw [upd_ne (Ne.symm hrp)]; exact e9), h9⟩
        · intro n hn
          rcases List.mem_or_eq_of_mem_set hn with hn | hn
          · exact hb2 n hn
          · have := hb ns[j] (List.getElem_mem hjl)
            rw [hn]; omega
      have hix : ixN (ns.map V.int).length (j : Int) = some j := by
        unfold ixN
        rw [if_pos (by omega), List.length_map, if_pos (by omega)]
        congr 1
      by_cases hpos : ns[j] > 0
      · refine ⟨_, .inl (SqL.of upd_same), .int (-1), by rw [decide_eq_true hpos]; rfl, ?_⟩
        refine ⟨r, _, _, j, rfl, rfl, hrow4, hix, ?_⟩
        exact ⟨_, .inl (SqL.of upd_same), fun t H9 y9 ht => last (-1) (.inr rfl) H9 y9 t ht⟩
      · refine ⟨_, .inl (SqL.of upd_same), .int 1, by rw [decide_eq_false hpos]; rfl, ?_⟩
        refine ⟨r, _, _, j, rfl, rfl, hrow4, hix, ?_⟩
        exact ⟨_, .inl (SqL.of upd_same), fun t H9 y9 ht => last 1 (.inl rfl) H9 y9 t ht⟩
    · refine ⟨_, .inl (SqL.of hrow2), fun t H9 y9 ht => q t H9 ns ⟨fun b o hbp hbr e => y9 _ _ (st2.1 b o hbp (g _ _ e)), (st2.2.same y9).mono (by omega)⟩ ht hl hb2⟩
  · refine iteF ?_
    exact ⟨_, .inl (SqL.of (g _ _ hrow)), fun t H9 y9 ht => q t H9 ns ⟨fun b o hbp hbr e => y9 _ _ (g _ _ e), ((hh.same g).same y9).mono (by omega)⟩ ht hl hb2⟩
end
end K29
set_option Elab.async false
set_option linter.all false
set_option maxRecDepth 100000
set_option maxHeartbeats 4000000
namespace L2
open PySem PySem.Spec PyProof.Rows
section
variable {M : Model} {A : Around} {E : Value → Shared → Prop} {s : Shared}
end
section
variable {X : Cx} {x : Str} {nv : List Str} {ix : List (Str × Nat)} {scope : Scope} {pins : List (Addr × Obj)} {σ : St} {H : Hp} {s : Shared}
end
section
variable {X : Cx} {x : Str} {nv : List Str} {ix : List (Str × Nat)} {scope : Scope} {pins : List (Addr × Obj)} {σ : St} {H : Hp} {s : Shared} {elt tg iter : Expr} {ifs : List Expr} {pos : Pos}
end
end L2
namespace L2
open PySem PySem.Spec PyProof.Rows
section
variable {X : Cx} {K : PySem.W.Frag}
theorem ix_P' (h : X.K = K) : IxR X (rIxP K) := by subst h; exact ix_P
end
end L2
set_option Elab.async false
set_option linter.all false
set_option maxRecDepth 100000
set_option maxHeartbeats 4000000
namespace L2
open PySem PySem.Spec PyProof.Rows
noncomputable def Itq (h : Heap) (i l : Addr) (k : Nat) (xs : Array Value) : Prop := (h.IsListIter i l k ∧ h.IsList l xs) ∨ (h.IsTupleIter i l k ∧ h.IsTuple l xs)
theorem Itq.at {h h' : Heap} {i l : Addr} {k : Nat} {xs : Array Value} (x : Itq h i l k xs) (hi : ∀ o, h.get? i = some o → h'.get? i = some o) (hl : ∀ o, h.get? l = some o → h'.get? l = some o) : Itq h' i l k xs :=
  x.elim (fun a => .inl ⟨a.1.at hi, a.2.at hl⟩) fun a => .inr ⟨a.1.at hi, a.2.at hl⟩
theorem Itq.but {h h' : Heap} {i l z : Addr} {k : Nat} {xs : Array Value} (x : Itq h i l k xs) (e : Heap.ExtBut z h h') (n1 : i ≠ z) (n2 : l ≠ z) : Itq h' i l k xs := x.at (fun o q => e _ _ n1 q) fun o q => e _ _ n2 q
section
variable {prog : Program} {w : World} {A : Around} {E : Value → Shared → Prop} {s : Shared}
theorem Itq.item {i l : Addr} {k : Nat} {xs : Array Value} {v : Value} {Q : Value → Shared → Prop} (x : Itq s.heap i l k xs) (hne : l ≠ i) (hx : xs[k]? = some v)
    (hQ : ∀ h', Itq h' i l (k + 1) xs → Heap.SameBut i s.heap h' → Q v { s with heap := h' }) : wpAny (model prog w) A (Builtin.SmallTypes.nextOf (.ref i)) Q E s := by
  rcases x with ⟨x1, x2⟩ | ⟨x1, x2⟩
  · exact wpAny_nextOf_list_item x1 x2 hx fun h' a b => hQ h' (.inl ⟨a, x2.extBut b.extBut hne⟩) b
  · exact nextOf_tup_item x1 x2 hx fun h' a b => hQ h' (.inr ⟨a, x2.extBut b.extBut hne⟩) b
theorem Itq.fin {i l : Addr} {k : Nat} {xs : Array Value} {Q : Value → Shared → Prop} (hh : A.handled = none) (x : Itq s.heap i l k xs) (hx : xs[k]? = none)
    (hE : ∀ h' e, Heap.ExtBut i s.heap h' → (∃ o, h'.get? e = some o ∧ o.cls = .type "StopIteration") → E (.ref e) { s with heap := h' }) : wpAny (model prog w) A (Builtin.SmallTypes.nextOf (.ref i)) Q E s := by
  rcases x with ⟨x1, x2⟩ | ⟨x1, x2⟩
  · exact wpAny_nextOf_list_end hh x1 x2 hx hE
  · exact nextOf_tup_end hh x1 x2 hx hE
theorem zq_item {z TI TO i1 i2 l1 l2 : Addr} {k1 k2 : Nat} {xs ys : Array Value} {x y a b : Value} {Q : Value → Shared → Prop} (D : ZipApart z TI TO i1 i2 l1 l2) (n12 : l1 ≠ TI) (n22 : l2 ≠ TI)
    (hz : IsZip s.heap z TI TO .none) (hTI : IsPair s.heap TI (.ref i1) (.ref i2)) (hTO : IsPair s.heap TO a b) (h1 : Itq s.heap i1 l1 k1 xs) (h2 : Itq s.heap i2 l2 k2 ys) (hx : xs[k1]? = some x) (hy : ys[k2]? = some y)
    (hQ : ∀ h', IsZip h' z TI TO (rawInt s.heap.objs.size) → IsPair h' TO x y → Itq h' i1 l1 (k1 + 1) xs → Itq h' i2 l2 (k2 + 1) ys → IsPair h' s.heap.objs.size x y → h'.objs.size = s.heap.objs.size + 1 →
      (∀ c o, c ≠ z → c ≠ TO → c ≠ i1 → c ≠ i2 → s.heap.get? c = some o → h'.get? c = some o) → Q (.ref s.heap.objs.size) { s with heap := h' }) :
    wpAny (model prog w) A (Builtin.«zip.__next__» ⟨[.ref z], []⟩) (fun fin s' => ∃ v, fin = .done (.ret v) ∧ Q v s') E s := by
  show wpAny _ _ (field (.ref z) 2 >>= _) _ _ _; refine wpAny_bind (wpAny_field hz rfl (x := .bool false) rfl ?_)
  show wpAny _ _ (field (.ref z) 3 >>= _) _ _ _; refine wpAny_bind (wpAny_field hz rfl (x := .ref TI) rfl ?_)
  refine wpAny_bind (wpAny_seqItems hTI rfl ?_); show wpAny _ _ (Builtin.SmallTypes.ownedTupleIsFree (.ref z) >>= _) _ _ _
  refine wpAny_bind ?_; unfold Builtin.SmallTypes.ownedTupleIsFree
  refine wpAny_bind (wpAny_field hz rfl (x := .none) rfl (wpAny_pure ?_)); simp only [if_true]
  refine wpAny_bind (wpAny_rule ?_); refine wpAny_bind (wpAny_field hz rfl (x := .ref TO) rfl ?_)
  refine wpAny_bind (wpAny_setField_rec hz (by simp) fun g1 hz1 e1 => ?_)
  replace hz1 : IsZip g1 z TI TO .ellipsis := hz1
  refine wpAny_bind ?_; simp only [List.zipIdx_cons, List.zipIdx_nil, List.forIn_cons, List.forIn_nil]
  refine wpAny_bind (wpAny_bind (wpAny_onRaise ?_)); show wpAny _ _ (Builtin.SmallTypes.nextOf (.ref i1) >>= _) _ _ _
  have h1a : Itq g1 i1 l1 k1 xs := h1.but e1.extBut D.i1z D.l1z
  have h2a : Itq g1 i2 l2 k2 ys := h2.but e1.extBut D.i2z D.l2z
  refine wpAny_bind (Itq.item (s := { s with heap := g1 }) h1a D.l1i1 hx fun g2 h1b e2 => wpAny_pure ?_)
  have hTO2 : IsPair g2 TO a b := e2.extBut _ _ D.TOi1 (e1.extBut _ _ D.TOz hTO)
  have h2b : Itq g2 i2 l2 k2 ys := h2a.but e2.extBut (Ne.symm D.i12) D.l2i1
  refine wpAny_bind (wpAny_seqItems hTO2 rfl ?_); refine wpAny_bind (wpAny_updateSeq_pair hTO2 fun g3 hTO3 e3 => ?_)
  replace hTO3 : IsPair g3 TO x b := hTO3
  have h1c : Itq g3 i1 l1 (k1 + 1) xs := h1b.but e3.extBut (Ne.symm D.TOi1) D.l1TO
  have h2c : Itq g3 i2 l2 k2 ys := h2b.but e3.extBut (Ne.symm D.TOi2) D.l2TO
  refine wpAny_bind (wpAny_letGo (wpAny_pure ?_)); refine wpAny_bind (wpAny_bind (wpAny_onRaise ?_))
  show wpAny _ _ (Builtin.SmallTypes.nextOf (.ref i2) >>= _) _ _ _
  refine wpAny_bind (Itq.item (s := { s with heap := g3 }) h2c D.l2i2 hy fun g4 h2d e4 => wpAny_pure ?_)
  have hTO4 : IsPair g4 TO x b := e4.extBut _ _ D.TOi2 hTO3
  have h1d : Itq g4 i1 l1 (k1 + 1) xs := h1c.but e4.extBut D.i12 D.l1i2
  refine wpAny_bind (wpAny_seqItems hTO4 rfl ?_); refine wpAny_bind (wpAny_updateSeq_pair hTO4 fun g5 hTO5 e5 => ?_)
  replace hTO5 : IsPair g5 TO x y := hTO5
  have h1e : Itq g5 i1 l1 (k1 + 1) xs := h1d.but e5.extBut (Ne.symm D.TOi1) D.l1TO
  have h2e : Itq g5 i2 l2 (k2 + 1) ys := h2d.but e5.extBut (Ne.symm D.TOi2) D.l2TO
  refine wpAny_bind (wpAny_letGo (wpAny_pure (wpAny_pure ?_))); refine wpAny_bind (wpAny_seqItems hTO5 rfl ?_); refine wpAny_bind (wpAny_newTuple ?_)
  have hsz : g5.objs.size = s.heap.objs.size := by rw [e5.1, e4.1, e3.1, e2.1, e1.1]
  have hz5 : IsZip g5 z TI TO .ellipsis := e5.extBut _ _ (Ne.symm D.TOz) (e4.extBut _ _ (Ne.symm D.i2z) (e3.extBut _ _ (Ne.symm D.TOz) (e2.extBut _ _ (Ne.symm D.i1z) hz1)))
  have k5 : ∀ c o, c ≠ z → c ≠ TO → c ≠ i1 → c ≠ i2 → s.heap.get? c = some o → g5.get? c = some o := fun c o c1 c2 c3 c4 q => e5.extBut _ _ c2 (e4.extBut _ _ c4 (e3.extBut _ _ c2 (e2.extBut _ _ c3 (e1.extBut _ _ c1 q))))
  have zlt : z < g5.objs.size := Heap.lt_size hz5
  show wpAny _ _ (Builtin.SmallTypes.ownedTupleHandOut (.ref z) (.ref g5.objs.size) >>= _) _ _ _
  refine wpAny_bind ?_; unfold Builtin.SmallTypes.ownedTupleHandOut
  have hz6 : IsZip (g5.push { cls := .type "tuple", data := .seq #[x, y] }) z TI TO .ellipsis := Heap.get?_push_of_some _ hz5
  refine wpAny_bind (wpAny_setField_rec hz6 (by simp) fun g7 hz7 e7 => ?_)
  replace hz7 : IsZip g7 z TI TO (rawInt g5.objs.size) := hz7
  refine wpAny_setField_rec hz7 (by simp) fun g8 hz8 e8 => ?_
  replace hz8 : IsZip g8 z TI TO (rawInt g5.objs.size) := hz8
  have up : ∀ c o, c ≠ z → g5.get? c = some o → g8.get? c = some o := fun c o c1 q => e8.extBut _ _ c1 (e7.extBut _ _ c1 (Heap.get?_push_of_some _ q))
  have hT8 : IsPair g8 g5.objs.size x y := e8.extBut _ _ (Nat.ne_of_gt zlt) (e7.extBut _ _ (Nat.ne_of_gt zlt) (Heap.get?_push_size _ rfl))
  have hs8 : g8.objs.size = g5.objs.size + 1 := by rw [e8.1, e7.1, Heap.size_push]
  rw [hsz] at hz8 hT8 hs8
  refine wpAny_pure ⟨_, rfl, ?_⟩; show Q (.ref g5.objs.size) _; rw [hsz]
  exact hQ g8 hz8 (up _ _ D.TOz hTO5) (h1e.at (fun o q => up _ o D.i1z q) fun o q => up _ o D.l1z q) (h2e.at (fun o q => up _ o D.i2z q) fun o q => up _ o D.l2z q) hT8 hs8 fun c o c1 c2 c3 c4 q => up c o c1 (k5 c o c1 c2 c3 c4 q)
theorem zq_end {z TI TO i1 i2 l1 l2 : Addr} {k1 k2 : Nat} {xs ys : Array Value} {a b : Value} {Q : PySem.Fin → Shared → Prop} (hh : A.handled = none) (D : ZipApart z TI TO i1 i2 l1 l2)
    (hz : IsZip s.heap z TI TO .none) (hTI : IsPair s.heap TI (.ref i1) (.ref i2)) (hTO : IsPair s.heap TO a b) (h1 : Itq s.heap i1 l1 k1 xs) (h2 : Itq s.heap i2 l2 k2 ys) (hend : xs[k1]? = none ∨ ys[k2]? = none)
    (hE : ∀ h' e, (∀ c o, c ≠ z → c ≠ TO → c ≠ i1 → c ≠ i2 → s.heap.get? c = some o → h'.get? c = some o) → (∃ o, h'.get? e = some o ∧ o.cls = .type "StopIteration") → E (.ref e) { s with heap := h' }) : wpAny (model prog w) A (Builtin.«zip.__next__» ⟨[.ref z], []⟩) Q E s := by
  show wpAny _ _ (field (.ref z) 2 >>= _) _ _ _; refine wpAny_bind (wpAny_field hz rfl (x := .bool false) rfl ?_)
  show wpAny _ _ (field (.ref z) 3 >>= _) _ _ _; refine wpAny_bind (wpAny_field hz rfl (x := .ref TI) rfl ?_)
  refine wpAny_bind (wpAny_seqItems hTI rfl ?_); show wpAny _ _ (Builtin.SmallTypes.ownedTupleIsFree (.ref z) >>= _) _ _ _
  refine wpAny_bind ?_; unfold Builtin.SmallTypes.ownedTupleIsFree
  refine wpAny_bind (wpAny_field hz rfl (x := .none) rfl (wpAny_pure ?_)); simp only [if_true]
  refine wpAny_bind (wpAny_rule ?_); refine wpAny_bind (wpAny_field hz rfl (x := .ref TO) rfl ?_)
  refine wpAny_bind (wpAny_setField_rec hz (by simp) fun g1 hz1 e1 => ?_)
  replace hz1 : IsZip g1 z TI TO .ellipsis := hz1
  refine wpAny_bind ?_; simp only [List.zipIdx_cons, List.zipIdx_nil, List.forIn_cons, List.forIn_nil]
  refine wpAny_bind (wpAny_bind (wpAny_onRaise ?_)); show wpAny _ _ (Builtin.SmallTypes.nextOf (.ref i1) >>= _) _ _ _
  have h1a : Itq g1 i1 l1 k1 xs := h1.but e1.extBut D.i1z D.l1z
  have h2a : Itq g1 i2 l2 k2 ys := h2.but e1.extBut D.i2z D.l2z
  cases hx : xs[k1]? with
  | none =>
    refine wpAny_bind (Itq.fin (s := { s with heap := g1 }) hh h1a hx fun g2 e e2 he => ?_)
    obtain ⟨oe, hoe, hce⟩ := he
    have hz2 : IsZip g2 z TI TO .ellipsis := e2 _ _ (Ne.symm D.i1z) hz1
    have hez : e ≠ z := fun q => by subst q; rw [hz2] at hoe; cases hoe; simp at hce
    exact wpAny_setField_rec hz2 (by simp) fun g3 _ e3 => hE g3 e (fun c o c1 _ c3 _ q => e3.extBut _ _ c1 (e2 _ _ c3 (e1.extBut _ _ c1 q))) ⟨oe, e3.extBut _ _ hez hoe, hce⟩
  | some x =>
    have hy : ys[k2]? = none := by
      rcases hend with h | h
      · rw [hx] at h; cases h
      · exact h
    refine wpAny_bind (Itq.item (s := { s with heap := g1 }) h1a D.l1i1 hx fun g2 h1b e2 => wpAny_pure ?_)
    have hTO2 : IsPair g2 TO a b := e2.extBut _ _ D.TOi1 (e1.extBut _ _ D.TOz hTO)
    have h2b : Itq g2 i2 l2 k2 ys := h2a.but e2.extBut (Ne.symm D.i12) D.l2i1
    refine wpAny_bind (wpAny_seqItems hTO2 rfl ?_); refine wpAny_bind (wpAny_updateSeq_pair hTO2 fun g3 hTO3 e3 => ?_)
    have h2c : Itq g3 i2 l2 k2 ys := h2b.but e3.extBut (Ne.symm D.TOi2) D.l2TO
    refine wpAny_bind (wpAny_letGo (wpAny_pure ?_)); refine wpAny_bind (wpAny_bind (wpAny_onRaise ?_))
    show wpAny _ _ (Builtin.SmallTypes.nextOf (.ref i2) >>= _) _ _ _
    refine wpAny_bind (Itq.fin (s := { s with heap := g3 }) hh h2c hy fun g4 e e4 he => ?_)
    obtain ⟨oe, hoe, hce⟩ := he
    have hz4 : IsZip g4 z TI TO .ellipsis := e4 _ _ (Ne.symm D.i2z) (e3.extBut _ _ (Ne.symm D.TOz) (e2.extBut _ _ (Ne.symm D.i1z) hz1))
    have hez : e ≠ z := fun q => by subst q; rw [hz4] at hoe; cases hoe; simp at hce
    exact wpAny_setField_rec hz4 (by simp) fun g5 _ e5 => hE g5 e (fun c o c1 c2 c3 c4 q => e5.extBut _ _ c1 (e4 _ _ c4 (e3.extBut _ _ c2 (e2.extBut _ _ c3 (e1.extBut _ _ c1 q))))) ⟨oe, e5.extBut _ _ hez hoe, hce⟩
noncomputable def itCls (b : Bool) : String := if b then "tuple_iterator" else "list_iterator"
noncomputable def IsSq (h : Heap) (b : Bool) (l : Addr) (xs : Array Value) : Prop := if b = true then h.IsTuple l xs else h.IsList l xs
noncomputable abbrev zqI (b : Bool) (l : Addr) : Obj := { cls := .type (itCls b), data := .fields #[.ref l, .int 0 0] }
theorem IsSq.push {h : Heap} {b : Bool} {l : Addr} {xs : Array Value} (x : IsSq h b l xs) (o : Obj) : IsSq (h.push o) b l xs := by
  cases b with
  | true => exact (show h.IsTuple l xs from x).at fun u q => Heap.get?_push_of_some _ q
  | false => exact (show h.IsList l xs from x).push o
theorem iter_sq {b : Bool} {l : Addr} {xs : Array Value} {Q : Value → Shared → Prop} (x : IsSq s.heap b l xs) (h : Q (.ref s.heap.objs.size) { s with heap := s.heap.push (zqI b l) }) : wpAny (model prog w) A (pyIter (.ref l)) Q E s := by
  cases b with
  | true => exact wpAny_pyIter_tuple (show s.heap.IsTuple l xs from x) h
  | false => exact wpAny_pyIter_list (show s.heap.IsList l xs from x) h
end
noncomputable abbrev zq1 (h : Heap) (b : Bool) (l : Addr) : Heap := h.push (zqI b l)
noncomputable abbrev zq2 (h : Heap) (b c : Bool) (l m : Addr) : Heap := (zq1 h b l).push (zqI c m)
noncomputable abbrev zq3 (h : Heap) (b c : Bool) (l m : Addr) : Heap := (zq2 h b c l m).push { cls := .type "tuple", data := .seq #[.ref h.objs.size, .ref (zq1 h b l).objs.size] }
noncomputable abbrev zq4 (h : Heap) (b c : Bool) (l m : Addr) : Heap := (zq3 h b c l m).push { cls := .type "tuple", data := .seq #[.none, .none] }
noncomputable abbrev zq5 (h : Heap) (b c : Bool) (l m : Addr) : Heap := (zq4 h b c l m).push { cls := .type "zip", data := .fields #[.none, .bool false, .bool false, .ref (zq2 h b c l m).objs.size, .ref (zq3 h b c l m).objs.size] }
theorem meets_zq (b c : Bool) (l m : Addr) (xs ys : Array Value) : Meets (Builtin.«zip.__new__» ⟨[.type "zip", .ref l, .ref m], []⟩) (fun _ R s => IsSq s.heap b l xs ∧ IsSq s.heap c m ys ∧ R (.ok (.ret (.ref (zq4 s.heap b c l m).objs.size))) { s with heap := zq5 s.heap b c l m }) :=
  .of_wp fun prog w A R s h => by
    obtain ⟨hp, g, d, tk, os⟩ := s; obtain ⟨q1, q2, h⟩ := h
    have hsub := sub_zip
    have r1 : IsSq (Shared.heap ⟨hp, g, d, tk, os⟩) b l xs := q1
    have r2 : IsSq (Shared.heap ⟨hp.push (zqI b l), g, d, tk, os⟩) c m ys := IsSq.push q2 _
    wp_walk using iter_sq r1, iter_sq r2
    exact ⟨_, rfl, h⟩
section
variable {prog : Program} {w : World} {A : Around} {E : Value → Shared → Prop} {s : Shared}
theorem call_zq {b c : Bool} {l m : Addr} {xs ys : Array Value} {Q : Value → Shared → Prop} (q1 : IsSq s.heap b l xs) (q2 : IsSq s.heap c m ys)
    (h : ∀ h', IsZip h' (s.heap.objs.size + 4) (s.heap.objs.size + 2) (s.heap.objs.size + 3) .none → IsPair h' (s.heap.objs.size + 2) (.ref s.heap.objs.size) (.ref (s.heap.objs.size + 1)) →
      IsPair h' (s.heap.objs.size + 3) .none .none → Itq h' s.heap.objs.size l 0 xs → Itq h' (s.heap.objs.size + 1) m 0 ys → (∀ c o, s.heap.get? c = some o → h'.get? c = some o) → Q (.ref (s.heap.objs.size + 4)) { s with heap := h' }) :
    wpAny (model prog w) A (call (.type "zip") [.ref l, .ref m]) Q E s := by
  refine callType_new F.called_zip (by decide) (F.typeCall_zip_2 _ _) (F.newCall_zip_2 _ _) (fun obj => F.args_object_init_3 obj _ _) F.entry_zip_new (meets_zq b c l m xs ys) ⟨q1, q2, ?_⟩
  have z1 : (zq1 s.heap b l).objs.size = s.heap.objs.size + 1 := Heap.size_push ..
  have z2 : (zq2 s.heap b c l m).objs.size = s.heap.objs.size + 2 := by rw [Heap.size_push, z1]
  have z3 : (zq3 s.heap b c l m).objs.size = s.heap.objs.size + 3 := by rw [Heap.size_push, z2]
  have z4 : (zq4 s.heap b c l m).objs.size = s.heap.objs.size + 4 := by rw [Heap.size_push, z3]
  have g5 : (zq5 s.heap b c l m).get? (zq4 s.heap b c l m).objs.size = some _ := Heap.get?_push_size _ rfl
  have g4 : (zq5 s.heap b c l m).get? (zq3 s.heap b c l m).objs.size = some _ := Heap.get?_push_of_some _ (Heap.get?_push_size _ rfl)
  have g3 : (zq5 s.heap b c l m).get? (zq2 s.heap b c l m).objs.size = some _ := Heap.get?_push_of_some _ (Heap.get?_push_of_some _ (Heap.get?_push_size _ rfl))
  have g2 : (zq5 s.heap b c l m).get? (zq1 s.heap b l).objs.size = some (zqI c m) := Heap.get?_push_of_some _ (Heap.get?_push_of_some _ (Heap.get?_push_of_some _ (Heap.get?_push_size _ rfl)))
  have g1 : (zq5 s.heap b c l m).get? s.heap.objs.size = some (zqI b l) := Heap.get?_push_of_some _ (Heap.get?_push_of_some _ (Heap.get?_push_of_some _ (Heap.get?_push_of_some _ (Heap.get?_push_size _ rfl))))
  have kp : ∀ c' o, s.heap.get? c' = some o → (zq5 s.heap b c l m).get? c' = some o := fun c' o q => Heap.get?_push_of_some _ (Heap.get?_push_of_some _ (Heap.get?_push_of_some _ (Heap.get?_push_of_some _ (Heap.get?_push_of_some _ q))))
  show _ ∧ _
  rw [z2, z3, z4] at g5
  rw [z1, z2] at g3
  rw [z3] at g4
  rw [z1] at g2
  rw [z4]
  have j1 : Itq (zq5 s.heap b c l m) s.heap.objs.size l 0 xs := by
    cases b with
    | true => exact .inr ⟨⟨_, g1, rfl, rfl⟩, (show s.heap.IsTuple l xs from q1).at fun o q => kp _ o q⟩
    | false => exact .inl ⟨⟨_, g1, rfl, rfl⟩, (show s.heap.IsList l xs from q1).at fun o q => kp _ o q⟩
  have j2 : Itq (zq5 s.heap b c l m) (s.heap.objs.size + 1) m 0 ys := by
    cases c with
    | true => exact .inr ⟨⟨_, g2, rfl, rfl⟩, (show s.heap.IsTuple m ys from q2).at fun o q => kp _ o q⟩
    | false => exact .inl ⟨⟨_, g2, rfl, rfl⟩, (show s.heap.IsList m ys from q2).at fun o q => kp _ o q⟩
  exact ⟨⟨_, g5, rfl⟩, h _ g5 g3 g4 j1 j2 kp⟩
end
section
variable {X : Cx} {pins : List (Addr × Obj)} {σ : St} {H : Hp} {s : Shared}
theorem Inv.turnedL {h' : Heap} {t' : Nat} {ch : List Addr} (I : Inv X pins σ H s) (hk : ∀ b o, b ∉ ch → s.heap.get? b = some o → h'.get? b = some o) (fc : ∀ e ∈ ch, FpOk X pins H e) : Inv X pins σ H { s with heap := h', toks := t' } := by
  refine I.step (g' := s.gens) (d' := s.drawn) (ch := ch) (fun b hb => ?_) (fun b o _ _ hb q _ => hk b o hb q) (fun b o _ _ hb q _ => ⟨o.slots, hk b o hb q⟩) (fun b o _ _ n => n) (fun b o hb q => ⟨o, hk b o hb q⟩)
    (fun _ _ q => q) (fun _ _ _ q => q) (fun b ps q => ⟨#[], by rw [q]; simp⟩) (fun m hm => ?_) (fun b u q => ?_) I.bare
  · have f := fc b hb
    exact ⟨f.2.2.2.1, f.2.1, f.2.2.2.2.1, f.2.2.2.2.2⟩
  · obtain ⟨o, es, ep, ho, r⟩ := hm
    exact ⟨o, es, ep, hk _ o (fun z => (fc _ z).2.1 rfl) ho, r⟩
  · refine (I.hok b u q).stay (fun c v hc r => hk c v (fun z => ?_) r) (fun c r => r) fun c xs r => r
    have f := fc c z
    rcases hc with rfl | hc
    · rw [f.1] at q; cases q
    · rw [f.1] at hc; cases hc
noncomputable def SqK (H : Hp) (c : Bool) (a : Addr) (xs : List V) : Prop := H a = some (if c = true then HO.tup xs else HO.lst xs)
theorem SqK.inj {c : Bool} {a : Addr} {xs ys : List V} (h : SqK H c a xs) (h' : SqK H c a ys) : xs = ys := by
  unfold SqK at h h'
  rw [h] at h'
  cases c <;> (injection h' with h'; injection h')
theorem SqK.ne {c : Bool} {a b : Addr} {xs : List V} (h : SqK H c a xs) (hb : H b = none) : a ≠ b := fun z => by
  subst z
  unfold SqK at h
  rw [hb] at h; cases h
theorem SqK.tup {a : Addr} {xs : List V} (h : H a = some (.tup xs)) : SqK H true a xs := h
theorem Inv.sqK {c : Bool} {a : Addr} {xs : List V} (I : Inv X pins σ H s) (h : SqK H c a xs) : ∃ its : List Value, Vals xs its ∧ IsSq s.heap c a its.toArray := by
  cases c with
  | true =>
    obtain ⟨its, r, p, _⟩ := I.tuple (SqT.of h)
    exact ⟨its, r, (show s.heap.IsTuple a its.toArray from p)⟩
  | false =>
    obtain ⟨its, r, p, _⟩ := I.list (SqL.of h)
    exact ⟨its, r, p.isList⟩
noncomputable def Itz (c d : Bool) (a b : Addr) : It := ⟨fun i H => ∃ xs ys x y, SqK H c a xs ∧ SqK H d b ys ∧ xs[i]? = some x ∧ ys[i]? = some y,
  fun i H v H' => ∃ p, H p = none ∧ v = .ref p ∧ ∀ xs ys, SqK H c a xs → SqK H d b ys → ∃ x y, xs[i]? = some x ∧ ys[i]? = some y ∧ H' = upd H p (.tup [x, y]),
  fun i H => ∃ xs ys, SqK H c a xs ∧ SqK H d b ys ∧ (xs[i]? = none ∨ ys[i]? = none)⟩
noncomputable def Itk (h : Heap) (c : Bool) (i l : Addr) (k : Nat) : Prop := if c = true then h.IsTupleIter i l k else h.IsListIter i l k
theorem Itk.at {h h' : Heap} {c : Bool} {i l : Addr} {k : Nat} (x : Itk h c i l k) (hi : ∀ o, h.get? i = some o → h'.get? i = some o) : Itk h' c i l k := by
  cases c with
  | true => exact (show h.IsTupleIter i l k from x).at hi
  | false => exact (show h.IsListIter i l k from x).at hi
theorem Itk.obj {h : Heap} {c : Bool} {i l : Addr} {k : Nat} (x : Itk h c i l k) : ∃ o, h.get? i = some o ∧ ∀ v, o.data ≠ .cell v := by
  cases c with
  | true => obtain ⟨o, e, _, d⟩ := (show h.IsTupleIter i l k from x); exact ⟨o, e, fun v z => by rw [d] at z; cases z⟩
  | false => obtain ⟨o, e, _, d⟩ := (show h.IsListIter i l k from x); exact ⟨o, e, fun v z => by rw [d] at z; cases z⟩
theorem Itk.q {h : Heap} {c : Bool} {i l : Addr} {k : Nat} {xs : Array Value} (x : Itk h c i l k) (q : IsSq h c l xs) : Itq h i l k xs := by
  cases c with
  | true => exact .inr ⟨x, q⟩
  | false => exact .inl ⟨x, q⟩
theorem two_cls {h : Heap} {l : Addr} {xs ys : Array Value} (p : h.IsTuple l xs) (q : h.IsList l ys) : False := by
  obtain ⟨o, e, c1, _⟩ := p
  obtain ⟨o', e', c2, _⟩ := q
  rw [e] at e'; cases e'
  rw [c1] at c2
  injection c2 with c2
  exact absurd c2 (by decide)
theorem Itq.k {h : Heap} {c : Bool} {i l : Addr} {k : Nat} {xs : Array Value} (x : Itq h i l k xs) (q : IsSq h c l xs) : Itk h c i l k := by
  rcases x with ⟨x1, x2⟩ | ⟨x1, x2⟩
  · cases c with
    | false => exact x1
    | true => exact (two_cls (show h.IsTuple l xs from q) x2).elim
  · cases c with
    | true => exact x1
    | false => exact (two_cls x2 (show h.IsList l xs from q)).elim
theorem IsSq.at {h h' : Heap} {c : Bool} {l : Addr} {xs : Array Value} (x : IsSq h c l xs) (hl : ∀ o, h.get? l = some o → h'.get? l = some o) : IsSq h' c l xs := by
  cases c with
  | true => exact (show h.IsTuple l xs from x).at hl
  | false => exact (show h.IsList l xs from x).at hl
noncomputable def ZTn (c d : Bool) (z TI TO i1 i2 a b : Addr) (i : Nat) (h : Heap) : Prop := IsZip h z TI TO .none ∧ IsPair h TI (.ref i1) (.ref i2) ∧ (∃ u v, IsPair h TO u v) ∧ Itk h c i1 a i ∧ Itk h d i2 b i
structure ZAp (z TI TO i1 i2 : Addr) : Prop where
  h1 : TI ≠ z
  h2 : TO ≠ z
  h3 : i1 ≠ z
  h4 : i2 ≠ z
  h5 : TI ≠ TO
  h6 : TI ≠ i1
  h7 : TI ≠ i2
  h8 : TO ≠ i1
  h9 : TO ≠ i2
  h10 : i1 ≠ i2
theorem ZAp.apart {z TI TO i1 i2 a b : Addr} (p : ZAp z TI TO i1 i2) (ha : ∀ e ∈ [z, TI, TO, i1, i2], a ≠ e) (hb : ∀ e ∈ [z, TI, TO, i1, i2], b ≠ e) : ZipApart z TI TO i1 i2 a b :=
  ⟨p.h1, p.h2, p.h3, p.h4, p.h5, p.h6, p.h7, p.h8, p.h9, p.h10, ha _ (by simp), ha _ (by simp), ha _ (by simp), ha _ (by simp), hb _ (by simp), hb _ (by simp), hb _ (by simp), hb _ (by simp)⟩
theorem turn_zip {P : Program} {w : World} {K : PySem.W.Frag} {elts : List Expr} {k : Nat} {pos : Pos} {c d : Bool} {z TI TO i1 i2 a b : Addr} (ap : ZAp z TI TO i1 i2) :
    Turn P w K (.Tuple elts k pos) (Itz c d a b) [z, TI, TO, i1, i2] z (ZTn c d z TI TO i1 i2 a b) where
  mem := List.mem_cons_self ..
  obj := fun i h st e he => by
    obtain ⟨hz, hTI, ⟨u, v, hTO⟩, k1, k2⟩ := st
    simp only [List.mem_cons, List.not_mem_nil, or_false] at he
    rcases he with rfl | rfl | rfl | rfl | rfl
    · exact ⟨_, hz, fun v q => by cases q⟩
    · exact ⟨_, hTI, fun v q => by cases q⟩
    · exact ⟨_, hTO, fun v q => by cases q⟩
    · exact k1.obj
    · exact k2.obj
  keep := fun i h h' st kp => by
    obtain ⟨hz, hTI, ⟨u, v, hTO⟩, k1, k2⟩ := st
    exact ⟨kp z (by simp) _ hz, kp TI (by simp) _ hTI, ⟨u, v, kp TO (by simp) _ hTO⟩, k1.at fun o q => kp i1 (by simp) o q, k2.at fun o q => kp i2 (by simp) o q⟩
  item := by
    intro X hP hw hK hc i pins s σ H E I hf st hg
    subst hP hw hK
    obtain ⟨xs, ys, x, y, ha, hb, hx, hy⟩ := hg
    obtain ⟨hz, hTI, ⟨u, v, hTO⟩, k1, k2⟩ := st
    obtain ⟨its, rv, q1⟩ := I.sqK ha
    obtain ⟨jts, rw', q2⟩ := I.sqK hb
    obtain ⟨u1, hu1, ru1⟩ := rv.get hx
    obtain ⟨u2, hu2, ru2⟩ := rw'.get hy
    have na : ∀ e ∈ [z, TI, TO, i1, i2], a ≠ e := fun e he => ha.ne (hf e he).1
    have nb : ∀ e ∈ [z, TI, TO, i1, i2], b ≠ e := fun e he => hb.ne (hf e he).1
    have D := ap.apart na nb
    have hT : s.TypeIs (.ref z) "zip" := ⟨_, hz, rfl⟩
    have step : wpAny (model X.prog X.w) X.A (pyNext (.ref z)) (fun r s1 => ∃ h', r = some (.ref s.heap.objs.size) ∧ s1 = { s with heap := h' } ∧ IsZip h' z TI TO (rawInt s.heap.objs.size) ∧ IsPair h' TO u1 u2 ∧ Itq h' i1 a (i + 1) its.toArray ∧ Itq h' i2 b (i + 1) jts.toArray ∧ IsPair h' s.heap.objs.size u1 u2 ∧ ∀ c o, c ≠ z → c ≠ TO → c ≠ i1 → c ≠ i2 → s.heap.get? c = some o → h'.get? c = some o) E s := by
      unfold pyNext
      exact wpAny_bind (wpAny_attempt (wpAny_callSpecial?_slot (name := Str.ofString "__next__") hT F.slot_zip_next (wpAny_call_entry F.slot_zip_next hT F.entry_zip_next (zq_item D (na _ (by simp)) (nb _ (by simp)) hz hTI hTO (k1.q q1) (k2.q q2) (by simpa using hu1) (by simpa using hu2) fun h' a1 a2 a3 a4 a5 a6 a7 => wpAny_pure ⟨h', rfl, rfl, a1, a2, a3, a4, a5, a7⟩) (F.args_zip_next_1 _))))
    refine thn step fun r s1 ⟨h', e1, e2, a1, a2, a3, a4, a5, a7⟩ => ?_
    subst e1 e2
    refine ⟨_, rfl, wpAny_letOwnedTupleGo_zip a1 fun h2 b1 b2 => ?_⟩
    have hn : H s.heap.objs.size = none := I.hok.fresh (Nat.le_refl _)
    have zlt : z < s.heap.objs.size := Heap.lt_size hz
    have up : ∀ c o, c ∉ [z, TO, i1, i2] → s.heap.get? c = some o → h2.get? c = some o := fun c o hc' q => by
      simp only [List.mem_cons, List.not_mem_nil, or_false, not_or] at hc'
      exact b2.extBut _ _ hc'.1 (a7 c o hc'.1 hc'.2.1 hc'.2.2.1 hc'.2.2.2 q)
    have I1 : Inv X pins σ H { s with heap := h2, toks := s.toks } := I.turnedL (ch := [z, TO, i1, i2]) up fun e he => hf e (by
      simp only [List.mem_cons, List.not_mem_nil, or_false] at he ⊢
      rcases he with rfl | rfl | rfl | rfl <;> simp)
    have hTd : TupD h2 s.heap.objs.size [u1, u2].toArray := ⟨0, b2.extBut _ _ (Nat.ne_of_gt zlt) a5⟩
    have I2 := I1.trackT (ys := [x, y]) (.cons ru1 (.cons ru2 .nil)) (by show 2 ≤ sizeLine; decide) hTd (I.fpOk (Nat.le_refl _) hn)
    have q1' : IsSq h' c a its.toArray := q1.at fun o q => a7 _ o (na _ (by simp)) (na _ (by simp)) (na _ (by simp)) (na _ (by simp)) q
    have q2' : IsSq h' d b jts.toArray := q2.at fun o q => a7 _ o (nb _ (by simp)) (nb _ (by simp)) (nb _ (by simp)) (nb _ (by simp)) q
    refine ⟨.ref s.heap.objs.size, _, I2, rfl, ⟨_, hn, rfl, fun xs' ys' ha' hb' => ?_⟩, ⟨b1, b2.extBut _ _ ap.h1 (a7 _ _ ap.h1 ap.h5 ap.h6 ap.h7 hTI), ⟨_, _, b2.extBut _ _ ap.h2 a2⟩, (a3.k q1').at fun o q => b2.extBut _ _ ap.h3 q, (a4.k q2').at fun o q => b2.extBut _ _ ap.h4 q⟩, fun e he => ?_⟩
    · cases ha.inj ha'
      cases hb.inj hb'
      exact ⟨x, y, hx, hy, rfl⟩
    · have le : e < s.heap.objs.size := by
        obtain ⟨o, q, _⟩ : ∃ o, s.heap.get? e = some o ∧ True := by
          simp only [List.mem_cons, List.not_mem_nil, or_false] at he
          rcases he with rfl | rfl | rfl | rfl | rfl
          · exact ⟨_, hz, trivial⟩
          · exact ⟨_, hTI, trivial⟩
          · exact ⟨_, hTO, trivial⟩
          · obtain ⟨o, q, _⟩ := k1.obj; exact ⟨o, q, trivial⟩
          · obtain ⟨o, q, _⟩ := k2.obj; exact ⟨o, q, trivial⟩
        exact Heap.lt_size q
      rw [upd_ne (Nat.ne_of_lt le)]
      exact (hf e he).1
  done := by
    intro X hP hw hK hc i pins s σ H E I hf st hg
    subst hP hw hK
    obtain ⟨xs, ys, ha, hb, hend⟩ := hg
    obtain ⟨hz, hTI, ⟨u, v, hTO⟩, k1, k2⟩ := st
    obtain ⟨its, rv, q1⟩ := I.sqK ha
    obtain ⟨jts, rw', q2⟩ := I.sqK hb
    have na : ∀ e ∈ [z, TI, TO, i1, i2], a ≠ e := fun e he => ha.ne (hf e he).1
    have nb : ∀ e ∈ [z, TI, TO, i1, i2], b ≠ e := fun e he => hb.ne (hf e he).1
    have D := ap.apart na nb
    have hT : s.TypeIs (.ref z) "zip" := ⟨_, hz, rfl⟩
    have e1 : its.toArray[i]? = none ∨ jts.toArray[i]? = none := by
      have l1 := rv.length
      have l2 := rw'.length
      rcases hend with h | h
      · left
        rw [List.getElem?_eq_none_iff] at h
        simp; omega
      · right
        rw [List.getElem?_eq_none_iff] at h
        simp; omega
    unfold pyNext
    refine wpAny_bind (wpAny_attempt (wpAny_callSpecial?_slot (name := Str.ofString "__next__") hT F.slot_zip_next (wpAny_call_entry F.slot_zip_next hT F.entry_zip_next (zq_end (I.ok.hd hc) D hz hTI hTO (k1.q q1) (k2.q q2) e1 fun h' e hk he => ?_) (F.args_zip_next_1 _))))
    obtain ⟨o, ho, hcl⟩ := he
    refine wpAny_bind (wpAny_isInstance (T := "StopIteration") (b := true) ⟨o, ho, hcl⟩ isSubtype_stop (wpAny_pure ⟨rfl, ?_⟩))
    refine I.turnedL (t' := s.toks) (ch := [z, TO, i1, i2]) (fun c o hc' q => ?_) fun e he => hf e (by
      simp only [List.mem_cons, List.not_mem_nil, or_false] at he ⊢
      rcases he with rfl | rfl | rfl | rfl <;> simp)
    simp only [List.mem_cons, List.not_mem_nil, or_false, not_or] at hc'
    exact hk c o hc'.1 hc'.2.1 hc'.2.2.1 hc'.2.2.2 q
  self := fun A i s Q E st h => wpAny_pyIter_zip st.1 h
theorem boot_zip' : bootBuiltins "zip" = some (.type "zip") := by decide +kernel
noncomputable def iZip (ta : TA) : TI := fun σ H R => ta σ H fun vs H1 => match vs with
  | [.ref a, .ref b] => ∃ c d xs ys, SqK H1 c a xs ∧ SqK H1 d b ys ∧ R (Itz c d a b) H1
  | _ => False
theorem pi_zip {l m : Expr} {ta : TA} {elts : List Expr} {k : Nat} {tp p pos : Pos} (hg : Gl X "zip") (hm : X.mg "zip" = none) (ha : PA X [l, m] ta) (hs : starEach [l, m] X.env = [(false, eval l X.env), (false, eval m X.env)] := by rfl) (hs2 : starEach [m] X.env = [(false, eval m X.env)] := by rfl) :
    PI X (.Tuple elts k tp) (.Call (.Name "zip" p) [l, m] [] pos) (iZip ta) := by
  intro pins s σ H R I h
  refine Call_ (ld_blt I hg hm boot_zip' (PyProof.Rows.callWith_type1 (thn (ha pos pins s σ H _ I h) fun us s1 ⟨vs, H1, I1, r1, q1⟩ => ?_) (by rw [hs, hs2]) (by rw [hs2]; rfl)))
  dsimp only at q1
  split at q1
  · rename_i a b
    obtain ⟨c, d, xs, ys, ka, kb, q⟩ := q1
    obtain ⟨u, u', rfl, rx, ry⟩ := vals2 r1
    cases rx
    cases ry
    obtain ⟨its, rv, p1⟩ := I1.sqK ka
    obtain ⟨jts, rv', p2⟩ := I1.sqK kb
    refine call_zq p1 p2 fun h' hz hTI hTO j1 j2 hk => ?_
    have I2 : Inv X pins σ H1 { s1 with heap := h' } := I1.kept (t' := s1.toks) hk
    have ap : ZAp (s1.heap.objs.size + 4) (s1.heap.objs.size + 2) (s1.heap.objs.size + 3) s1.heap.objs.size (s1.heap.objs.size + 1) := by
      have e : ∀ n m : Nat, n ≠ m → s1.heap.objs.size + n ≠ s1.heap.objs.size + m := fun n m h z => h (Nat.add_left_cancel z)
      exact ⟨e 2 4 (by decide), e 3 4 (by decide), e 0 4 (by decide), e 1 4 (by decide), e 2 3 (by decide), e 2 0 (by decide), e 2 1 (by decide), e 3 0 (by decide), e 3 1 (by decide), e 0 1 (by decide)⟩
    refine wpAny_pyIter_zip (s := { s1 with heap := h' }) hz ⟨s1.heap.objs.size + 4, _, _, _, H1, rfl, I2, turn_zip ap, ⟨hz, hTI, ⟨_, _, hTO⟩, j1.k (p1.at fun o q => hk _ o q), j2.k (p2.at fun o q => hk _ o q)⟩, fun e he => ?_, q⟩
    have hb' : s1.heap.objs.size ≤ e := by
      simp only [List.mem_cons, List.not_mem_nil, or_false] at he
      rcases he with rfl | rfl | rfl | rfl | rfl
      · exact Nat.le_add_right _ 4
      · exact Nat.le_add_right _ 2
      · exact Nat.le_add_right _ 3
      · exact Nat.le_refl _
      · exact Nat.le_add_right _ 1
    exact I1.fpOk hb' (I1.hok.fresh hb')
  · exact q1.elim
theorem zi_zip {l m : Expr} {ta : TA} {elts : List Expr} {k : Nat} {tp p pos : Pos} (hg : Gl X "zip") (hm : X.mg "zip" = none) (ha : ZA X [l, m] ta) (hs : starEach [l, m] X.env = [(false, eval l X.env), (false, eval m X.env)] := by rfl) (hs2 : starEach [m] X.env = [(false, eval m X.env)] := by rfl) :
    ZI X (.Tuple elts k tp) (.Call (.Name "zip" p) [l, m] [] pos) (iZip ta) := by with_unfolding_all exact pi_zip hg hm ha hs hs2
theorem for_zip {c d : Bool} {a b : Addr} {xs ys : List V} {g : TG} {tb : TS} {D : Ends} {σ : St} {H : Hp} (Pv : Nat → St → Hp → Prop) (h0 : Pv 0 σ H) (hl : ∀ i σ H, i ≤ min xs.length ys.length → Pv i σ H → SqK H c a xs ∧ SqK H d b ys)
    (hs : ∀ i x y σ H p, xs[i]? = some x → ys[i]? = some y → Pv i σ H → H p = none → g (.ref p) σ (upd H p (.tup [x, y])) fun σ2 H2 => tb { D with nx := Pv (i + 1), ct := Pv (i + 1), bk := D.nx } σ2 H2) (hd : ∀ σ H, Pv (min xs.length ys.length) σ H → D.nx σ H) :
    ∃ W : Nat → Nat → St → Hp → Prop, (∃ m, W 0 m σ H) ∧ ∀ i m σ H, W i m σ H →
      ((Itz c d a b).stop i H ∧ D.nx σ H) ∨ ((Itz c d a b).go i H ∧ ∃ N : St → Hp → Prop, (∀ σ' H', N σ' H' → ∃ m', m' < m ∧ W (i + 1) m' σ' H') ∧ ∀ x H', (Itz c d a b).yld i H x H' → g x σ H' fun σ2 H2 => tb { D with nx := N, ct := N, bk := D.nx } σ2 H2) := by
  refine ⟨fun i m σ H => m = min xs.length ys.length - i ∧ i ≤ min xs.length ys.length ∧ Pv i σ H, ⟨_, rfl, Nat.zero_le _, h0⟩, ?_⟩
  rintro i m σ H ⟨rfl, hi, p⟩
  obtain ⟨q1, q2⟩ := hl i σ H hi p
  by_cases hlt : i < min xs.length ys.length
  · have l1 : i < xs.length := by omega
    have l2 : i < ys.length := by omega
    refine .inr ⟨⟨xs, ys, xs[i], ys[i], q1, q2, by simp [l1], by simp [l2]⟩, Pv (i + 1), fun σ' H' p' => ⟨_, by omega, rfl, hlt, p'⟩, fun x H' y => ?_⟩
    obtain ⟨pp, hn, rfl, hy⟩ := y
    obtain ⟨x1, y1, e1, e2, rfl⟩ := hy xs ys q1 q2
    exact hs i x1 y1 σ H pp e1 e2 p hn
  · have e : i = min xs.length ys.length := by omega
    refine .inl ⟨⟨xs, ys, q1, q2, ?_⟩, hd σ H (e ▸ p)⟩
    by_cases l1 : i < xs.length
    · right; rw [List.getElem?_eq_none_iff]; omega
    · left; rw [List.getElem?_eq_none_iff]; omega
theorem cmp_zip {nv : List Str} {ix : List (Str × Nat)} {σ : St} {g : TG} {ti : TT} {te : TE} {Fin : List V → Hp → Prop} {c d : Bool} {a b : Addr} {xs ys : List V} (Pv : Nat → List V → Hp → Prop) (h0 : Pv 0 [] H) (hl : ∀ i zs H, i ≤ min xs.length ys.length → Pv i zs H → SqK H c a xs ∧ SqK H d b ys)
    (hn : ∀ i zs H, i < min xs.length ys.length → Pv i zs H → zs.length < sizeLine)
    (hs : ∀ i x y zs H p, xs[i]? = some x → ys[i]? = some y → Pv i zs H → H p = none → g (.ref p) (st0 nv ix σ) (upd H p (.tup [x, y])) fun σ2 H2 => ti σ2 H2 fun b H3 => if b = true then te σ2 H3 fun y H4 => Pv (i + 1) (zs ++ [y]) H4 else Pv (i + 1) zs H3)
    (hd : ∀ zs H, Pv (min xs.length ys.length) zs H → Fin zs H) : CmpW nv ix g ti te σ (Itz c d a b) Fin H := by
  refine ⟨fun i m zs H => m = min xs.length ys.length - i ∧ i ≤ min xs.length ys.length ∧ Pv i zs H, ⟨_, rfl, Nat.zero_le _, h0⟩, ?_⟩
  rintro i m zs H ⟨rfl, hi, p⟩
  obtain ⟨q1, q2⟩ := hl i zs H hi p
  by_cases hlt : i < min xs.length ys.length
  · have l1 : i < xs.length := by omega
    have l2 : i < ys.length := by omega
    refine .inr ⟨⟨xs, ys, xs[i], ys[i], q1, q2, by simp [l1], by simp [l2]⟩, hn i zs H hlt p, Pv (i + 1), fun σ' H' p' => ⟨_, by omega, rfl, hlt, p'⟩, fun x H' y => ?_⟩
    obtain ⟨pp, hn', rfl, hy⟩ := y
    obtain ⟨x1, y1, e1, e2, rfl⟩ := hy xs ys q1 q2
    exact hs i x1 y1 zs H pp e1 e2 p hn'
  · have e : i = min xs.length ys.length := by omega
    refine .inl ⟨⟨xs, ys, q1, q2, ?_⟩, hd zs H (e ▸ p)⟩
    by_cases l1 : i < xs.length
    · right; rw [List.getElem?_eq_none_iff]; omega
    · left; rw [List.getElem?_eq_none_iff]; omega
theorem kpg_two {K : PySem.W.Frag} {x y : Str} : KpG [x, y] (gTup K 2 (gCons (gName 0) (gCons (gName 1) gNil))) := fun fr v H Q h => by
  obtain ⟨a, xs, e, hq, hl, v1, r1, e1, v2, r2, e2, e3, q⟩ := h
  refine ⟨a, xs, e, hq, hl, v1, r1, e1, v2, r2, e2, e3, ⟨by simp, fun i w e => ?_⟩, q⟩
  match i, e with
  | 0, e => cases e
  | 1, e => cases e
  | i + 2, e => exact e
end
end L2
set_option Elab.async false
set_option linter.all false
set_option maxRecDepth 100000
set_option maxHeartbeats 4000000
namespace SRV
open PySem
open PyProof.Rows hiding K SortedTo K_bubble K_mirror K_congr K_mirror_equal
section
variable {prog : Program} {w : World} {A : Around} {E : Value → Shared → Prop}
end
end SRV
set_option Elab.async false
set_option linter.all false
set_option maxRecDepth 100000
set_option maxHeartbeats 4000000
namespace SRV
open PySem
open PyProof.Rows hiding K SortedTo K_bubble K_mirror K_congr K_mirror_equal
end SRV
set_option Elab.async false
set_option linter.all false
set_option maxRecDepth 100000
set_option maxHeartbeats 4000000
namespace SRV
open PySem
open PyProof.Rows hiding K SortedTo K_bubble K_mirror K_congr K_mirror_equal
section
variable {A B : List Keyed} {o : List Keyed} {ia ib : Nat}
end
section
variable {prog : Program} {w : World} {A : Around} {E : Value → Shared → Prop}
end
end SRV
set_option Elab.async false
set_option linter.all false
set_option maxRecDepth 100000
set_option maxHeartbeats 4000000
namespace SRV
open PySem
open PyProof.Rows hiding K SortedTo K_bubble K_mirror K_congr K_mirror_equal
section
variable {α β γ δ ε ζ κ μ : Type} {A : Prop} {c : κ} {G : κ → Prop}
variable {ω : Type} {g : μ → ω → κ} {R : μ → Prop}
end
section
variable {prog : Program} {w : World} {A : Around} {E : Value → Shared → Prop}
end
end SRV
set_option Elab.async false
set_option linter.all false
set_option maxRecDepth 100000
set_option maxHeartbeats 4000000
namespace SRV
open PySem
open PyProof.Rows hiding K SortedTo K_bubble K_mirror K_congr K_mirror_equal
section
variable {xa xb ou : Array Keyed} {na nb : Nat}
end
end SRV
set_option Elab.async false
set_option linter.all false
set_option maxRecDepth 100000
set_option maxHeartbeats 4000000
namespace SRV
open PySem
open PyProof.Rows hiding K SortedTo K_bubble K_mirror K_congr K_mirror_equal
section
variable {prog : Program} {w : World} {A : Around} {E : Value → Shared → Prop}
end
end SRV
set_option Elab.async false
set_option linter.all false
set_option maxRecDepth 100000
set_option maxHeartbeats 4000000
namespace SRV
open PySem
open PyProof.Rows hiding K SortedTo K_bubble K_mirror K_congr K_mirror_equal
end SRV
set_option Elab.async false
set_option linter.all false
set_option maxRecDepth 100000
set_option maxHeartbeats 4000000
namespace SRV
open PySem
open PyProof.Rows hiding K SortedTo K_bubble K_mirror K_congr K_mirror_equal
section
variable {prog : Program} {w : World} {A : Around} {E : Value → Shared → Prop}
end
end SRV
set_option Elab.async false
set_option linter.all false
set_option maxRecDepth 100000
set_option maxHeartbeats 4000000
namespace SRV
open PySem
open PyProof.Rows hiding K SortedTo K_bubble K_mirror K_congr K_mirror_equal
section
variable {prog : Program} {w : World} {A : Around} {E : Value → Shared → Prop} {a₀ : Array Keyed} {lo : Nat} {st₀ : SortSt}
end
end SRV
set_option Elab.async false
set_option linter.all false
set_option maxRecDepth 100000
set_option maxHeartbeats 4000000
namespace SRV
open PySem
open PyProof.Rows hiding K SortedTo K_bubble K_mirror K_congr K_mirror_equal
section
variable {prog : Program} {w : World} {A : Around} {E : Value → Shared → Prop} {a₀ : Array Keyed} {lo : Nat} {st₀ : SortSt}
end
end SRV
set_option Elab.async false
set_option linter.all false
set_option maxRecDepth 100000
set_option maxHeartbeats 4000000
namespace SRV
open PySem
open PyProof.Rows hiding K SortedTo K_bubble K_mirror K_congr K_mirror_equal
section
variable {prog : Program} {w : World} {A : Around} {E : Value → Shared → Prop} {a₀ : Array Keyed}
end
end SRV
set_option Elab.async false
set_option linter.all false
set_option maxRecDepth 100000
set_option maxHeartbeats 4000000
namespace SRV
open PySem
open PyProof.Rows hiding K SortedTo K_bubble K_mirror K_congr K_mirror_equal
section
variable {prog : Program} {w : World} {A : Around} {E : Value → Shared → Prop} {a₀ : Array Keyed}
end
end SRV
set_option Elab.async false
set_option linter.all false
set_option maxRecDepth 100000
set_option maxHeartbeats 4000000
namespace SRT
open PySem PyProof.Rows
section
variable {prog : Program} {w : World} {A : Around} {E : Value → Shared → Prop} {s : Shared}
end
end SRT
set_option Elab.async false
set_option linter.all false
set_option maxRecDepth 100000
set_option maxHeartbeats 4000000
namespace L2
open PySem PySem.Spec PyProof.Rows
section
variable {X : Cx}
variable {e : Expr} {es : List Expr} {t : TA} {p pos : Pos}
variable {o : Expr} {to : TE} {apos cpos : Pos}
end
end L2
set_option Elab.async false
set_option linter.all false
set_option maxRecDepth 100000
set_option maxHeartbeats 4000000
namespace MXD
open PySem
section
variable {prog : Program} {w : World} {A : Around} {R : Result → Shared → Prop} {I : Addr} {fp wr : List Addr} {n : Nat} {P : Nat → Value → Prop} {St : Nat → Heap → Prop}
end
section
variable {prog : Program} {w : World} {A : Around} {E : Value → Shared → Prop} {s : Shared}
end
end MXD
namespace L2
open PySem PySem.Spec PyProof.Rows
section
variable {X : Cx}
variable {e : Expr} {es : List Expr} {t : TA} {p pos : Pos}
variable {o : Expr} {to : TE} {apos cpos : Pos}
end
end L2
set_option Elab.async false
set_option linter.all false
set_option maxRecDepth 100000
set_option maxHeartbeats 4000000
namespace L2
open PySem PySem.Spec PyProof.Rows
section
variable {X : Cx} {e : Expr} {es : List Expr} {t : TA} {p pos : Pos}
end
end L2
set_option Elab.async false
set_option linter.all false
set_option maxRecDepth 100000
set_option maxHeartbeats 4000000
namespace L2
open PySem PySem.Spec PyProof.Rows
section
variable {X : Cx} {e : Expr} {es : List Expr} {t : TA} {p pos : Pos} {o : Expr} {to : TE} {apos cpos : Pos}
noncomputable def tNo : TS := fun _ _ _ => False
theorem ps_no {st : Stmt} : PS X st tNo := fun _ _ _ _ _ _ h => h.elim
theorem zs_no {st : Stmt} : ZS X st tNo := by with_unfolding_all exact ps_no 
end
end L2
set_option Elab.async false
set_option linter.all false
set_option maxRecDepth 100000
set_option maxHeartbeats 4000000
namespace L2
open PySem PySem.Spec PyProof.Rows
section
variable {prog : Program} {w : World} {A : Around} {E : Value → Shared → Prop} {R : Result → Shared → Prop} {s : Shared}
end
section
variable {X : Cx} {nv : List Str} {ix : List (Str × Nat)} {scope : Scope} {pins : List (Addr × Obj)} {σ : St} {H : Hp} {s : Shared} {elt t1 i1 t2 i2 : Expr} {c1 c2 : List Expr} {pos : Pos}
end
end L2
set_option Elab.async false
set_option linter.all false
set_option maxRecDepth 100000
set_option maxHeartbeats 4000000
namespace L2
open PySem PySem.Spec PyProof.Rows
section
variable {X : Cx} {e v₁ v₂ : Expr} {es : List Expr} {te : TE} {pos : Pos}
end
end L2
set_option Elab.async false
set_option linter.all false
set_option maxRecDepth 100000
set_option maxHeartbeats 4000000
namespace L2
open PySem PySem.Spec PyProof.Rows
section
variable {κ : Type} [DecidableEq κ]
end
section
variable {P : Program} {w : World} {H : Hp} {h : Heap} {a : Addr}
end
section
variable {X : Cx} {pins : List (Addr × Obj)} {σ : St} {H : Hp} {s : Shared} {a : Addr} {y v : V} {u r : Value} {o : Option V} {A : Around} {E : Value → Shared → Prop}
end
section
variable {X : Cx} {pins : List (Addr × Obj)} {σ : St} {H : Hp} {s : Shared} {a : Addr} {kvs : List (Key × V)} {k : Key} {u : Value} {A : Around} {E : Value → Shared → Prop}
end
section
variable {X : Cx} {o i e value : Expr} {pos pos' tpos : Pos} {td ty tv : TE}
end
section
variable {X : Cx} {pos : Pos}
end
end L2
set_option Elab.async false
set_option linter.all false
set_option maxRecDepth 100000
set_option maxHeartbeats 4000000
namespace DCT
open PySem PyProof.Rows SRT L2
section
variable {prog : Program} {w : World} {A : Around} {E : Value → Shared → Prop} {s : Shared} {K : Type} [DecidableEq K] {knd : KeyKind prog w K}
end
end DCT
namespace L2
open PySem PySem.Spec PyProof.Rows
section
variable {X : Cx}
variable {e : Expr} {es : List Expr} {t : TA} {p pos : Pos}
end
end L2
set_option Elab.async false
set_option linter.all false
set_option maxRecDepth 100000
set_option maxHeartbeats 4000000
namespace PySem
open Sem (wp)
section
variable {prog : Program} {w : World} {A : Around} {E : Value → Shared → Prop} {K : Type} [DecidableEq K] {knd : KeyKind prog w K}
end
end PySem
namespace L2
open PySem PySem.Spec PyProof.Rows
section
variable {X : Cx}
variable {e : Expr} {es : List Expr} {t : TA} {p pos : Pos}
end
end L2
set_option Elab.async false
set_option linter.all false
set_option maxRecDepth 100000
set_option maxHeartbeats 4000000
namespace L2
open PySem PySem.Spec PyProof.Rows
section
variable {X : Cx} {pins : List (Addr × Obj)} {σ : St} {H : Hp} {s : Shared} {a : Addr} {y d : V} {u r : Value} {o : Option V} {A : Around} {E : Value → Shared → Prop}
end
section
variable {X : Cx} {o e f : Expr} {apos cpos : Pos} {td ty tx : TE}
end
end L2
set_option Elab.async false
set_option linter.all false
set_option maxRecDepth 100000
set_option maxHeartbeats 4000000
namespace L2
open PySem PySem.Spec PyProof.Rows
section
variable {X : Cx}
end
end L2
set_option Elab.async false
set_option linter.all false
set_option maxRecDepth 100000
set_option maxHeartbeats 4000000
namespace L2
open PySem PySem.Spec PyProof.Rows
section
variable {X : Cx}
variable {e : Expr} {es : List Expr} {t : TA} {p pos : Pos}
end
end L2
set_option Elab.async false
set_option linter.all false
set_option maxRecDepth 100000
set_option maxHeartbeats 4000000
namespace L2
open PySem PySem.Spec PyProof.Rows
section
variable {X : Cx}
variable {e : Expr} {es : List Expr} {t : TA} {p pos : Pos}
end
end L2
set_option Elab.async false
set_option linter.all false
set_option maxRecDepth 100000
set_option maxHeartbeats 4000000
namespace L2
open PySem PySem.Spec PyProof.Rows
section
variable {prog : Program} {w : World} {A : Around} {E : Value → Shared → Prop} {s : Shared}
variable {z TI TO i1 i2 i3 l1 l2 l3 : Addr} {k1 k2 k3 : Nat} {xs ys zs : Array Value}
end
section
variable {prog : Program} {w : World} {A : Around} {E : Value → Shared → Prop} {s : Shared}
end
section
variable {X : Cx} {pins : List (Addr × Obj)} {σ : St} {H : Hp} {s : Shared}
end
end L2
set_option Elab.async false
set_option linter.all false
set_option maxRecDepth 100000
set_option maxHeartbeats 4000000
namespace L2
open PySem PySem.Spec PyProof.Rows
section
variable {X : Cx}
variable {e : Expr} {es : List Expr} {t : TA} {p pos : Pos}
end
end L2
set_option Elab.async false
set_option linter.all false
set_option maxRecDepth 100000
set_option maxHeartbeats 4000000
namespace L2
open PySem PySem.Spec PyProof.Rows
section
variable {X : Cx} {e : Expr} {es : List Expr} {t : TA} {p pos : Pos}
end
end L2
set_option Elab.async false
set_option linter.all false
set_option maxRecDepth 100000
set_option maxHeartbeats 4000000
namespace L2
open PySem PySem.Spec PyProof.Rows
end L2
set_option Elab.async false
set_option linter.all false
set_option maxRecDepth 100000
set_option maxHeartbeats 4000000
namespace L2
open PySem PySem.Spec PyProof.Rows
section
variable {X : Cx}
variable {e : Expr} {es : List Expr} {t : TA} {p pos : Pos}
end
end L2
set_option Elab.async false
set_option linter.all false
set_option maxRecDepth 100000
set_option maxHeartbeats 4000000
namespace HT
open PySem PyProof.Rows PySem.SeqAt
variable {prog : Program} {w : World} {A : Around} {E : Value → Shared → Prop} {s : Shared}
theorem adjust_step (a m : Int) (n : Nat) (ha : 0 ≤ a) (hm : 1 ≤ m) : Builtin.Slice.sliceAdjust (some a) none m (n : Int) = (min a (n : Int), (n : Int)) := by
  have h1 : ¬ (m < 0) := by omega
  have h2 : ¬ (a < 0) := by omega
  unfold Builtin.Slice.sliceAdjust
  simp only [h1, if_false, h2]
theorem sliceApplied_step {sl : Addr} {vl vk : Value} {a m : Int} {n : Nat} {Q : Int × Int × Nat → Shared → Prop} (hs : s.heap.IsSliceOf sl vl .none vk) (pl : IsPart vl (some a)) (pk : IsPart vk (some m)) (ha : 0 ≤ a) (hm : 1 ≤ m)
    (h : Q (min a (n : Int), m, Builtin.Slice.slicePlaces (min a (n : Int)) (n : Int) m) s) : wpAny (model prog w) A (Builtin.Slice.sliceApplied (.ref sl) (pure (n : Int))) Q E s := by
  obtain ⟨os, hos, hcs, hds⟩ := id hs
  unfold Builtin.Slice.sliceApplied Builtin.Slice.sliceFields
  refine wpAny_bind (wpAny_bind (wpAny_field hos hds (x := vl) rfl (wpAny_bind (wpAny_field hos hds (x := .none) rfl (wpAny_bind (wpAny_field hos hds (x := vk) rfl (wpAny_pure ?_)))))))
  refine wpAny_bind (slicePart_ pk ?_)
  show wpAny _ _ (if (m == 0) = true then _ else _) _ _ s
  rw [if_neg (by simpa using (show m ≠ 0 by omega))]
  refine wpAny_bind (slicePart_ pl (wpAny_bind (slicePart_ .none (wpAny_bind (wpAny_pure ?_)))))
  show wpAny _ _ (match Builtin.Slice.sliceAdjust (some a) none m (n : Int) with | (lo, hi) => pure (lo, m, Builtin.Slice.slicePlaces lo hi m)) _ _ s
  rw [adjust_step a m n ha hm]
  exact wpAny_pure h
noncomputable def strd {α : Type} (xs : List α) (a m : Nat) : List α := (List.range xs.length).filterMap fun k => xs[a + k * m]?
theorem range_cut {α : Type} (f : Nat → Option α) (K : Nat) : ∀ j, (∀ k, K ≤ k → f k = none) → (List.range (K + j)).filterMap f = (List.range K).filterMap f
  | 0, _ => rfl
  | j + 1, h => by
    rw [← Nat.add_assoc, List.range_succ, List.filterMap_append, range_cut f K j h]
    simp [h (K + j) (by omega)]
theorem places_le {lo n m : Nat} (hl : lo ≤ n) (hm : 1 ≤ m) : Builtin.Slice.slicePlaces (lo : Int) (n : Int) (m : Int) ≤ n ∧ (lo < n → n ≤ lo + Builtin.Slice.slicePlaces (lo : Int) (n : Int) (m : Int) * m) ∧ (lo = n → Builtin.Slice.slicePlaces (lo : Int) (n : Int) (m : Int) = 0) := by
  unfold Builtin.Slice.slicePlaces
  rw [if_pos (show (m : Int) > 0 by omega)]
  by_cases h : (lo : Int) < (n : Int)
  · rw [if_pos h]
    have e1 : ((n : Int) - (lo : Int) - 1) = ((n - lo - 1 : Nat) : Int) := by omega
    rw [e1, ← Int.natCast_ediv]
    have e2 : ((((n - lo - 1) / m : Nat) : Int) + 1).toNat = (n - lo - 1) / m + 1 := by
      show (((((n - lo - 1) / m : Nat) : Int)) + ((1 : Nat) : Int)).toNat = _
      rw [← Int.natCast_add, Int.toNat_natCast]
    rw [e2]
    have h1 : (n - lo - 1) / m ≤ n - lo - 1 := Nat.div_le_self _ _
    have h2 := Nat.div_add_mod (n - lo - 1) m
    have h3 := Nat.mod_lt (n - lo - 1) (show m > 0 by omega)
    refine ⟨by omega, fun _ => ?_, fun e => by omega⟩
    rw [Nat.add_mul, Nat.one_mul, Nat.mul_comm]
    omega
  · rw [if_neg h]
    refine ⟨Nat.zero_le _, fun e => by omega, fun _ => rfl⟩
theorem pick_step {α : Type} (xs : Array α) (a m : Nat) (hm : 1 ≤ m) : (List.range (Builtin.Slice.slicePlaces (min (a : Int) (xs.size : Int)) (xs.size : Int) (m : Int))).filterMap (fun (k : Nat) => xs[((min (a : Int) (xs.size : Int)) + (k : Int) * (m : Int)).toNat]?) = strd xs.toList a m := by
  have e0 : min (a : Int) (xs.size : Int) = ((min a xs.size : Nat) : Int) := by omega
  rw [e0]
  have e1 : (fun (k : Nat) => xs[(((min a xs.size : Nat) : Int) + (k : Int) * (m : Int)).toNat]?) = fun k => xs[min a xs.size + k * m]? := by
    funext k
    have : (((min a xs.size : Nat) : Int) + (k : Int) * (m : Int)).toNat = min a xs.size + k * m := by rw [← Int.natCast_mul, ← Int.natCast_add, Int.toNat_natCast]
    rw [this]
  rw [e1]
  obtain ⟨p1, p2, p3⟩ := places_le (lo := min a xs.size) (n := xs.size) (m := m) (by omega) hm
  generalize Builtin.Slice.slicePlaces ((min a xs.size : Nat) : Int) (xs.size : Int) (m : Int) = K at p1 p2 p3
  unfold strd
  rw [Array.length_toList]
  have e2 : (fun k => xs[min a xs.size + k * m]?) = fun k => xs.toList[a + k * m]? := by
    funext k
    rw [Array.getElem?_toList]
    by_cases h : a ≤ xs.size
    · rw [Nat.min_eq_left h]
    · rw [Nat.min_eq_right (by omega), Array.getElem?_eq_none (by omega), Array.getElem?_eq_none (by omega)]
  rw [e2]
  have := range_cut (fun k => xs.toList[a + k * m]?) K (xs.size - K) fun k hk => by
    rw [Array.getElem?_toList]
    refine Array.getElem?_eq_none ?_
    by_cases h : a < xs.size
    · have h1 := p2 (by omega)
      have h2 : K * m ≤ k * m := Nat.mul_le_mul_right _ hk
      omega
    · omega
  rw [show K + (xs.size - K) = xs.size by omega] at this
  exact this.symm
theorem fm_congr' {α β : Type} {l : List α} {f g : α → Option β} (h : ∀ a, f a = g a) : l.filterMap f = l.filterMap g := by rw [funext h]
theorem strd_one {α : Type} : ∀ (xs : List α), (List.range xs.length).filterMap (fun k => xs[0 + k * 1]?) = xs
  | [] => rfl
  | x :: xs => by
    have ih := strd_one xs
    rw [List.length_cons, List.range_succ_eq_map, List.filterMap_cons]
    show x :: List.filterMap _ (List.map Nat.succ (List.range xs.length)) = x :: xs
    congr 1
    rw [List.filterMap_map]
    refine Eq.trans ?_ ih
    refine fm_congr' fun k => ?_
    show (x :: xs)[0 + (k + 1) * 1]? = xs[0 + k * 1]?
    rw [show 0 + (k + 1) * 1 = (0 + k * 1) + 1 by omega, List.getElem?_cons_succ]
theorem getItem_tuple_step {t sl : Addr} {items : Array Value} {vl vk : Value} {a m : Nat} {Q : Value → Shared → Prop} (ht : IsTup s.heap t items) (hs : s.heap.IsSliceOf sl vl .none vk) (pl : IsPart vl (some (a : Int))) (pk : IsPart vk (some (m : Int))) (hm : 1 ≤ m)
    (h1 : items.size = 0 ∨ (a = 0 ∧ m = 1) → Q (.ref t) s)
    (h : Q (.ref s.heap.objs.size) { s with heap := s.heap.push { cls := .type "tuple", data := .seq (strd items.toList a m).toArray } })
    (hsz : items.size ≤ sizeLine) : wpAny (model prog w) A (getItem (.ref t) (.ref sl)) Q E s := by
  have htake : sizeOk (.seq (strd items.toList a m).toArray) := by
    show (strd items.toList a m).toArray.size ≤ sizeLine
    rw [List.size_toArray]
    unfold strd
    refine Nat.le_trans (List.length_filterMap_le _ _) ?_
    rw [List.length_range, Array.length_toList]
    exact hsz
  obtain ⟨os, hos, hcs, hds⟩ := id hs
  have hTs : s.TypeIs (.ref sl) "slice" := ⟨os, hos, hcs⟩
  unfold getItem
  try with_reducible refine wpAny_holding ?_
  first | refine wpAny_bind (wpAny_pure ?_) | skip
  refine wpAny_bind (wpAny_sequenceKey ht.typeIs (by decide) ?_)
  refine wpAny_bind (wpAny_callSpecial?_slot (name := Str.ofString "__getitem__") ht.typeIs PyProof.Rows.slot_tuple_getitem
    (wpAny_call_entry PyProof.Rows.slot_tuple_getitem ht.typeIs entry_tuple_getitem ?_ (args_tuple_getitem _ _)))
  show wpAny _ _ (Builtin.Tuple.tupleItemsOf (.ref t) >>= _) _ _ s
  refine wpAny_bind (tupleItemsOf_ ht ?_)
  refine wpAny_bind (wpAny_typeOf hTs ?_)
  rw [if_pos (by decide)]
  refine wpAny_bind (sliceApplied_step hs pl pk (by omega) (by omega) ?_)
  have pick := pick_step items a m hm
  generalize hK : Builtin.Slice.slicePlaces (min (a : Int) (items.size : Int)) (items.size : Int) (m : Int) = K at pick ⊢
  by_cases hw : ((min (a : Int) (items.size : Int) == 0) && ((m : Int) == 1) && (K == items.size)) = true
  · show wpAny _ _ (if ((min (a : Int) (items.size : Int) == 0) && ((m : Int) == 1) && (K == items.size)) = true then _ else _) _ _ s
    rw [if_pos hw]
    have e : items.size = 0 ∨ (a = 0 ∧ m = 1) := by
      rw [Bool.and_eq_true, Bool.and_eq_true] at hw
      have q1 : min (a : Int) (items.size : Int) = 0 := eq_of_beq hw.1.1
      have q2 : (m : Int) = 1 := eq_of_beq hw.1.2
      omega
    refine wpAny_bind (m := Builtin.Tuple.tupleIsExact _) ?_
    unfold Builtin.Tuple.tupleIsExact
    refine wpAny_bind (wpAny_typeOf ht.typeIs (wpAny_pure ?_))
    rw [if_pos (by decide)]
    first
      | exact wpAny_bind (wpAny_rule (wpAny_pure ⟨_, rfl, wpAny_pure (h1 e)⟩))
      | exact wpAny_bind (wpAny_rule (wpAny_bind (wpAny_pure ⟨_, rfl, wpAny_pure (h1 e)⟩)))
  · show wpAny _ _ (if ((min (a : Int) (items.size : Int) == 0) && ((m : Int) == 1) && (K == items.size)) = true then _ else _) _ _ s
    rw [if_neg hw, pick]
    first
      | exact wpAny_bind (m := Builtin.Tuple.tupleExact _) (wpAny_newObj_type (wpAny_pure ⟨_, rfl, wpAny_pure h⟩) htake)
      | exact wpAny_bind (m := Builtin.Tuple.tupleExact _) (wpAny_newObj_type (wpAny_bind (wpAny_pure (wpAny_pure ⟨_, rfl, wpAny_pure h⟩))) htake)
      | exact wpAny_bind (wpAny_bind (m := Builtin.Tuple.tupleExact _) (wpAny_newObj_type (wpAny_pure (wpAny_pure ⟨_, rfl, wpAny_pure h⟩)) htake))
      | exact wpAny_bind (wpAny_bind (m := Builtin.Tuple.tupleExact _) (wpAny_newObj_type (wpAny_pure ⟨_, rfl, wpAny_pure h⟩) htake))
end HT
namespace L2
open PySem PySem.Spec PyProof.Rows
theorem Vals.pick {xs : List V} {us : List Value} (r : Vals xs us) (g : Nat → Nat) : ∀ l : List Nat, Vals (l.filterMap fun k => xs[g k]?) (l.filterMap fun k => us[g k]?)
  | [] => .nil
  | k :: l => by
    rw [List.filterMap_cons, List.filterMap_cons]
    have ih := Vals.pick r g l
    cases hx : xs[g k]? with
    | none =>
      have : us[g k]? = none := by
        rw [List.getElem?_eq_none_iff] at hx ⊢
        rw [← r.length]
        exact hx
      rw [this]
      exact ih
    | some x =>
      obtain ⟨u, hu, ru⟩ := r.get hx
      rw [hu]
      exact .cons ru ih
section
variable {X : Cx} {e lo hi : Expr} {te tl tk : TE} {pos p2 : Pos}
noncomputable def tStp (te tl tk : TE) : TE := fun σ H Q => te σ H fun x H1 => tl σ H1 fun l H2 => tk σ H2 fun m H3 => ∃ (p : Addr) (xs : List V) (a c : Nat), x = .ref p ∧ l = .int a ∧ m = .int c ∧ 1 ≤ c ∧ H3 p = some (.tup xs) ∧ ∀ r H', Same H3 H' → H' r = some (.tup (HT.strd xs a c)) → Q (.ref r) H'
theorem pe_stp (he : PE X e te) (hl : PE X lo tl) (hk : PE X hi tk) : PE X (.Subscript e (.Slice (some lo) none (some hi) p2) pos) (tStp te tl tk) := by
  intro pins s σ H Q I h
  refine Subscript_ (thn (he pins s σ H _ I h) fun v s1 ⟨x, H1, I1, r1, q1⟩ => ?_)
  refine wpAny_Slice ?_
  rw [evalPart_some]
  refine thn (hl pins s1 σ H1 _ I1 q1) fun vl s2 ⟨l, H2, I2, r2, q2⟩ => ?_
  rw [evalPart_none]
  refine wpAny_pure ?_
  rw [evalPart_some]
  refine thn (hk pins s2 σ H2 _ I2 q2) fun vk s3 ⟨m, H3, I3, r3, q3⟩ => ?_
  obtain ⟨p, xs, a, c, rfl, rfl, rfl, hc, hp, q⟩ := q3
  cases r1
  obtain ⟨t2, rfl⟩ := r2
  obtain ⟨t3, rfl⟩ := r3
  have I4 : Inv X pins σ H3 { s3 with heap := s3.heap.push { cls := .type "slice", data := .fields #[.int a t2, .none, .int c t3] } } := I3.kept (t' := s3.toks) fun b ob q => Heap.get?_push_of_some _ q
  obtain ⟨its, rv, ht, hz⟩ := I4.tuple (SqT.of hp)
  have hlen : its.toArray.size = xs.length := by rw [List.size_toArray]; exact rv.length.symm
  have rs : Vals (HT.strd xs a c) (HT.strd its a c) := by
    unfold HT.strd
    rw [← rv.length]
    exact rv.pick (fun k => a + k * c) _
  refine tail_any (ops := [.ref p, .ref s3.heap.objs.size]) ht.typeIs PyProof.Rows.slot_tuple_getitem.lookup (HT.getItem_tuple_step ht (Heap.IsSliceOf.new ..) (.int a t2) (.int c t3) hc (fun ew => ?_) ?_ (by rw [hlen]; exact hz)) (by with_unfolding_all rfl)
  · refine ⟨.ref p, H3, I4, rfl, q p H3 (Same.refl _) ?_⟩
    rw [hp]
    congr 2
    rcases ew with h0 | ⟨rfl, rfl⟩
    · have : xs = [] := by rw [← List.length_eq_zero_iff, ← hlen]; exact h0
      rw [this]
      rfl
    · exact (HT.strd_one xs).symm
  · refine ⟨.ref _, _, I4.laid (t' := s3.toks) (o := .tup (HT.strd xs a c)) (fun b ob q => Heap.get?_push_of_some _ q) (Nat.le_refl _) ?_, rfl, q _ _ (Same.new (I4.hok.fresh (Nat.le_refl _)) _) upd_same⟩
    refine ⟨?_, _, rs, TupD.new _ _⟩
    unfold HT.strd
    refine Nat.le_trans (List.length_filterMap_le _ _) ?_
    rw [List.length_range]
    exact hz
theorem ze_stp (he : ZE X e te) (hl : ZE X lo tl) (hk : ZE X hi tk) : ZE X (.Subscript e (.Slice (some lo) none (some hi) p2) pos) (tStp te tl tk) := by with_unfolding_all exact pe_stp he hl hk
end
end L2
set_option Elab.async false
set_option linter.all false
set_option maxRecDepth 100000
set_option maxHeartbeats 4000000
namespace M30
open HT
noncomputable def dv (ns : List Int) (q : Int) (m a : Nat) : Bool := (strd ns a m).all fun x => decide (x % q = 0)
theorem strd_mem {ns : List Int} {a m : Nat} {x : Int} (hm : 1 ≤ m) : x ∈ strd ns a m ↔ ∃ k, ns[a + k * m]? = some x := by
  unfold strd
  rw [List.mem_filterMap]
  constructor
  · rintro ⟨k, _, h⟩
    exact ⟨k, h⟩
  · rintro ⟨k, h⟩
    refine ⟨k, List.mem_range.mpr ?_, h⟩
    have := (List.getElem?_eq_some_iff.mp h).1
    have : k ≤ k * m := Nat.le_mul_of_pos_right _ hm
    omega
theorem dv_bad {ns : List Int} {q : Int} {m a : Nat} (hm : 1 ≤ m) (ha : a < m) : dv ns q m a = true ↔ ∀ j, ¬ M27.Bad ns (m : Int) (a : Int) q j := by
  unfold dv
  rw [List.all_eq_true]
  constructor
  · rintro h j ⟨x, hx, hj, hq⟩
    have hj' : j % m = a := by
      have : ((j % m : Nat) : Int) = (a : Int) := by rw [Int.natCast_emod]; exact hj
      exact Int.ofNat_inj.mp this
    have hm2 : x ∈ strd ns a m := (strd_mem hm).mpr ⟨j / m, by
      have := Nat.div_add_mod j m
      rw [hj', Nat.mul_comm] at this
      rw [show a + j / m * m = j by omega]
      exact hx⟩
    exact hq (of_decide_eq_true (h x hm2))
  · intro h x hx
    obtain ⟨k, hk⟩ := (strd_mem hm).mp hx
    refine decide_eq_true ?_
    by_cases hq : x % q = 0
    · exact hq
    · refine absurd ⟨x, hk, ?_, hq⟩ (h (a + k * m))
      have : ((a + k * m) % m) = a := by rw [Nat.add_mul_mod_self_right]; exact Nat.mod_eq_of_lt ha
      rw [← Int.natCast_emod, this]
end M30
set_option Elab.async false
set_option linter.all false
set_option maxRecDepth 100000
set_option exponentiation.threshold 3000
set_option maxHeartbeats 4000000
namespace K29
open PySem L2 MRow M27
section
variable {P : Program} {w : World} {K : PySem.W.Frag} {mg : Str → Option Value} {base : Heap} {f : Addr} {fd : FuncData}
theorem sc_first_not : FnScope ["row", "claim", "m", "a", "q", "place"] ["row", "claim"] (defScope (top 6)) := ⟨rfl, rfl, rfl, by decide +kernel, rfl, by decide +kernel, by decide +kernel⟩
noncomputable def sp_first : Sp := fun vs H Q _ => ∃ (r c : Addr) (ns : List Int) (m a q : Int), vs = [.ref r, .ref c] ∧ H r = some (.tup (ns.map V.int)) ∧ ns.length ≤ 1000 ∧ H c = some (.tup [.int m, .int a, .int q]) ∧ CB m a q ∧ ∀ v H', Same H H' → IsF ns m a q v → Q v H'
theorem ok_first_not (F : Fun K "first_not" "first_not" (top 6) f fd) (m_len : mg "len" = none) (m_range : mg "range" = none) : FnOk P w K mg base CX0 1 f fd ["row", "claim"] sp_first := by
  refine F.okz sc_first_not (fun vs H Q E h => ?_) (fun cdv A outer s H vs Q E hr h => ?_)
  · obtain ⟨r, c, ns, m, a, q, rfl, _⟩ := h; rfl
  obtain ⟨r, c, ns, m, a, q, rfl, hrow, hlen, hc, ⟨m1, m2, a0, a1, q1, q2⟩, fin⟩ := h
  have nd := sc_first_not.nd
  have hu := hr.units
  refine ⟨_, (zss_cons (zs_asg (zn 1) (zg_tup rfl (zgs_cons (zg_name (i := 2) nd rfl (Or.inl rfl)) (zgs_cons (zg_name (i := 3) nd rfl (Or.inl rfl)) (zgs_cons (zg_name (i := 4) nd rfl (Or.inl rfl)) zgs_nil)))))
      (zss_cons (zs_for PassesOwn.never rfl (zi_range3 rfl m_range (za_cons (zn 3) (za_cons (zcb_len rfl m_len (za_cons (zn 0) za_nil) rfl rfl) (za_cons (zn 2) za_nil)))) (zg_name (i := 5) nd rfl (Or.inl rfl)) (zss_one (zs_if (zt_cmpP (op_neD hu) (ze_op op_modP (ze_ix ix_P (zn 0) (zn 5) (fun _ _ => rfl)) (zn 4)) ze_int (nomark _)) (zss_one (zs_ret (zn 5))) zss_nil)))
      (zss_one (zs_ret ze_non)))), ?_⟩
  refine ⟨c, _, rfl, SqT.of hc, rfl, _, _, rfl, _, _, rfl, _, _, rfl, rfl, ?_⟩
  refine ⟨_, .inr hrow, ?_⟩
  refine ⟨a, (ns.length : Int), m, by rw [List.length_map], ⟨by omega, ⟨by omega, by omega⟩, small_up (by omega) (by omega) (by omega) (by omega) (by omega) (by omega)⟩, ?_⟩
  refine for_rangeS (fun i σ H' => H' = H ∧ (∀ j : Nat, (j : Int) < a + (i : Int) * m → ¬ Bad ns m a q j) ∧ ∃ p5, σ = [some (.ref r), some (.ref c), some (.int m), some (.int a), some (.int q), p5]) ⟨rfl, ?_, _, rfl⟩ ?_ ?_
  · rintro j hj ⟨x, _, e, _⟩
    have : (j : Int) < a := by simpa using hj
    rw [Int.emod_eq_of_lt (by omega) (by omega)] at e
    omega
  · rintro i σ _ hi ⟨rfl, hj, p5, rfl⟩
    have hlt := size_lt m1 hi
    have him : 0 ≤ (i : Int) * m := Int.mul_nonneg (by omega) (by omega)
    obtain ⟨p, hp⟩ : ∃ p : Nat, a + (i : Int) * m = (p : Int) := ⟨(a + (i : Int) * m).toNat, by omega⟩
    have hpl : p < ns.length := by omega
    have hcl : (p : Int) % m = a := by rw [← hp]; exact class_mod a0 a1 _
    refine ⟨_, .inr hrow, .int ns[p], atI_of hp (getI hpl), (show (0 : Int) < q by omega), ?_⟩
    refine iteB (fun c => ?_) (fun c => ?_)
    · have c' : ¬ ns[p] % q = 0 := by simpa using c
      rw [hp]
      refine fin _ _ (Same.refl _) (.inr ⟨p, hpl, rfl, ⟨ns[p], List.getElem?_eq_getElem hpl, hcl, c'⟩, fun j hjp => hj j (by omega)⟩)
    · have c' : ns[p] % q = 0 := by simpa using c
      refine ⟨rfl, next_ok m1 hp.symm hj ?_, _, rfl⟩
      rintro ⟨x, hx, _, h⟩
      rw [List.getElem?_eq_getElem hpl] at hx
      cases hx
      exact h c'
  · rintro σ _ ⟨rfl, hj, p5, rfl⟩
    refine fin _ _ (Same.refl _) (.inl ⟨rfl, fun j hB => ?_⟩)
    have hjl : j < ns.length := by obtain ⟨x, hx, _⟩ := hB; exact (List.getElem?_eq_some_iff.mp hx).1
    exact hj j (size_all m1 (by omega)) hB
end
end K29
set_option Elab.async false
set_option linter.all false
set_option maxRecDepth 100000
set_option maxHeartbeats 4000000
namespace K29
open PySem L2 MRow M27 M30
theorem strd_map (ns : List Int) (a m : Nat) : HT.strd (ns.map V.int) a m = (HT.strd ns a m).map V.int := by
  unfold HT.strd
  rw [List.length_map, List.map_filterMap]
  refine HT.fm_congr' fun k => ?_
  rw [List.getElem?_map]
noncomputable def Hold (ns : List Int) (m a q : Int) : Prop := ∀ j, ¬ Bad ns m a q j
theorem Hold.f {ns : List Int} {m a q : Int} {v : V} (h : Hold ns m a q) (hf : IsF ns m a q v) : v = .non := by
  rcases hf with ⟨rfl, _⟩ | ⟨p, _, _, hb, _⟩
  · rfl
  · exact absurd hb (h p)
noncomputable def quo (ns : List Int) (a m : Nat) (q : Int) : List Int := (HT.strd ns a m).map fun x => x / q
theorem strd_few (ns : List Int) (a m : Nat) (h : ns.length ≤ 1000) : (HT.strd ns a m).length ≤ 1000 := by
  unfold HT.strd
  refine Nat.le_trans (List.length_filterMap_le _ _) ?_
  rw [List.length_range]
  exact h
theorem quo_few (ns : List Int) (a m : Nat) (q : Int) (h : ns.length ≤ 1000) : (quo ns a m q).length ≤ 1000 := by
  unfold quo
  rw [List.length_map]
  exact strd_few ns a m h
theorem quo_back {ns : List Int} {a m : Nat} {q : Int} (hm : 1 ≤ m) (ha : a < m) (h : Hold ns m a q) : (quo ns a m q).map (· * q) = HT.strd ns a m := by
  have hd := (dv_bad (ns := ns) (q := q) hm ha).mpr h
  unfold dv at hd
  rw [List.all_eq_true] at hd
  unfold quo
  rw [List.map_map]
  refine (List.map_congr_left fun x hx => ?_).trans (List.map_id _)
  have := of_decide_eq_true (hd x hx)
  show x / q * q = x
  exact Int.ediv_mul_cancel_of_emod_eq_zero this
noncomputable def Thing (H : Hp) (x : V) : Prop := (∃ t, tyName H x = some t) ∧ ∀ c xs, x = .ref c → H c = some (.tup xs) → ∀ y ∈ xs, ∃ t, tyName H y = some t
theorem tyName_int {H : Hp} {x : V} (h : tyName H x = some "int") : ∃ i, x = .int i := by
  unfold tyName at h
  split at h
  all_goals first | (exact ⟨_, rfl⟩) | (simp at h) | skip
  · split at h <;> simp at h
theorem ty_tup {H : Hp} {x : V} {t : String} (h : tyName H x = some t) (ht : subTy t "tuple" = true) : ∃ c xs, x = .ref c ∧ H c = some (.tup xs) := by
  have ht' : t = "tuple" := by simpa [subTy] using ht
  subst ht'
  unfold tyName at h
  split at h
  all_goals first | (simp at h; done) | skip
  rename_i c
  split at h
  all_goals first | (simp at h; done) | skip
  exact ⟨c, _, rfl, by assumption⟩
section
variable {P : Program} {w : World} {K : PySem.W.Frag} {mg : Str → Option Value} {base : Heap} {f : Addr} {fd : FuncData}
theorem sc_is_whole : FnScope ["thing"] ["thing"] (defScope (top 4)) := ⟨rfl, rfl, rfl, by decide +kernel, rfl, by decide +kernel, by decide +kernel⟩
noncomputable def sp_is_whole : Sp := fun vs H Q _ => ∃ x t, vs = [x] ∧ tyName H x = some t ∧ Q (.bl (t == "int")) H
theorem int_bool {t : String} (c : subTy t "int" = true) : (!subTy t "bool") = (t == "int") := by
  unfold subTy at c ⊢
  by_cases h1 : t = "int"
  · subst h1; rfl
  · have h2 : t = "bool" := by simpa [h1] using c
    subst h2; rfl
theorem int_no {t : String} (c : subTy t "int" = false) : false = (t == "int") := by
  unfold subTy at c
  by_cases h1 : t = "int"
  · subst h1; cases c
  · simp [h1]
theorem ok_is_whole (F : Fun K "is_whole" "is_whole" (top 4) f fd) (m_bool : mg "bool" = none) (m_int : mg "int" = none) (m_isinstance : mg "isinstance" = none) : FnOk P w K mg base CX0 1 f fd ["thing"] sp_is_whole := by
  refine F.okz sc_is_whole (fun vs H Q E h => ?_) (fun cdv A outer s H vs Q E hr h => ?_)
  · obtain ⟨x, t, rfl, _⟩ := h; rfl
  obtain ⟨x, t, rfl, ht, q⟩ := h
  have nd := sc_is_whole.nd
  refine ⟨_, (zss_one (zs_ret (ze_andP (zcb_isinstance rfl m_isinstance (za_cons (zn 0) (za_cons (zty_int rfl m_int) za_nil)) rfl rfl) (ze_one (ze_notP (zcb_isinstance rfl m_isinstance (za_cons (zn 0) (za_cons (zty_bool rfl m_bool) za_nil)) rfl rfl)))))), ?_⟩
  refine ⟨t, ht, rfl, ?_⟩
  refine iteB (fun c => ?_) (fun c => ?_)
  · refine ⟨t, ht, rfl, ?_⟩
    show Q (.bl (!subTy t "bool")) H
    rw [int_bool c]; exact q
  · show Q (.bl false) H
    rw [int_no c]; exact q
theorem sc_qu : FnScope ["row", "claim", "place", "m", "a", "q"] ["row", "claim"] (defScope (top 7)) := ⟨rfl, rfl, rfl, by decide +kernel, rfl, by decide +kernel, by decide +kernel⟩
noncomputable def sp_qu : Sp := fun vs H Q _ => ∃ (r c : Addr) (ns : List Int) (m a : Nat) (q : Int), vs = [.ref r, .ref c] ∧ H r = some (.tup (ns.map V.int)) ∧ ns.length ≤ 1000 ∧ H c = some (.tup [.int m, .int a, .int q]) ∧ CB m a q ∧ Hold ns m a q ∧ ∀ t H', Same H H' → H' t = some (.tup ((quo ns a m q).map V.int)) → Q (.ref t) H'
theorem ok_qu (F : Fun K "quotients" "quotients" (top 7) f fd) (m_tuple : mg "tuple" = none) (F_first_not : FnA P w K mg base "first_not" 1 ["row", "claim"] sp_first) : FnOk P w K mg base CX0 2 f fd ["row", "claim"] sp_qu := by
  refine F.okz sc_qu (fun vs H Q E h => ?_) (fun cdv A outer s H vs Q E hr h => ?_)
  · obtain ⟨r, c, ns, m, a, q, rfl, _⟩ := h; rfl
  obtain ⟨r, c, ns, m, a, q, rfl, hrow, hlen, hc, cb, hold, fin⟩ := h
  have nd := sc_qu.nd
  have hu := hr.units
  refine ⟨_, (zss_cons (zs_set (i := 2) nd rfl (Or.inl rfl) (ze_fn F_first_not hr (by decide) rfl (za_cons (zn 0) (za_cons (zn 1) za_nil))))
      (zss_cons (zs_if (zt_cmpP op_isntP (zn 2) ze_non (nomark _)) (zss_one zs_no) zss_nil)
      (zss_cons (zs_asg (zn 1) (zg_tup rfl (zgs_cons (zg_name (i := 3) nd rfl (Or.inl rfl)) (zgs_cons (zg_name (i := 4) nd rfl (Or.inl rfl)) (zgs_cons (zg_name (i := 5) nd rfl (Or.inr rfl)) zgs_nil)))))
      (zss_one (zs_ret (zcb_tuple rfl m_tuple (za_cons (ze_comp ["number"] [("q", 5)] rfl ⟨rfl, by decide +kernel, by decide +kernel, rfl, rfl⟩ (zi_tup (ze_stp (zn 0) (zn 4) (zn 3))) kpg_name (fun _ _ _ _ => zg_name (i := 0) (show List.Nodup (["number", "q"] : List Str) by decide +kernel) rfl (Or.inl rfl)) (fun _ _ _ _ => zif_nil) (fun _ _ _ _ => (ze_op op_fdivP (zn 0) (zn 1)))) za_nil) rfl rfl)))))), ?_⟩
  refine ⟨r, c, ns, m, a, q, rfl, hrow, hlen, hc, cb, fun v H1 y1 hf => ?_⟩
  obtain rfl := hold.f hf
  have hc1 := y1 _ _ hc
  have hr1 := y1 _ _ hrow
  refine ⟨c, _, rfl, SqT.of hc1, rfl, _, _, rfl, _, _, rfl, _, _, rfl, rfl, ?_⟩
  refine ⟨r, _, a, m, rfl, rfl, rfl, by have := cb.1; omega, hr1, fun e H3 y3 he => ?_⟩
  rw [strd_map] at he
  have sl := strd_few ns a m hlen
  have eq : quo ns a m q = (HT.strd ns a m).map fun x => x / q := rfl
  generalize HT.strd ns a m = ss at he sl eq
  refine ⟨e, rfl, ⟨_, SqT.of he⟩, cmp_tup (xs := ss.map V.int) (fun k zs H' => H' = H3 ∧ zs = ((ss.take k).map fun x => x / q).map V.int) ⟨rfl, rfl⟩ ?_ ?_ ?_⟩
  · rintro k zs H' _ ⟨rfl, _⟩
    exact SqT.of he
  · rintro k z zs H' hz ⟨rfl, rfl⟩
    have hk : k < ss.length := by
      have := (List.getElem?_eq_some_iff.mp hz).1
      rw [List.length_map] at this
      exact this
    have ez : z = .int ss[k] := by rw [getI hk] at hz; exact (Option.some.inj hz).symm
    subst ez
    refine ⟨by rw [List.length_map, List.length_map, List.length_take]; exact small1000 (by omega), ?_⟩
    refine ⟨⟨by have := cb.2.2.2.2.1; omega, by have := cb.2.2.2.2.2; omega⟩, rfl, ?_⟩
    rw [List.take_succ, List.getElem?_eq_getElem hk, List.map_append, List.map_append]
    rfl
  · rintro zs H' ⟨rfl, rfl⟩ D hD
    rw [List.length_map, List.take_of_length_le (Nat.le_refl _), ← eq]
    refine ⟨_, .inl (SqL.of upd_same), fun t H4 y4 ht => ?_⟩
    exact fin t H4 (((y1.trans y3).trans (Same.new hD _)).trans y4) ht
end
end K29
set_option Elab.async false
set_option linter.all false
set_option maxRecDepth 100000
set_option maxHeartbeats 4000000
namespace K29
open PySem L2 MRow M27 M30
theorem ty_same {H H' : Hp} (y : Same H H') {x : V} {t : String} (h : tyName H x = some t) : tyName H' x = some t := by
  unfold tyName at h ⊢
  split at h
  all_goals first | exact h | skip
  · rename_i a
    cases e : H a with
    | none => rw [e] at h; cases h
    | some o => rw [e] at h; rw [y _ _ e]; exact h
theorem ty_tupN {H : Hp} {a : Addr} {xs : List V} (e : H a = some (.tup xs)) : tyName H (.ref a) = some "tuple" := by unfold tyName; simp only [e]
noncomputable def Due (H : Hp) (ns : List Int) (m a : Nat) (q : Int) (x : V) : Prop := Hold ns m a q ∧ ∃ t, x = .ref t ∧ H t = some (.tup ((quo ns a m q).map V.int))
noncomputable def eqv (xs : List V) (qs : List Int) (i : Nat) : List Bool := ((xs.zip qs).take i).map fun p => decide (p.1 = V.int p.2)
theorem eqv_all : ∀ {xs : List V} {qs : List Int}, xs.length = qs.length → ((((xs.zip qs).map fun p => decide (p.1 = V.int p.2)).all id = true) ↔ xs = qs.map V.int)
  | [], [], _ => by simp
  | [], _ :: _, h => by cases h
  | _ :: _, [], h => by cases h
  | x :: xs, y :: ys, h => by
    have ih := eqv_all (xs := xs) (qs := ys) (by simpa using h)
    rw [List.zip_cons_cons, List.map_cons, List.all_cons, Bool.and_eq_true, ih]
    simp
theorem Due.no {H : Hp} {ns : List Int} {m a : Nat} {q : Int} {x : V} {t : String} (h : tyName H x = some t) (c : subTy t "tuple" = false) : ¬ Due H ns m a q x := by
  rintro ⟨_, b, rfl, e⟩
  have := ty_tupN e
  rw [h] at this
  cases this
  exact absurd c (by decide)
theorem Due.tup {H : Hp} {ns : List Int} {m a : Nat} {q : Int} {b : Addr} {xs : List V} (e : H b = some (.tup xs)) : Due H ns m a q (.ref b) ↔ Hold ns m a q ∧ xs = (quo ns a m q).map V.int := by
  constructor
  · rintro ⟨h, b', z, e'⟩
    cases z
    rw [e] at e'
    cases e'
    exact ⟨h, rfl⟩
  · rintro ⟨h, rfl⟩
    exact ⟨h, b, rfl, e⟩
section
variable {P : Program} {w : World} {K : PySem.W.Frag} {mg : Str → Option Value} {base : Heap} {f : Addr} {fd : FuncData}
theorem sc_sc : FnScope ["row", "claim", "thing", "asked_for"] ["row", "claim", "thing"] (defScope (top 9)) := ⟨rfl, rfl, rfl, by decide +kernel, rfl, by decide +kernel, by decide +kernel⟩
noncomputable def sp_sc : Sp := fun vs H Q _ => ∃ (r c : Addr) (x : V) (ns : List Int) (m a : Nat) (q : Int), vs = [.ref r, .ref c, x] ∧ H r = some (.tup (ns.map V.int)) ∧ ns.length ≤ 1000 ∧ H c = some (.tup [.int m, .int a, .int q]) ∧ CB m a q ∧ Thing H x ∧ ∀ b H', Same H H' → (b = true ↔ Due H ns m a q x) → Q (.bl b) H'
theorem ok_sc (F : Fun K "shows_claim" "shows_claim" (top 9) f fd) (m_all : mg "all" = none) (m_isinstance : mg "isinstance" = none) (m_len : mg "len" = none) (m_tuple : mg "tuple" = none) (m_zip : mg "zip" = none) (F_first_not : FnA P w K mg base "first_not" 1 ["row", "claim"] sp_first) (F_is_whole : FnA P w K mg base "is_whole" 1 ["thing"] sp_is_whole) (F_quotients : FnA P w K mg base "quotients" 2 ["row", "claim"] sp_qu) : FnOk P w K mg base CX0 3 f fd ["row", "claim", "thing"] sp_sc := by
  refine F.okz sc_sc (fun vs H Q E h => ?_) (fun cdv A outer s H vs Q E hr h => ?_)
  · obtain ⟨r, c, x, ns, m, a, q, rfl, _⟩ := h; rfl
  obtain ⟨r, c, x, ns, m, a, q, rfl, hrow, hlen, hc, cb, hx, fin⟩ := h
  have nd := sc_sc.nd
  have hu := hr.units
  refine ⟨_, (zss_cons (zs_if (zt_cmpP op_isntP (ze_fn F_first_not hr (by decide) rfl (za_cons (zn 0) (za_cons (zn 1) za_nil))) ze_non (nomark _)) (zss_one (zs_ret ze_bl)) zss_nil)
      (zss_cons (zs_set (i := 3) nd rfl (Or.inl rfl) (ze_fn F_quotients hr (by decide) rfl (za_cons (zn 0) (za_cons (zn 1) za_nil))))
      (zss_cons (zs_if (ZW.zt (zw_or (zt_not (zt_valP (zcb_isinstance rfl m_isinstance (za_cons (zn 2) (za_cons (zty_tuple rfl m_tuple) za_nil)) rfl rfl))) (zw_or1 (zt_cmpP (op_neD hu) (zcb_len rfl m_len (za_cons (zn 2) za_nil) rfl rfl) (zcb_len rfl m_len (za_cons (zn 3) za_nil) rfl rfl) (nomark _))))) (zss_one (zs_ret ze_bl)) zss_nil)
      (zss_one (zs_ret (zcb_all rfl rfl m_all (za_cons (ze_comp ["number", "quotient"] [] rfl ⟨rfl, by decide +kernel, by decide +kernel, rfl, rfl⟩ (zi_zip rfl m_zip (za_cons (zn 2) (za_cons (zn 3) za_nil))) kpg_two (fun _ _ _ _ => zg_tup rfl (zgs_cons (zg_name (i := 0) (show List.Nodup (["number", "quotient"] : List Str) by decide +kernel) rfl (Or.inl rfl)) (zgs_cons (zg_name (i := 1) (show List.Nodup (["number", "quotient"] : List Str) by decide +kernel) rfl (Or.inl rfl)) zgs_nil))) (fun _ _ _ _ => zif_nil) (fun _ _ _ _ => (ze_andP (ze_fn F_is_whole hr (by decide) rfl (za_cons (zn 0) za_nil)) (ze_one (ze_cmpR (op_eqD hu) (zn 0) (zn 1) (nomark _)))))) za_nil) rfl rfl)))))), ?_⟩
  refine ⟨r, c, ns, m, a, q, rfl, hrow, hlen, hc, cb, fun v H1 y1 hf => ?_⟩
  rcases hf with ⟨rfl, hold⟩ | ⟨p, _, rfl, hb, _⟩
  rotate_left
  · show Q (.bl false) H1
    exact fin false _ y1 ⟨nofun, fun d => absurd hb (d.1 p)⟩
  refine ⟨r, c, ns, m, a, q, rfl, y1 _ _ hrow, hlen, y1 _ _ hc, cb, hold, fun e H2 y2 he => ?_⟩
  have ql := quo_few ns a m q hlen
  have y12 := y1.trans y2
  obtain ⟨⟨t, ht⟩, hel⟩ := hx
  refine ⟨t, ty_same y12 ht, rfl, ?_⟩
  refine iteB (fun c => ?_) (fun c => ?_)
  · exact fin false _ y12 ⟨nofun, fun d => absurd d (Due.no ht (by simpa using c))⟩
  obtain ⟨b, xs, rfl, eb⟩ := ty_tup ht (by simpa using c)
  have hel := hel b xs rfl eb
  have D := Due.tup (ns := ns) (m := m) (a := a) (q := q) eb
  generalize quo ns a m q = qs at he ql D
  have eb2 := y12 _ _ eb
  refine ⟨_, .inr eb2, ?_⟩
  refine ⟨_, .inr he, ?_⟩
  refine iteB (fun c => ?_) (fun c => ?_)
  · refine fin false _ y12 ⟨nofun, fun d => ?_⟩
    rw [D] at d
    rw [d.2] at c
    exact absurd c (by simp)
  have hml : xs.length = qs.length := by
    have c' : (xs.length : Int) = qs.length := by simpa using c
    omega
  refine ⟨true, true, _, _, SqK.tup eb2, SqK.tup he, ?_⟩
  refine cmp_zip (xs := xs) (ys := qs.map V.int) (fun j zs H' => Same H2 H' ∧ zs = (eqv xs qs j).map V.bl) ⟨Same.refl _, rfl⟩ ?_ ?_ ?_ ?_
  · rintro j zs H' _ ⟨y', _⟩
    exact ⟨SqK.tup (y' _ _ eb2), SqK.tup (y' _ _ he)⟩
  · rintro j zs H' hj ⟨_, rfl⟩
    rw [List.length_map]
    unfold eqv
    rw [List.length_map, List.length_take]
    rw [List.length_map] at hj
    exact small1000 (by omega)
  · rintro j u v zs H' p hu hv ⟨y', rfl⟩ hp
    have hj1 : j < xs.length := (List.getElem?_eq_some_iff.mp hu).1
    have hj2 : j < qs.length := by omega
    have eu : u = xs[j] := by rw [List.getElem?_eq_getElem hj1] at hu; exact (Option.some.inj hu).symm
    have ev : v = .int qs[j] := by rw [getI hj2] at hv; exact (Option.some.inj hv).symm
    subst ev
    have yp := Same.new hp (.tup [u, .int qs[j]])
    obtain ⟨t2, ht2⟩ := hel u (by rw [eu]; exact List.getElem_mem _)
    have ht3 := ty_same ((y12.trans y').trans yp) ht2
    have ez : (xs.zip qs)[j]? = some (u, qs[j]) := by rw [List.getElem?_zip_eq_some]; exact ⟨hu, List.getElem?_eq_getElem hj2⟩
    have nx : ∀ b : Bool, b = decide (u = V.int qs[j]) → (eqv xs qs j).map V.bl ++ [V.bl b] = (eqv xs qs (j + 1)).map V.bl := by
      rintro b rfl
      unfold eqv
      rw [List.take_succ, ez, List.map_append, List.map_append]
      rfl
    refine ⟨p, _, rfl, SqT.of upd_same, rfl, _, _, rfl, _, _, rfl, rfl, ?_⟩
    refine ⟨u, t2, rfl, ht3, ?_⟩
    refine iteB (fun c => ?_) (fun c => ?_)
    · obtain ⟨i, rfl⟩ := tyName_int (H := H) (x := u) (by rw [ht2]; simpa using c)
      exact ⟨y'.trans yp, nx _ rfl⟩
    · refine ⟨y'.trans yp, nx _ ?_⟩
      symm
      rw [decide_eq_false_iff_not]
      rintro rfl
      have : t2 = "int" := by simpa [tyName] using ht2.symm
      subst this
      exact absurd c (by decide)
  · rintro zs H' ⟨y', rfl⟩ D2 hD
    refine ⟨_, SqL.of upd_same, ?_⟩
    have el : eqv xs qs (min xs.length (qs.map V.int).length) = (xs.zip qs).map fun p => decide (p.1 = V.int p.2) := by
      unfold eqv
      rw [List.take_of_length_le (by rw [List.length_zip, List.length_map]; exact Nat.le_refl _)]
    rw [el]
    have yD := (y12.trans y').trans (Same.new hD (.lst ((eqv xs qs (min xs.length (qs.map V.int).length)).map V.bl)))
    rw [el] at yD
    refine fin _ _ yD ?_
    rw [D, eqv_all hml]
    exact ⟨fun h => ⟨hold, h⟩, fun h => h.2⟩
end
end K29
set_option Elab.async false
set_option linter.all false
set_option maxRecDepth 100000
set_option maxHeartbeats 4000000
namespace K29
open PySem L2 MRow M27 M30
theorem due_all {ns : List Int} {m a : Nat} {q : Int} {xs : List V} (hm : 1 ≤ m) (ha : a < m) (hq : 2 ≤ q) (hl : xs.length = (HT.strd ns a m).length) (h : ∀ i, i < xs.length → ∃ k : Int, xs[i]? = some (.int k) ∧ (HT.strd ns a m)[i]? = some (k * q)) : Hold ns m a q ∧ xs = (quo ns a m q).map V.int := by
  constructor
  · refine (dv_bad (ns := ns) (q := q) hm ha).mp ?_
    unfold dv
    rw [List.all_eq_true]
    intro x hx
    obtain ⟨i, hi, rfl⟩ := List.getElem_of_mem hx
    obtain ⟨k, _, e⟩ := h i (by omega)
    rw [List.getElem?_eq_getElem hi] at e
    rw [Option.some.inj e, decide_eq_true_eq]
    exact Int.mul_emod_left k q
  · refine List.ext_getElem? fun i => ?_
    by_cases hi : i < xs.length
    · obtain ⟨k, e1, e2⟩ := h i hi
      unfold quo
      rw [e1, List.getElem?_map, List.getElem?_map, e2]
      show _ = some (V.int (k * q / q))
      rw [Int.mul_ediv_cancel _ (by omega)]
    · rw [List.getElem?_eq_none (by omega), List.getElem?_eq_none (by unfold quo; rw [List.length_map, List.length_map]; omega)]
theorem due_at {ns : List Int} {m a : Nat} {q : Int} {xs : List V} (hm : 1 ≤ m) (ha : a < m) (d : Hold ns m a q ∧ xs = (quo ns a m q).map V.int) {i : Nat} (hi : i < (HT.strd ns a m).length) : ∃ k : Int, xs[i]? = some (.int k) ∧ (HT.strd ns a m)[i] = k * q := by
  have b := quo_back hm ha d.1
  refine ⟨(HT.strd ns a m)[i] / q, ?_, ?_⟩
  · rw [d.2]
    unfold quo
    rw [List.getElem?_map, List.getElem?_map, List.getElem?_eq_getElem hi]
    rfl
  · have e : ((quo ns a m q).map (· * q))[i]? = some (HT.strd ns a m)[i] := by rw [b, List.getElem?_eq_getElem hi]
    unfold quo at e
    rw [List.getElem?_map, List.getElem?_map, List.getElem?_eq_getElem hi] at e
    exact (Option.some.inj e).symm
section
variable {P : Program} {w : World} {K : PySem.W.Frag} {mg : Str → Option Value} {base : Heap} {f : Addr} {fd : FuncData}
theorem sc_due : FnScope ["_law_row_here", "_law_claim_here", "_law_thing", "_law_m", "_law_a", "_law_q_here", "_law_number_here", "_law_by"] ["_law_row_here", "_law_claim_here", "_law_thing"] (defScope (top 29)) := ⟨rfl, rfl, rfl, by decide +kernel, rfl, by decide +kernel, by decide +kernel⟩
theorem ok_due (F : Fun K "_law_due" "_law_due" (top 29) f fd) (m_bool : mg "bool" = none) (m_int : mg "int" = none) (m_isinstance : mg "isinstance" = none) (m_len : mg "len" = none) (m_tuple : mg "tuple" = none) (m_zip : mg "zip" = none) : FnOk P w K mg base CX0 1 f fd ["_law_row_here", "_law_claim_here", "_law_thing"] sp_sc := by
  refine F.okz sc_due (fun vs H Q E h => ?_) (fun cdv A outer s H vs Q E hr h => ?_)
  · obtain ⟨r, c, x, ns, m, a, q, rfl, _⟩ := h; rfl
  obtain ⟨r, cc, x, ns, m, a, q, rfl, hrow, hlen, hc, cb, hx, fin⟩ := h
  have nd := sc_due.nd
  have hu := hr.units
  have hm : 1 ≤ m := by have := cb.1; omega
  have ha : a < m := by have := cb.2.2.2.1; omega
  have hq : 2 ≤ q := cb.2.2.2.2.1
  have hq2 := cb.2.2.2.2.2
  refine ⟨_, (zss_cons (zs_asg (zn 1) (zg_tup rfl (zgs_cons (zg_name (i := 3) nd rfl (Or.inl rfl)) (zgs_cons (zg_name (i := 4) nd rfl (Or.inl rfl)) (zgs_cons (zg_name (i := 5) nd rfl (Or.inl rfl)) zgs_nil)))))
      (zss_cons (zs_if (ZW.zt (zw_or (zt_not (zt_valP (zcb_isinstance rfl m_isinstance (za_cons (zn 2) (za_cons (zty_tuple rfl m_tuple) za_nil)) rfl rfl))) (zw_or1 (zt_cmpP (op_neD hu) (zcb_len rfl m_len (za_cons (zn 2) za_nil) rfl rfl) (zcb_len rfl m_len (za_cons (ze_stp (zn 0) (zn 4) (zn 3)) za_nil) rfl rfl) (nomark _))))) (zss_one (zs_ret ze_bl)) zss_nil)
      (zss_cons (zs_for PassesOwn.never rfl (zi_zip rfl m_zip (za_cons (ze_stp (zn 0) (zn 4) (zn 3)) (za_cons (zn 2) za_nil))) (zg_tup rfl (zgs_cons (zg_name (i := 6) nd rfl (Or.inl rfl)) (zgs_cons (zg_name (i := 7) nd rfl (Or.inl rfl)) zgs_nil))) (zss_one (zs_if (ZW.zt (zw_or (zt_not (zt_valP (zcb_isinstance rfl m_isinstance (za_cons (zn 7) (za_cons (zty_int rfl m_int) za_nil)) rfl rfl))) (zw_or (zt_valP (zcb_isinstance rfl m_isinstance (za_cons (zn 7) (za_cons (zty_bool rfl m_bool) za_nil)) rfl rfl)) (zw_or1 (zt_cmpP (op_neD hu) (ze_op op_mulQ (zn 7) (zn 5)) (zn 6) (nomark _)))))) (zss_one (zs_ret ze_bl)) zss_nil)))
      (zss_one (zs_ret ze_bl))))), ?_⟩
  refine ⟨cc, _, rfl, SqT.of hc, rfl, _, _, rfl, _, _, rfl, _, _, rfl, rfl, ?_⟩
  obtain ⟨⟨t, ht⟩, hel⟩ := hx
  refine ⟨t, ht, rfl, ?_⟩
  refine iteB (fun c => ?_) (fun c => ?_)
  · exact fin false _ (Same.refl _) ⟨nofun, fun d => absurd d (Due.no ht (by simpa using c))⟩
  obtain ⟨b, xs, rfl, eb⟩ := ty_tup ht (by simpa using c)
  have hel := hel b xs rfl eb
  have D := Due.tup (ns := ns) (m := m) (a := a) (q := q) eb
  have sl := strd_few ns a m hlen
  have all := due_all (ns := ns) (m := m) (a := a) (q := q) (xs := xs) hm ha hq
  have at_ := due_at (ns := ns) (m := m) (a := a) (q := q) (xs := xs) hm ha
  have ql : (quo ns a m q).length = (HT.strd ns a m).length := by unfold quo; rw [List.length_map]
  refine ⟨_, .inr eb, ?_⟩
  refine ⟨r, _, a, m, rfl, rfl, rfl, by omega, hrow, fun e H1 y1 he => ?_⟩
  rw [strd_map] at he
  refine ⟨_, .inr he, ?_⟩
  refine iteB (fun c => ?_) (fun c => ?_)
  · refine fin false _ y1 ⟨nofun, fun d => ?_⟩
    rw [D] at d
    rw [d.2, List.length_map, ql] at c
    exact absurd c (by simp)
  have hml : xs.length = (HT.strd ns a m).length := by
    have c' : (xs.length : Int) = (HT.strd ns a m).length := by simpa using c
    omega
  refine ⟨r, _, a, m, rfl, rfl, rfl, by omega, y1 _ _ hrow, fun e2 H2 y2 he2 => ?_⟩
  rw [strd_map] at he2
  have y12 := y1.trans y2
  generalize HT.strd ns a m = ss at he he2 sl all at_ ql hml
  have eb2 := y12 _ _ eb
  refine ⟨true, true, _, _, SqK.tup he2, SqK.tup eb2, for_zip (xs := ss.map V.int) (ys := xs) (fun j σ H' => Same H2 H' ∧ (∀ i, i < j → ∃ k : Int, xs[i]? = some (.int k) ∧ ss[i]? = some (k * q)) ∧ ∃ p6 p7, σ = [some (.ref r), some (.ref cc), some (.ref b), some (.int m), some (.int a), some (.int q), p6, p7]) ⟨Same.refl _, fun i h => absurd h (Nat.not_lt_zero _), _, _, rfl⟩ ?_ ?_ ?_⟩
  · rintro j σ H' _ ⟨y', _⟩
    exact ⟨SqK.tup (y' _ _ he2), SqK.tup (y' _ _ eb2)⟩
  · rintro j u v σ H' p hu hv ⟨y', hj, p6, p7, rfl⟩ hp
    have hj2 : j < xs.length := (List.getElem?_eq_some_iff.mp hv).1
    have hj1 : j < ss.length := by omega
    have eu : u = .int ss[j] := by rw [getI hj1] at hu; exact (Option.some.inj hu).symm
    subst eu
    have ev : v = xs[j] := by rw [List.getElem?_eq_getElem hj2] at hv; exact (Option.some.inj hv).symm
    have yp := Same.new hp (.tup [.int ss[j], v])
    obtain ⟨t2, ht2⟩ := hel v (by rw [ev]; exact List.getElem_mem _)
    have yy := (y12.trans y').trans yp
    have ht3 := ty_same yy ht2
    have no : (∀ k : Int, v = .int k → ss[j] ≠ k * q) → ¬ Due H ns m a q (.ref b) := fun h d => by
      rw [D] at d
      obtain ⟨k, e1, e2⟩ := at_ d hj1
      rw [hv] at e1
      exact h k (Option.some.inj e1) e2
    refine ⟨p, _, rfl, SqT.of upd_same, rfl, _, _, rfl, _, _, rfl, rfl, ?_⟩
    refine ⟨t2, ht3, rfl, ?_⟩
    refine iteB (fun c => ?_) (fun c => ?_)
    · refine fin false _ yy ⟨nofun, fun d => absurd d (no fun k z => ?_)⟩
      subst z
      have : t2 = "int" := by simpa [tyName] using ht2.symm
      subst this
      exact absurd c (by decide)
    refine ⟨t2, ht3, rfl, ?_⟩
    refine iteB (fun c2 => ?_) (fun c2 => ?_)
    · refine fin false _ yy ⟨nofun, fun d => absurd d (no fun k z => ?_)⟩
      subst z
      have : t2 = "int" := by simpa [tyName] using ht2.symm
      subst this
      exact absurd c2 (by decide)
    have hi : (t2 == "int") = true := by
      rw [← int_bool (by simpa using c), c2]
      rfl
    obtain ⟨i, rfl⟩ := tyName_int (H := H) (x := v) (by rw [ht2]; simpa using hi)
    refine ⟨mulR (by omega) (by omega), ?_⟩
    refine iteB (fun c3 => ?_) (fun c3 => ?_)
    · refine fin false _ yy ⟨nofun, fun d => absurd d (no fun k z e => ?_)⟩
      cases z
      rw [e] at c3
      exact absurd c3 (by simp)
    · refine ⟨y'.trans yp, fun i2 hi2 => ?_, _, _, rfl⟩
      by_cases h2 : i2 < j
      · exact hj i2 h2
      · obtain rfl : i2 = j := by omega
        refine ⟨i, hv, ?_⟩
        rw [List.getElem?_eq_getElem hj1]
        have c3' : i * q = ss[i2] := by simpa using c3
        rw [c3']
  · rintro σ H' ⟨y', hj, p6, p7, rfl⟩
    refine fin true _ (y12.trans y') ⟨fun _ => ?_, fun _ => rfl⟩
    rw [D]
    refine all hml fun i hi => hj i ?_
    rw [List.length_map]
    omega
end
end K29
set_option Elab.async false
set_option linter.all false
set_option maxRecDepth 100000
set_option maxHeartbeats 4000000
namespace L2
open PySem PySem.Spec PyProof.Rows
end L2
set_option Elab.async false
set_option linter.all false
set_option maxRecDepth 100000
set_option maxHeartbeats 4000000
namespace L2
open PySem PySem.Spec PyProof.Rows
noncomputable def bI (b : Bool) : Int := if b = true then 1 else 0
noncomputable def rNum (g : Int → Int → Int) : R2 := fun x y H Q => match x, y with
  | .int i, .int j => Q (.int (g i j)) H
  | .bl b, .int j => Q (.int (g (bI b) j)) H
  | _, _ => False
section
variable {X : Cx}
theorem op_addN : OpR X (binaryOp .Add) (rNum fun i j => i + j) := by
  intro pins s σ H x y v u Q I rx ry h
  unfold rNum at h
  split at h
  · exact op_add pins s σ H _ _ v u Q I rx ry ⟨_, _, rfl, rfl, h⟩
  · obtain ⟨t, rfl⟩ := ry
    cases rx
    exact PySem.IntBool.add_bool_int ⟨.int _, H, I.tok _, ⟨_, rfl⟩, h⟩
  · exact h.elim
theorem op_subN : OpR X (binaryOp .Sub) (rNum fun i j => i - j) := by
  intro pins s σ H x y v u Q I rx ry h
  unfold rNum at h
  split at h
  · exact op_sub pins s σ H _ _ v u Q I rx ry ⟨_, _, rfl, rfl, h⟩
  · obtain ⟨t, rfl⟩ := ry
    cases rx
    exact PySem.IntBool.sub_bool_int ⟨.int _, H, I.tok _, ⟨_, rfl⟩, h⟩
  · exact h.elim
theorem neg_bool {prog : Program} {w : World} {A : Around} {E : Value → Shared → Prop} {s : Shared} {b : Bool} {Q : Value → Shared → Prop} (h : Q (.int (-(bI b)) s.toks) { s with toks := s.toks + 1 }) : wpAny (model prog w) A (unaryOp .USub (.bool b)) Q E s := by
  unfold unaryOp
  refine wpAny_holding ?_
  refine wpAny_bind (m := callSpecial? (.bool b) (Str.ofString "__neg__")) (wpAny_callSpecial?_slot (name := Str.ofString "__neg__") (PySem.typeIs_bool s b) PySem.F.slot_bool_neg
    (wpAny_call_entry PySem.F.slot_bool_neg (PySem.typeIs_bool s b) PySem.F.entry_int_neg ?_ (PySem.F.args_int_neg_1 _)))
  cases b
  · show wpAny _ _ (do ret (← mkInt (-0))) _ _ s
    exact wpAny_ret_mkInt (wpAny_pure h)
  · show wpAny _ _ (do ret (← mkInt (-1))) _ _ s
    exact wpAny_ret_mkInt (wpAny_pure h)
noncomputable def rNeg : V → Hp → VK → Prop := fun x H Q => match x with
  | .int i => Q (.int (-i)) H
  | .bl b => Q (.int (-(bI b))) H
  | _ => False
theorem un_negN : UnR X (unaryOp .USub) rNeg := by
  intro pins s σ H x v Q I rx h
  unfold rNeg at h
  split at h
  · exact un_neg pins s σ H _ v Q I rx ⟨_, rfl, h⟩
  · cases rx
    exact neg_bool ⟨.int _, H, I.tok _, ⟨_, rfl⟩, h⟩
  · exact h.elim
noncomputable def rStrN : List V → Hp → VK → Prop := fun xs H Q => match xs with
  | [.int i] => i.natAbs.log2 < 1920 ∧ Q (.str (toString i)) H
  | [.bl b] => Q (.str (if b then "True" else "False")) H
  | _ => False
theorem call_strN : CallR X (.type "str") rStrN := by
  intro pins s σ H xs us Q I r h
  unfold rStrN at h
  split at h
  · exact call_str_int pins s σ H _ us Q I r ⟨_, rfl, h⟩
  · obtain ⟨u, rfl, rx⟩ := vals1 r
    cases rx
    exact PySem.P.str_of_bool ⟨.str _, H, I.tok _, ⟨_, rfl⟩, h⟩
  · exact h.elim
variable {e : Expr} {es : List Expr} {t : TA} {p pos : Pos}
theorem pcb_strN (hg : Gl X "str") (hm : X.mg "str" = none) (ha : PA X (e :: es) t) (he : starEach (e :: es) X.env = (false, eval e X.env) :: starEach es X.env) (hpl : (backTo pos (starEach es X.env)).any (·.1) = false) :
    PE X (.Call (.Name "str" p) (e :: es) [] pos) (tCB rStrN t) := pe_callTy call_strN hg hm boot_str' ha (by decide) (by decide) he hpl
theorem zcb_strN (hg : Gl X "str") (hm : X.mg "str" = none) (ha : ZA X (e :: es) t) (he : starEach (e :: es) X.env = (false, eval e X.env) :: starEach es X.env) (hpl : (backTo pos (starEach es X.env)).any (·.1) = false) :
    ZE X (.Call (.Name "str" p) (e :: es) [] pos) (tCB rStrN t) := by with_unfolding_all exact pcb_strN hg hm ha he hpl
end
end L2
set_option Elab.async false
set_option linter.all false
set_option maxRecDepth 100000
set_option exponentiation.threshold 3000
set_option maxHeartbeats 4000000
namespace K29
open PySem L2 MRow M27 M30
noncomputable def Bg (n : Nat) : Nat := 2 ^ 1299 + n * 2 ^ 110
theorem Bg.lt {n : Nat} (h : n ≤ 8) : Bg n < 2 ^ 1300 := by
  have h1 : 8 * 2 ^ 110 < 2 ^ 1299 := by decide +kernel
  have h2 : n * 2 ^ 110 ≤ 8 * 2 ^ 110 := Nat.mul_le_mul_right _ h
  have h3 : 2 ^ 1300 = 2 ^ 1299 + 2 ^ 1299 := by decide +kernel
  unfold Bg
  omega
theorem Bg.up {n : Nat} {i : Int} (h : i.natAbs < Bg n) : (i + 1).natAbs < Bg (n + 1) ∧ (i - 1).natAbs < Bg (n + 1) ∧ (-i).natAbs < Bg (n + 1) ∧ (i + 10 ^ 30).natAbs < Bg (n + 1) := by
  have h1 : 10 ^ 30 < 2 ^ 110 := by decide
  have e : Bg (n + 1) = Bg n + 2 ^ 110 := by unfold Bg; rw [Nat.add_mul, Nat.one_mul, Nat.add_assoc]
  rw [e]
  generalize Bg n = b at h
  refine ⟨?_, ?_, ?_, ?_⟩ <;> omega
theorem Bg.le {n : Nat} : Bg n ≤ Bg (n + 1) := by unfold Bg; rw [Nat.add_mul]; omega
theorem Bg.small {n : Nat} {i : Int} (h : i.natAbs ≤ 10 ^ 30 + 1) : i.natAbs < Bg n := by
  have h1 : 10 ^ 30 + 1 < 2 ^ 1299 := by decide +kernel
  unfold Bg
  omega
noncomputable def Nm (n : Nat) (y : V) : Prop := (∃ i : Int, y = .int i ∧ i.natAbs < Bg n) ∨ ∃ b, y = .bl b
noncomputable def Tx (t : Str) : Prop := ShOk (.str t) 1 13100 ∧ PyData.canLay0 (.str t) = true
noncomputable def El (n : Nat) (H : Hp) (y : V) : Prop := Nm n y ∨ y = .non ∨ (∃ t, y = .str t ∧ Tx t) ∨ ∃ a zs, y = .ref a ∧ (zs.length ≤ 1 ∧ ∀ z ∈ zs, Nm n z) ∧ (H a = some (.lst zs) ∨ H a = some (.tup zs))
theorem one {n : Nat} {z : V} (h : Nm n z) : [z].length ≤ 1 ∧ ∀ y ∈ [z], Nm n y := ⟨Nat.le_refl _, fun y hy => by rw [List.mem_singleton.mp hy]; exact h⟩
theorem Nm.ty {n : Nat} {H : Hp} {y : V} (h : Nm n y) : ∃ t, tyName H y = some t := by
  rcases h with ⟨i, rfl, hi⟩ | ⟨b, rfl⟩
  · exact ⟨"int", rfl⟩
  · exact ⟨"bool", rfl⟩
theorem ty_lstN {H : Hp} {a : Addr} {xs : List V} (e : H a = some (.lst xs)) : tyName H (.ref a) = some "list" := by unfold tyName; simp only [e]
theorem El.ty {n : Nat} {H : Hp} {y : V} (h : El n H y) : ∃ t, tyName H y = some t ∧ (subTy t "int" = true → Nm n y) := by
  rcases h with h | rfl | ⟨t, rfl, _⟩ | ⟨a, z, rfl, _, e | e⟩
  · obtain ⟨t, ht⟩ := Nm.ty (H := H) h
    exact ⟨t, ht, fun _ => h⟩
  · exact ⟨"NoneType", rfl, fun c => absurd c (by decide)⟩
  · exact ⟨"str", rfl, fun c => absurd c (by decide)⟩
  · exact ⟨_, ty_lstN e, fun c => absurd c (by decide)⟩
  · exact ⟨_, ty_tupN e, fun c => absurd c (by decide)⟩
theorem El.same {n : Nat} {H H' : Hp} {x : V} (y : Same H H') (h : El n H x) : El n H' x := by
  rcases h with h | rfl | ⟨t, rfl, s⟩ | ⟨a, z, rfl, k, e | e⟩
  · exact .inl h
  · exact .inr (.inl rfl)
  · exact .inr (.inr (.inl ⟨t, rfl, s⟩))
  · exact .inr (.inr (.inr ⟨a, z, rfl, k, .inl (y _ _ e)⟩))
  · exact .inr (.inr (.inr ⟨a, z, rfl, k, .inr (y _ _ e)⟩))
theorem El.step {n k l : Nat} {p : Addr} {H H' : Hp} {x : V} (hh : Hand H p k) (sw : Step p l H H') (h : El n H x) : El n H' x := by
  rcases h with h | rfl | ⟨t, rfl, s⟩ | ⟨a, z, rfl, k, e | e⟩
  · exact .inl h
  · exact .inr (.inl rfl)
  · exact .inr (.inr (.inl ⟨t, rfl, s⟩))
  · have ne : a ≠ p := by
      rintro rfl
      obtain ⟨g, s, c, e2, _⟩ := hh
      rw [e] at e2
      cases e2
      exact absurd k.1 (by simp)
    exact .inr (.inr (.inr ⟨a, z, rfl, k, .inl (sw.1 _ _ ne e)⟩))
  · exact .inr (.inr (.inr ⟨a, z, rfl, k, .inr (sw.tup hh e)⟩))
theorem atI_mem {xs : List V} {i : Int} (h0 : 0 ≤ i) (h1 : i < xs.length) : ∃ v, atI xs i = some v ∧ v ∈ xs := by
  have hj : i.toNat < xs.length := by omega
  exact ⟨xs[i.toNat], atI_of (j := i.toNat) (by omega) (List.getElem?_eq_getElem hj), List.getElem_mem hj⟩
theorem Nm.mono {n m : Nat} {x : V} (h : Nm n x) (k : n ≤ m) : Nm m x := by
  rcases h with ⟨i, rfl, hi⟩ | ⟨b, rfl⟩
  · exact .inl ⟨i, rfl, Nat.lt_of_lt_of_le hi (Nat.add_le_add_left (Nat.mul_le_mul_right _ k) _)⟩
  · exact .inr ⟨b, rfl⟩
theorem El.mono {n m : Nat} {H : Hp} {x : V} (h : El n H x) (k : n ≤ m) : El m H x := by
  rcases h with h | rfl | h | ⟨a, z, rfl, l, e⟩
  · exact .inl (h.mono k)
  · exact .inr (.inl rfl)
  · exact .inr (.inr (.inl h))
  · exact .inr (.inr (.inr ⟨a, z, rfl, ⟨l.1, fun y hy => (l.2 y hy).mono k⟩, e⟩))
theorem seen_txt {n : Nat} {i : Int} (h : i.natAbs < Bg n) (hn : n ≤ 8) : Tx (toString i) := by
  have hb := Nat.lt_trans h (Bg.lt hn)
  have hl : i.natAbs.log2 < 1300 := by
    rcases log2_small hb with h | h
    · exact h
    · rw [h]; decide
  have hs := int_text_length_le (k := 1300) (a := i) (by decide) hl
  have hc : ∀ c ∈ (Str.ofString (toString i)).cps.toList, c < 0x110000 := fun c hc => by
    have : c ∈ (toString i).toList.map Char.toNat := by
      rw [← PySem.cpsOfBytes_string]
      exact hc
    obtain ⟨ch, _, rfl⟩ := List.mem_map.mp this
    have := ch.valid
    rcases this with h | h
    · exact Nat.lt_trans h (by decide)
    · exact h.2
  refine ⟨⟨by simp only [PyData.showable], by simp only [PyData.hasDict], by simp only [PyData.depth]; decide, ?_⟩, ?_⟩
  · simp only [PyData.shown]
    exact Nat.le_trans (StrLaws.reprText_len _ fun c h => Nat.lt_trans (hc c h) (by decide)) (by rw [PySem.ofString_length]; omega)
  · simp only [PyData.canLay0, PyData.strOk]
    rw [Array.all_eq_true_iff_forall_mem]
    intro c h
    exact decide_eq_true (hc c (by simpa using h))
theorem seen_bl (b : Bool) : Tx (if b then "True" else "False") := by
  refine ⟨⟨by simp only [PyData.showable], by simp only [PyData.hasDict], by simp only [PyData.depth]; decide, ?_⟩, ?_⟩
  · simp only [PyData.shown]
    cases b <;> decide +kernel
  · cases b <;> decide +kernel
theorem nm_log {n : Nat} {i : Int} (h : i.natAbs < Bg n) (hn : n ≤ 8) : i.natAbs.log2 < 1920 := by
  have := Nat.lt_trans h (Bg.lt hn)
  rcases log2_small this with h | h
  · omega
  · rw [h]; decide
section
variable {P : Program} {w : World} {K : PySem.W.Frag} {mg : Str → Option Value} {base : Heap} {f : Addr} {fd : FuncData}
theorem sc_odd : FnScope ["_law_hand_here", "_law_one", "_law_way", "_law_near", "_law_some"] ["_law_hand_here", "_law_one"] (defScope (top 30)) := ⟨rfl, rfl, rfl, by decide +kernel, rfl, by decide +kernel, by decide +kernel⟩
noncomputable def sp_odd : Sp := fun vs H Q _ => ∃ (p : Addr) (x : V) (k n : Nat), vs = [.ref p, x] ∧ Hand H p k ∧ k < 1000000 ∧ n ≤ 7 ∧ El n H x ∧ ∀ y H', Step p (k + 1) H H' → El (n + 1) H' y → Q y H'
theorem ok_odd (F : Fun K "_law_odd" "_law_odd" (top 30) f fd) (m_int : mg "int" = none) (m_isinstance : mg "isinstance" = none) (m_str : mg "str" = none) (F_law_take : FnA P w K mg base "_law_take" 1 ["_law_hand_here", "_law_many"] sp_take) : FnOk P w K mg base CX0 2 f fd ["_law_hand_here", "_law_one"] sp_odd := by
  refine F.okz sc_odd (fun vs H Q E h => ?_) (fun cdv A outer s H vs Q E hr h => ?_)
  · obtain ⟨p, x, k, n, rfl, _⟩ := h; rfl
  obtain ⟨p, x, k, n, rfl, hh, hk, hn, hx, fin⟩ := h
  have nd := sc_odd.nd
  have hu := hr.units
  refine ⟨_, (zss_cons (zs_set (i := 2) nd rfl (Or.inl rfl) (ze_fn F_law_take hr (by decide) rfl (za_cons (zn 0) (za_cons ze_int za_nil))))
      (zss_cons (zs_set (i := 3) nd rfl (Or.inl rfl) (ze_ifExp (zt_valP (zcb_isinstance rfl m_isinstance (za_cons (zn 1) (za_cons (zty_int rfl m_int) za_nil)) rfl rfl)) (zn 1) ze_int))
      (zss_cons (zs_set (i := 4) nd rfl (Or.inl rfl) (ze_lst (za_cons (ze_op op_addN (zn 3) ze_int) (za_cons (ze_op op_subN (zn 3) ze_int) (za_cons (ze_un un_negN (zn 3)) (za_cons (ze_cmpR (op_eqD hu) (zn 3) ze_int (nomark _)) (za_cons (ze_cmpR (op_neD hu) (zn 3) ze_int (nomark _)) (za_cons ze_non za_nil))))))))
      (zss_one (zs_ret (ze_ix ix_P (ze_op op_addP (zn 4) (ze_lst (za_cons (zcb_strN rfl m_str (za_cons (zn 3) za_nil) rfl rfl) (za_cons (ze_lst (za_cons (zn 3) za_nil)) (za_cons (ze_tup (za_cons (zn 3) za_nil)) (za_cons ze_int (za_cons ze_int (za_cons (ze_op op_addN (zn 3) (ze_op op_powP ze_int ze_int)) za_nil)))))))) (zn 2) (fun _ _ => rfl))))))), ?_⟩
  refine ⟨p, 12, k, rfl, hh, by omega, by decide, by decide, fun way H1 w0 w1 sw => ?_⟩
  have hx1 := hx.step hh sw
  obtain ⟨t, ht, hnm⟩ := hx1.ty
  refine ⟨t, ht, rfl, ?_⟩
  refine iteB (fun c => ?_) (fun c => ?_)
  · rcases hnm c with ⟨i, rfl, hi⟩ | ⟨b, rfl⟩
    · refine ⟨by show 6 ≤ sizeLine; decide, fun b1 h1 => ?_⟩
      refine ⟨nm_log hi (by omega), ?_⟩
      have g1 := Same.new h1 (.lst [.int (i + 1), .int (i - 1), .int (-i), .bl (decide (V.int i = V.int 1)), .bl (!decide (V.int i = V.int 0)), .non])
      refine ⟨by show 1 ≤ sizeLine; decide, fun b2 h2 => ?_⟩
      have g2 := Same.new h2 (.lst [.int i])
      refine ⟨by show 1 ≤ sizeLine; decide, fun b3 h3 => ?_⟩
      have g3 := Same.new h3 (.tup [.int i])
      refine ⟨⟨by decide, by decide, by decide⟩, ?_⟩
      refine ⟨by show 6 ≤ sizeLine; decide, fun b4 h4 => ?_⟩
      have g4 := Same.new h4 (.lst [.str (toString i), .ref b2, .ref b3, .int 0, .int 1, .int (i + 10 ^ 30)])
      refine .inl ⟨_, _, g4 _ _ (g3 _ _ (g2 _ _ upd_same)), upd_same, by show 12 ≤ sizeLine; decide, fun b5 h5 => ?_⟩
      have g5 := Same.new h5 (.lst ([.int (i + 1), .int (i - 1), .int (-i), .bl (decide (V.int i = V.int 1)), .bl (!decide (V.int i = V.int 0)), .non] ++ [.str (toString i), .ref b2, .ref b3, .int 0, .int 1, .int (i + 10 ^ 30)]))
      obtain ⟨v, ev, hv⟩ := atI_mem (xs := [.int (i + 1), .int (i - 1), .int (-i), .bl (decide (V.int i = V.int 1)), .bl (!decide (V.int i = V.int 0)), .non] ++ [.str (toString i), .ref b2, .ref b3, .int 0, .int 1, .int (i + 10 ^ 30)]) w0 (by show way < ((12 : Nat) : Int); exact w1)
      refine ⟨_, .inl (SqL.of upd_same), v, ev, ?_⟩
      refine fin v _ (((((sw.same g1).same g2).same g3).same g4).same g5) ?_
      have u2 := g5 _ _ (g4 _ _ (g3 _ _ (upd_same (H := _) (a := b2) (o := .lst [.int i]))))
      have u3 := g5 _ _ (g4 _ _ (upd_same (H := _) (a := b3) (o := .tup [.int i])))
      simp only [List.cons_append, List.nil_append, List.mem_cons, List.not_mem_nil, or_false] at hv
      have up := Bg.up hi
      rcases hv with rfl | rfl | rfl | rfl | rfl | rfl | rfl | rfl | rfl | rfl | rfl | rfl
      · exact .inl (.inl ⟨_, rfl, up.1⟩)
      · exact .inl (.inl ⟨_, rfl, up.2.1⟩)
      · exact .inl (.inl ⟨_, rfl, up.2.2.1⟩)
      · exact .inl (.inr ⟨_, rfl⟩)
      · exact .inl (.inr ⟨_, rfl⟩)
      · exact .inr (.inl rfl)
      · exact .inr (.inr (.inl ⟨_, rfl, seen_txt hi (by omega)⟩))
      · exact .inr (.inr (.inr ⟨_, _, rfl, one (.inl ⟨i, rfl, Nat.lt_of_lt_of_le hi Bg.le⟩), .inl u2⟩))
      · exact .inr (.inr (.inr ⟨_, _, rfl, one (.inl ⟨i, rfl, Nat.lt_of_lt_of_le hi Bg.le⟩), .inr u3⟩))
      · exact .inl (.inl ⟨_, rfl, Bg.small (by decide)⟩)
      · exact .inl (.inl ⟨_, rfl, Bg.small (by decide)⟩)
      · exact .inl (.inl ⟨_, rfl, up.2.2.2⟩)

    · refine ⟨_, _, .bl b, .int 1, rfl, rfl, ?_⟩
      refine ⟨_, _, .bl b, .int 0, rfl, rfl, ?_⟩
      refine ⟨by show 6 ≤ sizeLine; decide, fun b1 h1 => ?_⟩
      have g1 := Same.new h1 (.lst [.int (bI b + 1), .int (bI b - 1), .int (-(bI b)), .bl (PyData.eqv (.bool b) (.int 1)), .bl (!PyData.eqv (.bool b) (.int 0)), .non])
      refine ⟨by show 1 ≤ sizeLine; decide, fun b2 h2 => ?_⟩
      have g2 := Same.new h2 (.lst [.bl b])
      refine ⟨by show 1 ≤ sizeLine; decide, fun b3 h3 => ?_⟩
      have g3 := Same.new h3 (.tup [.bl b])
      refine ⟨⟨by decide, by decide, by decide⟩, ?_⟩
      refine ⟨by show 6 ≤ sizeLine; decide, fun b4 h4 => ?_⟩
      have g4 := Same.new h4 (.lst [.str (if b then "True" else "False"), .ref b2, .ref b3, .int 0, .int 1, .int (bI b + 10 ^ 30)])
      refine .inl ⟨_, _, g4 _ _ (g3 _ _ (g2 _ _ upd_same)), upd_same, by show 12 ≤ sizeLine; decide, fun b5 h5 => ?_⟩
      have g5 := Same.new h5 (.lst ([.int (bI b + 1), .int (bI b - 1), .int (-(bI b)), .bl (PyData.eqv (.bool b) (.int 1)), .bl (!PyData.eqv (.bool b) (.int 0)), .non] ++ [.str (if b then "True" else "False"), .ref b2, .ref b3, .int 0, .int 1, .int (bI b + 10 ^ 30)]))
      obtain ⟨v, ev, hv⟩ := atI_mem (xs := [.int (bI b + 1), .int (bI b - 1), .int (-(bI b)), .bl (PyData.eqv (.bool b) (.int 1)), .bl (!PyData.eqv (.bool b) (.int 0)), .non] ++ [.str (if b then "True" else "False"), .ref b2, .ref b3, .int 0, .int 1, .int (bI b + 10 ^ 30)]) w0 (by show way < ((12 : Nat) : Int); exact w1)
      refine ⟨_, .inl (SqL.of upd_same), v, ev, ?_⟩
      refine fin v _ (((((sw.same g1).same g2).same g3).same g4).same g5) ?_
      have u2 := g5 _ _ (g4 _ _ (g3 _ _ (upd_same (H := _) (a := b2) (o := .lst [.bl b]))))
      have u3 := g5 _ _ (g4 _ _ (upd_same (H := _) (a := b3) (o := .tup [.bl b])))
      simp only [List.cons_append, List.nil_append, List.mem_cons, List.not_mem_nil, or_false] at hv
      have up := Bg.up (n := n) (i := bI b) (Bg.small (by cases b <;> decide))
      rcases hv with rfl | rfl | rfl | rfl | rfl | rfl | rfl | rfl | rfl | rfl | rfl | rfl
      · exact .inl (.inl ⟨_, rfl, up.1⟩)
      · exact .inl (.inl ⟨_, rfl, up.2.1⟩)
      · exact .inl (.inl ⟨_, rfl, up.2.2.1⟩)
      · exact .inl (.inr ⟨_, rfl⟩)
      · exact .inl (.inr ⟨_, rfl⟩)
      · exact .inr (.inl rfl)
      · exact .inr (.inr (.inl ⟨_, rfl, seen_bl b⟩))
      · exact .inr (.inr (.inr ⟨_, _, rfl, one (.inr ⟨b, rfl⟩), .inl u2⟩))
      · exact .inr (.inr (.inr ⟨_, _, rfl, one (.inr ⟨b, rfl⟩), .inr u3⟩))
      · exact .inl (.inl ⟨_, rfl, Bg.small (by decide)⟩)
      · exact .inl (.inl ⟨_, rfl, Bg.small (by decide)⟩)
      · exact .inl (.inl ⟨_, rfl, up.2.2.2⟩)

  · have hi : (0 : Int).natAbs < Bg n := Bg.small (by decide)
    refine ⟨by show 6 ≤ sizeLine; decide, fun b1 h1 => ?_⟩
    refine ⟨nm_log hi (by omega), ?_⟩
    have g1 := Same.new h1 (.lst [.int (0 + 1), .int (0 - 1), .int (-0), .bl (decide (V.int 0 = V.int 1)), .bl (!decide (V.int 0 = V.int 0)), .non])
    refine ⟨by show 1 ≤ sizeLine; decide, fun b2 h2 => ?_⟩
    have g2 := Same.new h2 (.lst [.int 0])
    refine ⟨by show 1 ≤ sizeLine; decide, fun b3 h3 => ?_⟩
    have g3 := Same.new h3 (.tup [.int 0])
    refine ⟨⟨by decide, by decide, by decide⟩, ?_⟩
    refine ⟨by show 6 ≤ sizeLine; decide, fun b4 h4 => ?_⟩
    have g4 := Same.new h4 (.lst [.str (toString (0 : Int)), .ref b2, .ref b3, .int 0, .int 1, .int (0 + 10 ^ 30)])
    refine .inl ⟨_, _, g4 _ _ (g3 _ _ (g2 _ _ upd_same)), upd_same, by show 12 ≤ sizeLine; decide, fun b5 h5 => ?_⟩
    have g5 := Same.new h5 (.lst ([.int (0 + 1), .int (0 - 1), .int (-0), .bl (decide (V.int 0 = V.int 1)), .bl (!decide (V.int 0 = V.int 0)), .non] ++ [.str (toString (0 : Int)), .ref b2, .ref b3, .int 0, .int 1, .int (0 + 10 ^ 30)]))
    obtain ⟨v, ev, hv⟩ := atI_mem (xs := [.int (0 + 1), .int (0 - 1), .int (-0), .bl (decide (V.int 0 = V.int 1)), .bl (!decide (V.int 0 = V.int 0)), .non] ++ [.str (toString (0 : Int)), .ref b2, .ref b3, .int 0, .int 1, .int (0 + 10 ^ 30)]) w0 (by show way < ((12 : Nat) : Int); exact w1)
    refine ⟨_, .inl (SqL.of upd_same), v, ev, ?_⟩
    refine fin v _ (((((sw.same g1).same g2).same g3).same g4).same g5) ?_
    have u2 := g5 _ _ (g4 _ _ (g3 _ _ (upd_same (H := _) (a := b2) (o := .lst [.int 0]))))
    have u3 := g5 _ _ (g4 _ _ (upd_same (H := _) (a := b3) (o := .tup [.int 0])))
    simp only [List.cons_append, List.nil_append, List.mem_cons, List.not_mem_nil, or_false] at hv
    have up := Bg.up hi
    rcases hv with rfl | rfl | rfl | rfl | rfl | rfl | rfl | rfl | rfl | rfl | rfl | rfl
    · exact .inl (.inl ⟨_, rfl, up.1⟩)
    · exact .inl (.inl ⟨_, rfl, up.2.1⟩)
    · exact .inl (.inl ⟨_, rfl, up.2.2.1⟩)
    · exact .inl (.inr ⟨_, rfl⟩)
    · exact .inl (.inr ⟨_, rfl⟩)
    · exact .inr (.inl rfl)
    · exact .inr (.inr (.inl ⟨_, rfl, seen_txt hi (by omega)⟩))
    · exact .inr (.inr (.inr ⟨_, _, rfl, one (.inl ⟨0, rfl, Nat.lt_of_lt_of_le hi Bg.le⟩), .inl u2⟩))
    · exact .inr (.inr (.inr ⟨_, _, rfl, one (.inl ⟨0, rfl, Nat.lt_of_lt_of_le hi Bg.le⟩), .inr u3⟩))
    · exact .inl (.inl ⟨_, rfl, Bg.small (by decide)⟩)
    · exact .inl (.inl ⟨_, rfl, Bg.small (by decide)⟩)
    · exact .inl (.inl ⟨_, rfl, up.2.2.2⟩)

end
end K29
set_option Elab.async false
set_option linter.all false
set_option maxRecDepth 100000
set_option exponentiation.threshold 3000
set_option maxHeartbeats 4000000
namespace K29
open PySem L2 MRow M27 M30
noncomputable def Dd (H : Hp) (y : V) (k L : Nat) : Prop := ∃ d, DatV H y d ∧ ShOk d k L ∧ d.canLay0 = true
theorem Dd.mono {H : Hp} {y : V} {k L k' L' : Nat} (h : Dd H y k L) (hk : k ≤ k') (hL : L ≤ L') : Dd H y k' L' := let ⟨d, a, b, c⟩ := h; ⟨d, a, b.mono hk hL, c⟩
theorem Dd.all {H : Hp} {k L : Nat} : ∀ {xs : List V}, (∀ x ∈ xs, Dd H x k L) → ∃ ds, DatAll H xs ds ∧ ds.length = xs.length ∧ (∀ d ∈ ds, ShOk d k L) ∧ PyData.canLayAll0 ds = true
  | [], _ => ⟨[], .nil, rfl, fun d hd => (nomatch hd), by simp only [PyData.canLayAll0]⟩
  | x :: xs, h => by
    obtain ⟨d, h1, h2, h3⟩ := h x (List.mem_cons_self ..)
    obtain ⟨ds, g1, g2, g3, g4⟩ := Dd.all (xs := xs) fun y hy => h y (List.mem_cons_of_mem _ hy)
    refine ⟨d :: ds, .cons h1 g1, by rw [List.length_cons, List.length_cons, g2], fun e he => ?_, by simp only [PyData.canLayAll0, h3, g4, Bool.and_self]⟩
    rcases List.mem_cons.mp he with rfl | he
    · exact h2
    · exact g3 e he
theorem Dd.tup {H : Hp} {a : Addr} {xs : List V} {k L : Nat} (e : H a = some (.tup xs)) (h : ∀ x ∈ xs, Dd H x k L) : Dd H (.ref a) (k + 1) (xs.length * (L + 2) + 3) := by
  obtain ⟨ds, g1, g2, g3, g4⟩ := Dd.all h
  refine ⟨.tuple ds, .tup e g1, ?_, by simp only [PyData.canLay0]; exact g4⟩
  rw [← g2]
  exact ShOk.tuple g3
theorem Dd.lst {H : Hp} {a : Addr} {xs : List V} {k L : Nat} (e : H a = some (.lst xs)) (h : ∀ x ∈ xs, Dd H x k L) : Dd H (.ref a) (k + 1) (xs.length * (L + 2) + 3) := by
  obtain ⟨ds, g1, g2, g3, g4⟩ := Dd.all h
  refine ⟨.list ds, .lst e g1, ?_, by simp only [PyData.canLay0]; exact g4⟩
  rw [← g2]
  exact ShOk.list g3
theorem Dd.seen {H : Hp} {y : V} {k L : Nat} (h : Dd H y k L) : SeenV H y k L := let ⟨d, a, b, _⟩ := h; ⟨d, a, b⟩
theorem Nm.dat {n : Nat} {H : Hp} {y : V} (h : Nm n y) (hn : n ≤ 8) : Dd H y 1 1320 := by
  rcases h with ⟨i, rfl, hi⟩ | ⟨b, rfl⟩
  · exact ⟨_, .int i, (shW (Nat.lt_trans hi (Bg.lt hn))).mono (by decide) (by decide), by simp only [PyData.canLay0]⟩
  · exact ⟨_, .bl b, (ShOk.bl b).mono (by decide) (by decide), by simp only [PyData.canLay0]⟩
theorem El.dat {n : Nat} {H : Hp} {y : V} (h : El n H y) (hn : n ≤ 8) : Dd H y 2 13100 := by
  rcases h with h | rfl | ⟨t, rfl, s⟩ | ⟨a, zs, rfl, k, e | e⟩
  · exact (h.dat hn).mono (by decide) (by decide)
  · exact ⟨_, .non, ShOk.non.mono (by decide) (by decide), by simp only [PyData.canLay0]⟩
  · exact ⟨_, .str _, s.1.mono (by decide) (by decide), s.2⟩
  · exact (Dd.lst e fun x hx => (k.2 x hx).dat hn).mono (by decide) (by have := k.1; omega)
  · exact (Dd.tup e fun x hx => (k.2 x hx).dat hn).mono (by decide) (by have := k.1; omega)
theorem eqv_nil (ds : List PyData) : PyData.eqv (.tuple ds) (.tuple []) = ds.isEmpty := by
  cases ds with
  | nil => simp [PyData.eqv, PyData.eqvAll]
  | cons d r => simp [PyData.eqv, PyData.eqvAll]
noncomputable def Tg (n l : Nat) (H : Hp) (x : V) : Prop := (∃ b xs, x = .ref b ∧ H b = some (.tup xs) ∧ xs.length ≤ l ∧ ∀ y ∈ xs, El n H y) ∨ (∃ t, tyName H x = some t ∧ subTy t "tuple" = false ∧ Seen H x 30 9300000)
theorem Tg.same {n l : Nat} {H H' : Hp} {x : V} (y : Same H H') (h : Tg n l H x) : Tg n l H' x := by
  rcases h with ⟨b, xs, rfl, e, hl, h⟩ | ⟨t, h, h2, s⟩
  · exact .inl ⟨b, xs, rfl, y _ _ e, hl, fun z hz => (h z hz).same y⟩
  · exact .inr ⟨t, ty_same y h, h2, s.same y⟩
theorem Tg.mono {n l m k : Nat} {H : Hp} {x : V} (h : Tg n l H x) (a : n ≤ m) (b : l ≤ k) : Tg m k H x := by
  rcases h with ⟨b', xs, rfl, e, hl, h⟩ | h
  · exact .inl ⟨b', xs, rfl, e, Nat.le_trans hl b, fun z hz => (h z hz).mono a⟩
  · exact .inr h
theorem Tg.thing {n l : Nat} {H : Hp} {x : V} (h : Tg n l H x) : Thing H x := by
  rcases h with ⟨b, xs, rfl, e, hl, h⟩ | ⟨t, h, h2, s⟩
  · refine ⟨⟨_, ty_tupN e⟩, fun c ys z e' y hy => ?_⟩
    cases z
    rw [e] at e'
    cases e'
    obtain ⟨t, ht, _⟩ := (h y hy).ty
    exact ⟨t, ht⟩
  · refine ⟨⟨_, h⟩, fun c ys z e' => ?_⟩
    subst z
    rw [ty_tupN e'] at h
    cases h
    exact absurd h2 (by decide)
theorem Tg.seen {n l : Nat} {H : Hp} {x : V} (h : Tg n l H x) (hn : n ≤ 8) (hl : l ≤ 700) : Seen H x 30 9300000 := by
  rcases h with ⟨b, xs, rfl, e, hl2, h⟩ | ⟨t, h, h2, s⟩
  · exact .inl ((Dd.tup e fun y hy => (h y hy).dat hn).seen.mono (by decide) (by
      have := Nat.mul_le_mul_right (13100 + 2) (Nat.le_trans hl2 hl)
      omega))
  · exact s
end K29
set_option Elab.async false
set_option linter.all false
set_option maxRecDepth 100000
set_option exponentiation.threshold 3000
set_option maxHeartbeats 4000000
namespace K29
open PySem L2 MRow M27 M30
theorem ty_step {p : Addr} {k l : Nat} {H H' : Hp} {x : V} {t : String} (hh : Hand H p k) (sw : Step p l H H') (h : tyName H x = some t) : tyName H' x = some t := by
  unfold tyName at h ⊢
  split at h
  all_goals first | exact h | skip
  · rename_i a
    by_cases e : a = p
    · subst e
      obtain ⟨_, _, _, e1, _⟩ := hh
      obtain ⟨_, _, _, e2, _⟩ := sw.2
      rw [e1] at h
      rw [e2]
      exact h
    · cases e2 : H a with
      | none => rw [e2] at h; cases h
      | some o => rw [e2] at h; rw [sw.1 _ _ e e2]; exact h
theorem cut_mem {xs : List V} {lo hi : Option Int} {y : V} (h : y ∈ cutV xs lo hi) : y ∈ xs := List.mem_of_mem_drop (List.mem_of_mem_take h)
theorem ixN_of {n : Nat} {i : Int} (h0 : 0 ≤ i) (h1 : i < n) : ixN n i = some i.toNat := by unfold ixN; rw [if_pos h0, if_pos h1]
theorem cut_to (xs : List V) {k : Nat} (h : k ≤ xs.length) : (cutV xs none (some (k : Int))).length ≤ k := by
  unfold cutV
  rw [HT.sIx_nat, HT.sIx_none, List.length_take]
  omega
theorem cut_fr (xs : List V) {k : Nat} (h : k ≤ xs.length) : (cutV xs (some (k : Int)) none).length ≤ xs.length - k := by
  unfold cutV
  rw [HT.sIx_nat, HT.sIx_none, List.length_take, List.length_drop]
  omega
theorem seen0 {H : Hp} : SeenV H (.str "") 1 13100 := ⟨_, .str _, ⟨by simp only [PyData.showable], by simp only [PyData.hasDict], by simp only [PyData.depth]; decide, by simp only [PyData.shown]; decide +kernel⟩⟩
theorem ty_dK {H : Hp} {a : Addr} {xs} (e : H a = some (.dK xs)) : tyName H (.ref a) = some "dict" := by unfold tyName; simp only [e]
theorem fixed_tg {n l : Nat} {H : Hp} {t1 t2 t3 t4 t5 t6 t7 : Addr} (e1 : H t1 = some (.tup [])) (e2 : H t2 = some (.lst [])) (e3 : H t3 = some (.dK [])) (e4 : H t4 = some (.tup [])) (e5 : H t5 = some (.tup [.ref t4])) (e6 : H t6 = some (.tup [.int 0])) (e7 : H t7 = some (.tup [.int 0, .int 0])) (hl : 2 ≤ l) {v : V} (hv : v ∈ [V.non, .bl true, .ref t1, .ref t2, .int 0, .str "", .ref t3, .ref t5, .ref t6, .ref t7]) : Tg n l H v := by
  have z : El n H (.int 0) := .inl (.inl ⟨0, rfl, Bg.small (by decide)⟩)
  simp only [List.mem_cons, List.not_mem_nil, or_false] at hv
  rcases hv with rfl | rfl | rfl | rfl | rfl | rfl | rfl | rfl | rfl | rfl
  · exact .inr ⟨"NoneType", rfl, by decide, .inl (SeenV.non.mono (by decide) (by decide))⟩
  · exact .inr ⟨"bool", rfl, by decide, .inl ((SeenV.bl true).mono (by decide) (by decide))⟩
  · exact .inl ⟨_, _, rfl, e1, Nat.zero_le _, fun y hy => (nomatch hy)⟩
  · exact .inr ⟨"list", ty_lstN e2, by decide, .inl ((SeenV.lst (k := 1) (L := 1) e2 fun y hy => (nomatch hy)).mono (by decide) (by decide))⟩
  · exact .inr ⟨"int", rfl, by decide, .inl ((SeenV.int (by decide) (by decide)).mono (by decide) (by decide))⟩
  · exact .inr ⟨"str", rfl, by decide, .inl (seen0.mono (by decide) (by decide))⟩
  · exact .inr ⟨"dict", ty_dK e3, by decide, .inr ((SeenX.dct e3).mono (by decide) (by decide))⟩
  · exact .inl ⟨_, _, rfl, e5, by show 1 ≤ l; omega, fun y hy => by
      rw [List.mem_singleton.mp hy]
      exact .inr (.inr (.inr ⟨_, [], rfl, ⟨Nat.zero_le _, fun y hy => (nomatch hy)⟩, .inr e4⟩))⟩
  · exact .inl ⟨_, _, rfl, e6, by show 1 ≤ l; omega, fun y hy => by rw [List.mem_singleton.mp hy]; exact z⟩
  · exact .inl ⟨_, _, rfl, e7, hl, fun y hy => by
      have : y = .int 0 := by simpa using hy
      rw [this]; exact z⟩
section
variable {P : Program} {w : World} {K : PySem.W.Frag} {mg : Str → Option Value} {base : Heap} {f : Addr} {fd : FuncData}
theorem sc_other : FnScope ["_law_hand_here", "_law_thing", "_law_way", "_law_spot", "_law_to", "_law_found"] ["_law_hand_here", "_law_thing"] (defScope (top 31)) := ⟨rfl, rfl, rfl, by decide +kernel, rfl, by decide +kernel, by decide +kernel⟩
noncomputable def sp_other : Sp := fun vs H Q _ => ∃ (p : Addr) (x : V) (k n l : Nat), vs = [.ref p, x] ∧ Hand H p k ∧ k < 900000 ∧ n ≤ 6 ∧ 1 ≤ l ∧ l ≤ 690 ∧ Tg n l H x ∧ ∀ y H', Step p (k + 4) H H' → Tg (n + 1) (l + 1) H' y → Q y H'
theorem ok_other (F : Fun K "_law_otherwise" "_law_otherwise" (top 31) f fd) (m_isinstance : mg "isinstance" = none) (m_len : mg "len" = none) (m_list : mg "list" = none) (m_tuple : mg "tuple" = none) (F_law_take : FnA P w K mg base "_law_take" 1 ["_law_hand_here", "_law_many"] sp_take) (F_law_odd : FnA P w K mg base "_law_odd" 2 ["_law_hand_here", "_law_one"] sp_odd) : FnOk P w K mg base CX0 3 f fd ["_law_hand_here", "_law_thing"] sp_other := by
  refine F.okz sc_other (fun vs H Q E h => ?_) (fun cdv A outer s H vs Q E hr h => ?_)
  · obtain ⟨p, x, k, n, l, rfl, _⟩ := h; rfl
  obtain ⟨p, x, k, n, l, rfl, hh, hk, hn, hl1, hl2, hx, fin⟩ := h
  have nd := sc_other.nd
  have hu := hr.units
  refine ⟨_, (zss_cons (zs_set (i := 2) nd rfl (Or.inl rfl) (ze_fn F_law_take hr (by decide) rfl (za_cons (zn 0) (za_cons ze_int za_nil))))
      (zss_cons (zs_if (ZW.zt (zw_or (zt_not (zt_valP (zcb_isinstance rfl m_isinstance (za_cons (zn 1) (za_cons (zty_tuple rfl m_tuple) za_nil)) rfl rfl))) (zw_or (zt_cmpP (op_eqD hu) (zn 1) (ze_tup za_nil) (nomark _)) (zw_or1 (zt_cmpP (op_eqD hu) (zn 2) ze_int (nomark _)))))) (zss_one (zs_ret (ze_ix ix_P (ze_lst (za_cons ze_non (za_cons ze_bl (za_cons (ze_tup za_nil) (za_cons (ze_lst za_nil) (za_cons ze_int (za_cons ze_str (za_cons ze_dnewK (za_cons (ze_tup (za_cons (ze_tup za_nil) za_nil)) (za_cons (ze_tup (za_cons ze_int za_nil)) (za_cons (ze_tup (za_cons ze_int (za_cons ze_int za_nil))) za_nil))))))))))) (ze_fn F_law_take hr (by decide) rfl (za_cons (zn 0) (za_cons ze_int za_nil))) (fun _ _ => rfl)))) zss_nil)
      (zss_cons (zs_par (i := 3) (j := 4) rfl nd rfl rfl (by decide) rfl rfl (za_cons (ze_fn F_law_take hr (by decide) rfl (za_cons (zn 0) (za_cons (zcb_len rfl m_len (za_cons (zn 1) za_nil) rfl rfl) za_nil))) (za_cons (ze_fn F_law_take hr (by decide) rfl (za_cons (zn 0) (za_cons (zcb_len rfl m_len (za_cons (zn 1) za_nil) rfl rfl) za_nil))) za_nil)) rfl)
      (zss_cons (zs_if (zt_cmpP op_ltP (zn 2) ze_int (nomark _)) (zss_one (zs_ret (ze_op op_addP (ze_op op_addP (ze_slice sl_P (zn 1) zo_none (zo_some (zn 3))) (ze_tup (za_cons (ze_fn F_law_odd hr (by decide) rfl (za_cons (zn 0) (za_cons (ze_ix ix_P (zn 1) (zn 3) (fun _ _ => rfl)) za_nil))) za_nil))) (ze_slice sl_P (zn 1) (zo_some (ze_op op_addP (zn 3) ze_int)) zo_none)))) zss_nil)
      (zss_cons (zs_if (zt_cmpP (op_eqD hu) (zn 2) ze_int (nomark _)) (zss_cons (zs_set (i := 5) nd rfl (Or.inl rfl) (zcb_list rfl m_list (za_cons (zn 1) za_nil) rfl rfl))
      (zss_cons (zs_asg (ze_tup (za_cons (ze_ix ix_P (zn 5) (zn 4) (fun _ _ => rfl)) (za_cons (ze_ix ix_P (zn 5) (zn 3) (fun _ _ => rfl)) za_nil))) (zg_tup rfl (zgs_cons (zg_sub (zn 5) (zn 3) set_list) (zgs_cons (zg_sub (zn 5) (zn 4) set_list) zgs_nil))))
      (zss_one (zs_ret (zcb_tuple rfl m_tuple (za_cons (zn 5) za_nil) rfl rfl))))) zss_nil)
      (zss_one (zs_ret (ze_ix ix_P (ze_lst (za_cons (ze_op op_addP (ze_slice sl_P (zn 1) zo_none (zo_some (zn 3))) (ze_slice sl_P (zn 1) (zo_some (ze_op op_addP (zn 3) ze_int)) zo_none)) (za_cons (ze_op op_addP (ze_slice sl_P (zn 1) zo_none (zo_some (ze_op op_addP (zn 3) ze_int))) (ze_slice sl_P (zn 1) (zo_some (zn 3)) zo_none)) (za_cons (zcb_list rfl m_list (za_cons (zn 1) za_nil) rfl rfl) za_nil)))) (ze_op op_subP (zn 2) ze_int) (fun _ _ => rfl))))))))), ?_⟩
  refine ⟨p, 10, k, rfl, hh, by omega, by decide, by decide, fun way H1 w0 w1 s1 => ?_⟩
  rcases hx with ⟨b, xs, rfl, eb, hxl, hel⟩ | ⟨t, ht, ht2, _⟩
  rotate_left
  · refine ⟨t, ty_step hh s1 ht, rfl, ?_⟩
    refine iteB (fun c => ?_) (fun c => absurd c (by rw [ht2]; decide))
    refine ⟨Nat.zero_le _, fun t1 h1 => ?_⟩
    refine ⟨Nat.zero_le _, fun t2 h2 => ?_⟩
    intro t3 h3
    refine ⟨Nat.zero_le _, fun t4 h4 => ?_⟩
    refine ⟨by show 1 ≤ sizeLine; decide, fun t5 h5 => ?_⟩
    refine ⟨by show 1 ≤ sizeLine; decide, fun t6 h6 => ?_⟩
    refine ⟨by show 2 ≤ sizeLine; decide, fun t7 h7 => ?_⟩
    refine ⟨by show 10 ≤ sizeLine; decide, fun t8 h8 => ?_⟩
    have g1 := Same.new h1 (.tup [])
    have g2 := Same.new h2 (.lst [])
    have g3 := Same.new h3 (.dK [])
    have g4 := Same.new h4 (.tup [])
    have g5 := Same.new h5 (.tup [.ref t4])
    have g6 := Same.new h6 (.tup [.int 0])
    have g7 := Same.new h7 (.tup [.int 0, .int 0])
    have g8 := Same.new h8 (.lst [.non, .bl true, .ref t1, .ref t2, .int 0, .str "", .ref t3, .ref t5, .ref t6, .ref t7])
    have gg := ((((((g1.trans g2).trans g3).trans g4).trans g5).trans g6).trans g7).trans g8
    have sc := s1.same gg
    have n2 := (s1.2.same g1).ne h2
    refine ⟨p, 10, k + 1, rfl, sc.2, by omega, by decide, by decide, fun j H2 j0 j1 s2 => ?_⟩
    obtain ⟨v, ev, hv⟩ := atI_mem (xs := [.non, .bl true, .ref t1, .ref t2, .int 0, .str "", .ref t3, .ref t5, .ref t6, .ref t7]) j0 (by show j < ((10 : Nat) : Int); exact j1)
    refine ⟨_, .inl (SqL.of (s2.1 _ _ ((s1.2.same ((((((g1.trans g2).trans g3).trans g4).trans g5).trans g6).trans g7)).ne h8) upd_same)), v, ev, ?_⟩
    refine fin v _ ((sc.trans s2).mono (by omega)) (fixed_tg (s2.tup sc.2 ((((((g2.trans g3).trans g4).trans g5).trans g6).trans g7).trans g8 _ _ upd_same)) (s2.1 _ _ n2 ((((((g3).trans g4).trans g5).trans g6).trans g7).trans g8 _ _ upd_same)) (s2.1 _ _ ((s1.2.same (g1.trans g2)).ne h3) (((((g4).trans g5).trans g6).trans g7).trans g8 _ _ upd_same)) (s2.tup sc.2 ((((g5).trans g6).trans g7).trans g8 _ _ upd_same)) (s2.tup sc.2 (((g6).trans g7).trans g8 _ _ upd_same)) (s2.tup sc.2 ((g7).trans g8 _ _ upd_same)) (s2.tup sc.2 (g8 _ _ upd_same)) (by omega) hv)
  have eb1 := s1.tup hh eb
  have hel1 := fun y hy => (hel y hy).step hh s1
  refine ⟨"tuple", ty_tupN eb1, rfl, ?_⟩
  refine iteB (fun c => absurd c (by decide)) (fun _ => ?_)
  refine ⟨Nat.zero_le _, fun d hd => ?_⟩
  have g0 := Same.new hd (.tup [])
  obtain ⟨ds, q1, q2, q3, q4⟩ := Dd.all (fun y hy => ((hel1 y hy).same g0).dat (by omega))
  have dp := (ShOk.tuple q3).dp
  refine ⟨.tuple ds, .tuple [], .tup (g0 _ _ eb1) q1, .tup upd_same .nil, Bool.and_eq_true_iff.mpr ⟨by simp only [PyData.canLay0]; exact q4, decide_eq_true (by omega)⟩, by decide, ?_⟩
  refine iteB (fun c => ?_) (fun c => ?_)
  · refine ⟨Nat.zero_le _, fun t1 h1 => ?_⟩
    refine ⟨Nat.zero_le _, fun t2 h2 => ?_⟩
    intro t3 h3
    refine ⟨Nat.zero_le _, fun t4 h4 => ?_⟩
    refine ⟨by show 1 ≤ sizeLine; decide, fun t5 h5 => ?_⟩
    refine ⟨by show 1 ≤ sizeLine; decide, fun t6 h6 => ?_⟩
    refine ⟨by show 2 ≤ sizeLine; decide, fun t7 h7 => ?_⟩
    refine ⟨by show 10 ≤ sizeLine; decide, fun t8 h8 => ?_⟩
    have g1 := Same.new h1 (.tup [])
    have g2 := Same.new h2 (.lst [])
    have g3 := Same.new h3 (.dK [])
    have g4 := Same.new h4 (.tup [])
    have g5 := Same.new h5 (.tup [.ref t4])
    have g6 := Same.new h6 (.tup [.int 0])
    have g7 := Same.new h7 (.tup [.int 0, .int 0])
    have g8 := Same.new h8 (.lst [.non, .bl true, .ref t1, .ref t2, .int 0, .str "", .ref t3, .ref t5, .ref t6, .ref t7])
    have gg := ((((((g1.trans g2).trans g3).trans g4).trans g5).trans g6).trans g7).trans g8
    have sc := s1.same (g0.trans gg)
    have n2 := ((s1.2.same g0).same g1).ne h2
    refine ⟨p, 10, k + 1, rfl, sc.2, by omega, by decide, by decide, fun j H2 j0 j1 s2 => ?_⟩
    obtain ⟨v, ev, hv⟩ := atI_mem (xs := [.non, .bl true, .ref t1, .ref t2, .int 0, .str "", .ref t3, .ref t5, .ref t6, .ref t7]) j0 (by show j < ((10 : Nat) : Int); exact j1)
    refine ⟨_, .inl (SqL.of (s2.1 _ _ ((s1.2.same (g0.trans ((((((g1.trans g2).trans g3).trans g4).trans g5).trans g6).trans g7))).ne h8) upd_same)), v, ev, ?_⟩
    refine fin v _ ((sc.trans s2).mono (by omega)) (fixed_tg (s2.tup sc.2 ((((((g2.trans g3).trans g4).trans g5).trans g6).trans g7).trans g8 _ _ upd_same)) (s2.1 _ _ n2 ((((((g3).trans g4).trans g5).trans g6).trans g7).trans g8 _ _ upd_same)) (s2.1 _ _ (((s1.2.same g0).same (g1.trans g2)).ne h3) (((((g4).trans g5).trans g6).trans g7).trans g8 _ _ upd_same)) (s2.tup sc.2 ((((g5).trans g6).trans g7).trans g8 _ _ upd_same)) (s2.tup sc.2 (((g6).trans g7).trans g8 _ _ upd_same)) (s2.tup sc.2 ((g7).trans g8 _ _ upd_same)) (s2.tup sc.2 (g8 _ _ upd_same)) (by omega) hv)
  refine iteD (fun c2 => ?_) (fun c2 => ?_)
  · refine ⟨Nat.zero_le _, fun t1 h1 => ?_⟩
    refine ⟨Nat.zero_le _, fun t2 h2 => ?_⟩
    intro t3 h3
    refine ⟨Nat.zero_le _, fun t4 h4 => ?_⟩
    refine ⟨by show 1 ≤ sizeLine; decide, fun t5 h5 => ?_⟩
    refine ⟨by show 1 ≤ sizeLine; decide, fun t6 h6 => ?_⟩
    refine ⟨by show 2 ≤ sizeLine; decide, fun t7 h7 => ?_⟩
    refine ⟨by show 10 ≤ sizeLine; decide, fun t8 h8 => ?_⟩
    have g1 := Same.new h1 (.tup [])
    have g2 := Same.new h2 (.lst [])
    have g3 := Same.new h3 (.dK [])
    have g4 := Same.new h4 (.tup [])
    have g5 := Same.new h5 (.tup [.ref t4])
    have g6 := Same.new h6 (.tup [.int 0])
    have g7 := Same.new h7 (.tup [.int 0, .int 0])
    have g8 := Same.new h8 (.lst [.non, .bl true, .ref t1, .ref t2, .int 0, .str "", .ref t3, .ref t5, .ref t6, .ref t7])
    have gg := ((((((g1.trans g2).trans g3).trans g4).trans g5).trans g6).trans g7).trans g8
    have sc := s1.same (g0.trans gg)
    have n2 := ((s1.2.same g0).same g1).ne h2
    refine ⟨p, 10, k + 1, rfl, sc.2, by omega, by decide, by decide, fun j H2 j0 j1 s2 => ?_⟩
    obtain ⟨v, ev, hv⟩ := atI_mem (xs := [.non, .bl true, .ref t1, .ref t2, .int 0, .str "", .ref t3, .ref t5, .ref t6, .ref t7]) j0 (by show j < ((10 : Nat) : Int); exact j1)
    refine ⟨_, .inl (SqL.of (s2.1 _ _ ((s1.2.same (g0.trans ((((((g1.trans g2).trans g3).trans g4).trans g5).trans g6).trans g7))).ne h8) upd_same)), v, ev, ?_⟩
    refine fin v _ ((sc.trans s2).mono (by omega)) (fixed_tg (s2.tup sc.2 ((((((g2.trans g3).trans g4).trans g5).trans g6).trans g7).trans g8 _ _ upd_same)) (s2.1 _ _ n2 ((((((g3).trans g4).trans g5).trans g6).trans g7).trans g8 _ _ upd_same)) (s2.1 _ _ (((s1.2.same g0).same (g1.trans g2)).ne h3) (((((g4).trans g5).trans g6).trans g7).trans g8 _ _ upd_same)) (s2.tup sc.2 ((((g5).trans g6).trans g7).trans g8 _ _ upd_same)) (s2.tup sc.2 (((g6).trans g7).trans g8 _ _ upd_same)) (s2.tup sc.2 ((g7).trans g8 _ _ upd_same)) (s2.tup sc.2 (g8 _ _ upd_same)) (by omega) hv)
  have hxs : 0 < xs.length := by
    rw [eqv_nil] at c
    cases xs with
    | nil => cases q1; cases c
    | cons y ys => simp
  have s1' := s1.same g0
  have eb2 := g0 _ _ eb1
  refine ⟨_, .inr eb2, ?_⟩
  refine ⟨p, xs.length, k + 1, rfl, s1'.2, by omega, by omega, by omega, fun spot H2 p0 p1 s2 => ?_⟩
  have eb3 := s2.tup s1'.2 eb2
  refine ⟨_, .inr eb3, ?_⟩
  refine ⟨p, xs.length, k + 2, rfl, s2.2, by omega, by omega, by omega, fun to H3 r0 r1 s3 => ?_⟩
  refine ⟨_, _, rfl, ?_⟩
  have st := (s1'.trans s2).trans s3
  have eb4 := st.tup hh eb
  have hel4 : ∀ y ∈ xs, El n H3 y := fun y hy => (hel y hy).step hh st
  obtain ⟨sp, rfl⟩ : ∃ sp : Nat, spot = (sp : Int) := ⟨spot.toNat, by omega⟩
  obtain ⟨tp, rfl⟩ : ∃ tp : Nat, to = (tp : Int) := ⟨to.toNat, by omega⟩
  have p2 : sp < xs.length := by omega
  have r2 : tp < xs.length := by omega
  have big : ∀ {z : Nat}, z ≤ xs.length + 1 → z ≤ sizeLine := fun h => le_line (by omega)
  refine iteD (fun c3 => ?_) (fun c3 => ?_)
  · have l1 := cut_to xs (Nat.le_of_lt p2)
    have l2 : (cutV xs (some ((sp : Int) + 1)) none).length ≤ xs.length - (sp + 1) := cut_fr xs (k := sp + 1) p2
    refine ⟨_, rfl, b, rfl, .inl ⟨_, eb4, fun r1 H4 g1 e1 => ?_⟩⟩
    obtain ⟨v, ev, hv⟩ := atI_mem (xs := xs) p0 (by omega)
    refine ⟨_, .inr (g1 _ _ eb4), v, ev, ?_⟩
    have sg := st.same g1
    refine ⟨p, v, k + 3, n, rfl, sg.2.mono (by omega), by omega, by omega, (hel4 v hv).same g1, fun o H5 s4 eo => ?_⟩
    have s5 := sg.trans s4
    have e15 := s4.tup sg.2 e1
    have eb5 := s4.tup sg.2 (g1 _ _ eb4)
    have hel5 : ∀ y ∈ xs, El n H5 y := fun y hy => ((hel4 y hy).same g1).step sg.2 s4
    refine ⟨by show 1 ≤ sizeLine; decide, fun d1 h1 => ?_⟩
    have g2 := Same.new h1 (.tup [o])
    refine .inr ⟨_, _, g2 _ _ e15, upd_same, big (by show _ + 1 ≤ _; omega), fun r2 H6 g3 e2 => ?_⟩
    have y6 := g2.trans g3
    refine ⟨_, rfl, b, rfl, .inl ⟨_, y6 _ _ eb5, fun r3 H7 g4 e3 => ?_⟩⟩
    refine .inr ⟨_, _, g4 _ _ e2, e3, big (by rw [List.length_append]; show _ + 1 + _ ≤ _; omega), fun r4 H8 g5 e4 => ?_⟩
    have y8 := (y6.trans g4).trans g5
    refine fin _ _ ((s5.same y8).mono (by omega)) (.inl ⟨_, _, rfl, e4, by rw [List.length_append, List.length_append]; show _ + 1 + _ ≤ _; omega, fun y hy => ?_⟩)
    rcases List.mem_append.mp hy with hy | hy
    · rcases List.mem_append.mp hy with hy | hy
      · exact ((hel5 y (cut_mem hy)).same y8).mono (by omega)
      · rw [List.mem_singleton.mp hy]; exact eo.same y8
    · exact ((hel5 y (cut_mem hy)).same y8).mono (by omega)
  have fin : ∀ {y : V} {H' : Hp}, Same H3 H' → Tg (n + 1) (l + 1) H' y → Q y H' := fun y t => fin _ _ ((st.same y).mono (by omega)) t
  have el4 : ∀ {H' : Hp}, Same H3 H' → ∀ y ∈ xs, El (n + 1) H' y := fun y z hz => ((hel4 z hz).same y).mono (by omega)
  refine iteB (fun c4 => ?_) (fun c4 => ?_)
  · refine ⟨_, .inr eb4, fun l1 h1 => ?_⟩
    have g1 := Same.new h1 (.lst xs)
    obtain ⟨x1, ex1, hx1⟩ := atI_mem (xs := xs) r0 (by omega)
    obtain ⟨x2, ex2, hx2⟩ := atI_mem (xs := xs) p0 (by omega)
    refine ⟨_, .inl (SqL.of upd_same), x1, ex1, ?_⟩
    refine ⟨_, .inl (SqL.of upd_same), x2, ex2, ?_⟩
    refine ⟨by show 2 ≤ sizeLine; decide, fun d1 h2 => ?_⟩
    have g2 := Same.new h2 (.tup [x1, x2])
    refine ⟨d1, _, rfl, SqT.of upd_same, rfl, _, _, rfl, ?_⟩
    refine ⟨l1, _, (sp : Int), sp, rfl, rfl, g2 _ _ upd_same, ixN_of (by omega) (by omega), _, _, rfl, ?_⟩
    refine ⟨l1, _, (tp : Int), tp, rfl, rfl, upd_same, ixN_of (by omega) (by rw [List.length_set]; omega), rfl, ?_⟩
    refine ⟨_, .inl (SqL.of upd_same), fun r H7 y7 er => ?_⟩
    have yy := (Same.updN (Same.updN (g1.trans g2) h1) h1).trans y7
    refine fin yy (.inl ⟨_, _, rfl, er, by rw [List.length_set, List.length_set]; omega, fun y hy => ?_⟩)
    rcases List.mem_or_eq_of_mem_set hy with hy | rfl
    · rcases List.mem_or_eq_of_mem_set hy with hy | rfl
      · exact el4 yy y hy
      · exact el4 yy _ hx1
    · exact el4 yy _ hx2
  have l1 := cut_to xs (Nat.le_of_lt p2)
  have l2 : (cutV xs (some ((sp : Int) + 1)) none).length ≤ xs.length - (sp + 1) := cut_fr xs (k := sp + 1) p2
  have l3 : (cutV xs none (some ((sp : Int) + 1))).length ≤ sp + 1 := cut_to xs (k := sp + 1) p2
  have l4 := cut_fr xs (k := sp) (Nat.le_of_lt p2)
  refine ⟨_, rfl, b, rfl, .inl ⟨_, eb4, fun r1 H4 g1 e1 => ?_⟩⟩
  refine ⟨_, rfl, b, rfl, .inl ⟨_, g1 _ _ eb4, fun r2 H5 g2 e2 => ?_⟩⟩
  refine .inr ⟨_, _, g2 _ _ e1, e2, big (by omega), fun r3 H6 g3 e3 => ?_⟩
  have y3 := (g1.trans g2).trans g3
  refine ⟨_, rfl, b, rfl, .inl ⟨_, y3 _ _ eb4, fun r4 H7 g4 e4 => ?_⟩⟩
  refine ⟨_, rfl, b, rfl, .inl ⟨_, g4 _ _ (y3 _ _ eb4), fun r5 H8 g5 e5 => ?_⟩⟩
  refine .inr ⟨_, _, g5 _ _ e4, e5, big (by omega), fun r6 H9 g6 e6 => ?_⟩
  have y6 := (g4.trans g5).trans g6
  refine ⟨_, .inr (y6 _ _ (y3 _ _ eb4)), fun la ha => ?_⟩
  have ga := Same.new ha (.lst xs)
  refine ⟨by show 3 ≤ sizeLine; decide, fun lb hb => ?_⟩
  have gb := Same.new hb (.lst [.ref r3, .ref r6, .ref la])
  obtain ⟨z, ez, hz⟩ := atI_mem (xs := [V.ref r3, .ref r6, .ref la]) (i := way - 6) (by
    have h5 : way ≠ 5 := by simpa using c4
    have h3 : ¬ way < 5 := c3
    omega) (by
    have h9 : way ≠ 9 := fun e => c2 (by rw [e])
    show way - 6 < ((3 : Nat) : Int); omega)
  refine ⟨_, .inl (SqL.of upd_same), z, ez, ?_⟩
  have yb := ga.trans gb
  have yy := (y3.trans y6).trans yb
  refine fin yy ?_
  simp only [List.mem_cons, List.not_mem_nil, or_false] at hz
  rcases hz with rfl | rfl | rfl
  · refine .inl ⟨_, _, rfl, yb _ _ (y6 _ _ e3), by rw [List.length_append]; omega, fun y hy => ?_⟩
    rcases List.mem_append.mp hy with hy | hy <;> exact el4 yy y (cut_mem hy)
  · refine .inl ⟨_, _, rfl, yb _ _ e6, by rw [List.length_append]; omega, fun y hy => ?_⟩
    rcases List.mem_append.mp hy with hy | hy <;> exact el4 yy y (cut_mem hy)
  · have ela := gb _ _ (upd_same (H := _) (a := la) (o := .lst xs))
    refine .inr ⟨"list", ty_lstN ela, by decide, .inl ((Dd.lst ela fun y hy => (el4 yy y hy).dat (by omega)).seen.mono (by decide) (by
      have := Nat.mul_le_mul_right (13100 + 2) (show xs.length ≤ 700 by omega)
      omega))⟩
end
end K29
set_option Elab.async false
set_option linter.all false
set_option maxRecDepth 100000
set_option exponentiation.threshold 3000
set_option maxHeartbeats 4000000
namespace K29
open PySem L2 MRow M27 M30
theorem pow100 : 2 ^ 1300 ≥ 1000001 := by decide +kernel
theorem ShX.list3 {d e f : PyData} {k a b c : Nat} (h1 : ShX d k a) (h2 : ShX e k b) (h3 : ShX f k c) : ShX (.list [d, e, f]) (k + 1) (a + b + c + 10) := by
  refine ⟨by simp only [PyData.showable, PyData.showableAll, h1.sh, h2.sh, h3.sh, Bool.and_self], by simp only [PyData.depth, PyData.depthAll]; have := h1.dp; have := h2.dp; have := h3.dp; omega, ?_⟩
  have l1 := h1.ln
  have l2 := h2.ln
  have l3 := h3.ln
  have := listText_len_le (PyData.shownAll [d, e, f])
  simp only [PyData.shown]
  simp only [PyData.shownAll, List.map_cons, List.map_nil, List.sum_cons, List.sum_nil, List.length_cons, List.length_nil] at this ⊢
  omega
theorem told_dat {H : Hp} {r c : Addr} {x : V} {ns : List Int} {m a : Nat} {q : Int} (hrow : H r = some (.tup (ns.map V.int))) (hl : ns.length ≤ 601) (hb : ∀ n ∈ ns, n.natAbs < 2 ^ 1300) (hc : H c = some (.tup [.int m, .int a, .int q])) (cb : CB m a q) (hx : Seen H x 30 9300000) : ∃ ds, ((∀ H', Same H H' → DatAll H' [.ref r, .ref c, x] ds) ∧ (PyData.list ds).hasDict = false ∨ ∀ H', Same H H' → DatXs H' [.ref r, .ref c, x] ds) ∧ ShX (.list ds) 60 16777216 := by
  have s1 := shT hb
  have s2 := shT (ns := [(m : Int), a, q]) (by
    have := pow100
    intro n hn
    simp only [List.mem_cons, List.not_mem_nil, or_false] at hn
    have z := cb
    unfold CB at z
    rcases hn with rfl | rfl | rfl <;> omega)
  have fin : ∀ d, ShX d 30 9300000 → ShX (.list [.tuple (ns.map PyData.int), .tuple ([(m : Int), a, q].map PyData.int), d]) 60 16777216 := fun d h2 =>
    (ShX.list3 (s1.x.mono (k' := 30) (L' := 790000) (by decide) (by have := Nat.mul_le_mul_right 1303 hl; omega)) (s2.x.mono (k' := 30) (L' := 4000) (by decide) (by show 3 * _ + 3 ≤ _; decide)) h2).mono (by decide) (by decide)
  rcases hx with ⟨d, h1, h2⟩ | ⟨d, h1, h2⟩
  · refine ⟨_, .inl ⟨fun H' y => .cons (.ints (y _ _ hrow)) (.cons (.ints (ns := [(m : Int), a, q]) (y _ _ hc)) (.cons (h1.same y) .nil)), ?_⟩, fin d h2.x⟩
    simp only [PyData.hasDict, PyData.hasDictAll, Bool.or_eq_false_iff]
    have z1 := s1.nd
    have z2 := s2.nd
    simp only [PyData.hasDict] at z1 z2
    exact ⟨z1, z2, h2.nd, trivial⟩
  · exact ⟨_, .inr fun H' y => .cons (.tup (y _ _ hrow) (DatXs.ints ns)) (.cons (.tup (y _ _ hc) (DatXs.ints [(m : Int), a, q])) (.cons (h1.same y) .nil)), fin d h2⟩
section
variable {P : Program} {w : World} {K : PySem.W.Frag} {mg : Str → Option Value} {base : Heap} {f : Addr} {fd : FuncData}
theorem sc_told : FnScope ["_law_row_here", "_law_claim_here", "_law_thing", "_law_before", "_law_found"] ["_law_row_here", "_law_claim_here", "_law_thing"] (defScope (top 32)) := ⟨rfl, rfl, rfl, by decide +kernel, rfl, by decide +kernel, by decide +kernel⟩
noncomputable def sp_told : Sp := fun vs H Q _ => ∃ (r c : Addr) (x : V) (ns : List Int) (m a : Nat) (q : Int), vs = [.ref r, .ref c, x] ∧ H r = some (.tup (ns.map V.int)) ∧ ns.length ≤ 601 ∧ (∀ n ∈ ns, n.natAbs < 2 ^ 1300) ∧ H c = some (.tup [.int m, .int a, .int q]) ∧ CB m a q ∧ Tg 8 700 H x ∧ ∀ H', Same H H' → Q (.bl true) H'
theorem ok_told (F : Fun K "_law_told" "_law_told" (top 32) f fd) (m_bool : mg "bool" = none) (m_isinstance : mg "isinstance" = none) (m_repr : mg "repr" = none) (F_shows_claim : FnA P w K mg base "shows_claim" 3 ["row", "claim", "thing"] sp_sc) (F_law_due : FnA P w K mg base "_law_due" 1 ["_law_row_here", "_law_claim_here", "_law_thing"] sp_sc) : FnOk P w K mg base CX0 4 f fd ["_law_row_here", "_law_claim_here", "_law_thing"] sp_told := by
  refine F.okz sc_told (fun vs H Q E h => ?_) (fun cdv A outer s H vs Q E hr h => ?_)
  · obtain ⟨r, c, x, ns, m, a, q, rfl, _⟩ := h; rfl
  obtain ⟨r, c, x, ns, m, a, q, rfl, hrow, hl, hb, hc, cb, hx, fin⟩ := h
  have nd := sc_told.nd
  have hu := hr.units
  have hl' : ns.length ≤ 1000 := by omega
  refine ⟨_, (zss_cons (zs_set (i := 3) nd rfl (Or.inl rfl) (zcb_reprL hr rfl m_repr (za_cons (ze_lstN (za_cons (zn 0) (za_cons (zn 1) (za_cons (zn 2) za_nil)))) za_nil) rfl rfl))
      (zss_cons (zs_set (i := 4) nd rfl (Or.inl rfl) (ze_fn F_shows_claim hr (by decide) rfl (za_cons (zn 0) (za_cons (zn 1) (za_cons (zn 2) za_nil)))))
      (zss_one (zs_ret (ze_andP (zcb_isinstance rfl m_isinstance (za_cons (zn 4) (za_cons (zty_bool rfl m_bool) za_nil)) rfl rfl) (ze_andP (ze_cmpR (op_eqD hu) (zn 4) (ze_fn F_law_due hr (by decide) rfl (za_cons (zn 0) (za_cons (zn 1) (za_cons (zn 2) za_nil)))) (nomark _)) (ze_one (ze_cmpR (op_eqD hu) (zcb_reprL hr rfl m_repr (za_cons (ze_lstN (za_cons (zn 0) (za_cons (zn 1) (za_cons (zn 2) za_nil)))) za_nil) rfl rfl) (zn 3) (nomark _))))))))), ?_⟩
  obtain ⟨ds, dm, sh⟩ := told_dat hrow hl hb hc cb (hx.seen (by decide) (by decide))
  refine ⟨by show 3 ≤ sizeLine; decide, fun d1 h1 n1 => ?_⟩
  have g1 := Same.new h1 (.lst [.ref r, .ref c, x])
  refine ⟨_, ds, upd_same, dm.imp (fun d => ⟨d.1 _ g1, d.2⟩) (fun d => ⟨n1, d _ g1⟩), sh, ?_⟩
  refine ⟨r, c, x, ns, m, a, q, rfl, g1 _ _ hrow, hl', g1 _ _ hc, cb, (hx.same g1).thing, fun b H2 y2 hb2 => ?_⟩
  have y12 := g1.trans y2
  refine ⟨"bool", rfl, rfl, ?_⟩
  refine ⟨r, c, x, ns, m, a, q, rfl, y12 _ _ hrow, hl', y12 _ _ hc, cb, (hx.same y12).thing, fun b' H3 y3 hb3 => ?_⟩
  have y13 := y12.trans y3
  have e : b = b' := by
    have k : Due (upd H d1 (.lst [.ref r, .ref c, x])) ns m a q x ↔ Due H2 ns m a q x := by
      constructor
      · rintro ⟨h, t, rfl, e⟩
        exact ⟨h, t, rfl, y2 _ _ e⟩
      · rintro ⟨h, t, rfl, e⟩
        refine ⟨h, t, rfl, ?_⟩
        rcases hx with ⟨b', xs, z, e', _⟩ | ⟨t', h', n', _⟩
        · cases z
          have := y12 _ _ e'
          rw [e] at this
          rw [g1 _ _ e', ← this]
        · have := ty_same y12 h'
          rw [ty_tupN e] at this
          cases this
          exact absurd n' (by decide)
    cases b <;> cases b' <;> simp_all
  subst e
  refine iteD (fun _ => ?_) (fun c => absurd rfl c)
  refine ⟨by show 3 ≤ sizeLine; decide, fun d2 h2 n2 => ?_⟩
  have g2 := Same.new h2 (.lst [.ref r, .ref c, x])
  refine ⟨_, ds, upd_same, dm.imp (fun d => ⟨d.1 _ (y13.trans g2), d.2⟩) (fun d => ⟨n2, d _ (y13.trans g2)⟩), sh, ?_⟩
  show Q (.bl (decide (V.str (PyData.list ds).shown = V.str (PyData.list ds).shown))) _
  rw [decide_eq_true rfl]
  exact fin _ (y13.trans g2)
end
end K29
set_option Elab.async false
set_option linter.all false
set_option maxRecDepth 100000
set_option exponentiation.threshold 3000
set_option maxHeartbeats 4000000
namespace K29
open PySem L2 MRow M27 M30
noncomputable def Rn (n : Int) : Prop := n.natAbs < 2 ^ 1300 ∧ (0 ≤ n ∨ n.natAbs < 2 ^ 1299)
theorem Rn.quo {n q : Int} (hq : 2 ≤ q) (h : Rn n) : (n / q).natAbs < Bg 0 := by
  have e : Bg 0 = 2 ^ 1299 := by unfold Bg; omega
  have p : 2 ^ 1300 = 2 * 2 ^ 1299 := by decide +kernel
  rw [e]
  rcases h with ⟨h1, h | h⟩
  · rw [p] at h1
    generalize 2 ^ 1299 = b at h1
    have g0 : 0 ≤ n / q := Int.ediv_nonneg h (by omega)
    have g1 := Int.ediv_mul_le n (b := q) (by omega)
    have g2 : n / q * 2 ≤ n / q * q := Int.mul_le_mul_of_nonneg_left hq g0
    omega
  · exact Nat.lt_of_le_of_lt (Int.natAbs_ediv_le_natAbs n q) h
theorem strd_mem {ns : List Int} {a m : Nat} {x : Int} (h : x ∈ HT.strd ns a m) : x ∈ ns := by
  unfold HT.strd at h
  obtain ⟨k, _, e⟩ := List.mem_filterMap.mp h
  exact List.mem_of_getElem? e
theorem strd_lim (ns : List Int) (a m : Nat) (h : ns.length ≤ 601) : (HT.strd ns a m).length ≤ 601 := by
  unfold HT.strd
  refine Nat.le_trans (List.length_filterMap_le _ _) ?_
  rw [List.length_range]
  exact h
section
variable {P : Program} {w : World} {K : PySem.W.Frag} {mg : Str → Option Value} {base : Heap} {f : Addr} {fd : FuncData}
theorem sc_right : FnScope ["_law_hand_here", "_law_row_here", "_law_claim_here", "_law_thing", "_law_turn", "_law_other"] ["_law_hand_here", "_law_row_here", "_law_claim_here"] (defScope (top 33)) := ⟨rfl, rfl, rfl, by decide +kernel, rfl, by decide +kernel, by decide +kernel⟩
noncomputable def sp_right : Sp := fun vs H Q _ => ∃ (p r c : Addr) (k : Nat) (ns : List Int) (m a : Nat) (q : Int), vs = [.ref p, .ref r, .ref c] ∧ Hand H p k ∧ k < 800000 ∧ H r = some (.tup (ns.map V.int)) ∧ ns.length ≤ 601 ∧ (∀ n ∈ ns, Rn n) ∧ H c = some (.tup [.int m, .int a, .int q]) ∧ CB m a q ∧ ∀ H', Step p (k + 100) H H' → Q (.bl true) H'
theorem ok_right (F : Fun K "_law_right" "_law_right" (top 33) f fd) (m_range : mg "range" = none) (m_tuple : mg "tuple" = none) (F_law_otherwise : FnA P w K mg base "_law_otherwise" 3 ["_law_hand_here", "_law_thing"] sp_other) (F_law_told : FnA P w K mg base "_law_told" 4 ["_law_row_here", "_law_claim_here", "_law_thing"] sp_told) : FnOk P w K mg base CX0 5 f fd ["_law_hand_here", "_law_row_here", "_law_claim_here"] sp_right := by
  refine F.okz sc_right (fun vs H Q E h => ?_) (fun cdv A outer s H vs Q E hr h => ?_)
  · obtain ⟨p, r, c, k, ns, m, a, q, rfl, _⟩ := h; rfl
  obtain ⟨p, r, c, k, ns, m, a, q, rfl, hh, hk, hrow, hl, hb, hc, cb, fin⟩ := h
  have nd := sc_right.nd
  have hu := hr.units
  have hq : 2 ≤ q := cb.2.2.2.2.1
  have hb' : ∀ n ∈ ns, n.natAbs < 2 ^ 1300 := fun n hn => (hb n hn).1
  refine ⟨_, (zss_cons (zs_set (i := 3) nd rfl (Or.inl rfl) (zcb_tuple rfl m_tuple (za_cons (ze_comp ["_law_number_here"] [("_law_claim_here", 2)] rfl ⟨rfl, by decide +kernel, by decide +kernel, rfl, rfl⟩ (zi_tup (ze_stp (zn 1) (ze_ix ix_P (zn 2) ze_int (fun _ _ => rfl)) (ze_ix ix_P (zn 2) ze_int (fun _ _ => rfl)))) kpg_name (fun _ _ _ _ => zg_name (i := 0) (show List.Nodup (["_law_number_here", "_law_claim_here"] : List Str) by decide +kernel) rfl (Or.inl rfl)) (fun _ _ _ _ => zif_nil) (fun _ _ _ _ => (ze_op op_fdivP (zn 0) (ze_ix (ix_P' rfl) (zn 1) ze_int (fun _ _ => rfl))))) za_nil) rfl rfl))
      (zss_cons (zs_if (ZW.zt (zw_or (zt_not (zt_valP (ze_fn F_law_told hr (by decide) rfl (za_cons (zn 1) (za_cons (zn 2) (za_cons (zn 3) za_nil)))))) (zw_or1 (zt_not (zt_valP (ze_fn F_law_told hr (by decide) rfl (za_cons (zn 1) (za_cons (zn 2) (za_cons (ze_op op_addP (zn 3) (ze_tup (za_cons ze_int za_nil))) za_nil))))))))) (zss_one (zs_ret ze_bl)) zss_nil)
      (zss_cons (zs_for PassesOwn.never rfl (zi_range1 rfl m_range (za_cons ze_int za_nil)) (zg_name (i := 4) nd rfl (Or.inl rfl)) (zss_cons (zs_set (i := 5) nd rfl (Or.inl rfl) (ze_fn F_law_otherwise hr (by decide) rfl (za_cons (zn 0) (za_cons (zn 3) za_nil))))
      (zss_one (zs_if (ZW.zt (zw_or (zt_not (zt_valP (ze_fn F_law_told hr (by decide) rfl (za_cons (zn 1) (za_cons (zn 2) (za_cons (zn 5) za_nil)))))) (zw_or1 (zt_not (zt_valP (ze_fn F_law_told hr (by decide) rfl (za_cons (zn 1) (za_cons (zn 2) (za_cons (ze_fn F_law_otherwise hr (by decide) rfl (za_cons (zn 0) (za_cons (zn 5) za_nil))) za_nil))))))))) (zss_one (zs_ret ze_bl)) zss_nil))))
      (zss_one (zs_ret ze_bl))))), ?_⟩
  refine ⟨_, .inr hc, .int a, rfl, ?_⟩
  refine ⟨_, .inr hc, .int m, rfl, ?_⟩
  refine ⟨r, _, a, m, rfl, rfl, rfl, by have := cb.1; omega, hrow, fun e H3 y3 he => ?_⟩
  rw [strd_map] at he
  have sl := strd_lim ns a m hl
  have sm : ∀ x ∈ HT.strd ns a m, (x / q).natAbs < Bg 0 := fun x hx => (hb x (strd_mem hx)).quo hq
  have qd : quo ns a m q = (HT.strd ns a m).map fun x => x / q := rfl
  generalize HT.strd ns a m = ss at he sl sm qd
  have hc3 := y3 _ _ hc
  refine ⟨e, rfl, ⟨_, SqT.of he⟩, cmp_tup (xs := ss.map V.int) (fun k zs H' => H' = H3 ∧ zs = ((ss.take k).map fun x => x / q).map V.int) ⟨rfl, rfl⟩ ?_ ?_ ?_⟩
  · rintro k zs H' _ ⟨rfl, _⟩
    exact SqT.of he
  · rintro k z zs H' hz ⟨rfl, rfl⟩
    have hk : k < ss.length := by
      have := (List.getElem?_eq_some_iff.mp hz).1
      rw [List.length_map] at this
      exact this
    have ez : z = .int ss[k] := by rw [getI hk] at hz; exact (Option.some.inj hz).symm
    subst ez
    refine ⟨by rw [List.length_map, List.length_map, List.length_take]; exact small1000 (by omega), ?_⟩
    refine ⟨_, .inr hc3, .int q, rfl, ?_⟩
    refine ⟨⟨by have := cb.2.2.2.2.1; omega, by have := cb.2.2.2.2.2; omega⟩, rfl, ?_⟩
    rw [List.take_succ, List.getElem?_eq_getElem hk, List.map_append, List.map_append]
    rfl
  · rintro zs H' ⟨rfl, rfl⟩ D hD
    rw [List.length_map, List.take_of_length_le (Nat.le_refl _)]
    refine ⟨_, .inl (SqL.of upd_same), fun t H4 y4 ht => ?_⟩
    have y := (y3.trans (Same.new hD _)).trans y4
    have hel : ∀ x ∈ (ss.map fun x => x / q).map V.int, ∀ H', El 0 H' x := fun x hx H' => by
      obtain ⟨i, hi, rfl⟩ := List.mem_map.mp hx
      obtain ⟨j, hj, rfl⟩ := List.mem_map.mp hi
      exact .inl (.inl ⟨_, rfl, sm j hj⟩)
    have hlen : ((ss.map fun x => x / q).map V.int).length ≤ 601 := by
      rw [List.length_map, List.length_map]
      omega
    generalize (ss.map fun x => x / q).map V.int = xs at ht hel hlen
    have tg : ∀ {H'}, Same H4 H' → Tg 0 601 H' (.ref t) := fun z => .inl ⟨_, _, rfl, z _ _ ht, hlen, fun x hx => hel x hx _⟩
    refine ⟨r, c, .ref t, ns, m, a, q, rfl, y _ _ hrow, hl, hb', y _ _ hc, cb, (tg (Same.refl _)).mono (by decide) (by decide), fun H5 y5 => ?_⟩
    refine ⟨by show 1 ≤ sizeLine; decide, fun d hd => ?_⟩
    have g6 := Same.new hd (.tup [.int 0])
    refine .inr ⟨_, _, g6 _ _ (y5 _ _ ht), upd_same, le_line (by show _ + 1 ≤ _; omega), fun r2 H7 g7 e7 => ?_⟩
    have y57 := (y5.trans g6).trans g7
    have y7 := y.trans y57
    refine ⟨r, c, .ref r2, ns, m, a, q, rfl, y7 _ _ hrow, hl, hb', y7 _ _ hc, cb, Tg.mono (n := 0) (l := 602) (.inl ⟨_, _, rfl, e7, by show _ ≤ _; rw [List.length_append]; show _ + 1 ≤ _; omega, fun x hx => ?_⟩) (by decide) (by decide), fun H8 y8 => ?_⟩
    · rcases List.mem_append.mp hx with hx | hx
      · exact hel x hx _
      · rw [List.mem_singleton.mp hx]
        exact .inl (.inl ⟨0, rfl, Bg.small (by decide)⟩)
    have yy := y57.trans y8
    have st := Step.of_same hh (y.trans yy)
    refine ⟨8, rfl, by decide, by decide, for_range (fun j σ H' => Step p (k + 8 * j) H H' ∧ H' t = some (.tup xs) ∧ ∃ x4 x5, σ = [some (.ref p), some (.ref r), some (.ref c), some (.ref t), x4, x5]) ⟨st, yy _ _ ht, _, _, rfl⟩ ?_ ?_⟩
    · rintro j σ H' hj ⟨st, ht', x4, x5, rfl⟩
      have tg : Tg 0 601 H' (.ref t) := .inl ⟨_, _, rfl, ht', hlen, fun x hx => hel x hx _⟩
      have hj' : j < 8 := by omega
      refine ⟨p, .ref t, k + 8 * j, 0, 601, rfl, st.2, by omega, by decide, by decide, by decide, tg, fun y1 H1 s1 t1 => ?_⟩
      have st1 := st.trans s1
      refine ⟨r, c, y1, ns, m, a, q, rfl, st1.tup hh hrow, hl, hb', st1.tup hh hc, cb, t1.mono (by decide) (by decide), fun H2 z2 => ?_⟩
      have st2 := st1.same z2
      refine ⟨p, y1, k + 8 * j + 4, 1, 602, rfl, st2.2, by omega, by decide, by decide, by decide, t1.same z2, fun y3 H3 s3 t3 => ?_⟩
      have st3 := st2.trans s3
      refine ⟨r, c, y3, ns, m, a, q, rfl, st3.tup hh hrow, hl, hb', st3.tup hh hc, cb, t3.mono (by decide) (by decide), fun H5 z5 => ?_⟩
      exact ⟨(st3.same z5).mono (by omega), (((s1.same z2).trans s3).same z5).tup st.2 ht', _, _, rfl⟩
    · rintro σ H' ⟨st, tg, x4, x5, rfl⟩
      exact fin _ (st.mono (by omega))
end
end K29
set_option Elab.async false
set_option linter.all false
set_option maxRecDepth 100000
set_option exponentiation.threshold 3000
set_option maxHeartbeats 4000000
namespace K29
open PySem L2 MRow M27 M30
theorem rn_small {ms : List Int} (h : InB2 ms) : ∀ n ∈ ms, Rn n := fun n hn => by
  have := h n hn
  have e : (2 : Nat) ^ 40 ≤ 2 ^ 1299 := Nat.pow_le_pow_right (by decide) (by decide)
  exact ⟨pow_big (by omega) (by omega), .inr (Nat.lt_of_lt_of_le (show n.natAbs < 2 ^ 40 by omega) e)⟩
theorem rn_tb {n : Nat} (hn : n ≤ 600) : ∀ x ∈ tb (R n) (n + 1), Rn x := by
  intro x hx
  unfold tb at hx
  obtain ⟨j, hj, rfl⟩ := List.mem_map.mp hx
  have hj' : j ≤ 600 := by have := List.mem_range.mp hj; omega
  exact ⟨R_small hn hj', .inl (R_in n j hj').1⟩
section
variable {P : Program} {w : World} {K : PySem.W.Frag} {mg : Str → Option Value} {base : Heap} {f : Addr} {fd : FuncData}
theorem sc_law : FnScope ["_law_script", "_law_k", "_law_hand_here", "_law_turn", "_law_claim_here", "_law_row_here", "_law_told_here", "_law_some"] ["_law_script"] (defScope (top 34)) := ⟨rfl, rfl, rfl, by decide +kernel, rfl, by decide +kernel, by decide +kernel⟩
noncomputable def sp_law (K : PySem.W.Frag) : Sp := fun vs H Q _ => ∃ (a : Addr) (ns : List Int), vs = [.ref a] ∧ SqL K H a (ns.map V.int) ∧ ns.length ≤ 63 ∧ ∀ H', Q (.bl true) H'
theorem ok_law (F : Fun K "law" "law" (top 34) f fd) (m_len : mg "len" = none) (m_max : mg "max" = none) (m_min : mg "min" = none) (m_range : mg "range" = none) (F_shows_claim : FnA P w K mg base "shows_claim" 3 ["row", "claim", "thing"] sp_sc) (F_counts : FnA P w K mg base "counts" 4 ["kind", "most"] sp_counts) (F_law_hand : FnA P w K mg base "_law_hand" 1 ["_law_script", "_law_k"] (sp_hand K)) (F_law_take : FnA P w K mg base "_law_take" 1 ["_law_hand_here", "_law_many"] sp_take) (F_law_q : FnA P w K mg base "_law_q" 2 ["_law_hand_here"] sp_q) (F_law_claim : FnA P w K mg base "_law_claim" 2 ["_law_hand_here", "_law_q_here"] sp_claim) (F_law_row : FnA P w K mg base "_law_row" 3 ["_law_hand_here", "_law_claim_here"] sp_row) (F_law_bent : FnA P w K mg base "_law_bent" 2 ["_law_hand_here", "_law_claim_here", "_law_row_here"] sp_bent) (F_law_right : FnA P w K mg base "_law_right" 5 ["_law_hand_here", "_law_row_here", "_law_claim_here"] sp_right) : FnOk P w K mg base CX0 6 f fd ["_law_script"] (sp_law K) := by
  refine F.okz sc_law (fun vs H Q E h => ?_) (fun cdv A outer s H vs Q E hr h => ?_)
  · obtain ⟨a, ns, rfl, _⟩ := h; rfl
  obtain ⟨a, ns, rfl, hS, hl, q⟩ := h
  have nd := sc_law.nd
  have hu := hr.units
  refine ⟨_, (zss_cons (zs_for PassesOwn.never rfl (zi_range1 rfl m_range (za_cons (zcb_max rfl rfl m_max (za_cons ze_int (za_cons (zcb_min rfl rfl m_min (za_cons (zcb_len rfl m_len (za_cons (zn 0) za_nil) rfl rfl) (za_cons ze_int za_nil)) rfl rfl) za_nil)) rfl rfl) za_nil)) (zg_name (i := 1) nd rfl (Or.inl rfl)) (zss_cons (zs_set (i := 2) nd rfl (Or.inl rfl) (ze_fn F_law_hand hr (by decide) rfl (za_cons (zn 0) (za_cons (zn 1) za_nil))))
      (zss_cons (zs_for PassesOwn.never rfl (zi_range1 rfl m_range (za_cons ze_int za_nil)) (zg_name (i := 3) nd rfl (Or.inl rfl)) (zss_cons (zs_set (i := 4) nd rfl (Or.inl rfl) (ze_fn F_law_claim hr (by decide) rfl (za_cons (zn 2) (za_cons (ze_fn F_law_q hr (by decide) rfl (za_cons (zn 2) za_nil)) za_nil))))
      (zss_cons (zs_set (i := 5) nd rfl (Or.inl rfl) (ze_fn F_law_bent hr (by decide) rfl (za_cons (zn 2) (za_cons (zn 4) (za_cons (ze_fn F_law_row hr (by decide) rfl (za_cons (zn 2) (za_cons (zn 4) za_nil))) za_nil)))))
      (zss_one (zs_if (zt_not (zt_valP (ze_fn F_law_right hr (by decide) rfl (za_cons (zn 2) (za_cons (zn 5) (za_cons (zn 4) za_nil)))))) (zss_one (zs_ret ze_bl)) zss_nil)))))
      (zss_cons (zs_set (i := 6) nd rfl (Or.inl rfl) (ze_fn F_counts hr (by decide) rfl (za_cons (ze_tup (za_cons ze_str za_nil)) (za_cons (ze_ix ix_P (ze_lst (za_cons ze_int (za_cons ze_int za_nil))) (ze_fn F_law_take hr (by decide) rfl (za_cons (zn 2) (za_cons ze_int za_nil))) (fun _ _ => rfl)) za_nil))))
      (zss_cons (zs_set (i := 7) nd rfl (Or.inl rfl) (ze_lst (za_cons (ze_tup (za_cons ze_int (za_cons ze_int (za_cons ze_int za_nil)))) (za_cons (ze_tup (za_cons ze_int (za_cons ze_int (za_cons ze_int za_nil)))) (za_cons (ze_tup (za_cons ze_int (za_cons ze_int (za_cons ze_int za_nil)))) (za_cons (ze_tup (za_cons ze_int (za_cons ze_int (za_cons ze_int za_nil)))) za_nil))))))
      (zss_one (zs_if (zt_not (zt_valP (ze_fn F_law_right hr (by decide) rfl (za_cons (zn 2) (za_cons (zn 6) (za_cons (ze_ix ix_P (zn 7) (ze_fn F_law_take hr (by decide) rfl (za_cons (zn 2) (za_cons ze_int za_nil))) (fun _ _ => rfl)) za_nil)))))) (zss_one (zs_ret ze_bl)) zss_nil)))))))
      (zss_one (zs_ret (ze_andP (ze_cmpR op_isP (ze_fn F_shows_claim hr (by decide) rfl (za_cons (ze_tup (za_cons ze_int za_nil)) (za_cons (ze_tup (za_cons ze_int (za_cons ze_int (za_cons ze_int za_nil)))) (za_cons (ze_tup za_nil) za_nil)))) ze_bl (nomark _)) (ze_one (ze_cmpR op_isP (ze_fn F_shows_claim hr (by decide) rfl (za_cons (ze_tup (za_cons ze_int (za_cons ze_int za_nil))) (za_cons (ze_tup (za_cons ze_int (za_cons ze_int (za_cons ze_int za_nil)))) (za_cons (ze_tup (za_cons ze_bl (za_cons ze_bl za_nil))) za_nil)))) ze_bl (nomark _))))))), ?_⟩
  refine ⟨_, .inl hS, ?_⟩
  rw [List.length_map]
  obtain ⟨j, ej, hj0, hj1⟩ : ∃ j : Int, (if (if (3 : Int) < (ns.length : Int) then (3 : Int) else (ns.length : Int)) > 1 then (if (3 : Int) < (ns.length : Int) then (3 : Int) else (ns.length : Int)) else 1) = j ∧ 1 ≤ j ∧ j ≤ 3 := ⟨_, rfl, by split <;> split <;> omega, by split <;> split <;> omega⟩
  refine ⟨j, by rw [← ej], by omega, by omega, for_range (fun i σ H' => Same H H' ∧ ∃ x1 x2 x3 x4 x5 x6 x7, σ = [some (.ref a), x1, x2, x3, x4, x5, x6, x7]) ⟨Same.refl H, _, _, _, _, _, _, _, rfl⟩ ?_ ?_⟩
  · rintro i σ H' hi ⟨y, x1, x2, x3, x4, x5, x6, x7, rfl⟩
    refine ⟨a, 0 + (i : Int), ns, rfl, SqL.same y hS, by omega, by omega, fun p H1 hp y1 hh => ?_⟩
    have back : ∀ {H8 : Hp} {k : Nat}, Step p k H1 H8 → Same H' H8 := fun {H8 k} st b o e => st.1 b o (ne_of_none e hp) (y1 b o e)
    refine ⟨4, rfl, by decide, by decide, for_range (fun j σ H2 => Step p (600 * j) H1 H2 ∧ ∃ x3 x4 x5, σ = [some (.ref a), some (.int (0 + (i : Int))), some (.ref p), x3, x4, x5, x6, x7]) ⟨Step.refl hh, _, _, _, rfl⟩ ?_ ?_⟩
    · rintro j σ H2 hj ⟨st, x3, x4, x5, rfl⟩
      have hj' : j < 4 := by omega
      refine ⟨p, 600 * j, rfl, st.2, by omega, fun v H3 v0 v1 st3 => ?_⟩
      refine ⟨p, 600 * j + 2, v, rfl, st3.2, by omega, v0, v1, fun m b c H4 cb st4 hc => ?_⟩
      have hh4 := st4.2
      refine ⟨p, c, 600 * j + 2 + 3, m, b, v, rfl, hh4, by omega, hc, cb, fun r H5 ms hr0 hrp st5 hrow hml hmb => ?_⟩
      have hc5 := Step.tup hh4 st5 hc
      refine ⟨p, c, r, 600 * j + 2 + 3 + 400, m, b, v, ms, rfl, st5.2, by omega, hc5, cb, hrp, hrow, hml, hmb, fun t H6 us st6 ht hul hub => ?_⟩
      have hc6 : H6 c = some (.tup [.int m, .int b, .int v]) := st6.1 _ _ (fun z => by obtain ⟨g, s9, k9, e9, _⟩ := st5.2; rw [← z, hc5] at e9; cases e9) (fun z => by rw [z, hrow] at hc5; cases hc5) hc5
      have st46 : Step p (600 * j + 2 + 3 + 400 + 2) H4 H6 := ⟨fun b o hb e => st6.1 b o hb (fun z => by rw [z, hr0] at e; cases e) (st5.1 b o hb e), st6.2⟩
      obtain ⟨m, rfl⟩ : ∃ m' : Nat, m = (m' : Int) := ⟨m.toNat, by have := cb.1; omega⟩
      obtain ⟨b, rfl⟩ : ∃ m' : Nat, b = (m' : Int) := ⟨b.toNat, by have := cb.2.2.1; omega⟩
      refine ⟨p, t, c, 600 * j + 2 + 3 + 400 + 2, us, m, b, v, rfl, st6.2, by omega, ht, by omega, rn_small hub, hc6, cb, fun H7 st7 => ?_⟩
      exact ⟨((((st.trans st3).trans st4).trans st46).trans st7).mono (by omega), _, _, _, rfl⟩
    · rintro σ H2 ⟨st, x3, x4, x5, rfl⟩
      have hh2 := st.2.mono (m := 2400) (by omega)
      refine ⟨by show 1 ≤ sizeLine; decide, fun kd hkd => ?_⟩
      have g1 := Same.new hkd (.tup [.str "all"])
      refine ⟨by show 2 ≤ sizeLine; decide, fun d hd => ?_⟩
      have g2 := Same.new hd (.lst [.int 60, .int 600])
      have hkp : kd ≠ p := hh2.ne hkd
      have hdp : d ≠ p := (hh2.same g1).ne hd
      have st0 := Step.of_same hh2 (g1.trans g2)
      refine ⟨p, 2, 2400, rfl, st0.2, by decide, by decide, by decide, fun way H3 w0 w1 st1 => ?_⟩
      obtain ⟨n, en, hn⟩ : ∃ n : Nat, atI [V.int 60, .int 600] way = some (.int (n : Int)) ∧ n ≤ 600 := by
        have : way = 0 ∨ way = 1 := by omega
        rcases this with rfl | rfl
        · exact ⟨60, rfl, by decide⟩
        · exact ⟨600, rfl, by decide⟩
      refine ⟨_, .inl (SqL.of (st1.1 _ _ hdp upd_same)), .int (n : Int), en, ?_⟩
      refine ⟨kd, n, rfl, hn, st1.1 _ _ hkp (g2 _ _ upd_same), fun t H4 y4 ht => ?_⟩
      have st2 := (st0.trans st1).same y4
      have hh4 := st2.2
      refine ⟨by show 3 ≤ sizeLine; decide, fun c1 hc1 => ?_⟩
      have k1 := Same.new hc1 (.tup [.int 5, .int 4, .int 5])
      refine ⟨by show 3 ≤ sizeLine; decide, fun c2 hc2 => ?_⟩
      have k2 := Same.new hc2 (.tup [.int 7, .int 5, .int 7])
      refine ⟨by show 3 ≤ sizeLine; decide, fun c3 hc3 => ?_⟩
      have k3 := Same.new hc3 (.tup [.int 11, .int 6, .int 11])
      refine ⟨by show 3 ≤ sizeLine; decide, fun c4 hc4 => ?_⟩
      have k4 := Same.new hc4 (.tup [.int 25, .int 24, .int 25])
      refine ⟨by show 4 ≤ sizeLine; decide, fun l5 hl5 => ?_⟩
      have k5 := Same.new hl5 (.lst [.ref c1, .ref c2, .ref c3, .ref c4])
      have kk := (((k1.trans k2).trans k3).trans k4).trans k5
      have st3 := st2.same kk
      have hl5p : l5 ≠ p := (hh4.same (((k1.trans k2).trans k3).trans k4)).ne hl5
      have z1 := k5 _ _ (k4 _ _ (k3 _ _ (k2 _ _ (upd_same (H := H4) (a := c1) (o := .tup [.int 5, .int 4, .int 5])))))
      have z2 := k5 _ _ (k4 _ _ (k3 _ _ (upd_same (a := c2) (o := .tup [.int 7, .int 5, .int 7]))))
      have z3 := k5 _ _ (k4 _ _ (upd_same (a := c3) (o := .tup [.int 11, .int 6, .int 11])))
      have z4 := k5 _ _ (upd_same (a := c4) (o := .tup [.int 25, .int 24, .int 25]))
      have zt := kk _ _ ht
      have zl : upd (upd (upd (upd (upd H4 c1 (.tup [.int 5, .int 4, .int 5])) c2 (.tup [.int 7, .int 5, .int 7])) c3 (.tup [.int 11, .int 6, .int 11])) c4 (.tup [.int 25, .int 24, .int 25])) l5 (.lst [.ref c1, .ref c2, .ref c3, .ref c4]) l5 = some (.lst [.ref c1, .ref c2, .ref c3, .ref c4]) := upd_same
      generalize upd (upd (upd (upd (upd H4 c1 (.tup [.int 5, .int 4, .int 5])) c2 (.tup [.int 7, .int 5, .int 7])) c3 (.tup [.int 11, .int 6, .int 11])) c4 (.tup [.int 25, .int 24, .int 25])) l5 (.lst [.ref c1, .ref c2, .ref c3, .ref c4]) = H5 at z1 z2 z3 z4 zt zl st3
      refine ⟨p, 4, 2401, rfl, st3.2, by decide, by decide, by decide, fun wy H6 v0 v1 st6 => ?_⟩
      obtain ⟨c, m, b, v, ec, hc, cb⟩ : ∃ (c : Addr) (m b : Nat) (v : Int), atI [V.ref c1, .ref c2, .ref c3, .ref c4] wy = some (.ref c) ∧ H5 c = some (.tup [.int m, .int b, .int v]) ∧ CB m b v := by
        have : wy = 0 ∨ wy = 1 ∨ wy = 2 ∨ wy = 3 := by omega
        rcases this with rfl | rfl | rfl | rfl
        · exact ⟨_, 5, 4, 5, rfl, z1, by unfold CB; decide⟩
        · exact ⟨_, 7, 5, 7, rfl, z2, by unfold CB; decide⟩
        · exact ⟨_, 11, 6, 11, rfl, z3, by unfold CB; decide⟩
        · exact ⟨_, 25, 24, 25, rfl, z4, by unfold CB; decide⟩
      refine ⟨_, .inl (SqL.of (st6.1 _ _ hl5p zl)), .ref c, ec, ?_⟩
      refine ⟨p, t, c, 2402, tb (R n) (n + 1), m, b, v, rfl, st6.2, by decide, st6.tup st3.2 zt, by rw [tb_len]; omega, rn_tb hn, st6.tup st3.2 hc, cb, fun H7 st7 => ?_⟩
      exact ⟨y.trans (back (((st.trans st3).trans st6).trans st7)), _, _, _, _, _, _, _, rfl⟩
  · rintro σ H' ⟨y, x1, x2, x3, x4, x5, x6, x7, rfl⟩
    refine ⟨by show 1 ≤ sizeLine; decide, fun d1 h1 => ?_⟩
    refine ⟨by show 3 ≤ sizeLine; decide, fun d2 h2 => ?_⟩
    refine ⟨Nat.zero_le _, fun d3 h3 => ?_⟩
    have g2 := Same.new h2 (.tup [.int 2, .int 1, .int 2])
    have g3 := Same.new h3 (.tup [])
    have th : ∀ {H'' : Hp} {t : Addr} {xs : List V}, H'' t = some (.tup xs) → (∀ y ∈ xs, ∃ b, y = .bl b) → Thing H'' (.ref t) := fun e h => ⟨⟨_, ty_tupN e⟩, fun c ys z e' y hy => by
      cases z
      rw [e] at e'
      cases e'
      obtain ⟨b, rfl⟩ := h y hy
      exact ⟨"bool", rfl⟩⟩
    have e3 := upd_same (H := upd (upd H' d1 (.tup [.int 3])) d2 (.tup [.int 2, .int 1, .int 2])) (a := d3) (o := .tup [])
    refine ⟨d1, d2, .ref d3, [3], 2, 1, 2, rfl, g3 _ _ (g2 _ _ upd_same), by decide, g3 _ _ upd_same, by unfold CB; decide, th e3 (fun y hy => (nomatch hy)), fun b H2 y2 hb => ?_⟩
    have : b = true := by
      rw [hb, Due.tup e3]
      refine ⟨fun j ⟨x, hx, hj, _⟩ => ?_, rfl⟩
      cases j with
      | zero => revert hj; decide
      | succ j => simp at hx
    subst this
    refine ⟨by show 2 ≤ sizeLine; decide, fun d4 h4 => ?_⟩
    refine ⟨by show 3 ≤ sizeLine; decide, fun d5 h5 => ?_⟩
    refine ⟨by show 2 ≤ sizeLine; decide, fun d6 h6 => ?_⟩
    have g5 := Same.new h5 (.tup [.int 1, .int 0, .int 2])
    have g6 := Same.new h6 (.tup [.bl true, .bl false])
    have e6 := upd_same (H := upd (upd H2 d4 (.tup [.int 2, .int 0])) d5 (.tup [.int 1, .int 0, .int 2])) (a := d6) (o := .tup [.bl true, .bl false])
    refine ⟨d4, d5, .ref d6, [2, 0], 1, 0, 2, rfl, g6 _ _ (g5 _ _ upd_same), by decide, g6 _ _ upd_same, by unfold CB; decide, th e6 (fun y hy => by
      simp only [List.mem_cons, List.not_mem_nil, or_false] at hy
      rcases hy with rfl | rfl <;> exact ⟨_, rfl⟩), fun b H3 y3 hb => ?_⟩
    have : b = false := by
      cases b with
      | false => rfl
      | true =>
        have := hb.mp rfl
        rw [Due.tup e6] at this
        have z := this.2
        have : (quo [2, 0] 0 1 2).map V.int = [.int 1, .int 0] := by decide
        rw [this] at z
        cases z
    subst this
    exact q _
end
end K29
set_option Elab.async false
set_option linter.all false
set_option maxRecDepth 100000
set_option maxHeartbeats 4000000
namespace K29
open PySem L2
theorem fnA {P : Program} {w : World} {K : PySem.W.Frag} {mg : Str → Option Value} {base : Heap} {x : Str} {k : Nat} {ps : List Str} {sp : Sp} {f : Addr} {fd : FuncData} (F : FnOk P w K mg base CX0 k f fd ps sp) (b : Binds K fd ps []) (kp : PySem.W.keepIn K (.ref f) = true) (m : mg x = some (.ref f)) : FnA P w K mg base x k ps sp := ⟨⟨f, fd, F, b, kp, m⟩⟩
theorem us1 {α : Type} {p : List α → Prop} (h : ∀ a, p [a]) : ∀ us : List α, us.length = 1 → p us
  | [a], _ => h a
theorem us2 {α : Type} {p : List α → Prop} (h : ∀ a b, p [a, b]) : ∀ us : List α, us.length = 2 → p us
  | [a, b], _ => h a b
theorem us3 {α : Type} {p : List α → Prop} (h : ∀ a b c, p [a, b, c]) : ∀ us : List α, us.length = 3 → p us
  | [a, b, c], _ => h a b c
theorem all_mk {l : PySem.W.OpenLaw} {w : World} {K : PySem.W.Frag} {h : Heap} {mg : Str → Option Value} {fa f1 f2 f3 f4 f5 f6 f7 f8 f9 f10 f11 f12 f13 f14 f15 f16 f17 f18 f19 f20 f21 f22 : Addr} (X : K.In h) (G : h.Ns mainGlobals mg) (hfa : mg "law" = some (.ref fa))
    {od1 an1 od2 an2 od3 an3 od4 an4 od5 an5 od6 an6 od7 an7 od8 an8 od9 an9 od10 an10 od11 an11 od12 an12 od13 an13 od14 an14 od15 an15 od16 an16 od17 an17 od18 an18 od19 an19 od20 an20 od21 an21 od22 an22 : Option Addr} {sl1 sl2 sl3 sl4 sl5 sl6 sl7 sl8 sl9 sl10 sl11 sl12 sl13 sl14 sl15 sl16 sl17 sl18 sl19 sl20 sl21 sl22 : Array (Option Value)} {oc1 kV1 dc1 pm1 cd1 ct1 oc2 kV2 dc2 pm2 cd2 ct2 oc3 kV3 dc3 pm3 cd3 ct3 oc4 kV4 dc4 pm4 cd4 ct4 oc5 kV5 dc5 pm5 cd5 ct5 oc6 kV6 dc6 pm6 cd6 ct6 oc7 kV7 dc7 pm7 cd7 ct7 oc8 kV8 dc8 pm8 cd8 ct8 oc9 kV9 dc9 pm9 cd9 ct9 oc10 kV10 dc10 pm10 cd10 ct10 oc11 kV11 dc11 pm11 cd11 ct11 oc12 kV12 dc12 pm12 cd12 ct12 oc13 kV13 dc13 pm13 cd13 ct13 oc14 kV14 dc14 pm14 cd14 ct14 oc15 kV15 dc15 pm15 cd15 ct15 oc16 kV16 dc16 pm16 cd16 ct16 oc17 kV17 dc17 pm17 cd17 ct17 oc18 kV18 dc18 pm18 cd18 ct18 oc19 kV19 dc19 pm19 cd19 ct19 oc20 kV20 dc20 pm20 cd20 ct20 oc21 kV21 dc21 pm21 cd21 ct21 oc22 kV22 dc22 pm22 cd22 ct22 : Value}
    (a1 : PySem.W.nsIn K mainGlobals "first_not" = some (some (.ref f1))) (l1 : K.lookup f1 = some ⟨oc1, od1, .func (PySem.W.fnOf "first_not" "first_not" (defArgs (top 6)) (defBody (top 6)) (defScope (top 6)) .none kV1 dc1 pm1 an1 cd1 ct1), sl1⟩) (c1 : PySem.W.codeIn K cd1 "first_not" = true) (k1 : PySem.W.keepIn K (.ref f1) = true)
    (a2 : PySem.W.nsIn K mainGlobals "is_whole" = some (some (.ref f2))) (l2 : K.lookup f2 = some ⟨oc2, od2, .func (PySem.W.fnOf "is_whole" "is_whole" (defArgs (top 4)) (defBody (top 4)) (defScope (top 4)) .none kV2 dc2 pm2 an2 cd2 ct2), sl2⟩) (c2 : PySem.W.codeIn K cd2 "is_whole" = true) (k2 : PySem.W.keepIn K (.ref f2) = true)
    (a3 : PySem.W.nsIn K mainGlobals "quotients" = some (some (.ref f3))) (l3 : K.lookup f3 = some ⟨oc3, od3, .func (PySem.W.fnOf "quotients" "quotients" (defArgs (top 7)) (defBody (top 7)) (defScope (top 7)) .none kV3 dc3 pm3 an3 cd3 ct3), sl3⟩) (c3 : PySem.W.codeIn K cd3 "quotients" = true) (k3 : PySem.W.keepIn K (.ref f3) = true)
    (a4 : PySem.W.nsIn K mainGlobals "shows_claim" = some (some (.ref f4))) (l4 : K.lookup f4 = some ⟨oc4, od4, .func (PySem.W.fnOf "shows_claim" "shows_claim" (defArgs (top 9)) (defBody (top 9)) (defScope (top 9)) .none kV4 dc4 pm4 an4 cd4 ct4), sl4⟩) (c4 : PySem.W.codeIn K cd4 "shows_claim" = true) (k4 : PySem.W.keepIn K (.ref f4) = true)
    (a5 : PySem.W.nsIn K mainGlobals "begun" = some (some (.ref f5))) (l5 : K.lookup f5 = some ⟨oc5, od5, .func (PySem.W.fnOf "begun" "begun" (defArgs (top 11)) (defBody (top 11)) (defScope (top 11)) .none kV5 dc5 pm5 an5 cd5 ct5), sl5⟩) (c5 : PySem.W.codeIn K cd5 "begun" = true) (k5 : PySem.W.keepIn K (.ref f5) = true)
    (a6 : PySem.W.nsIn K mainGlobals "put_on" = some (some (.ref f6))) (l6 : K.lookup f6 = some ⟨oc6, od6, .func (PySem.W.fnOf "put_on" "put_on" (defArgs (top 12)) (defBody (top 12)) (defScope (top 12)) .none kV6 dc6 pm6 an6 cd6 ct6), sl6⟩) (c6 : PySem.W.codeIn K cd6 "put_on" = true) (k6 : PySem.W.keepIn K (.ref f6) = true)
    (a7 : PySem.W.nsIn K mainGlobals "of_sizes" = some (some (.ref f7))) (l7 : K.lookup f7 = some ⟨oc7, od7, .func (PySem.W.fnOf "of_sizes" "of_sizes" (defArgs (top 15)) (defBody (top 15)) (defScope (top 15)) .none kV7 dc7 pm7 an7 cd7 ct7), sl7⟩) (c7 : PySem.W.codeIn K cd7 "of_sizes" = true) (k7 : PySem.W.keepIn K (.ref f7) = true)
    (a8 : PySem.W.nsIn K mainGlobals "counted" = some (some (.ref f8))) (l8 : K.lookup f8 = some ⟨oc8, od8, .func (PySem.W.fnOf "counted" "counted" (defArgs (top 19)) (defBody (top 19)) (defScope (top 19)) .none kV8 dc8 pm8 an8 cd8 ct8), sl8⟩) (c8 : PySem.W.codeIn K cd8 "counted" = true) (k8 : PySem.W.keepIn K (.ref f8) = true)
    (a9 : PySem.W.nsIn K mainGlobals "counts" = some (some (.ref f9))) (l9 : K.lookup f9 = some ⟨oc9, od9, .func (PySem.W.fnOf "counts" "counts" (defArgs (top 20)) (defBody (top 20)) (defScope (top 20)) .none kV9 dc9 pm9 an9 cd9 ct9), sl9⟩) (c9 : PySem.W.codeIn K cd9 "counts" = true) (k9 : PySem.W.keepIn K (.ref f9) = true)
    (a10 : PySem.W.nsIn K mainGlobals "_law_hand" = some (some (.ref f10))) (l10 : K.lookup f10 = some ⟨oc10, od10, .func (PySem.W.fnOf "_law_hand" "_law_hand" (defArgs (top 22)) (defBody (top 22)) (defScope (top 22)) .none kV10 dc10 pm10 an10 cd10 ct10), sl10⟩) (c10 : PySem.W.codeIn K cd10 "_law_hand" = true) (k10 : PySem.W.keepIn K (.ref f10) = true)
    (a11 : PySem.W.nsIn K mainGlobals "_law_take" = some (some (.ref f11))) (l11 : K.lookup f11 = some ⟨oc11, od11, .func (PySem.W.fnOf "_law_take" "_law_take" (defArgs (top 23)) (defBody (top 23)) (defScope (top 23)) .none kV11 dc11 pm11 an11 cd11 ct11), sl11⟩) (c11 : PySem.W.codeIn K cd11 "_law_take" = true) (k11 : PySem.W.keepIn K (.ref f11) = true)
    (a12 : PySem.W.nsIn K mainGlobals "_law_q" = some (some (.ref f12))) (l12 : K.lookup f12 = some ⟨oc12, od12, .func (PySem.W.fnOf "_law_q" "_law_q" (defArgs (top 24)) (defBody (top 24)) (defScope (top 24)) .none kV12 dc12 pm12 an12 cd12 ct12), sl12⟩) (c12 : PySem.W.codeIn K cd12 "_law_q" = true) (k12 : PySem.W.keepIn K (.ref f12) = true)
    (a13 : PySem.W.nsIn K mainGlobals "_law_number" = some (some (.ref f13))) (l13 : K.lookup f13 = some ⟨oc13, od13, .func (PySem.W.fnOf "_law_number" "_law_number" (defArgs (top 25)) (defBody (top 25)) (defScope (top 25)) .none kV13 dc13 pm13 an13 cd13 ct13), sl13⟩) (c13 : PySem.W.codeIn K cd13 "_law_number" = true) (k13 : PySem.W.keepIn K (.ref f13) = true)
    (a14 : PySem.W.nsIn K mainGlobals "_law_claim" = some (some (.ref f14))) (l14 : K.lookup f14 = some ⟨oc14, od14, .func (PySem.W.fnOf "_law_claim" "_law_claim" (defArgs (top 26)) (defBody (top 26)) (defScope (top 26)) .none kV14 dc14 pm14 an14 cd14 ct14), sl14⟩) (c14 : PySem.W.codeIn K cd14 "_law_claim" = true) (k14 : PySem.W.keepIn K (.ref f14) = true)
    (a15 : PySem.W.nsIn K mainGlobals "_law_row" = some (some (.ref f15))) (l15 : K.lookup f15 = some ⟨oc15, od15, .func (PySem.W.fnOf "_law_row" "_law_row" (defArgs (top 27)) (defBody (top 27)) (defScope (top 27)) .none kV15 dc15 pm15 an15 cd15 ct15), sl15⟩) (c15 : PySem.W.codeIn K cd15 "_law_row" = true) (k15 : PySem.W.keepIn K (.ref f15) = true)
    (a16 : PySem.W.nsIn K mainGlobals "_law_bent" = some (some (.ref f16))) (l16 : K.lookup f16 = some ⟨oc16, od16, .func (PySem.W.fnOf "_law_bent" "_law_bent" (defArgs (top 28)) (defBody (top 28)) (defScope (top 28)) .none kV16 dc16 pm16 an16 cd16 ct16), sl16⟩) (c16 : PySem.W.codeIn K cd16 "_law_bent" = true) (k16 : PySem.W.keepIn K (.ref f16) = true)
    (a17 : PySem.W.nsIn K mainGlobals "_law_due" = some (some (.ref f17))) (l17 : K.lookup f17 = some ⟨oc17, od17, .func (PySem.W.fnOf "_law_due" "_law_due" (defArgs (top 29)) (defBody (top 29)) (defScope (top 29)) .none kV17 dc17 pm17 an17 cd17 ct17), sl17⟩) (c17 : PySem.W.codeIn K cd17 "_law_due" = true) (k17 : PySem.W.keepIn K (.ref f17) = true)
    (a18 : PySem.W.nsIn K mainGlobals "_law_odd" = some (some (.ref f18))) (l18 : K.lookup f18 = some ⟨oc18, od18, .func (PySem.W.fnOf "_law_odd" "_law_odd" (defArgs (top 30)) (defBody (top 30)) (defScope (top 30)) .none kV18 dc18 pm18 an18 cd18 ct18), sl18⟩) (c18 : PySem.W.codeIn K cd18 "_law_odd" = true) (k18 : PySem.W.keepIn K (.ref f18) = true)
    (a19 : PySem.W.nsIn K mainGlobals "_law_otherwise" = some (some (.ref f19))) (l19 : K.lookup f19 = some ⟨oc19, od19, .func (PySem.W.fnOf "_law_otherwise" "_law_otherwise" (defArgs (top 31)) (defBody (top 31)) (defScope (top 31)) .none kV19 dc19 pm19 an19 cd19 ct19), sl19⟩) (c19 : PySem.W.codeIn K cd19 "_law_otherwise" = true) (k19 : PySem.W.keepIn K (.ref f19) = true)
    (a20 : PySem.W.nsIn K mainGlobals "_law_told" = some (some (.ref f20))) (l20 : K.lookup f20 = some ⟨oc20, od20, .func (PySem.W.fnOf "_law_told" "_law_told" (defArgs (top 32)) (defBody (top 32)) (defScope (top 32)) .none kV20 dc20 pm20 an20 cd20 ct20), sl20⟩) (c20 : PySem.W.codeIn K cd20 "_law_told" = true) (k20 : PySem.W.keepIn K (.ref f20) = true)
    (a21 : PySem.W.nsIn K mainGlobals "_law_right" = some (some (.ref f21))) (l21 : K.lookup f21 = some ⟨oc21, od21, .func (PySem.W.fnOf "_law_right" "_law_right" (defArgs (top 33)) (defBody (top 33)) (defScope (top 33)) .none kV21 dc21 pm21 an21 cd21 ct21), sl21⟩) (c21 : PySem.W.codeIn K cd21 "_law_right" = true) (k21 : PySem.W.keepIn K (.ref f21) = true)
    (a22 : PySem.W.nsIn K mainGlobals "law" = some (some (.ref f22))) (l22 : K.lookup f22 = some ⟨oc22, od22, .func (PySem.W.fnOf "law" "law" (defArgs (top 34)) (defBody (top 34)) (defScope (top 34)) .none kV22 dc22 pm22 an22 cd22 ct22), sl22⟩) (c22 : PySem.W.codeIn K cd22 "law" = true) (k22 : PySem.W.keepIn K (.ref f22) = true)
    (z1 : PySem.W.nsIn K mainGlobals "len" = some none) (z2 : PySem.W.nsIn K mainGlobals "range" = some none) (z3 : PySem.W.nsIn K mainGlobals "bool" = some none) (z4 : PySem.W.nsIn K mainGlobals "int" = some none) (z5 : PySem.W.nsIn K mainGlobals "isinstance" = some none) (z6 : PySem.W.nsIn K mainGlobals "tuple" = some none) (z7 : PySem.W.nsIn K mainGlobals "all" = some none) (z8 : PySem.W.nsIn K mainGlobals "zip" = some none) (z9 : PySem.W.nsIn K mainGlobals "list" = some none) (z10 : PySem.W.nsIn K mainGlobals "min" = some none) (z11 : PySem.W.nsIn K mainGlobals "abs" = some none) (z12 : PySem.W.nsIn K mainGlobals "str" = some none) (z13 : PySem.W.nsIn K mainGlobals "repr" = some none) (z14 : PySem.W.nsIn K mainGlobals "max" = some none) :
    ∃ fd : FuncData, (∀ (s : Shared) (v : Value), BindsTo s fd ⟨[v], []⟩ [("_law_script", v)]) ∧ ∀ base : Heap, K.In base → base.Ns mainGlobals mg → FnOk l.prog w K mg base CX0 6 fa fd ["_law_script"] (sp_law K) := by
  have e := hfa.symm.trans (PySem.W.mg_of X G a22)
  cases e
  have F1 := fun_mk (st := top 6) l1 c1 k1
  have b1 := F1.binds (ps := ["row", "claim"]) fun _ _ _ _ _ _ => us2 fun _ _ => rfl
  have F2 := fun_mk (st := top 4) l2 c2 k2
  have b2 := F2.binds (ps := ["thing"]) fun _ _ _ _ _ _ => us1 fun _ => rfl
  have F3 := fun_mk (st := top 7) l3 c3 k3
  have b3 := F3.binds (ps := ["row", "claim"]) fun _ _ _ _ _ _ => us2 fun _ _ => rfl
  have F4 := fun_mk (st := top 9) l4 c4 k4
  have b4 := F4.binds (ps := ["row", "claim", "thing"]) fun _ _ _ _ _ _ => us3 fun _ _ _ => rfl
  have F5 := fun_mk (st := top 11) l5 c5 k5
  have b5 := F5.binds (ps := ["most"]) fun _ _ _ _ _ _ => us1 fun _ => rfl
  have F6 := fun_mk (st := top 12) l6 c6 k6
  have b6 := F6.binds (ps := ["row", "size"]) fun _ _ _ _ _ _ => us2 fun _ _ => rfl
  have F7 := fun_mk (st := top 15) l7 c7 k7
  have b7 := F7.binds (ps := ["some", "most"]) fun _ _ _ _ _ _ => us2 fun _ _ => rfl
  have F8 := fun_mk (st := top 19) l8 c8 k8
  have b8 := F8.binds (ps := ["kind", "most"]) fun _ _ _ _ _ _ => us2 fun _ _ => rfl
  have F9 := fun_mk (st := top 20) l9 c9 k9
  have b9 := F9.binds (ps := ["kind", "most"]) fun _ _ _ _ _ _ => us2 fun _ _ => rfl
  have F10 := fun_mk (st := top 22) l10 c10 k10
  have b10 := F10.binds (ps := ["_law_script", "_law_k"]) fun _ _ _ _ _ _ => us2 fun _ _ => rfl
  have F11 := fun_mk (st := top 23) l11 c11 k11
  have b11 := F11.binds (ps := ["_law_hand_here", "_law_many"]) fun _ _ _ _ _ _ => us2 fun _ _ => rfl
  have F12 := fun_mk (st := top 24) l12 c12 k12
  have b12 := F12.binds (ps := ["_law_hand_here"]) fun _ _ _ _ _ _ => us1 fun _ => rfl
  have F13 := fun_mk (st := top 25) l13 c13 k13
  have b13 := F13.binds (ps := ["_law_hand_here"]) fun _ _ _ _ _ _ => us1 fun _ => rfl
  have F14 := fun_mk (st := top 26) l14 c14 k14
  have b14 := F14.binds (ps := ["_law_hand_here", "_law_q_here"]) fun _ _ _ _ _ _ => us2 fun _ _ => rfl
  have F15 := fun_mk (st := top 27) l15 c15 k15
  have b15 := F15.binds (ps := ["_law_hand_here", "_law_claim_here"]) fun _ _ _ _ _ _ => us2 fun _ _ => rfl
  have F16 := fun_mk (st := top 28) l16 c16 k16
  have b16 := F16.binds (ps := ["_law_hand_here", "_law_claim_here", "_law_row_here"]) fun _ _ _ _ _ _ => us3 fun _ _ _ => rfl
  have F17 := fun_mk (st := top 29) l17 c17 k17
  have b17 := F17.binds (ps := ["_law_row_here", "_law_claim_here", "_law_thing"]) fun _ _ _ _ _ _ => us3 fun _ _ _ => rfl
  have F18 := fun_mk (st := top 30) l18 c18 k18
  have b18 := F18.binds (ps := ["_law_hand_here", "_law_one"]) fun _ _ _ _ _ _ => us2 fun _ _ => rfl
  have F19 := fun_mk (st := top 31) l19 c19 k19
  have b19 := F19.binds (ps := ["_law_hand_here", "_law_thing"]) fun _ _ _ _ _ _ => us2 fun _ _ => rfl
  have F20 := fun_mk (st := top 32) l20 c20 k20
  have b20 := F20.binds (ps := ["_law_row_here", "_law_claim_here", "_law_thing"]) fun _ _ _ _ _ _ => us3 fun _ _ _ => rfl
  have F21 := fun_mk (st := top 33) l21 c21 k21
  have b21 := F21.binds (ps := ["_law_hand_here", "_law_row_here", "_law_claim_here"]) fun _ _ _ _ _ _ => us3 fun _ _ _ => rfl
  have F22 := fun_mk (st := top 34) l22 c22 k22
  have m_len := PySem.W.mg_none_of X G z1
  have m_range := PySem.W.mg_none_of X G z2
  have m_bool := PySem.W.mg_none_of X G z3
  have m_int := PySem.W.mg_none_of X G z4
  have m_isinstance := PySem.W.mg_none_of X G z5
  have m_tuple := PySem.W.mg_none_of X G z6
  have m_all := PySem.W.mg_none_of X G z7
  have m_zip := PySem.W.mg_none_of X G z8
  have m_list := PySem.W.mg_none_of X G z9
  have m_min := PySem.W.mg_none_of X G z10
  have m_abs := PySem.W.mg_none_of X G z11
  have m_str := PySem.W.mg_none_of X G z12
  have m_repr := PySem.W.mg_none_of X G z13
  have m_max := PySem.W.mg_none_of X G z14
  refine ⟨PySem.W.fnOf "law" "law" (defArgs (top 34)) (defBody (top 34)) (defScope (top 34)) .none kV22 dc22 pm22 an22 cd22 ct22, fun s v => .of_eq rfl, fun base _ _ => ?_⟩
  have A1 : FnA l.prog w K mg base "first_not" 1 ["row", "claim"] sp_first := fnA (ok_first_not F1 m_len m_range) b1 k1 (PySem.W.mg_of X G a1)
  have A2 : FnA l.prog w K mg base "is_whole" 1 ["thing"] sp_is_whole := fnA (ok_is_whole F2 m_bool m_int m_isinstance) b2 k2 (PySem.W.mg_of X G a2)
  have A3 : FnA l.prog w K mg base "quotients" 2 ["row", "claim"] sp_qu := fnA (ok_qu F3 m_tuple A1) b3 k3 (PySem.W.mg_of X G a3)
  have A4 : FnA l.prog w K mg base "shows_claim" 3 ["row", "claim", "thing"] sp_sc := fnA (ok_sc F4 m_all m_isinstance m_len m_tuple m_zip A1 A2 A3) b4 k4 (PySem.W.mg_of X G a4)
  have A5 : FnA l.prog w K mg base "begun" 1 ["most"] sp_begun := fnA (ok_begun F5) b5 k5 (PySem.W.mg_of X G a5)
  have A6 : FnA l.prog w K mg base "put_on" 1 ["row", "size"] sp_put_on := fnA (ok_put_on F6 m_len m_list m_range) b6 k6 (PySem.W.mg_of X G a6)
  have A7 : FnA l.prog w K mg base "of_sizes" 2 ["some", "most"] sp_of_sizes := fnA (ok_of_sizes F7 A5 A6) b7 k7 (PySem.W.mg_of X G a7)
  have A8 : FnA l.prog w K mg base "counted" 3 ["kind", "most"] sp_counted := fnA (ok_counted F8 m_list m_min m_range A7) b8 k8 (PySem.W.mg_of X G a8)
  have A9 : FnA l.prog w K mg base "counts" 4 ["kind", "most"] sp_counts := fnA (ok_counts F9 m_tuple A8) b9 k9 (PySem.W.mg_of X G a9)
  have A10 : FnA l.prog w K mg base "_law_hand" 1 ["_law_script", "_law_k"] (sp_hand K) := fnA (ok_hand F10 m_abs m_len) b10 k10 (PySem.W.mg_of X G a10)
  have A11 : FnA l.prog w K mg base "_law_take" 1 ["_law_hand_here", "_law_many"] sp_take := fnA (ok_take F11) b11 k11 (PySem.W.mg_of X G a11)
  have A12 : FnA l.prog w K mg base "_law_q" 2 ["_law_hand_here"] sp_q := fnA (ok_q F12 A11) b12 k12 (PySem.W.mg_of X G a12)
  have A13 : FnA l.prog w K mg base "_law_number" 2 ["_law_hand_here"] sp_number := fnA (ok_number F13 A11) b13 k13 (PySem.W.mg_of X G a13)
  have A14 : FnA l.prog w K mg base "_law_claim" 2 ["_law_hand_here", "_law_q_here"] sp_claim := fnA (ok_claim F14 A11) b14 k14 (PySem.W.mg_of X G a14)
  have A15 : FnA l.prog w K mg base "_law_row" 3 ["_law_hand_here", "_law_claim_here"] sp_row := fnA (ok_row F15 m_range A11 A13) b15 k15 (PySem.W.mg_of X G a15)
  have A16 : FnA l.prog w K mg base "_law_bent" 2 ["_law_hand_here", "_law_claim_here", "_law_row_here"] sp_bent := fnA (ok_bent F16 m_int m_len m_list m_range m_tuple A11) b16 k16 (PySem.W.mg_of X G a16)
  have A17 : FnA l.prog w K mg base "_law_due" 1 ["_law_row_here", "_law_claim_here", "_law_thing"] sp_sc := fnA (ok_due F17 m_bool m_int m_isinstance m_len m_tuple m_zip) b17 k17 (PySem.W.mg_of X G a17)
  have A18 : FnA l.prog w K mg base "_law_odd" 2 ["_law_hand_here", "_law_one"] sp_odd := fnA (ok_odd F18 m_int m_isinstance m_str A11) b18 k18 (PySem.W.mg_of X G a18)
  have A19 : FnA l.prog w K mg base "_law_otherwise" 3 ["_law_hand_here", "_law_thing"] sp_other := fnA (ok_other F19 m_isinstance m_len m_list m_tuple A11 A18) b19 k19 (PySem.W.mg_of X G a19)
  have A20 : FnA l.prog w K mg base "_law_told" 4 ["_law_row_here", "_law_claim_here", "_law_thing"] sp_told := fnA (ok_told F20 m_bool m_isinstance m_repr A4 A17) b20 k20 (PySem.W.mg_of X G a20)
  have A21 : FnA l.prog w K mg base "_law_right" 5 ["_law_hand_here", "_law_row_here", "_law_claim_here"] sp_right := fnA (ok_right F21 m_range m_tuple A19 A20) b21 k21 (PySem.W.mg_of X G a21)
  exact ok_law F22 m_len m_max m_min m_range A4 A9 A10 A11 A12 A14 A15 A16 A21
theorem walk {l : PySem.W.OpenLaw} {q : Program} {loose : List Str} {XP : (Str → Option Value) → Heap → Prop} {YP : World → Heap → Prop} {d : DefRec} {K : Params → PySem.W.Frag} (hn : l.most = some 63) (hdf : d.params.defaults = [])
    (hY : ∀ (w : World) (h : Heap), YP w h → (K w.params).In h)
    (F : ∀ (w : World) (mg : Str → Option Value) (fa : Addr) (h : Heap), (K w.params).In h → h.Ns mainGlobals mg → mg d.name = some (.ref fa) →
      ∃ fd : FuncData, (∀ (s : Shared) (u : Value), BindsTo s fd ⟨[u], []⟩ [("_law_script", u)]) ∧ ∀ base : Heap, (K w.params).In base → base.Ns mainGlobals mg → FnOk l.prog w (K w.params) mg base CX0 6 fa fd ["_law_script"] (sp_law (K w.params))) :
    PySem.W.WalkO q loose XP YP l.row.toRowW d [] (fun f vs => PySem.call f vs) :=
  L2.walk_of (n := 63) (k := 6) (x := "_law_script") (CX := fun _ => CX0) (sp := fun w => sp_law (K w.params)) hn (by decide) hdf ⟨rfl, by decide, by decide, rfl⟩ hY F (fun _ _ a ns hl _ hS => ⟨a, ns, rfl, hS, hl, fun _ => rfl⟩) fun _ _ _ _ _ z => z
end K29
namespace PySem.W.Fast
theorem tw7336796960972340282 : True := ⟨⟩
theorem tw12374198922274405287 : True := ⟨⟩
theorem tw16070888792417570305 : True := ⟨⟩
theorem tw10873286574557402850 : True := ⟨⟩
theorem tw4758305253843257646 : True := ⟨⟩
theorem tw4842703191661994067 : True := ⟨⟩
theorem tw5682735536702037038 : True := ⟨⟩
theorem tw10711409507978713855 : True := ⟨⟩
theorem tw15685584552252853455 : True := ⟨⟩
theorem tw10790820831170055175 : True := ⟨⟩
theorem tw7166978054594815076 : True := ⟨⟩
theorem tw15854035760356987497 : True := ⟨⟩
theorem tw10725091096009004841 : True := ⟨⟩
theorem tw7410777444733221739 : True := ⟨⟩
theorem tw9634266812188498197 : True := ⟨⟩
theorem tw7409547420864860517 : True := ⟨⟩
theorem tw1230000681662356390 : True := ⟨⟩
theorem tw187552757156998875 : True := ⟨⟩
theorem tw862402039679597132 : True := ⟨⟩
theorem tw13838377478481514083 : True := ⟨⟩
theorem tw3340729478980094168 : True := ⟨⟩
theorem tw357711008091590704 : True := ⟨⟩
theorem tw14775166367859758542 : True := ⟨⟩
theorem tw8771577080106027299 : True := ⟨⟩
theorem tw947087768630348156 : True := ⟨⟩
theorem tw13011478463857348611 : True := ⟨⟩
theorem tw7157154763415200290 : True := ⟨⟩
theorem tw4626993648819520043 : True := ⟨⟩
theorem tw15681368543291613389 : True := ⟨⟩
theorem tw3215221733444188864 : True := ⟨⟩
theorem tw10424174797317923512 : True := ⟨⟩
theorem tw2586443700671716416 : True := ⟨⟩
theorem tw13978586226801919580 : True := ⟨⟩
theorem tw13726164305942596643 : True := ⟨⟩
theorem tw5941085399292568439 : True := ⟨⟩
theorem tw17951881444345306297 : True := ⟨⟩
theorem tw12595349043299501899 : True := ⟨⟩
theorem tw1833552352745729181 : True := ⟨⟩
theorem tw11068976480094900493 : True := ⟨⟩
theorem tw5391507607494306396 : True := ⟨⟩
theorem tw7440671632002541820 : True := ⟨⟩
theorem tw4732882001544421897 : True := ⟨⟩
theorem tw1730906639373603558 : True := ⟨⟩
theorem tw14901821813379376526 : True := ⟨⟩
theorem tw9315571946701996016 : True := ⟨⟩
theorem tw5563367851215087234 : True := ⟨⟩
theorem tw9521160868444477693 : True := ⟨⟩
theorem tw5946279318139430843 : True := ⟨⟩
theorem tw2036657372409053821 : True := ⟨⟩
theorem tw8849792612064458611 : True := ⟨⟩
theorem tw12515643177898118418 : True := ⟨⟩
theorem tw2516694816742325593 : True := ⟨⟩
theorem tw12328975087100220445 : True := ⟨⟩
theorem tw2095188660184181075 : True := ⟨⟩
theorem tw8642484091557010786 : True := ⟨⟩
theorem tw9160132084814985186 : True := ⟨⟩
theorem tw13496993979174750858 : True := ⟨⟩
theorem tw13531623384875435030 : True := ⟨⟩
theorem tw4103899204440917104 : True := ⟨⟩
theorem tw2517279603504606023 : True := ⟨⟩
theorem tw471979562965351448 : True := ⟨⟩
theorem tw6450090145480932 : True := ⟨⟩
theorem tw15506914052674976047 : True := ⟨⟩
theorem tw2588405500624477087 : True := ⟨⟩
theorem tw3336198297944382225 : True := ⟨⟩
theorem tw1571387721020459575 : True := ⟨⟩
theorem tw8614717670312618549 : True := ⟨⟩
theorem tw5001245485574432009 : True := ⟨⟩
theorem tw8750913623408895184 : True := ⟨⟩
theorem tw9072858385493394045 : True := ⟨⟩
theorem tw9927907354598353607 : True := ⟨⟩
theorem tw3369620657188572621 : True := ⟨⟩
theorem tw3920977798319376375 : True := ⟨⟩
theorem tw646453013355737298 : True := ⟨⟩
theorem tw14303133119573823088 : True := ⟨⟩
theorem tw13463013467040862910 : True := ⟨⟩
theorem tw4129186061476433994 : True := ⟨⟩
theorem tw10483509126356839515 : True := ⟨⟩
theorem tw385720295178618194 : True := ⟨⟩
theorem tw14606123424383757312 : True := ⟨⟩
theorem tw11672990247841640163 : True := ⟨⟩
theorem tw10092232134290071475 : True := ⟨⟩
theorem tw7608570920375622343 : True := ⟨⟩
theorem tw6322191187340693113 : True := ⟨⟩
theorem tw5193170859994175530 : True := ⟨⟩
theorem tw14620571152321861346 : True := ⟨⟩
theorem tw17131912915982050556 : True := ⟨⟩
theorem tw4324237968487364837 : True := ⟨⟩
theorem tw17091227332567570026 : True := ⟨⟩
theorem tw17857903731715984112 : True := ⟨⟩
theorem tw5627334283556719881 : True := ⟨⟩
theorem tw11170223701689461248 : True := ⟨⟩
theorem tw2929863359258209824 : True := ⟨⟩
theorem tw10470651482416364844 : True := ⟨⟩
theorem tw8237084523865330983 : True := ⟨⟩
theorem tw5931322507465906056 : True := ⟨⟩
theorem tw3885008143928740618 : True := ⟨⟩
theorem tw18239415269416910387 : True := ⟨⟩
theorem tw9286713723770114930 : True := ⟨⟩
theorem tw3647112310516138475 : True := ⟨⟩
theorem tw5960440652830073165 : True := ⟨⟩
theorem tw7001172887677085630 : True := ⟨⟩
theorem tw9097776603363788280 : True := ⟨⟩
theorem tw10801627971075230482 : True := ⟨⟩
theorem tw17401257518870387802 : True := ⟨⟩
theorem tw4238562777119694101 : True := ⟨⟩
theorem tw12384649466969809829 : True := ⟨⟩
theorem tw14609783436418071040 : True := ⟨⟩
theorem tw4744549140535345139 : True := ⟨⟩
theorem tw5536923639377058902 : True := ⟨⟩
theorem tw18358288602568197896 : True := ⟨⟩
theorem tw8005921320846122368 : True := ⟨⟩
theorem tw12651351464222207826 : True := ⟨⟩
theorem tw121681309219008856 : True := ⟨⟩
theorem tw9442617272015136159 : True := ⟨⟩
theorem tw2594053688976467802 : True := ⟨⟩
theorem tw9355688434932936957 : True := ⟨⟩
theorem tw2941737941909320357 : True := ⟨⟩
theorem tw15361269940810887342 : True := ⟨⟩
theorem tw3299358166586072046 : True := ⟨⟩
theorem tw2612341151140524723 : True := ⟨⟩
theorem tw15125532662816108356 : True := ⟨⟩
theorem tw14477871576996538085 : True := ⟨⟩
theorem tw17098347622090536149 : True := ⟨⟩
theorem tw15031026290332039156 : True := ⟨⟩
theorem tw9696148068069880494 : True := ⟨⟩
theorem tw15501527410558330629 : True := ⟨⟩
theorem tw12872343407758893275 : True := ⟨⟩
theorem tw90325046720013432 : True := ⟨⟩
theorem tw17140691285769299370 : True := ⟨⟩
theorem tw8316568379761072996 : True := ⟨⟩
theorem tw16591293609607693421 : True := ⟨⟩
theorem tw4566536556766527195 : True := ⟨⟩
theorem tw2506956844119510169 : True := ⟨⟩
theorem tw18180103858753637223 : True := ⟨⟩
theorem tw3026958128770740494 : True := ⟨⟩
theorem tw10377744764905137916 : True := ⟨⟩
theorem tw6393290363141502823 : True := ⟨⟩
theorem tw10143541031282451805 : True := ⟨⟩
theorem tw12819849261605533092 : True := ⟨⟩
theorem tw5175528903519883569 : True := ⟨⟩
theorem tw11643794903732711795 : True := ⟨⟩
theorem tw17933658480479604460 : True := ⟨⟩
theorem tw13868023568053717148 : True := ⟨⟩
theorem tw6824030734553666168 : True := ⟨⟩
theorem tw3477858478889994030 : True := ⟨⟩
theorem tw10655549537249991663 : True := ⟨⟩
theorem tw7110338517174622179 : True := ⟨⟩
theorem tw5783837144413639497 : True := ⟨⟩
theorem tw18334940027349639926 : True := ⟨⟩
theorem tw14411297548191739461 : True := ⟨⟩
theorem tw11564497599880132580 : True := ⟨⟩
theorem tw6252531845853629684 : True := ⟨⟩
theorem tw15535641770986030200 : True := ⟨⟩
theorem tw10240418112689092569 : True := ⟨⟩
theorem tw4011824155274414721 : True := ⟨⟩
theorem tw10280868629006823300 : True := ⟨⟩
theorem tw12295948093446915521 : True := ⟨⟩
theorem tw2613745709713540382 : True := ⟨⟩
theorem tw14869121796273182719 : True := ⟨⟩
theorem tw11514246214649346260 : True := ⟨⟩
theorem tw2416689284315408710 : True := ⟨⟩
theorem tw2581826348800905309 : True := ⟨⟩
theorem tw7889464647853480748 : True := ⟨⟩
theorem tw2064662618571782231 : True := ⟨⟩
theorem tw12166050182393590893 : True := ⟨⟩
theorem tw11238514144400430990 : True := ⟨⟩
theorem tw10105344750126451237 : True := ⟨⟩
theorem tw3561702938675812505 : True := ⟨⟩
theorem tw11606390583979795395 : True := ⟨⟩
theorem tw13903503303794372534 : True := ⟨⟩
theorem tw7832364299316364469 : True := ⟨⟩
theorem tw5023787981763877472 : True := ⟨⟩
theorem tw10136583725669806210 : True := ⟨⟩
theorem tw7903444659289524101 : True := ⟨⟩
theorem tw2527397523042570846 : True := ⟨⟩
theorem tw16059816570967119857 : True := ⟨⟩
theorem tw6448943278423094973 : True := ⟨⟩
theorem tw15677638200287434227 : True := ⟨⟩
theorem tw2854376744922743673 : True := ⟨⟩
theorem tw17465789397921610682 : True := ⟨⟩
theorem tw10894229961855133184 : True := ⟨⟩
theorem tw4227706467276927235 : True := ⟨⟩
theorem tw5833306156807446696 : True := ⟨⟩
theorem tw6159628265891975080 : True := ⟨⟩
theorem tw11663467065427347833 : True := ⟨⟩
theorem tw1940687101405424561 : True := ⟨⟩
theorem tw11425025617204385658 : True := ⟨⟩
theorem tw18393154822950628231 : True := ⟨⟩
theorem tw2410081836111325062 : True := ⟨⟩
theorem tw11901749310819015353 : True := ⟨⟩
theorem tw8230063814787396662 : True := ⟨⟩
theorem tw5953524053841171350 : True := ⟨⟩
theorem tw580445959725251899 : True := ⟨⟩
theorem tw18014281779852081558 : True := ⟨⟩
theorem tw4166739309546967084 : True := ⟨⟩
theorem tw17368735356291691058 : True := ⟨⟩
theorem tw15160858164200679816 : True := ⟨⟩
theorem tw3091157613828553406 : True := ⟨⟩
theorem tw16631788463848911205 : True := ⟨⟩
theorem tw552917231592727122 : True := ⟨⟩
end PySem.W.Fast
open PySem PySem.W PyProof.Rows
set_option maxRecDepth 100000 in
set_option maxHeartbeats 0 in
theorem PySem.Challenge.cw_partrests_k29_claims_shown_holds : PySem.Challenge.rw_partrests_k29_claims_shown.Holds := by
  w_on; o_law; k_head; (case hw => w_witness2)
  k_fill
  refine K29.walk (l := PySem.Challenge.rw_partrests_k29_claims_shown) rfl rfl (fun w h Y => PySem.W.kIn_of Y) ?F
  case F =>
    intro w mg fa h KX G hmg
    refine' K29.all_mk KX G hmg ?a1 ?l1 ?c1 ?k1 ?a2 ?l2 ?c2 ?k2 ?a3 ?l3 ?c3 ?k3 ?a4 ?l4 ?c4 ?k4 ?a5 ?l5 ?c5 ?k5 ?a6 ?l6 ?c6 ?k6 ?a7 ?l7 ?c7 ?k7 ?a8 ?l8 ?c8 ?k8 ?a9 ?l9 ?c9 ?k9 ?a10 ?l10 ?c10 ?k10 ?a11 ?l11 ?c11 ?k11 ?a12 ?l12 ?c12 ?k12 ?a13 ?l13 ?c13 ?k13 ?a14 ?l14 ?c14 ?k14 ?a15 ?l15 ?c15 ?k15 ?a16 ?l16 ?c16 ?k16 ?a17 ?l17 ?c17 ?k17 ?a18 ?l18 ?c18 ?k18 ?a19 ?l19 ?c19 ?k19 ?a20 ?l20 ?c20 ?k20 ?a21 ?l21 ?c21 ?k21 ?a22 ?l22 ?c22 ?k22  ?z1 ?z2 ?z3 ?z4 ?z5 ?z6 ?z7 ?z8 ?z9 ?z10 ?z11 ?z12 ?z13 ?z14
    (case a1 => k_is); (case l1 => k_is); (case c1 => k_is); (case k1 => k_is)
    (case a2 => k_is); (case l2 => k_is); (case c2 => k_is); (case k2 => k_is)
    (case a3 => k_is); (case l3 => k_is); (case c3 => k_is); (case k3 => k_is)
    (case a4 => k_is); (case l4 => k_is); (case c4 => k_is); (case k4 => k_is)
    (case a5 => k_is); (case l5 => k_is); (case c5 => k_is); (case k5 => k_is)
    (case a6 => k_is); (case l6 => k_is); (case c6 => k_is); (case k6 => k_is)
    (case a7 => k_is); (case l7 => k_is); (case c7 => k_is); (case k7 => k_is)
    (case a8 => k_is); (case l8 => k_is); (case c8 => k_is); (case k8 => k_is)
    (case a9 => k_is); (case l9 => k_is); (case c9 => k_is); (case k9 => k_is)
    (case a10 => k_is); (case l10 => k_is); (case c10 => k_is); (case k10 => k_is)
    (case a11 => k_is); (case l11 => k_is); (case c11 => k_is); (case k11 => k_is)
    (case a12 => k_is); (case l12 => k_is); (case c12 => k_is); (case k12 => k_is)
    (case a13 => k_is); (case l13 => k_is); (case c13 => k_is); (case k13 => k_is)
    (case a14 => k_is); (case l14 => k_is); (case c14 => k_is); (case k14 => k_is)
    (case a15 => k_is); (case l15 => k_is); (case c15 => k_is); (case k15 => k_is)
    (case a16 => k_is); (case l16 => k_is); (case c16 => k_is); (case k16 => k_is)
    (case a17 => k_is); (case l17 => k_is); (case c17 => k_is); (case k17 => k_is)
    (case a18 => k_is); (case l18 => k_is); (case c18 => k_is); (case k18 => k_is)
    (case a19 => k_is); (case l19 => k_is); (case c19 => k_is); (case k19 => k_is)
    (case a20 => k_is); (case l20 => k_is); (case c20 => k_is); (case k20 => k_is)
    (case a21 => k_is); (case l21 => k_is); (case c21 => k_is); (case k21 => k_is)
    (case a22 => k_is); (case l22 => k_is); (case c22 => k_is); (case k22 => k_is)
    (case z1 => k_is)
    (case z2 => k_is)
    (case z3 => k_is)
    (case z4 => k_is)
    (case z5 => k_is)
    (case z6 => k_is)
    (case z7 => k_is)
    (case z8 => k_is)
    (case z9 => k_is)
    (case z10 => k_is)
    (case z11 => k_is)
    (case z12 => k_is)
    (case z13 => k_is)
    (case z14 => k_is)

