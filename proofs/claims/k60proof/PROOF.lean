import PyProof.Rows.All
import Wide.All
import OpenK.AllK
import Wide.FinOn
import Lean
import PyProof.EqAt
import PyProof.EqKinds
import PyProof.TupleCall
import PySem.Challenge.RW_partrests_k60_whole_paired
set_option Elab.async false
set_option linter.all false
set_option maxRecDepth 100000
namespace L2
open PySem PySem.Spec PyProof.Rows
noncomputable abbrev Key := Sum Int Str
noncomputable def keyIs : Key → Value → Bool
  | .inl k, v => Value.isInt k v
  | .inr x, v => Value.isStrOf x v
noncomputable def keyH (w : World) : Key → Int
  | .inl k => hashInt k
  | .inr x => hashStr w x
theorem keyIs_shape : ∀ {k : Key} {v : Value}, keyIs k v = true → (∃ i t, k = Sum.inl i ∧ v = Value.int i t) ∨ (∃ x t, k = Sum.inr x ∧ v = Value.str x t)
  | .inl i, v, h => by
    obtain ⟨t, e⟩ := Value.isInt_shape (k := i) (v := v) h
    exact .inl ⟨i, t, rfl, e⟩
  | .inr x, v, h => by
    obtain ⟨t, e⟩ := Value.isStrOf_shape (x := x) (v := v) h
    exact .inr ⟨x, t, rfl, e⟩
theorem key_ll (a b : Int) : decide ((Sum.inl a : Key) = Sum.inl b) = (a == b) := by
  by_cases e : a = b
  · subst e; simp
  · have h : ¬ (Sum.inl a : Key) = Sum.inl b := fun q => e (Sum.inl.inj q)
    rw [decide_eq_false h]
    exact (beq_eq_false_iff_ne.mpr e).symm
theorem key_rr (a b : Str) : decide ((Sum.inr a : Key) = Sum.inr b) = decide (a = b) := by
  by_cases e : a = b
  · subst e; simp
  · have h : ¬ (Sum.inr a : Key) = Sum.inr b := fun q => e (Sum.inr.inj q)
    rw [decide_eq_false h, decide_eq_false e]
theorem key_lr (a : Int) (b : Str) : decide ((Sum.inl a : Key) = Sum.inr b) = false := decide_eq_false (fun q => nomatch q)
theorem key_rl (a : Str) (b : Int) : decide ((Sum.inr a : Key) = Sum.inl b) = false := decide_eq_false (fun q => nomatch q)

noncomputable def mixKind (prog : Program) (w : World) : PySem.KeyKind prog w Key where
  is := keyIs
  hash := keyH w
  inj := fun v a b ha hb => by
    rcases keyIs_shape ha with ⟨i, t, rfl, rfl⟩ | ⟨x, t, rfl, rfl⟩
    · rcases keyIs_shape hb with ⟨j, u, rfl, e⟩ | ⟨y, u, rfl, e⟩
      · injection e with e1 _; rw [e1]
      · exact nomatch e
    · rcases keyIs_shape hb with ⟨j, u, rfl, e⟩ | ⟨y, u, rfl, e⟩
      · exact nomatch e
      · injection e with e1 _; rw [e1]
  byValue := fun k v h => by
    rcases keyIs_shape h with ⟨i, t, rfl, rfl⟩ | ⟨x, t, rfl, rfl⟩ <;> rfl
  pyHash := fun hv h => by
    rcases keyIs_shape hv with ⟨i, t, rfl, rfl⟩ | ⟨x, t, rfl, rfl⟩
    · exact wpAny_pyHash_int h
    · exact wpAny_pyHash_str h
  eqBool := fun hu hv h => by
    rcases keyIs_shape hu with ⟨i, t, rfl, rfl⟩ | ⟨x, t, rfl, rfl⟩
    · rcases keyIs_shape hv with ⟨j, u, rfl, rfl⟩ | ⟨y, u, rfl, rfl⟩
      · rw [key_ll] at h; exact wpAny_eqBool_int h
      · rw [key_lr] at h; exact SeqAt.EqAt.int_str i t y u _ _ _ _ h
    · rcases keyIs_shape hv with ⟨j, u, rfl, rfl⟩ | ⟨y, u, rfl, rfl⟩
      · rw [key_rl] at h; exact SeqAt.EqAt.str_int x t j u _ _ _ _ h
      · rw [key_rr] at h; exact wpAny_eqBool_str h
  «strs» := fun k x t v h => by
    rcases keyIs_shape h with ⟨i, u, rfl, e⟩ | ⟨y, u, rfl, e⟩
    · exact nomatch e
    · injection e with e1 _
      subst e1
      cases v <;> rfl

end L2
namespace L2
open PySem PySem.Spec PyProof.Rows
inductive V where
  | non | bl (b : Bool) | int (i : Int) | str (x : Str) | byt (b : Array UInt8) | flt (b : UInt64) | ref (a : Addr) | ty (n : String)
  deriving DecidableEq

noncomputable def RelV : V → Value → Prop
  | .non, u => u = Value.none
  | .bl b, u => u = Value.bool b
  | .int i, u => ∃ t, u = Value.int i t
  | .str x, u => ∃ t, u = Value.str x t
  | .byt b, u => ∃ t, u = Value.bytes b t
  | .flt b, u => ∃ t, u = Value.float b t
  | .ref a, u => u = Value.ref a
  | .ty n, u => u = Value.type n

noncomputable abbrev Vals : List V → List Value → Prop := Paired RelV
theorem Vals.length {xs : List V} {us : List Value} (r : Vals xs us) : xs.length = us.length := Paired.length r
theorem Vals.get : ∀ {xs : List V} {us : List Value} {i : Nat} {x : V}, Vals xs us → xs[i]? = some x → ∃ u, us[i]? = some u ∧ RelV x u
  | _, _, _, _, .nil, e => by simp at e
  | _, _, 0, _, .cons r _, e => by simp at e; subst e; exact ⟨_, rfl, r⟩
  | _, _, i + 1, x, .cons _ t, e => by
    obtain ⟨u, h1, h2⟩ := Vals.get (i := i) (x := x) t (by simpa using e)
    exact ⟨u, by simpa using h1, h2⟩
theorem Vals.set {x : V} {u : Value} (r : RelV x u) : ∀ {xs : List V} {us : List Value} (i : Nat), Vals xs us → Vals (xs.set i x) (us.set i u)
  | _, _, _, .nil => .nil
  | _, _, 0, .cons _ t => .cons r t
  | _, _, i + 1, .cons q t => .cons q (Vals.set r i t)
theorem Vals.append : ∀ {xs ys : List V} {us ws : List Value}, Vals xs us → Vals ys ws → Vals (xs ++ ys) (us ++ ws)
  | _, _, _, _, .nil, s => s
  | _, _, _, _, .cons r t, s => .cons r (Vals.append t s)
theorem Vals.take : ∀ {xs : List V} {us : List Value} (n : Nat), Vals xs us → Vals (xs.take n) (us.take n)
  | _, _, 0, _ => .nil
  | _, _, _ + 1, .nil => .nil
  | _, _, n + 1, .cons r t => .cons r (Vals.take n t)
theorem Vals.drop : ∀ {xs : List V} {us : List Value} (n : Nat), Vals xs us → Vals (xs.drop n) (us.drop n)
  | _, _, 0, r => r
  | _, _, _ + 1, .nil => .nil
  | _, _, n + 1, .cons _ t => Vals.drop n t
noncomputable def TupD (h : Heap) (a : Addr) (items : Array Value) : Prop := ∃ n, h.get? a = some { cls := .type "tuple", data := .seq items n }
theorem TupD.tup {h : Heap} {a : Addr} {items : Array Value} (p : TupD h a items) : IsTup h a items := let ⟨n, e⟩ := p; ⟨_, e, rfl, n, rfl⟩
theorem TupD.new (h : Heap) (items : Array Value) : TupD (h.push { cls := .type "tuple", data := .seq items }) h.objs.size items := ⟨_, Heap.get?_push_size _ rfl⟩

noncomputable def RelO : Option V → Option Value → Prop
  | some v, some u => RelV v u
  | none, none => True
  | _, _ => False
noncomputable def KV {κ : Type} : List (κ × V) → List (κ × Value) → Prop := Paired fun (p : κ × V) (q : κ × Value) => p.1 = q.1 ∧ RelV p.2 q.2

noncomputable def kV : Key → V
  | .inl i => .int i
  | .inr x => .str x

inductive HO where
  /-- a list -/
  | lst (xs : List V)
  /-- a tuple (never changes) -/
  | tup (xs : List V)
  /-- a dict whose keys are ints and texts; one whose keys are tuples of ints and texts (the empty one is both) -/
  | dK (kvs : List (Key × V)) | dT (kvs : List (List Key × V))
  /-- a set of ints: its members, its size -/
  | set (S : Int → Bool) (n : Nat)
  /-- an instance of the class at C, its dict at dx, its attributes -/
  | ins (C dx : Addr) (fs : List (Str × V))
  /-- the dict of the instance at x -/
  | own (x : Addr)
  /-- the dict of an exception -/
  | xd (fs : List (Str × V))
  /-- a bound method, f of x -/
  | met (f x : Addr)
  /-- a range object lo, lo + 1, .. below hi -/
  | rng (lo hi : Int)
  /-- a thing that is known to the object (the script; a dict while a loop walks it): read, never written while it is so -/
  | frz (o : Obj) (u : HO)
  /-- a code object's table -/
  | tbl (ps : Array Value)
  /-- any other thing, by what is true of its one object (a def of one's own: SetO a S n := HO.ext fun h => ..) -/
  | ext (φ : Heap → Prop)

noncomputable abbrev Hp := Addr → Option HO
noncomputable def upd (H : Hp) (a : Addr) (o : HO) : Hp := fun b => if b = a then some o else H b
theorem upd_same {H : Hp} {a : Addr} {o : HO} : upd H a o a = some o := by unfold upd; rw [if_pos rfl]
theorem upd_ne {H : Hp} {a b : Addr} {o : HO} (h : b ≠ a) : upd H a o b = H b := by unfold upd; rw [if_neg h]
theorem ne_of {H : Hp} {a b : Addr} {o u : HO} (h : H a = some o) (h' : H b = some u) (d : o ≠ u) : a ≠ b := by
  intro e; subst e; rw [h] at h'; exact d (Option.some.inj h')
theorem ne_of_none {H : Hp} {a b : Addr} {o : HO} (h : H a = some o) (h' : H b = none) : a ≠ b := by
  intro e; subst e; rw [h] at h'; cases h'

section
variable (P : Program) (w : World)
noncomputable def ObjOk (H : Hp) (h : Heap) (a : Addr) : HO → Prop
  | .lst xs => xs.length ≤ sizeLine ∧ ∃ (its : List Value) (n : Nat), Vals xs its ∧ h.get? a = some { cls := .type "list", data := .seq its.toArray n }
  | .tup xs => xs.length ≤ sizeLine ∧ ∃ its : List Value, Vals xs its ∧ TupD h a its.toArray
  | .dK kvs => kvs.length ≤ sizeLine ∧ (a == sysModules) = false ∧ ∃ vs, KV kvs vs ∧ h.DictOf (mixKind P w) a vs
  | .dT kvs => kvs.length ≤ sizeLine ∧ (a == sysModules) = false ∧ ∃ xs : List (List Key × Addr × Value),
      Paired (fun (p : List Key × V) (q : List Key × Addr × Value) => p.1 = q.1 ∧ H q.2.1 = some (.tup (p.1.map kV)) ∧ RelV p.2 q.2.2) kvs xs ∧
      ∃ o es ep, h.get? a = some o ∧ o.ExactDict ∧ o.data = .dict es ep ∧ es.toList = xs.map (entryOfKey (tupleKind (mixKind P w))) ∧ (xs.map (·.1)).Nodup
  | .set S n => h.SetOf (intKind P w) a S n
  | .ins C dx fs => H dx = some (.own a) ∧ fs.length ≤ 1000 ∧ dx ≠ a ∧ h.get? a = some (PySem.W.instObj C dx) ∧
      ∃ mA, h.Ns1 dx mA ∧ (∀ f, RelO (fs.lookup f) (mA f)) ∧ PySem.Within mA (fs.map (·.1))
  | .own _ => ∃ o, h.get? a = some o
  | .xd fs => ∃ mA, h.Ns1 a mA ∧ ∀ f, RelO (fs.lookup f) (mA f)
  | .rng lo hi => ∃ t u v, h.get? a = some { cls := .type "range", data := .fields #[.int lo t, .int hi u, .int 1 v] }
  | .frz o u => h.get? a = some o ∧ ObjOk H h a u
  | .tbl ps => h.get? a = some { cls := .none, data := .fields ps }
  | .met f x => h.get? a = some (PySem.W.methodObj (.ref f) (.ref x))
  | .ext φ => φ h ∧ (∃ o, h.get? a = some o) ∧ ∀ h1 h2 : Heap, φ h1 → (∀ o, h1.get? a = some o → h2.get? a = some o) → φ h2
noncomputable def HOk (H : Hp) (h : Heap) : Prop := ∀ a o, H a = some o → ObjOk P w H h a o
end
section
variable {P : Program} {w : World} {H H' : Hp} {h h' : Heap} {a : Addr} {o : HO}
theorem ObjOk.lt (x : ObjOk P w H h a o) : a < h.objs.size := by
  cases o with
  | lst xs => obtain ⟨_, _, _, _, e⟩ := x; exact Heap.lt_size e
  | tup xs => obtain ⟨_, _, _, p⟩ := x; exact p.tup.lt
  | dK kvs => obtain ⟨_, _, _, _, o, _, _, e, _⟩ := x; exact Heap.lt_size e
  | dT kvs => obtain ⟨_, _, _, _, o, _, _, e, _⟩ := x; exact Heap.lt_size e
  | set S n => obtain ⟨o, _, _, _, e, _⟩ := x; exact Heap.lt_size e
  | ins C dx fs => obtain ⟨_, _, _, e, _⟩ := x; exact Heap.lt_size e
  | own y => obtain ⟨_, e⟩ := x; exact Heap.lt_size e
  | xd fs => obtain ⟨_, ⟨_, _, _, e, _⟩, _⟩ := x; exact Heap.lt_size e
  | rng lo hi => obtain ⟨_, _, _, e⟩ := x; exact Heap.lt_size e
  | frz ob u => obtain ⟨e, _⟩ := x; exact Heap.lt_size e
  | tbl ps => exact Heap.lt_size (show h.get? a = some _ from x)
  | met f y => exact Heap.lt_size (show h.get? a = some _ from x)
  | ext φ => obtain ⟨_, ⟨_, e⟩, _⟩ := x; exact Heap.lt_size e
theorem Paired.mapP {α β : Type} {F G : α → β → Prop} : ∀ {l₁ : List α} {l₂ : List β}, Paired F l₁ l₂ → (∀ a b, F a b → G a b) → Paired G l₁ l₂
  | _, _, .nil, _ => .nil
  | _, _, .cons r t, f => .cons (f _ _ r) (Paired.mapP t f)
theorem ObjOk.stay (x : ObjOk P w H h a o) (k : ∀ b u, (b = a ∨ H b = some (.own a)) → h.get? b = some u → h'.get? b = some u)
    (ho : ∀ b, H b = some (.own a) → H' b = some (.own a)) (ht : ∀ b xs, H b = some (.tup xs) → H' b = some (.tup xs)) : ObjOk P w H' h' a o := by
  induction o with
  | lst xs => obtain ⟨z, its, n, r, e⟩ := x; exact ⟨z, its, n, r, k _ _ (.inl rfl) e⟩
  | tup xs => obtain ⟨z, its, r, ob, e⟩ := x; exact ⟨z, its, r, ob, k _ _ (.inl rfl) e⟩
  | dK kvs => obtain ⟨z, y, vs, r, ob, es, ep, e, c⟩ := x; exact ⟨z, y, vs, r, ob, es, ep, k _ _ (.inl rfl) e, c⟩
  | dT kvs =>
    obtain ⟨z, y, xs, r, ob, es, ep, e, c⟩ := x
    exact ⟨z, y, xs, Paired.mapP r fun p q z => ⟨z.1, ht _ _ z.2.1, z.2.2⟩, ob, es, ep, k _ _ (.inl rfl) e, c⟩
  | set S n => obtain ⟨ob, es, ep, t, e, c⟩ := x; exact ⟨ob, es, ep, t, k _ _ (.inl rfl) e, c⟩
  | ins C dx fs =>
    obtain ⟨d, z, ne, e, mA, ⟨od, es, ep, e2, c⟩, r⟩ := x
    exact ⟨ho _ d, z, ne, k _ _ (.inl rfl) e, mA, ⟨od, es, ep, k _ _ (.inr d) e2, c⟩, r⟩
  | own y => obtain ⟨ob, e⟩ := x; exact ⟨ob, k _ _ (.inl rfl) e⟩
  | xd fs => obtain ⟨mA, ⟨od, es, ep, e, c⟩, r⟩ := x; exact ⟨mA, ⟨od, es, ep, k _ _ (.inl rfl) e, c⟩, r⟩
  | rng lo hi => obtain ⟨t, u, v, e⟩ := x; exact ⟨t, u, v, k _ _ (.inl rfl) e⟩
  | frz ob u ih => obtain ⟨e, q⟩ := x; exact ⟨k _ _ (.inl rfl) e, ih q⟩
  | tbl ps =>
    have e : h.get? a = some { cls := .none, data := .fields ps } := x
    show h'.get? a = some { cls := .none, data := .fields ps }
    exact k a _ (.inl rfl) e
  | met f y =>
    have e : h.get? a = some (PySem.W.methodObj (.ref f) (.ref y)) := x
    show h'.get? a = some (PySem.W.methodObj (.ref f) (.ref y))
    exact k a _ (.inl rfl) e
  | ext φ => obtain ⟨p, ⟨o, e⟩, st⟩ := x; exact ⟨st _ _ p fun o q => k _ _ (.inl rfl) q, ⟨o, k _ _ (.inl rfl) e⟩, st⟩
theorem HOk.lt (x : HOk P w H h) (e : H a = some o) : a < h.objs.size := (x a o e).lt
theorem HOk.fresh (x : HOk P w H h) (e : h.objs.size ≤ a) : H a = none := by
  cases q : H a with
  | none => rfl
  | some u => exact absurd (Nat.lt_of_lt_of_le (x.lt q) e) (Nat.lt_irrefl _)
theorem HOk.kept (x : HOk P w H h) (k : ∀ b u, h.get? b = some u → h'.get? b = some u) : HOk P w H h' := fun a o e =>
  (x a o e).stay (fun b u _ q => k b u q) (fun _ q => q) fun _ _ q => q
theorem HOk.laid (x : HOk P w H h) (k : ∀ b u, h.get? b = some u → h'.get? b = some u) (hp : h.objs.size ≤ a) (new : ObjOk P w (upd H a o) h' a o) : HOk P w (upd H a o) h' := fun b u e => by
  have hn := x.fresh hp
  by_cases hb : b = a
  · subst hb; rw [upd_same] at e; cases e; exact new
  · rw [upd_ne hb] at e
    exact (x b u e).stay (fun c v _ q => k c v q) (fun c q => by rw [upd_ne (ne_of_none q hn)]; exact q) fun c xs q => by rw [upd_ne (ne_of_none q hn)]; exact q
end
noncomputable def Rd (H : Hp) (a : Addr) (u : HO) : Prop := H a = some u ∨ ∃ o, H a = some (.frz o u)
theorem Rd.ok {P : Program} {w : World} {H : Hp} {h : Heap} {a : Addr} {u : HO} (r : Rd H a u) (x : HOk P w H h) : ObjOk P w H h a u := by
  rcases r with r | ⟨o, r⟩
  · exact x a u r
  · obtain ⟨_, q⟩ := x a _ r
    exact q
noncomputable def Mut : Option HO → Prop
  | some (.lst _) => True
  | some (.dK _) => True
  | some (.dT _) => True
  | some (.set _ _) => True
  | some (.ins _ _ _) => True
  | some (.ext _) => True
  | _ => False
section
variable {P : Program} {w : World} {H : Hp} {h h' : Heap} {x e : Addr} {o' : HO}
theorem HOk.write (ok : HOk P w H h) (mu : Mut (H x)) (he : e = x ∨ H e = some (.own x)) (k : ∀ b u, b ≠ e → h.get? b = some u → h'.get? b = some u) (heo : ∃ u, h'.get? e = some u)
    (new : ObjOk P w (upd H x o') h' x o') : HOk P w (upd H x o') h' := fun b u q => by
  have nown : ∀ c y, H c = some (.own y) → c ≠ x := fun c y r z => by subst z; rw [r] at mu; exact mu
  have ntup : ∀ c xs, H c = some (.tup xs) → c ≠ x := fun c xs r z => by subst z; rw [r] at mu; exact mu
  by_cases hb : b = x
  · subst hb; rw [upd_same] at q; cases q; exact new
  · rw [upd_ne hb] at q
    by_cases hbe : b = e
    · have q' : H b = some (.own x) := by
        rcases he with z | z
        · exact absurd (hbe.trans z) hb
        · rw [hbe]; exact z
      rw [q] at q'; cases q'
      obtain ⟨v, hv⟩ := heo
      exact ⟨v, by rw [hbe]; exact hv⟩
    · refine (ok b u q).stay (fun c v hc r => k c v ?_ r) (fun c r => by rw [upd_ne (nown c b r)]; exact r) fun c xs r => by rw [upd_ne (ntup c xs r)]; exact r
      rcases hc with rfl | hc
      · exact hbe
      · rintro rfl
        rcases he with z | z
        · exact nown c b hc z
        · rw [hc] at z; cases z; exact hb rfl
end
structure Un (fs ex : List Addr) (H H' : Hp) (h h' : Heap) : Prop where
  keep : ∀ b o, h.get? b = some o → H b = none → b ∉ fs → b ∉ ex → h'.get? b = some o
  slot : ∀ b o, h.get? b = some o → H b = none → b ∈ fs → b ∉ ex → ∃ sl, h'.get? b = some { o with slots := sl }
  free : ∀ b o, h.get? b = some o → H b = none → b ∉ ex → H' b = none
  there : ∀ b o, h.get? b = some o → b ∉ ex → ∃ o', h'.get? b = some o'
  tups : ∀ b xs, H b = some (.tup xs) → H' b = some (.tup xs)
  frzs : ∀ b o u, H b = some (.frz o u) → H' b = some (.frz o u)
  tbls : ∀ b ps, H b = some (.tbl ps) → ∃ more, H' b = some (.tbl (ps ++ more))
section
variable {fs fs' ex ex' : List Addr} {H H1 H2 : Hp} {h h1 h2 h' : Heap} {a x e : Addr} {o : HO}
theorem Un.any (u : Un fs ex H H1 h h1) {b : Addr} {ob : Obj} (q : h.get? b = some ob) (n : H b = none) (hx : b ∉ ex) : ∃ sl, h1.get? b = some { ob with slots := sl } := by
  by_cases hb : b ∈ fs
  · exact u.slot b ob q n hb hx
  · exact ⟨ob.slots, u.keep b ob q n hb hx⟩
theorem Un.kept (k : ∀ b u, h.get? b = some u → h'.get? b = some u) : Un fs ex H H h h' :=
  ⟨fun b ob q _ _ _ => k b ob q, fun b ob q _ _ _ => ⟨ob.slots, k b ob q⟩, fun _ _ _ n _ => n, fun b ob q _ => ⟨ob, k b ob q⟩, fun _ _ q => q, fun _ _ _ q => q, fun _ ps q => ⟨#[], by rw [q]; simp⟩⟩
theorem Un.refl : Un fs ex H H h h := Un.kept fun _ _ q => q
theorem Un.laid (k : ∀ b u, h.get? b = some u → h'.get? b = some u) (hp : h.objs.size ≤ a) (hn : H a = none) : Un fs ex H (upd H a o) h h' where
  keep := fun b u q _ _ _ => k b u q
  slot := fun b u q _ _ _ => ⟨u.slots, k b u q⟩
  free := fun b u q n _ => by rw [upd_ne (Nat.ne_of_lt (Nat.lt_of_lt_of_le (Heap.lt_size q) hp))]; exact n
  there := fun b u q _ => ⟨u, k b u q⟩
  tups := fun b xs q => by rw [upd_ne (ne_of_none q hn)]; exact q
  frzs := fun b u xs q => by rw [upd_ne (ne_of_none q hn)]; exact q
  tbls := fun b ps q => ⟨#[], by rw [upd_ne (ne_of_none q hn), q]; simp⟩
theorem Un.write (mu : Mut (H x)) (he : e = x ∨ H e = some (.own x)) (k : ∀ b u, b ≠ e → h.get? b = some u → h'.get? b = some u) (heo : ∃ u, h'.get? e = some u) : Un fs ex H (upd H x o) h h' := by
  have hx : ∀ b, H b = none → b ≠ x := fun b n z => by subst z; rw [n] at mu; exact mu
  have hb : ∀ b, H b = none → b ≠ e := fun b n z => by
    subst z
    rcases he with r | r
    · exact hx b n r
    · rw [n] at r; cases r
  have hm : ∀ b u, H b = some u → ¬ Mut (some u) → b ≠ x := fun b u q nm z => by subst z; rw [q] at mu; exact nm mu
  refine ⟨fun b u q n _ _ => k b u (hb b n) q, fun b u q n _ _ => ⟨u.slots, k b u (hb b n) q⟩, fun b u q n _ => by rw [upd_ne (hx b n)]; exact n, fun b u q _ => ?_,
    fun b xs q => by rw [upd_ne (hm b _ q fun z => z)]; exact q, fun b u xs q => by rw [upd_ne (hm b _ q fun z => z)]; exact q, fun b ps q => ⟨#[], by rw [upd_ne (hm b _ q fun z => z), q]; simp⟩⟩
  by_cases hbe : b = e
  · subst hbe; exact heo
  · exact ⟨u, k b u hbe q⟩
end
noncomputable def trk (h : Heap) (H : Hp) : List Addr := (List.range h.objs.size).filter fun a => (H a).isSome
noncomputable def hidT (h : Heap) (H : Hp) : Heap := PySem.W.hideAll h (trk h H)
theorem hidT_size (h : Heap) (H : Hp) : (hidT h H).objs.size = h.objs.size := PySem.W.hideAll_size _ _
theorem hidT_get {h : Heap} {H : Hp} {b : Addr} {o : Obj} (e : h.get? b = some o) (n : H b = none) : (hidT h H).get? b = some o :=
  PySem.W.hideAll_get _ e fun hm => by
    have q : (H b).isSome = true := (List.mem_filter.mp hm).2
    rw [n] at q; simp at q
theorem of_hidT {h : Heap} {H : Hp} {b : Addr} {o : Obj} (e : (hidT h H).get? b = some o) : h.get? b = some o ∧ H b = none := by
  have e' : h.get? b = some o := PySem.W.of_hideAll (trk h H) e
  refine ⟨e', ?_⟩
  cases q : H b with
  | none => rfl
  | some x =>
    have hm : b ∈ trk h H := List.mem_filter.mpr ⟨List.mem_range.mpr (Heap.lt_size e'), by simp [q]⟩
    have z : (hidT h H).get? b = none := PySem.W.hideAll_none (trk h H) hm
    rw [z] at e; cases e

end L2
namespace L2
open PySem PySem.Spec PyProof.Rows
structure Mod (K : PySem.W.Frag) (mg : Str → Option Value) (base : Heap) : Prop where
  kin : K.In base
  glob : base.Ns mainGlobals mg
  blt : ∃ mb, base.Ns builtinsNs mb ∧ ∀ x : Str, x ≠ "__name__" → mb x = bootBuiltins x
  nolimit : base.NoLimit

structure Cx where
  prog : Program
  w : World
  K : PySem.W.Frag
  mg : Str → Option Value
  base : Heap
  A : Around
  N : List Str
  s₀ : Shared
  H₀ : Hp
  env : Env
  outer : List Env
  stack : List Env
  ex : List Addr
  fn : Str → Bool
  calm : Bool
  pn : List (Addr × Obj)
  xe : Value → Shared → Prop
noncomputable def frs (l : List Env) : List Addr := l.filterMap (·.frame)
noncomputable abbrev Cx.fs (X : Cx) : List Addr := frs X.outer

noncomputable def Vis (sc : Scope) (x : Str) : Prop := sc.names.lookup x = some .local ∨ sc.names.lookup x = some .cell ∨ sc.names.lookup x = some .free
noncomputable def Loc (sc : Scope) (x : Str) : Prop := sc.names.lookup x = some .local ∨ sc.names.lookup x = some .cell
noncomputable def Look (env : Env) (h : Heap) (m : Str → Option Value) (x : Str) (u : Value) : Prop :=
  (env.kindOf x = some .local ∧ m x = some u) ∨ ((env.kindOf x = some .cell ∨ env.kindOf x = some .free) ∧ ∃ c, env.cells.lookup x = some c ∧ h.IsCell c (some u))

structure Cx.Ok (X : Cx) : Prop where
  mod : Mod X.K X.mg X.base
  kind : X.env.scope.kind = .function
  glob : X.env.globals = mainGlobals
  blt : X.env.builtins = builtinsNs
  above : X.s₀.heap.objs.size ≤ X.env.locals
  inj : ∀ x y c, X.env.cells.lookup x = some c → X.env.cells.lookup y = some c → x = y
  has : ∀ x, (X.env.kindOf x = some .cell ∨ X.env.kindOf x = some .free) → ∃ c, X.env.cells.lookup x = some c
  cab : ∀ x c, X.fn x = true → X.env.cells.lookup x = some c → X.s₀.heap.objs.size ≤ c
  hd : X.calm = true → X.A.handled = none
  frames : X.A.frames = some X.stack
  stk : X.stack = X.outer ∨ (X.stack = X.env :: X.outer ∧ X.env.frame = some X.env.locals)
  exf : ∀ b ∈ X.ex, b ≠ X.env.locals ∧ ∀ x c, X.env.cells.lookup x = some c → c ≠ b
  bs : ∀ b o, X.base.get? b = some o → X.s₀.heap.get? b = some o ∧ X.H₀ b = none
  bsz : X.base.objs.size ≤ X.s₀.heap.objs.size
  noex : ∀ b o, X.base.get? b = some o → b ∉ X.ex
  exfs : ∀ b ∈ X.ex, b ∉ X.fs
  funs : X.s₀.heap.FunFrames X.base X.outer
  frf : ∀ b ∈ X.fs, X.H₀ b = none

structure Inv (X : Cx) (pins : List (Addr × Obj)) (σ : List (Option V)) (H : Hp) (s : Shared) : Prop where
  ok : X.Ok
  os : s.os = X.s₀.os
  bare : AllBare s.gens
  base : Un X.fs X.ex X.H₀ H X.s₀.heap s.heap
  loc : ∃ m, s.heap.Ns X.env.locals m ∧ ∀ (i : Nat) (x : Str) (v : V), X.N[i]? = some x → σ[i]? = some (some v) → Vis X.env.scope x → ∃ u, RelV v u ∧ Look X.env s.heap m x u
  cell : ∀ x c, X.env.cells.lookup x = some c → ∃ v, s.heap.IsCell c v
  free : H X.env.locals = none
  freeC : ∀ x c, X.env.cells.lookup x = some c → H c = none
  pin : ∀ p ∈ X.pn ++ pins, s.heap.get? p.1 = some p.2 ∧ H p.1 = none ∧ p.1 ≠ X.env.locals ∧ p.1 ∉ X.fs ∧ ∀ v, p.2.data ≠ .cell v
  hok : HOk X.prog X.w H s.heap
  len : σ.length = X.N.length

section
variable {X : Cx} {pins : List (Addr × Obj)} {σ : List (Option V)} {H H' : Hp} {s : Shared} {h' : Heap}
theorem Cx.Ok.nofr (ok : X.Ok) {b : Addr} {o : Obj} (e : X.base.get? b = some o) : b ∉ X.fs := fun hb => by
  have := (ok.funs.mem hb).1
  rw [e] at this; cases this
theorem Inv.bs (I : Inv X pins σ H s) : ∀ b o, X.base.get? b = some o → s.heap.get? b = some o ∧ H b = none := fun b o e =>
  ⟨I.base.keep b o (I.ok.bs b o e).1 (I.ok.bs b o e).2 (I.ok.nofr e) (I.ok.noex b o e), I.base.free b o (I.ok.bs b o e).1 (I.ok.bs b o e).2 (I.ok.noex b o e)⟩
theorem Inv.bk (I : Inv X pins σ H s) : ∀ b o, X.base.get? b = some o → s.heap.get? b = some o := fun b o e => (I.bs b o e).1
theorem Inv.mod (I : Inv X pins σ H s) : Mod X.K X.mg X.base := I.ok.mod
theorem Inv.kIn (I : Inv X pins σ H s) : X.K.In s.heap := I.ok.mod.kin.keeps I.bk
theorem Inv.nolimit (I : Inv X pins σ H s) : s.heap.NoLimit := I.ok.mod.nolimit.keeps I.bk
theorem Inv.lt (I : Inv X pins σ H s) : X.env.locals < s.heap.objs.size := let ⟨_, hn, _⟩ := I.loc; hn.lt
theorem Inv.sz (I : Inv X pins σ H s) : X.s₀.heap.objs.size ≤ s.heap.objs.size := Nat.le_trans I.ok.above (Nat.le_of_lt I.lt)
theorem Inv.nofs (I : Inv X pins σ H s) {a : Addr} (h : s.heap.objs.size ≤ a) : a ∉ X.fs := fun hb => by
  obtain ⟨_, o, ho, _⟩ := I.ok.funs.mem hb
  exact absurd (Nat.lt_of_lt_of_le (Heap.lt_size ho) (Nat.le_trans I.sz h)) (Nat.lt_irrefl _)
theorem Inv.cne (I : Inv X pins σ H s) : ∀ x c, X.env.cells.lookup x = some c → c ≠ X.env.locals := fun x c e z => by
  obtain ⟨v, o, ho, hd⟩ := I.cell x c e
  obtain ⟨m, ⟨o', es, ep, ho', hd', _⟩, _⟩ := I.loc
  rw [z, ho'] at ho; cases ho; rw [hd'] at hd; cases hd
theorem Inv.funs (I : Inv X pins σ H s) : s.heap.FunFrames X.base X.outer := by
  have all : ∀ (l : List Env), (∀ b ∈ frs l, b ∈ X.fs) → X.s₀.heap.FunFrames X.base l → s.heap.FunFrames X.base l := by
    intro l
    induction l with
    | nil => intro _ _; trivial
    | cons env r ih =>
      intro hs hl
      obtain ⟨hk, ⟨L, o, hf, hn, ho, hd⟩, hr⟩ := hl
      have hL : L ∈ X.fs := hs L (by unfold frs; rw [List.filterMap_cons, hf]; exact List.mem_cons_self)
      obtain ⟨sl, e⟩ := I.base.slot L o ho (I.ok.frf L hL) hL fun z => I.ok.exfs L z hL
      exact ⟨hk, ⟨L, _, hf, hn, e, hd⟩, ih (fun b hb => hs b (by unfold frs; rw [List.filterMap_cons, hf]; exact List.mem_cons_of_mem _ hb)) hr⟩
  exact all X.outer (fun _ hb => hb) I.ok.funs

theorem Inv.stack (I : Inv X pins σ H s) : s.heap.FunFrames X.base X.stack := by
  rcases I.ok.stk with e | ⟨e, hf⟩
  · rw [e]; exact I.funs
  · rw [e]
    obtain ⟨m, hn, _⟩ := I.loc
    refine .cons (by rw [I.ok.kind]; decide) hf hn ?_ I.funs
    exact Heap.get?_none_of_le (Nat.le_trans I.ok.bsz I.ok.above)
theorem Inv.stkSub (I : Inv X pins σ H s) : ∀ b ∈ frs X.stack, b ∈ X.env.locals :: X.fs := fun b hb => by
  rcases I.ok.stk with e | ⟨e, hf⟩
  · rw [e] at hb; exact List.mem_cons_of_mem _ hb
  · rw [e] at hb
    unfold frs at hb
    rw [List.filterMap_cons, hf] at hb
    exact hb
theorem Inv.stkFree (I : Inv X pins σ H s) : ∀ b ∈ frs X.stack, H b = none := fun b hb => by
  rcases List.mem_cons.mp (I.stkSub b hb) with e | hb
  · rw [e]; exact I.free
  · obtain ⟨_, o, ho, _⟩ := I.ok.funs.mem hb
    exact I.base.free b o ho (I.ok.frf b hb) fun z => I.ok.exfs b z hb

theorem Inv.step {g' : Array GenState} {t' : Nat} {d' : Drawn} {ch : List Addr} (I : Inv X pins σ H s)
    (hch : ∀ b ∈ ch, (b ∈ X.ex ∨ X.s₀.heap.objs.size ≤ b) ∧ b ≠ X.env.locals ∧ (∀ x c, X.env.cells.lookup x = some c → c ≠ b) ∧ ∀ p ∈ X.pn ++ pins, p.1 ≠ b)
    (keep : ∀ b o, b ≠ X.env.locals → b ∉ X.fs → b ∉ ch → s.heap.get? b = some o → H b = none → h'.get? b = some o)
    (slot : ∀ b o, b ≠ X.env.locals → b ∈ X.fs → b ∉ ch → s.heap.get? b = some o → H b = none → ∃ sl, h'.get? b = some { o with slots := sl }) (free : ∀ b o, b ∉ ch → s.heap.get? b = some o → H b = none → H' b = none)
    (there : ∀ b o, b ∉ ch → s.heap.get? b = some o → ∃ o', h'.get? b = some o')
    (tups : ∀ b xs, H b = some (.tup xs) → H' b = some (.tup xs)) (frzs : ∀ b o u, H b = some (.frz o u) → H' b = some (.frz o u)) (tbls : ∀ b ps, H b = some (.tbl ps) → ∃ more, H' b = some (.tbl (ps ++ more)))
    (ns : ∀ m, s.heap.Ns X.env.locals m → h'.Ns X.env.locals m) (hok : HOk X.prog X.w H' h') (hg : AllBare g') :
    Inv X pins σ H' { s with heap := h', gens := g', drawn := d', toks := t' } := by
  have neL : ∀ b o, X.s₀.heap.get? b = some o → b ≠ X.env.locals := fun b o e => Nat.ne_of_lt (Nat.lt_of_lt_of_le (Heap.lt_size e) I.ok.above)
  have neC : ∀ b o, X.s₀.heap.get? b = some o → b ∉ X.ex → b ∉ ch := fun b o e hx hb => by
    rcases (hch b hb).1 with z | z
    · exact hx z
    · exact absurd (Nat.lt_of_lt_of_le (Heap.lt_size e) z) (Nat.lt_irrefl _)
  have cellK : ∀ x c, X.env.cells.lookup x = some c → ∀ v, s.heap.IsCell c v → h'.IsCell c v := fun x c e v ⟨o, ho, hd⟩ => by
    have nch : c ∉ ch := fun z => (hch c z).2.2.1 x c e rfl
    by_cases hc : c ∈ X.fs
    · obtain ⟨sl, q⟩ := slot c o (I.cne x c e) hc nch ho (I.freeC x c e)
      exact ⟨_, q, hd⟩
    · exact ⟨o, keep c o (I.cne x c e) hc nch ho (I.freeC x c e), hd⟩
  refine ⟨I.ok, I.os, hg, ⟨fun b o e n hb hx => ?_, fun b o e n hb hx => ?_, fun b o e n hx => ?_, fun b o e hx => ?_, fun b xs e => tups b xs (I.base.tups b xs e), fun b o xs e => frzs b o xs (I.base.frzs b o xs e), fun b ps e => ?_⟩, ?_, fun x c e => ?_, ?_, fun x c e => ?_, fun p hp => ?_, hok, I.len⟩
  · exact keep b o (neL b o e) hb (neC b o e hx) (I.base.keep b o e n hb hx) (I.base.free b o e n hx)
  · obtain ⟨sl, e1⟩ := I.base.slot b o e n hb hx
    obtain ⟨sl', e2⟩ := slot b _ (neL b o e) hb (neC b o e hx) e1 (I.base.free b o e n hx)
    exact ⟨sl', e2⟩
  · obtain ⟨o', e1⟩ := I.base.there b o e hx
    exact free b o' (neC b o e hx) e1 (I.base.free b o e n hx)
  · obtain ⟨o', e1⟩ := I.base.there b o e hx
    exact there b o' (neC b o e hx) e1
  · obtain ⟨m1, e1⟩ := I.base.tbls b ps e
    obtain ⟨m2, e2⟩ := tbls b _ e1
    exact ⟨m1 ++ m2, by rw [e2, Array.append_assoc]⟩
  · obtain ⟨m, hn, hl⟩ := I.loc
    refine ⟨m, ns m hn, fun i x v e1 e2 e3 => ?_⟩
    obtain ⟨u, r, l⟩ := hl i x v e1 e2 e3
    refine ⟨u, r, ?_⟩
    rcases l with l | ⟨k, c, e, z⟩
    · exact .inl l
    · exact .inr ⟨k, c, e, cellK x c e _ z⟩
  · obtain ⟨v, z⟩ := I.cell x c e
    exact ⟨v, cellK x c e v z⟩
  · obtain ⟨m, ⟨o, _, _, ho, _⟩, _⟩ := I.loc
    exact free _ o (fun z => (hch _ z).2.1 rfl) ho I.free
  · obtain ⟨v, o, ho, hd⟩ := I.cell x c e
    exact free c o (fun z => (hch c z).2.2.1 x c e rfl) ho (I.freeC x c e)
  · obtain ⟨e, n, ne, nf, d⟩ := I.pin p hp
    have nch : p.1 ∉ ch := fun z => (hch p.1 z).2.2.2 p hp rfl
    exact ⟨keep p.1 p.2 ne nf nch e n, free p.1 p.2 nch e n, ne, nf, d⟩
theorem Inv.un {t' : Nat} (I : Inv X pins σ H s) (u : Un X.fs [] H H' s.heap h') (hok : HOk X.prog X.w H' h') : Inv X pins σ H' { s with heap := h', toks := t' } := by
  obtain ⟨m, ⟨o, es, ep, ho, r⟩, _⟩ := id I.loc
  obtain ⟨sl, hL⟩ := u.any ho I.free (by simp)
  exact I.step (g' := s.gens) (d' := s.drawn) (ch := []) (fun _ z => nomatch z) (fun b o _ hb _ e n => u.keep b o e n hb (by simp)) (fun b o _ hb _ e n => u.slot b o e n hb (by simp)) (fun b o _ e n => u.free b o e n (by simp)) (fun b o _ e => u.there b o e (by simp)) u.tups u.frzs u.tbls (fun m' hm => by
    obtain ⟨o', es', ep', ho', r'⟩ := hm
    rw [ho] at ho'; cases ho'
    exact ⟨_, es', ep', hL, r'⟩) hok I.bare
theorem Inv.call {g' : Array GenState} {t' : Nat} {d' : Drawn} {ch : List Addr} (I : Inv X pins σ H s) (u : Un (frs X.stack) ch H H' s.heap h') (hok : HOk X.prog X.w H' h') (hg : AllBare g')
    (hch : ∀ b ∈ ch, (b ∈ X.ex ∨ X.s₀.heap.objs.size ≤ b) ∧ b ≠ X.env.locals ∧ (∀ x c, X.env.cells.lookup x = some c → c ≠ b) ∧ ∀ p ∈ X.pn ++ pins, p.1 ≠ b) :
    Inv X pins σ H' { s with heap := h', gens := g', drawn := d', toks := t' } := by
  obtain ⟨m, ⟨o, es, ep, ho, r⟩, _⟩ := id I.loc
  obtain ⟨sl, hL⟩ := u.any ho I.free fun z => (hch _ z).2.1 rfl
  exact I.step (ch := ch) hch (fun b o hL hb hc e n => u.keep b o e n (fun z => (List.mem_cons.mp (I.stkSub b z)).elim hL hb) hc) (fun b o _ _ hc e n => u.any e n hc) (fun b o hc e n => u.free b o e n hc) (fun b o hc e => u.there b o e hc) u.tups u.frzs u.tbls (fun m' hm => by
    obtain ⟨o', es', ep', ho', r'⟩ := hm
    rw [ho] at ho'; cases ho'
    exact ⟨_, es', ep', hL, r'⟩) hok hg
theorem Inv.turned {t' : Nat} {it : Addr} (I : Inv X pins σ H s) (k : ∀ b o, b ≠ it → s.heap.get? b = some o → h'.get? b = some o) (hn : H it = none) (hL : it ≠ X.env.locals)
    (h1 : it ∈ X.ex ∨ X.s₀.heap.objs.size ≤ it) (h2 : ∀ x c, X.env.cells.lookup x = some c → c ≠ it) (h3 : ∀ p ∈ X.pn ++ pins, p.1 ≠ it) : Inv X pins σ H { s with heap := h', toks := t' } := by
  have nit : ∀ b u, H b = some u → b ≠ it := fun b u e z => by rw [z, hn] at e; cases e
  refine I.step (g' := s.gens) (d' := s.drawn) (ch := [it]) (fun b hb => ?_) (fun b o _ _ hc e _ => k b o (fun z => hc (by simp [z])) e) (fun b o _ _ hc e _ => ⟨o.slots, k b o (fun z => hc (by simp [z])) e⟩) (fun _ _ _ _ n => n)
    (fun b o hc e => ⟨o, k b o (fun z => hc (by simp [z])) e⟩) (fun _ _ e => e) (fun _ _ _ e => e) (fun b ps e => ⟨#[], by rw [e]; simp⟩) (fun m hm => ?_) (fun b u e => ?_) I.bare
  · have e : b = it := by simpa using hb
    subst e
    exact ⟨h1, hL, h2, h3⟩
  · obtain ⟨o, es, ep, ho, r⟩ := hm
    exact ⟨o, es, ep, k _ o (Ne.symm hL) ho, r⟩
  · refine (I.hok b u e).stay (fun c v hc q => k c v ?_ q) (fun _ q => q) fun _ _ q => q
    rcases hc with z | z
    · rw [z]; exact nit b u e
    · exact nit c _ z
theorem Inv.tok (I : Inv X pins σ H s) (t : Nat) : Inv X pins σ H { s with toks := t } := I.un (h' := s.heap) (t' := t) Un.refl I.hok
theorem Inv.kept {t' : Nat} (I : Inv X pins σ H s) (k : ∀ b u, s.heap.get? b = some u → h'.get? b = some u) : Inv X pins σ H { s with heap := h', toks := t' } := I.un (Un.kept k) (I.hok.kept k)
theorem Inv.laid {a : Addr} {o : HO} {t' : Nat} (I : Inv X pins σ H s) (k : ∀ b u, s.heap.get? b = some u → h'.get? b = some u) (hp : s.heap.objs.size ≤ a) (new : ObjOk X.prog X.w (upd H a o) h' a o) :
    Inv X pins σ (upd H a o) { s with heap := h', toks := t' } := I.un (Un.laid k hp (I.hok.fresh hp)) (I.hok.laid k hp new)
theorem Inv.write {x e : Addr} {o : HO} {t' : Nat} (I : Inv X pins σ H s) (mu : Mut (H x)) (he : e = x ∨ H e = some (.own x)) (k : ∀ b u, b ≠ e → s.heap.get? b = some u → h'.get? b = some u) (heo : ∃ u, h'.get? e = some u)
    (new : ObjOk X.prog X.w (upd H x o) h' x o) : Inv X pins σ (upd H x o) { s with heap := h', toks := t' } := I.un (Un.write mu he k heo) (I.hok.write mu he k heo new)
theorem Inv.weak {σ' : List (Option V)} (I : Inv X pins σ H s) (hl : σ'.length = σ.length) (w : ∀ (i : Nat) v, σ'[i]? = some (some v) → σ[i]? = some (some v)) : Inv X pins σ' H s :=
  ⟨I.ok, I.os, I.bare, I.base, let ⟨m, hn, hl'⟩ := I.loc; ⟨m, hn, fun i x v e1 e2 e3 => hl' i x v e1 (w i v e2) e3⟩, I.cell, I.free, I.freeC, I.pin, I.hok, hl.trans I.len⟩
theorem Inv.pins_of {pins' : List (Addr × Obj)} (I : Inv X pins σ H s) (h : ∀ p ∈ pins', s.heap.get? p.1 = some p.2 ∧ H p.1 = none ∧ p.1 ≠ X.env.locals ∧ p.1 ∉ X.fs ∧ ∀ v, p.2.data ≠ .cell v) : Inv X pins' σ H s :=
  ⟨I.ok, I.os, I.bare, I.base, I.loc, I.cell, I.free, I.freeC, fun p hp => (List.mem_append.mp hp).elim (fun z => I.pin p (List.mem_append_left _ z)) (h p), I.hok, I.len⟩

theorem nodup_ix {N : List Str} (hN : N.Nodup) {i j : Nat} {x : Str} (a : N[i]? = some x) (b : N[j]? = some x) : i = j := by
  obtain ⟨h1, e1⟩ := List.getElem?_eq_some_iff.mp a
  obtain ⟨h2, e2⟩ := List.getElem?_eq_some_iff.mp b
  exact (List.getElem_inj hN).mp (e1.trans e2.symm)

theorem store_ok2 {M : Model} {A : Around} {E : Value → Shared → Prop} {i : Nat} {x : Str} {v : V} {u : Value} {Q : Unit → Shared → Prop} (I : Inv X pins σ H s) (hN : X.N.Nodup) (hi : X.N[i]? = some x) (hx : Loc X.env.scope x) (r : RelV v u)
    (h : ∀ s', Inv X pins (σ.set i (some v)) H s' → (∃ a, Heap.SameBut a s.heap s'.heap ∧ (a = X.env.locals ∨ X.env.cells.lookup x = some a)) → Q () s') (hf : X.fn x = true ∨ X.env.scope.names.lookup x = some .local := by first | exact .inl rfl | exact .inr rfl | assumption) : wpAny M A (storeName X.env x u) Q E s := by
  obtain ⟨m, hn, hl⟩ := id I.loc
  have hcls : (X.env.scope.kind == .class || (X.env.scope.kind == .module && X.env.locals != X.env.globals)) = false := by rw [I.ok.kind]; rfl
  have hiσ : i < σ.length := by rw [I.len]; exact (List.getElem?_eq_some_iff.mp hi).1
  have cne := I.cne
  have tracked : ∀ {a : Addr} {h' : Heap}, (∃ o, s.heap.get? a = some o ∧ H a = none) → Heap.SameBut a s.heap h' → HOk X.prog X.w H h' := fun {a h'} ha hs b ob e => by
    obtain ⟨_, _, hfree⟩ := ha
    refine (I.hok b ob e).stay (fun c w' hc q => (hs.2 c ?_).trans q) (fun _ q => q) fun _ _ q => q
    rintro rfl
    rcases hc with rfl | hc
    · rw [hfree] at e; cases e
    · rw [hfree] at hc; cases hc
  rcases hx with hk | hk
  · refine wpAny_storeName_local hk hn (fun h' hn' hs => ?_) hcls
    obtain ⟨oL, _, _, hoL, _⟩ := id hn
    refine h _ ⟨I.ok, I.os, I.bare, ⟨fun b o e n hb hx => ?_, fun b o e n hb hx => ?_, I.base.free, fun b o e hx => ?_, I.base.tups, I.base.frzs, I.base.tbls⟩, ⟨_, hn', fun j y v' e1 e2 e3 => ?_⟩, fun y c e => ?_, I.free, I.freeC, fun p hp => ?_, tracked ⟨oL, hoL, I.free⟩ hs, by simpa using I.len⟩ ⟨_, hs, .inl rfl⟩
    · exact (hs.2 b (Nat.ne_of_lt (Nat.lt_of_lt_of_le (Heap.lt_size e) I.ok.above))).trans (I.base.keep b o e n hb hx)
    · obtain ⟨sl, e1⟩ := I.base.slot b o e n hb hx
      exact ⟨sl, (hs.2 b (Nat.ne_of_lt (Nat.lt_of_lt_of_le (Heap.lt_size e) I.ok.above))).trans e1⟩
    · obtain ⟨o', e1⟩ := I.base.there b o e hx
      exact ⟨o', (hs.2 b (Nat.ne_of_lt (Nat.lt_of_lt_of_le (Heap.lt_size e) I.ok.above))).trans e1⟩
    · by_cases hj : j = i
      · subst hj
        rw [hi] at e1; cases e1
        rw [List.getElem?_set_self hiσ] at e2
        cases e2
        exact ⟨u, r, .inl ⟨hk, by simp⟩⟩
      · rw [List.getElem?_set_ne (Ne.symm hj)] at e2
        obtain ⟨u', r', q⟩ := hl j y v' e1 e2 e3
        refine ⟨u', r', ?_⟩
        rcases q with ⟨k, e⟩ | ⟨k, c, e, z⟩
        · refine .inl ⟨k, ?_⟩
          have : y ≠ x := fun e => hj (nodup_ix hN e1 (e ▸ hi))
          simp [this, e]
        · exact .inr ⟨k, c, e, z.sameBut hs (cne y c e)⟩
    · obtain ⟨w', z⟩ := I.cell y c e
      exact ⟨w', z.sameBut hs (cne y c e)⟩
    · obtain ⟨e, n, ne, nf, d⟩ := I.pin p hp
      exact ⟨(hs.2 p.1 ne).trans e, n, ne, nf, d⟩
  · have hfn : X.fn x = true := by
      rcases hf with z | z
      · exact z
      · rw [z] at hk; cases hk
    obtain ⟨c, hc⟩ := I.ok.has x (.inl hk)
    obtain ⟨w', z⟩ := I.cell x c hc
    refine wpAny_storeName_cell I.ok.kind hk hc z (fun h' hc' hs => ?_)
    obtain ⟨oc, hoc, hocd⟩ := id z
    refine h { s with heap := h' } ⟨I.ok, I.os, I.bare, ⟨fun b o e n hb hx => ?_, fun b o e n hb hx => ?_, I.base.free, fun b o e hx => ?_, I.base.tups, I.base.frzs, I.base.tbls⟩, ⟨m, hn.sameBut hs (Ne.symm (cne x c hc)), fun j y v' e1 e2 e3 => ?_⟩, fun y c' e => ?_, I.free, I.freeC, fun p hp => ?_, tracked ⟨oc, hoc, I.freeC x c hc⟩ hs, by simpa using I.len⟩ ⟨c, hs, .inr hc⟩
    · exact (hs.2 b (Nat.ne_of_lt (Nat.lt_of_lt_of_le (Heap.lt_size e) (I.ok.cab x c hfn hc)))).trans (I.base.keep b o e n hb hx)
    · obtain ⟨sl, e1⟩ := I.base.slot b o e n hb hx
      exact ⟨sl, (hs.2 b (Nat.ne_of_lt (Nat.lt_of_lt_of_le (Heap.lt_size e) (I.ok.cab x c hfn hc)))).trans e1⟩
    · obtain ⟨o', e1⟩ := I.base.there b o e hx
      exact ⟨o', (hs.2 b (Nat.ne_of_lt (Nat.lt_of_lt_of_le (Heap.lt_size e) (I.ok.cab x c hfn hc)))).trans e1⟩
    · by_cases hj : j = i
      · subst hj
        rw [hi] at e1; cases e1
        rw [List.getElem?_set_self hiσ] at e2
        cases e2
        exact ⟨u, r, .inr ⟨.inl hk, c, hc, hc'⟩⟩
      · rw [List.getElem?_set_ne (Ne.symm hj)] at e2
        obtain ⟨u', r', q⟩ := hl j y v' e1 e2 e3
        refine ⟨u', r', ?_⟩
        rcases q with q | ⟨k, c', e, z'⟩
        · exact .inl q
        · refine .inr ⟨k, c', e, z'.sameBut hs ?_⟩
          rintro rfl
          exact hj (nodup_ix hN e1 (I.ok.inj _ _ _ e hc ▸ hi))
    · by_cases hcc : c' = c
      · subst hcc; exact ⟨_, hc'⟩
      · obtain ⟨w2, z2⟩ := I.cell y c' e
        exact ⟨w2, z2.sameBut hs hcc⟩
    · obtain ⟨e, n, ne, nf, d⟩ := I.pin p hp
      refine ⟨(hs.2 p.1 ?_).trans e, n, ne, nf, d⟩
      intro q
      rw [q, hoc] at e
      have q' : oc = p.2 := Option.some.inj e
      exact d w' (by rw [← q']; exact hocd)
theorem store_ok {M : Model} {A : Around} {E : Value → Shared → Prop} {i : Nat} {x : Str} {v : V} {u : Value} {Q : Unit → Shared → Prop} (I : Inv X pins σ H s) (hN : X.N.Nodup) (hi : X.N[i]? = some x) (hx : Loc X.env.scope x) (r : RelV v u)
    (h : ∀ s', Inv X pins (σ.set i (some v)) H s' → Q () s') (hf : X.fn x = true ∨ X.env.scope.names.lookup x = some .local := by first | exact .inl rfl | exact .inr rfl | assumption) : wpAny M A (storeName X.env x u) Q E s :=
  store_ok2 I hN hi hx r (fun s' I' _ => h s' I') hf
theorem Inv.call' {s' : Shared} {ch : List Addr} (I : Inv X pins σ H s) (ho : s'.os = s.os) (u : Un (frs X.stack) ch H H' s.heap s'.heap) (hok : HOk X.prog X.w H' s'.heap) (hg : AllBare s'.gens)
    (hch : ∀ b ∈ ch, (b ∈ X.ex ∨ X.s₀.heap.objs.size ≤ b) ∧ b ≠ X.env.locals ∧ (∀ x c, X.env.cells.lookup x = some c → c ≠ b) ∧ ∀ p ∈ X.pn ++ pins, p.1 ≠ b) : Inv X pins σ H' s' := by
  obtain ⟨h', g', d', t', o'⟩ := s'
  have e : o' = s.os := ho
  subst e
  exact I.call (g' := g') (t' := t') (d' := d') u hok hg hch
end
noncomputable abbrev XK := Value → Option Addr → Hp → Prop
noncomputable abbrev St := List (Option V)
noncomputable abbrev VK := V → Hp → Prop
noncomputable abbrev TE := St → Hp → VK → Prop
noncomputable abbrev TT := St → Hp → (Bool → Hp → Prop) → Prop
noncomputable abbrev TA := St → Hp → (List V → Hp → Prop) → Prop
structure Ends where
  nx : St → Hp → Prop
  rt : VK
  bk : St → Hp → Prop := fun _ _ => False
  ct : St → Hp → Prop := fun _ _ => False
noncomputable abbrev TS := Ends → St → Hp → Prop

noncomputable def EP (X : Cx) (pins : List (Addr × Obj)) (σ : St) (Q : VK) (u : Value) (s' : Shared) : Prop := ∃ v H', Inv X pins σ H' s' ∧ RelV v u ∧ Q v H'
noncomputable def TP (X : Cx) (pins : List (Addr × Obj)) (σ : St) (Q : Bool → Hp → Prop) (b : Bool) (s' : Shared) : Prop := ∃ H', Inv X pins σ H' s' ∧ Q b H'
noncomputable def AP (X : Cx) (pins : List (Addr × Obj)) (σ : St) (Q : List V → Hp → Prop) (us : List Value) (s' : Shared) : Prop := ∃ vs H', Inv X pins σ H' s' ∧ Vals vs us ∧ Q vs H'
noncomputable def SP (X : Cx) (pins : List (Addr × Obj)) (D : Ends) (f : Flow) (s' : Shared) : Prop :=
  match f with
  | .next => ∃ σ' H', Inv X pins σ' H' s' ∧ D.nx σ' H'
  | .brk => ∃ σ' H', Inv X pins σ' H' s' ∧ D.bk σ' H'
  | .cont => ∃ σ' H', Inv X pins σ' H' s' ∧ D.ct σ' H'
  | .ret u => ∃ v σ' H', Inv X pins σ' H' s' ∧ RelV v u ∧ D.rt v H'

noncomputable def PE (X : Cx) (e : Expr) (t : TE) : Prop :=
  ∀ (pins : List (Addr × Obj)) (s : Shared) (σ : St) (H : Hp) (Q : VK), Inv X pins σ H s → t σ H Q → wpAny (model X.prog X.w) X.A (eval e X.env) (EP X pins σ Q) X.xe s
@[irreducible] noncomputable def ZE (X : Cx) (e : Expr) (t : TE) : Prop := PE X e t
noncomputable def PT (X : Cx) (e : Expr) (t : TT) : Prop :=
  ∀ (pins : List (Addr × Obj)) (s : Shared) (σ : St) (H : Hp) (Q : Bool → Hp → Prop), Inv X pins σ H s → t σ H Q → wpAny (model X.prog X.w) X.A (isTrue e X.env (eval e X.env)) (TP X pins σ Q) X.xe s
@[irreducible] noncomputable def ZT (X : Cx) (e : Expr) (t : TT) : Prop := PT X e t
noncomputable def PW (X : Cx) (e : Expr) (t : TT) : Prop :=
  ∀ (whole : Sem Value) (pins : List (Addr × Obj)) (s : Shared) (σ : St) (H : Hp) (Q : Bool → Hp → Prop), Inv X pins σ H s → t σ H Q → wpAny (model X.prog X.w) X.A (isTrue e X.env whole) (TP X pins σ Q) X.xe s
@[irreducible] noncomputable def ZW (X : Cx) (e : Expr) (t : TT) : Prop := PW X e t
theorem PW.pt {X : Cx} {e : Expr} {t : TT} (h : PW X e t) : PT X e t := h _
theorem ZW.zt {X : Cx} {e : Expr} {t : TT} (h : ZW X e t) : ZT X e t := by with_unfolding_all exact PW.pt h
noncomputable def PA (X : Cx) (es : List Expr) (t : TA) : Prop :=
  ∀ (pos : Pos) (pins : List (Addr × Obj)) (s : Shared) (σ : St) (H : Hp) (Q : List V → Hp → Prop), Inv X pins σ H s → t σ H Q → wpAny (model X.prog X.w) X.A (spliced (backTo pos (starEach es X.env))) (AP X pins σ Q) X.xe s
@[irreducible] noncomputable def ZA (X : Cx) (es : List Expr) (t : TA) : Prop := PA X es t
noncomputable def PS (X : Cx) (st : Stmt) (t : TS) : Prop :=
  ∀ (pins : List (Addr × Obj)) (s : Shared) (σ : St) (H : Hp) (D : Ends), Inv X pins σ H s → t D σ H → wpAny (model X.prog X.w) X.A (exec st X.env) (SP X pins D) X.xe s
@[irreducible] noncomputable def ZS (X : Cx) (st : Stmt) (t : TS) : Prop := PS X st t
noncomputable def PSs (X : Cx) (st : List Stmt) (t : TS) : Prop :=
  ∀ (pins : List (Addr × Obj)) (s : Shared) (σ : St) (H : Hp) (D : Ends), Inv X pins σ H s → t D σ H → wpAny (model X.prog X.w) X.A (execs st X.env) (SP X pins D) X.xe s
@[irreducible] noncomputable def ZSs (X : Cx) (st : List Stmt) (t : TS) : Prop := PSs X st t
theorem ZSs.p {X : Cx} {st : List Stmt} {t : TS}  (h : ZSs X st t) : PSs X st t := by unfold ZSs at h; exact h
theorem thn {α : Type} {t : Sem α} {Q Q' : α → Shared → Prop} {M : Model} {A : Around} {E : Value → Shared → Prop} {s : Shared} (h : wpAny M A t Q E s) (hQ : ∀ a s, Q a s → Q' a s) : wpAny M A t Q' E s := wpAny_mono h hQ fun _ _ x => x
end L2
namespace L2
open PySem PySem.Spec PyProof.Rows
section
variable {X : Cx}
noncomputable def tVar (i : Nat) : TE := fun σ H Q => ∃ v, σ[i]? = some (some v) ∧ Q v H
noncomputable def tC (v : V) : TE := fun _ H Q => Q v H
theorem pe_var {i : Nat} {x : Str} {pos : Pos} (hN : X.N[i]? = some x) (hv : Vis X.env.scope x) (hd : (x == ("__debug__" : Str)) = false := by decide) (hcd : (x == ("__classdict__" : Str)) = false := by decide) : PE X (.Name x pos) (tVar i) := by
  intro pins s σ H Q I h
  obtain ⟨v, e, h⟩ := h
  obtain ⟨m, hn, hl⟩ := I.loc
  obtain ⟨u, r, l⟩ := hl i x v hN e hv
  have fin : EP X pins σ Q u s := ⟨v, H, I, r, h⟩
  rcases l with ⟨hk, hm⟩ | ⟨hk, c, hc, hcell⟩
  · exact wpAny_Name (wpAny_loadName_local I.ok.kind hk hn hm fin) hd
  · rcases hk with hk | hk
    · exact wpAny_Name (wpAny_loadName_cell I.ok.kind hk hc hcell fin) hd
    · exact wpAny_Name (wpAny_loadName_free I.ok.kind hk hc hcell fin hcd) hd
theorem pe_int {i j pos} : PE X (.Constant (.int i) j pos) (tC (.int i)) := fun _ _ _ H _ I h => wpAny_Constant_int ⟨.int i, H, I.tok _, ⟨_, rfl⟩, h⟩
theorem ze_int {i j pos} : ZE X (.Constant (.int i) j pos) (tC (.int i)) := by with_unfolding_all exact pe_int 
theorem pe_bl {b j pos} : PE X (.Constant (.bool b) j pos) (tC (.bl b)) := fun _ _ _ H _ I h => Constant_bool ⟨.bl b, H, I, rfl, h⟩
theorem ze_bl {b j pos} : ZE X (.Constant (.bool b) j pos) (tC (.bl b)) := by with_unfolding_all exact pe_bl 
theorem pe_non {j pos} : PE X (.Constant .none j pos) (tC .non) := fun _ _ _ H _ I h => Constant_none ⟨.non, H, I, rfl, h⟩
theorem ze_non {j pos} : ZE X (.Constant .none j pos) (tC .non) := by with_unfolding_all exact pe_non 
theorem pe_str {x j pos} : PE X (.Constant (.str x) j pos) (tC (.str x)) := fun _ _ _ H _ I h => Calls.Constant_str ⟨.str x, H, I.tok _, ⟨_, rfl⟩, h⟩
theorem ze_str {x j pos} : ZE X (.Constant (.str x) j pos) (tC (.str x)) := by with_unfolding_all exact pe_str 

noncomputable def Gl (X : Cx) (x : Str) : Prop := X.env.kindOf x = some .globalImplicit
theorem ld_glob {E : Value → Shared → Prop} {pins : List (Addr × Obj)} {s : Shared} {σ : St} {H : Hp} {x : Str} {u : Value} {pos : Pos} {Q : Value → Shared → Prop} (I : Inv X pins σ H s) (hg : Gl X x) (hm : X.mg x = some u) (h : Q u s)
    (hd : (x == ("__debug__" : Str)) = false := by decide) : wpAny (model X.prog X.w) X.A (eval (.Name x pos) X.env) Q E s :=
  Calls.Name_function_global I.ok.kind hg (Calls.loadGlobal_global (by rw [I.ok.glob]; exact I.mod.glob.keeps I.bk) hm h) hd
theorem ld_blt {E : Value → Shared → Prop} {pins : List (Addr × Obj)} {s : Shared} {σ : St} {H : Hp} {x : Str} {u : Value} {pos : Pos} {Q : Value → Shared → Prop} (I : Inv X pins σ H s) (hg : Gl X x) (hm : X.mg x = none) (hv : bootBuiltins x = some u) (h : Q u s)
    (hn : x ≠ "__name__" := by decide) (hd : (x == ("__debug__" : Str)) = false := by decide) : wpAny (model X.prog X.w) X.A (eval (.Name x pos) X.env) Q E s := by
  obtain ⟨mb, h1, h2⟩ := I.mod.blt
  exact Calls.Name_function_global I.ok.kind hg (Calls.loadGlobal_builtin (by rw [I.ok.glob]; exact I.mod.glob.keeps I.bk) hm (by rw [I.ok.blt]; exact h1.keeps I.bk) ((h2 x hn).trans hv) h) hd
theorem pe_bltn {x : Str} {v : V} {u : Value} {pos : Pos} (hg : Gl X x) (hm : X.mg x = none) (hv : bootBuiltins x = some u) (r : RelV v u) (hn : x ≠ "__name__" := by decide) (hd : (x == ("__debug__" : Str)) = false := by decide) : PE X (.Name x pos) (tC v) :=
  fun _ _ _ H _ I h => ld_blt I hg hm hv ⟨v, H, I, r, h⟩ hn hd

variable {a b : Expr} {ta tb : TE} {pos : Pos}
variable {tA tB' : TT} {rest : List Expr}
noncomputable def tAnd (t u : TT) : TT := fun σ H Q => t σ H fun c H1 => if c = true then u σ H1 Q else Q false H1
noncomputable def tOr (t u : TT) : TT := fun σ H Q => t σ H fun c H1 => if c = true then Q true H1 else u σ H1 Q
noncomputable def tNot (t : TT) : TT := fun σ H Q => t σ H fun c H1 => Q (!c) H1
theorem pw_and1 (ha : PT X a tA) : PW X (.BoolOp .And [a] pos) tA := by
  intro wh pins s σ H Q I h
  refine isTrue_and (thn (ha pins s σ H Q I h) fun c s1 e => ?_)
  cases c with
  | true => exact isTrue_and_nil e
  | false => exact e
theorem zw_and1 (ha : ZT X a tA) : ZW X (.BoolOp .And [a] pos) tA := by with_unfolding_all exact pw_and1 ha
theorem pw_or1 (ha : PT X a tA) : PW X (.BoolOp .Or [a] pos) tA := by
  intro wh pins s σ H Q I h
  refine isTrue_or (thn (ha pins s σ H Q I h) fun c s1 e => ?_)
  cases c with
  | false => exact isTrue_or_nil e
  | true => exact e
theorem zw_or1 (ha : ZT X a tA) : ZW X (.BoolOp .Or [a] pos) tA := by with_unfolding_all exact pw_or1 ha
theorem pw_and (ha : PT X a tA) (hb : PW X (.BoolOp .And (b :: rest) pos) tB') : PW X (.BoolOp .And (a :: b :: rest) pos) (tAnd tA tB') := by
  intro wh pins s σ H Q I h
  refine isTrue_and (thn (ha pins s σ H _ I h) fun c s1 ⟨H1, I1, q1⟩ => ?_)
  cases c with
  | true => exact hb wh pins s1 σ H1 Q I1 q1
  | false => exact ⟨H1, I1, q1⟩
theorem zw_and (ha : ZT X a tA) (hb : ZW X (.BoolOp .And (b :: rest) pos) tB') : ZW X (.BoolOp .And (a :: b :: rest) pos) (tAnd tA tB') := by with_unfolding_all exact pw_and ha hb
theorem pw_or (ha : PT X a tA) (hb : PW X (.BoolOp .Or (b :: rest) pos) tB') : PW X (.BoolOp .Or (a :: b :: rest) pos) (tOr tA tB') := by
  intro wh pins s σ H Q I h
  refine isTrue_or (thn (ha pins s σ H _ I h) fun c s1 ⟨H1, I1, q1⟩ => ?_)
  cases c with
  | true => exact ⟨H1, I1, q1⟩
  | false => exact hb wh pins s1 σ H1 Q I1 q1
theorem zw_or (ha : ZT X a tA) (hb : ZW X (.BoolOp .Or (b :: rest) pos) tB') : ZW X (.BoolOp .Or (a :: b :: rest) pos) (tOr tA tB') := by with_unfolding_all exact pw_or ha hb
theorem pt_not (ha : PT X a tA) : PT X (.UnaryOp .Not a pos) (tNot tA) := by
  intro pins s σ H Q I h
  exact isTrue_not (ha pins s σ H (fun c H1 => Q (!c) H1) I h)
theorem zt_not (ha : ZT X a tA) : ZT X (.UnaryOp .Not a pos) (tNot tA) := by with_unfolding_all exact pt_not ha
theorem pe_one {op} {t : TE} (h : PE X a t) : PE X (.BoolOp op [a] pos) t := fun pins s σ H Q I hw => BoolOp_one (h pins s σ H Q I hw)
theorem ze_one {op} {t : TE} (h : ZE X a t) : ZE X (.BoolOp op [a] pos) t := by with_unfolding_all exact pe_one h
noncomputable def tIf (t : TT) (ta tb : TE) : TE := fun σ H Q => t σ H fun c H1 => if c = true then ta σ H1 Q else tb σ H1 Q
theorem pe_ifExp {c : Expr} (hc : PT X c tA) (ha : PE X a ta) (hb : PE X b tb) : PE X (.IfExp c a b pos) (tIf tA ta tb) := by
  intro pins s σ H Q I h
  refine wpAny_IfExp (thn (hc pins s σ H _ I h) fun d s1 ⟨H1, I1, q1⟩ => ?_)
  cases d with
  | true => exact ha pins s1 σ H1 Q I1 q1
  | false => exact hb pins s1 σ H1 Q I1 q1
theorem ze_ifExp {c : Expr} (hc : ZT X c tA) (ha : ZE X a ta) (hb : ZE X b tb) : ZE X (.IfExp c a b pos) (tIf tA ta tb) := by with_unfolding_all exact pe_ifExp hc ha hb
end
end L2
namespace L2
open PySem PySem.Spec PyProof.Rows
noncomputable def SqL (K : PySem.W.Frag) (H : Hp) (a : Addr) (xs : List V) : Prop :=
  Rd H a (.lst xs) ∨
    ∃ (o : Obj) (its : Array Value) (n : Nat), K.lookup a = some o ∧ o.cls = .type "list" ∧ o.dict = none ∧ o.data = .seq its n ∧ its.size ≤ sizeLine ∧ Vals xs its.toList
noncomputable def SqT (K : PySem.W.Frag) (H : Hp) (a : Addr) (xs : List V) : Prop :=
  Rd H a (.tup xs) ∨
    ∃ (o : Obj) (its : Array Value) (n : Nat), K.lookup a = some o ∧ o.cls = .type "tuple" ∧ o.data = .seq its n ∧ its.size ≤ sizeLine ∧ Vals xs its.toList
noncomputable def absV : Value → Option V
  | .none => some .non
  | .bool b => some (.bl b)
  | .int i _ => some (.int i)
  | .str x _ => some (.str x)
  | .bytes b _ => some (.byt b)
  | .float b _ => some (.flt b)
  | .ref a => some (.ref a)
  | .type n => some (.ty n)
  | _ => none
theorem RelV.abs {x : V} {u : Value} (r : RelV x u) : absV u = some x := by
  cases x with
  | non => cases r; rfl
  | bl _ => cases r; rfl
  | int _ => obtain ⟨t, rfl⟩ := r; rfl
  | str _ => obtain ⟨t, rfl⟩ := r; rfl
  | byt _ => obtain ⟨t, rfl⟩ := r; rfl
  | flt _ => obtain ⟨t, rfl⟩ := r; rfl
  | ref _ => cases r; rfl
  | ty _ => cases r; rfl
theorem RelV.inj {x y : V} {u : Value} (r : RelV x u) (q : RelV y u) : x = y := Option.some.inj (r.abs.symm.trans q.abs)
theorem Vals.inj : ∀ {xs ys : List V} {us : List Value}, Vals xs us → Vals ys us → xs = ys
  | _, _, _, .nil, .nil => rfl
  | _, _, _, .cons r t, .cons r' t' => by rw [r.inj r', Vals.inj t t']
section
variable {X : Cx} {pins : List (Addr × Obj)} {σ : St} {H : Hp} {s : Shared} {a : Addr} {xs ys : List V}
theorem SqL.of {K : PySem.W.Frag} (h : H a = some (.lst xs)) : SqL K H a xs := .inl (.inl h)
theorem SqT.of {K : PySem.W.Frag} (h : H a = some (.tup xs)) : SqT K H a xs := .inl (.inl h)
theorem Inv.list (I : Inv X pins σ H s) (h : SqL X.K H a xs) : ∃ its : List Value, Vals xs its ∧ PlainL s.heap a its.toArray ∧ xs.length ≤ sizeLine := by
  rcases h with h | ⟨o, its, n, hk, hc, hd, hs, hz, r⟩
  · obtain ⟨z, its, n, r, e⟩ := h.ok I.hok
    exact ⟨its, r, ⟨_, n, e, rfl, rfl, rfl⟩, z⟩
  · refine ⟨its.toList, r, ⟨o, n, I.kIn a o hk, hc, hd, by simpa using hs⟩, ?_⟩
    have e := r.length
    simp only [Array.length_toList] at e
    omega
theorem Inv.tuple (I : Inv X pins σ H s) (h : SqT X.K H a xs) : ∃ its : List Value, Vals xs its ∧ IsTup s.heap a its.toArray ∧ xs.length ≤ sizeLine := by
  rcases h with h | ⟨o, its, n, hk, hc, hs, hz, r⟩
  · obtain ⟨z, its, r, p⟩ := h.ok I.hok
    exact ⟨its, r, p.tup, z⟩
  · refine ⟨its.toList, r, ⟨o, I.kIn a o hk, hc, n, by simpa using hs⟩, ?_⟩
    have e := r.length
    simp only [Array.length_toList] at e
    omega
theorem Inv.list_inj (I : Inv X pins σ H s) (h : SqL X.K H a xs) (h' : SqL X.K H a ys) : xs = ys := by
  obtain ⟨its, r, ⟨o, n, e, _, _, d⟩, _⟩ := I.list h
  obtain ⟨its', r', ⟨o', n', e', _, _, d'⟩, _⟩ := I.list h'
  rw [e] at e'; cases e'
  rw [d] at d'
  injection d' with d1 _
  have : its = its' := by simpa using congrArg Array.toList d1
  subst this
  exact r.inj r'
theorem Inv.tuple_inj (I : Inv X pins σ H s) (h : SqT X.K H a xs) (h' : SqT X.K H a ys) : xs = ys := by
  obtain ⟨its, r, ⟨o, e, _, n, d⟩, _⟩ := I.tuple h
  obtain ⟨its', r', ⟨o', e', _, n', d'⟩, _⟩ := I.tuple h'
  rw [e] at e'; cases e'
  rw [d] at d'
  injection d' with d1 _
  have : its = its' := by simpa using congrArg Array.toList d1
  subst this
  exact r.inj r'
end
noncomputable abbrev Cx.wish (X : Cx) (E : Value → Shared → Prop) : Cx := { X with xe := E }
noncomputable abbrev Cx.nox (X : Cx) : Cx := X.wish fun _ _ => False
theorem Cx.Ok.wish {X : Cx} (ok : X.Ok) (E : Value → Shared → Prop) : (X.wish E).Ok :=
  ⟨ok.mod, ok.kind, ok.glob, ok.blt, ok.above, ok.inj, ok.has, ok.cab, ok.hd, ok.frames, ok.stk, ok.exf, ok.bs, ok.bsz, ok.noex, ok.exfs, ok.funs, ok.frf⟩
theorem Cx.Ok.unwish {X : Cx} {E : Value → Shared → Prop} (ok : (X.wish E).Ok) : X.Ok :=
  ⟨ok.mod, ok.kind, ok.glob, ok.blt, ok.above, ok.inj, ok.has, ok.cab, ok.hd, ok.frames, ok.stk, ok.exf, ok.bs, ok.bsz, ok.noex, ok.exfs, ok.funs, ok.frf⟩
section
variable {X : Cx} {pins : List (Addr × Obj)} {σ : St} {H : Hp} {s : Shared} {E : Value → Shared → Prop}
theorem Inv.wish (I : Inv X pins σ H s) (E : Value → Shared → Prop) : Inv (X.wish E) pins σ H s := ⟨I.ok.wish E, I.os, I.bare, I.base, I.loc, I.cell, I.free, I.freeC, I.pin, I.hok, I.len⟩
theorem Inv.unwish (I : Inv (X.wish E) pins σ H s) : Inv X pins σ H s := ⟨I.ok.unwish, I.os, I.bare, I.base, I.loc, I.cell, I.free, I.freeC, I.pin, I.hok, I.len⟩
theorem SP.unwish {D : Ends} {f : Flow} {s' : Shared} (h : SP (X.wish E) pins D f s') : SP X pins D f s' := by
  cases f with
  | next => obtain ⟨σ', H', I, q⟩ := h; exact ⟨σ', H', I.unwish, q⟩
  | brk => obtain ⟨σ', H', I, q⟩ := h; exact ⟨σ', H', I.unwish, q⟩
  | cont => obtain ⟨σ', H', I, q⟩ := h; exact ⟨σ', H', I.unwish, q⟩
  | ret u => obtain ⟨v, σ', H', I, r, q⟩ := h; exact ⟨v, σ', H', I.unwish, r, q⟩
theorem PSs.nox {st : List Stmt} {t : TS} (h : PSs X.nox st t) : PSs X st t := fun pins s σ H D I hw =>
  wpAny_mono (h pins s σ H D (I.wish _) hw) (fun _ _ q => q.unwish) fun _ _ z => False.elim z
end
section
variable {X : Cx} {st : Stmt} {rest : List Stmt} {t u : TS} {e : Expr} {te : TE} {pos : Pos}
noncomputable def tNext : TS := fun D σ H => D.nx σ H
noncomputable def tSeq (t u : TS) : TS := fun D σ H => t { D with nx := u D } σ H
theorem pss_nil : PSs X [] tNext := fun _ _ σ H _ I h => wpAny_execs_nil ⟨σ, H, I, h⟩
theorem zss_nil : ZSs X [] tNext := by with_unfolding_all exact pss_nil 
theorem pss_cons (h1 : PS X st t) (h2 : PSs X rest u) : PSs X (st :: rest) (tSeq t u) := by
  intro pins s σ H D I h
  refine wpAny_execs_cons (thn (h1 pins s σ H { D with nx := u D } I h) fun f s1 q => ?_)
  cases f with
  | next =>
    obtain ⟨σ', H', I', q⟩ := q
    exact h2 pins s1 σ' H' D I' q
  | ret v => exact q
  | brk => exact q
  | cont => exact q
theorem zss_cons (h1 : ZS X st t) (h2 : ZSs X rest u) : ZSs X (st :: rest) (tSeq t u) := by with_unfolding_all exact pss_cons h1 h2
theorem pss_one (h1 : PS X st t) : PSs X [st] t := by
  intro pins s σ H D I h
  refine wpAny_execs_cons (thn (h1 pins s σ H D I h) fun f s1 q => ?_)
  cases f with
  | next => exact wpAny_execs_nil q
  | ret v => exact q
  | brk => exact q
  | cont => exact q
theorem zss_one (h1 : ZS X st t) : ZSs X [st] t := by with_unfolding_all exact pss_one h1
theorem Inv.quiet {pins : List (Addr × Obj)} {σ : St} {H : Hp} {s : Shared} (I : Inv X pins σ H s) : interactive X.env = false := by simp [interactive, I.ok.kind]
noncomputable def tDrop (te : TE) : TS := fun D σ H => te σ H fun _ H1 => D.nx σ H1
theorem ps_expr (he : PE X e te) (hs : swapsWith e none pos.line X.env = pure false := by rfl) : PS X (.Expr e pos) (tDrop te) := by
  intro pins s σ H D I h
  exact wpAny_Expr_any (thn (he pins s σ H _ I h) fun v s1 ⟨x, H1, I1, r1, q1⟩ => ⟨σ, H1, I1, q1⟩) I.quiet hs
theorem zs_expr (he : ZE X e te) (hs : swapsWith e none pos.line X.env = pure false := by rfl) : ZS X (.Expr e pos) (tDrop te) := by with_unfolding_all exact ps_expr he hs
noncomputable def tRet (te : TE) : TS := fun D σ H => te σ H D.rt
theorem ps_ret (he : PE X e te) : PS X (.Return (some e) pos) (tRet te) := by
  intro pins s σ H D I h
  exact wpAny_Return_some (thn (he pins s σ H _ I h) fun v s1 ⟨x, H1, I1, r1, q1⟩ => ⟨x, σ, H1, I1, r1, q1⟩)
theorem zs_ret (he : ZE X e te) : ZS X (.Return (some e) pos) (tRet te) := by with_unfolding_all exact ps_ret he
noncomputable def tIfS (c : TT) (t u : TS) : TS := fun D σ H => c σ H fun b H1 => if b = true then t D σ H1 else u D σ H1
theorem ps_if {c : Expr} {a b : List Stmt} {tc : TT} (hc : PT X c tc) (ha : PSs X a t) (hb : PSs X b u) : PS X (.If c a b pos) (tIfS tc t u) := by
  intro pins s σ H D I h
  refine wpAny_If (thn (hc pins s σ H _ I h) fun d s1 ⟨H1, I1, q1⟩ => ?_)
  cases d with
  | true => exact ha pins s1 σ H1 D I1 q1
  | false => exact hb pins s1 σ H1 D I1 q1
theorem zs_if {c : Expr} {a b : List Stmt} {tc : TT} (hc : ZT X c tc) (ha : ZSs X a t) (hb : ZSs X b u) : ZS X (.If c a b pos) (tIfS tc t u) := by with_unfolding_all exact ps_if hc ha hb
end
noncomputable abbrev TG := V → St → Hp → (St → Hp → Prop) → Prop
noncomputable abbrev TGs := List V → St → Hp → (St → Hp → Prop) → Prop
noncomputable def PG (X : Cx) (target : Expr) (t : TG) : Prop :=
  ∀ (pins : List (Addr × Obj)) (s : Shared) (σ : St) (H : Hp) (v : V) (u : Value) (Q : St → Hp → Prop), Inv X pins σ H s → RelV v u → t v σ H Q →
    wpAny (model X.prog X.w) X.A (assign target X.env u) (fun _ s' => ∃ σ' H', Inv X pins σ' H' s' ∧ Q σ' H') X.xe s
@[irreducible] noncomputable def ZG (X : Cx) (target : Expr) (t : TG) : Prop := PG X target t
noncomputable def PGs (X : Cx) (ts : List Expr) (t : TGs) : Prop :=
  ∀ (pins : List (Addr × Obj)) (s : Shared) (σ : St) (H : Hp) (vs : List V) (us : List Value) (Q : St → Hp → Prop), Inv X pins σ H s → Vals vs us → t vs σ H Q →
    wpAny (model X.prog X.w) X.A (assignInOrder ((assignEach ts X.env).map (·.2)) us) (fun _ s' => ∃ σ' H', Inv X pins σ' H' s' ∧ Q σ' H') X.xe s
@[irreducible] noncomputable def ZGs (X : Cx) (ts : List Expr) (t : TGs) : Prop := PGs X ts t
noncomputable abbrev TSet := V → V → V → Hp → (Hp → Prop) → Prop
noncomputable def PSet (X : Cx) (t : TSet) : Prop :=
  ∀ (pins : List (Addr × Obj)) (s : Shared) (σ : St) (H : Hp) (o i v : V) (ov iv u : Value) (Q : Hp → Prop), Inv X pins σ H s → RelV o ov → RelV i iv → RelV v u → t o i v H Q →
    wpAny (model X.prog X.w) X.A (setItem ov iv u) (fun _ s' => ∃ H', Inv X pins σ H' s' ∧ Q H') X.xe s
noncomputable abbrev TIp := V → V → Hp → VK → Prop
noncomputable def PIp (X : Cx) (op : Operator) (t : TIp) : Prop :=
  ∀ (pins : List (Addr × Obj)) (s : Shared) (σ : St) (H : Hp) (x y : V) (v u : Value) (Q : VK), Inv X pins σ H s → RelV x v → RelV y u → t x y H Q →
    wpAny (model X.prog X.w) X.A (inplaceOp op v u) (EP X pins σ Q) X.xe s
section
variable {X : Cx} {pos : Pos}
noncomputable def gName (i : Nat) : TG := fun v σ H Q => Q (σ.set i (some v)) H
theorem pg_name {i : Nat} {x : Str} (hN : X.N.Nodup) (hi : X.N[i]? = some x) (hx : Loc X.env.scope x) (hf : X.fn x = true ∨ X.env.scope.names.lookup x = some .local := by first | exact .inl rfl | exact .inr rfl | assumption) : PG X (.Name x pos) (gName i) := by
  intro pins s σ H v u Q I r h
  exact wpAny_assign_Name (store_ok I hN hi hx r (fun s' I' => ⟨_, H, I', h⟩) hf)
theorem zg_name {i : Nat} {x : Str} (hN : X.N.Nodup) (hi : X.N[i]? = some x) (hx : Loc X.env.scope x) (hf : X.fn x = true ∨ X.env.scope.names.lookup x = some .local := by first | exact .inl rfl | exact .inr rfl | assumption) : ZG X (.Name x pos) (gName i) := by with_unfolding_all exact pg_name hN hi hx hf
noncomputable def gNil : TGs := fun vs σ H Q => vs = [] ∧ Q σ H
noncomputable def gCons (t : TG) (u : TGs) : TGs := fun vs σ H Q => ∃ v r, vs = v :: r ∧ t v σ H fun σ' H' => u r σ' H' Q
theorem pgs_nil : PGs X [] gNil := by
  intro pins s σ H vs us Q I r h
  obtain ⟨e, h⟩ := h
  subst e
  cases r
  exact assignInOrder_nil ⟨σ, H, I, h⟩
theorem zgs_nil : ZGs X [] gNil := by with_unfolding_all exact pgs_nil 
theorem pgs_cons {e : Expr} {es : List Expr} {t : TG} {u : TGs} (h1 : PG X e t) (h2 : PGs X es u)
    (hs : (assignEach (e :: es) X.env).map (·.2) = assign e X.env :: (assignEach es X.env).map (·.2) := by rfl) : PGs X (e :: es) (gCons t u) := by
  intro pins s σ H vs us Q I r h
  obtain ⟨v, vr, e1, h⟩ := h
  subst e1
  cases r with
  | cons r rr =>
    rw [hs]
    refine assignInOrder_cons (thn (h1 pins s σ H _ _ _ I r h) fun _ s1 ⟨σ1, H1, I1, q1⟩ => ?_)
    exact h2 pins s1 σ1 H1 _ _ Q I1 rr q1
theorem zgs_cons {e : Expr} {es : List Expr} {t : TG} {u : TGs} (h1 : ZG X e t) (h2 : ZGs X es u)
    (hs : (assignEach (e :: es) X.env).map (·.2) = assign e X.env :: (assignEach es X.env).map (·.2) := by rfl) : ZGs X (e :: es) (gCons t u) := by with_unfolding_all exact pgs_cons h1 h2 hs
noncomputable def gTup (K : PySem.W.Frag) (n : Nat) (t : TGs) : TG := fun v σ H Q => ∃ a xs, v = .ref a ∧ SqT K H a xs ∧ xs.length = n ∧ t xs σ H Q
theorem pg_tup {es : List Expr} {k : Nat} {t : TGs} {n : Nat} (hc : X.calm = true) (h : PGs X es t)
    (hn : (assignEach es X.env).length = n := by rfl) (hst : (assignEach es X.env).findIdx? (·.1) = none := by rfl) : PG X (.Tuple es k pos) (gTup X.K n t) := by
  intro pins s σ H v u Q I r hw
  obtain ⟨a, xs, e1, hq, hl, hw⟩ := hw
  subst e1
  cases r
  obtain ⟨its, rv, ht, hz⟩ := I.tuple hq
  refine assign_Tuple_tuple (I.ok.hd hc) ht (by simp [hn, ← hl, rv.length]) hst fun h' hx => ?_
  have I1 : Inv X pins σ H { s with heap := h' } := I.kept (t' := s.toks) fun b o e => hx b o (Nat.ne_of_lt (Heap.lt_size e)) e
  exact h pins _ σ H xs _ Q I1 (by simpa using rv) hw
theorem zg_tup {es : List Expr} {k : Nat} {t : TGs} {n : Nat} (hc : X.calm = true) (h : ZGs X es t)
    (hn : (assignEach es X.env).length = n := by rfl) (hst : (assignEach es X.env).findIdx? (·.1) = none := by rfl) : ZG X (.Tuple es k pos) (gTup X.K n t) := by with_unfolding_all exact pg_tup hc h hn hst
noncomputable def gSub (to ti : TE) (t : TSet) : TG := fun v σ H Q => to σ H fun o H1 => ti σ H1 fun i H2 => t o i v H2 fun H3 => Q σ H3
theorem pg_sub {o i : Expr} {to ti : TE} {t : TSet} (ho : PE X o to) (hi : PE X i ti) (hs : PSet X t)
    (ha : ∀ v, assign (.Subscript o i pos) X.env v = (do
      let ov ← holding [v] (eval o X.env)
      let iv ← holding [v, ov] (eval i X.env)
      standAt pos
      holding [v, ov, iv] (setItem ov iv v)
      release [v, ov, iv] []) := by intro _; rfl) : PG X (.Subscript o i pos) (gSub to ti t) := by
  intro pins s σ H v u Q I r h
  rw [ha]
  refine wpAny_bind (wpAny_holding (thn (ho pins s σ H _ I h) fun ov s1 ⟨x, H1, I1, r1, q1⟩ => ?_))
  refine wpAny_bind (wpAny_holding (thn (hi pins s1 σ H1 _ I1 q1) fun iv s2 ⟨y, H2, I2, r2, q2⟩ => ?_))
  refine wpAny_bind (wpAny_standAt (wpAny_bind (wpAny_holding (thn (hs pins s2 σ H2 x y v ov iv u _ I2 r1 r2 r q2) fun _ s3 ⟨H3, I3, q3⟩ => ?_))))
  exact wpAny_release ⟨σ, H3, I3, q3⟩
theorem zg_sub {o i : Expr} {to ti : TE} {t : TSet} (ho : ZE X o to) (hi : ZE X i ti) (hs : PSet X t)
    (ha : ∀ v, assign (.Subscript o i pos) X.env v = (do
      let ov ← holding [v] (eval o X.env)
      let iv ← holding [v, ov] (eval i X.env)
      standAt pos
      holding [v, ov, iv] (setItem ov iv v)
      release [v, ov, iv] []) := by intro _; rfl) : ZG X (.Subscript o i pos) (gSub to ti t) := by with_unfolding_all exact pg_sub ho hi hs ha
noncomputable def tAsg (te : TE) (g : TG) : TS := fun D σ H => te σ H fun x H1 => g x σ H1 D.nx
theorem ps_asg {tg e : Expr} {te : TE} {g : TG} (he : PE X e te) (hg : PG X tg g) (hs : swapsWithSole [tg] e pos.line X.env = pure false := by rfl) (hw : swappedStores [tg] e X.env = pure none := by rfl)
    (h1 : (assignEach [tg] X.env).map (·.2) = [assign tg X.env] := by rfl) : PS X (.Assign [tg] e pos) (tAsg te g) := by
  intro pins s σ H D I h
  refine wpAny_Assign_stores (thn (he pins s σ H _ I h) fun v s1 ⟨x, H1, I1, r1, q1⟩ => ?_) hs hw
  rw [h1]
  exact thn (hg pins s1 σ H1 x v _ I1 r1 q1) fun _ s2 q => q
theorem zs_asg {tg e : Expr} {te : TE} {g : TG} (he : ZE X e te) (hg : ZG X tg g) (hs : swapsWithSole [tg] e pos.line X.env = pure false := by rfl) (hw : swappedStores [tg] e X.env = pure none := by rfl)
    (h1 : (assignEach [tg] X.env).map (·.2) = [assign tg X.env] := by rfl) : ZS X (.Assign [tg] e pos) (tAsg te g) := by with_unfolding_all exact ps_asg he hg hs hw h1
theorem ps_set {i : Nat} {x : Str} {e : Expr} {te : TE} {pos' : Pos} (hN : X.N.Nodup) (hi : X.N[i]? = some x) (hx : Loc X.env.scope x) (he : PE X e te) (hs : swapsWith e (some (.Name x pos')) pos.line X.env = pure false := by rfl) (hf : X.fn x = true ∨ X.env.scope.names.lookup x = some .local := by first | exact .inl rfl | exact .inr rfl | assumption) :
    PS X (.Assign [.Name x pos'] e pos) (tAsg te (gName i)) := by
  intro pins s σ H D I h
  refine wpAny_Assign_Name (thn (he pins s σ H _ I h) fun v s1 ⟨y, H1, I1, r1, q1⟩ => ?_) hs
  exact store_ok I1 hN hi hx r1 (fun s2 I2 => ⟨_, H1, I2, q1⟩) hf
theorem zs_set {i : Nat} {x : Str} {e : Expr} {te : TE} {pos' : Pos} (hN : X.N.Nodup) (hi : X.N[i]? = some x) (hx : Loc X.env.scope x) (he : ZE X e te) (hs : swapsWith e (some (.Name x pos')) pos.line X.env = pure false := by rfl) (hf : X.fn x = true ∨ X.env.scope.names.lookup x = some .local := by first | exact .inl rfl | exact .inr rfl | assumption) :
    ZS X (.Assign [.Name x pos'] e pos) (tAsg te (gName i)) := by with_unfolding_all exact ps_set hN hi hx he hs hf
noncomputable def tPar (i j : Nat) (ta : TA) : TS := fun D σ H => ta σ H fun vs H1 => ∃ v w, vs = [v, w] ∧ D.nx ((σ.set i (some v)).set j (some w)) H1
theorem ps_par {i j : Nat} {x y : Str} {a b : Expr} {ta : TA} {px py pt : Pos} {kt k2 pt2} (hc : X.calm = true) (hN : X.N.Nodup) (hi : X.N[i]? = some x) (hj : X.N[j]? = some y) (hij : i ≠ j)
    (hx : X.env.scope.names.lookup x = some .local) (hy : X.env.scope.names.lookup y = some .local) (ha : PA X [a, b] ta)
    (hw : swappedStores [.Tuple [.Name x px, .Name y py] kt pt] (.Tuple [a, b] k2 pt2) X.env = pure (some [x, y]))
    (hs : swapsWithSole [.Tuple [.Name x px, .Name y py] kt pt] (.Tuple [a, b] k2 pt2) pos.line X.env = pure false := by rfl) :
    PS X (.Assign [.Tuple [.Name x px, .Name y py] kt pt] (.Tuple [a, b] k2 pt2) pos) (tPar i j ta) := by
  intro pins s σ H D I h
  rw [exec_Assign_arm]
  refine wpAny_bind (wpAny_standAt ?_)
  rw [hs]
  refine wpAny_bind (wpAny_pure ?_)
  rw [if_neg (by decide)]
  refine wpAny_bind (Tuple_ (thn (ha _ pins s σ H _ I h) fun us s1 ⟨vs, H1, I1, r1, q1⟩ => ?_))
  obtain ⟨v, w, e1, q1⟩ := q1
  subst e1
  obtain ⟨u1, u2, rfl, rv, rw'⟩ : ∃ u1 u2, us = [u1, u2] ∧ RelV v u1 ∧ RelV w u2 := by
    cases r1 with
    | cons p q =>
      cases q with
      | cons p' q' =>
        cases q'
        exact ⟨_, _, rfl, p, p'⟩
  refine wpAny_newObj_type ?_ (by show 2 ≤ sizeLine; decide)
  have I2 : Inv X pins σ H1 { s1 with heap := s1.heap.push { cls := .type "tuple", data := .seq [u1, u2].toArray } } := I1.kept (t' := s1.toks) fun b o e => Heap.get?_push_of_some _ e
  rw [hw]
  refine wpAny_bind (wpAny_pure ?_)
  show wpAny (model X.prog X.w) X.A (do rule "assign.swapped-stores"; let items ← unpackItems (.ref s1.heap.objs.size) 2 none; assignInOrder [fun v => bindName X.env y v, fun v => bindName X.env x v] items.reverse; pure Flow.next) _ _ _
  refine wpAny_bind (wpAny_rule (wpAny_bind (unpackItems_tuple (items := #[u1, u2]) (I.ok.hd hc) (IsTup.new s1.heap _) fun h' hx' => ?_)))
  have I3 := I2.kept (h' := h') (t' := s1.toks) fun b o e => hx' b o (Nat.ne_of_lt (Heap.lt_size e)) e
  show wpAny _ _ (assignInOrder [fun v => bindName X.env y v, fun v => bindName X.env x v] [u2, u1] >>= fun _ => pure Flow.next) _ _ _
  refine wpAny_bind (assignInOrder_cons (wpAny_bindName (store_ok I3 hN hj (.inl hy) rw' (fun s2 I4 => ?_) (.inr hy))))
  refine assignInOrder_cons (wpAny_bindName (store_ok I4 hN hi (.inl hx) rv (fun s3 I5 => assignInOrder_nil (wpAny_pure ?_)) (.inr hx)))
  rw [List.set_comm _ _ (Ne.symm hij)] at I5
  exact ⟨_, H1, I5, q1⟩
theorem zs_par {i j : Nat} {x y : Str} {a b : Expr} {ta : TA} {px py pt : Pos} {kt k2 pt2} (hc : X.calm = true) (hN : X.N.Nodup) (hi : X.N[i]? = some x) (hj : X.N[j]? = some y) (hij : i ≠ j)
    (hx : X.env.scope.names.lookup x = some .local) (hy : X.env.scope.names.lookup y = some .local) (ha : ZA X [a, b] ta)
    (hw : swappedStores [.Tuple [.Name x px, .Name y py] kt pt] (.Tuple [a, b] k2 pt2) X.env = pure (some [x, y]))
    (hs : swapsWithSole [.Tuple [.Name x px, .Name y py] kt pt] (.Tuple [a, b] k2 pt2) pos.line X.env = pure false := by rfl) :
    ZS X (.Assign [.Tuple [.Name x px, .Name y py] kt pt] (.Tuple [a, b] k2 pt2) pos) (tPar i j ta) := by with_unfolding_all exact ps_par hc hN hi hj hij hx hy ha hw hs
noncomputable def tAug (i : Nat) (te : TE) (ti : TIp) : TS := fun D σ H => ∃ x, σ[i]? = some (some x) ∧ te σ H fun y H1 => ti x y H1 fun z H2 => D.nx (σ.set i (some z)) H2
theorem ps_aug {i : Nat} {x : Str} {e : Expr} {te : TE} {op : Operator} {ti : TIp} {pos' : Pos} (hN : X.N.Nodup) (hi : X.N[i]? = some x) (hx : Loc X.env.scope x) (he : PE X e te) (ho : PIp X op ti) (hf : X.fn x = true ∨ X.env.scope.names.lookup x = some .local := by first | exact .inl rfl | exact .inr rfl | assumption) :
    PS X (.AugAssign (.Name x pos') op e pos) (tAug i te ti) := by
  intro pins s σ H D I h
  obtain ⟨v, e1, h⟩ := h
  obtain ⟨m, hn, hl⟩ := I.loc
  have vis : Vis X.env.scope x := by rcases hx with k | k; exact .inl k; exact .inr (.inl k)
  obtain ⟨u, r, l⟩ := hl i x v hi e1 vis
  refine wpAny_AugAssign_Name ?_
  have go : wpAny (model X.prog X.w) X.A (eval e X.env) (fun w s₂ => wpAny (model X.prog X.w) X.A (inplaceOp op u w) (fun r s₃ => wpAny (model X.prog X.w) X.A (storeName X.env x r) (fun _ => SP X pins D .next) X.xe s₃) X.xe s₂) X.xe s := by
    refine thn (he pins s σ H _ I h) fun w s1 ⟨y, H1, I1, r1, q1⟩ => ?_
    refine thn (ho pins s1 σ H1 v y u w _ I1 r r1 q1) fun z s2 ⟨zv, H2, I2, r2, q2⟩ => ?_
    exact store_ok I2 hN hi hx r2 (fun s3 I3 => ⟨_, H2, I3, q2⟩) hf
  rcases l with ⟨hk, hm⟩ | ⟨hk, c, hc, hcell⟩
  · exact wpAny_loadName_local I.ok.kind hk hn hm go
  · rcases hk with hk | hk
    · exact wpAny_loadName_cell I.ok.kind hk hc hcell go
    · rcases hx with k | k
      · have : X.env.scope.names.lookup x = some .free := hk
        rw [k] at this; cases this
      · have : X.env.scope.names.lookup x = some .free := hk
        rw [k] at this; cases this
theorem zs_aug {i : Nat} {x : Str} {e : Expr} {te : TE} {op : Operator} {ti : TIp} {pos' : Pos} (hN : X.N.Nodup) (hi : X.N[i]? = some x) (hx : Loc X.env.scope x) (he : ZE X e te) (ho : PIp X op ti) (hf : X.fn x = true ∨ X.env.scope.names.lookup x = some .local := by first | exact .inl rfl | exact .inr rfl | assumption) :
    ZS X (.AugAssign (.Name x pos') op e pos) (tAug i te ti) := by with_unfolding_all exact ps_aug hN hi hx he ho hf
noncomputable def ipI (f : Int → Int → Int) : TIp := fun x y H Q => ∃ i j, x = .int i ∧ y = .int j ∧ Q (.int (f i j)) H
theorem ip_add : PIp X .Add (ipI fun i j => i + j) := by
  intro pins s σ H x y v u Q I r1 r2 h
  obtain ⟨i, j, e1, e2, q⟩ := h
  subst e1; subst e2
  obtain ⟨t, rfl⟩ := r1
  obtain ⟨t', rfl⟩ := r2
  exact iadd_int ⟨.int _, H, I.tok _, ⟨_, rfl⟩, q⟩
end
section
variable {X : Cx} {pos : Pos}
noncomputable def tWhile (c : TT) (tb : TS) : TS := fun D σ H => ∃ W : Nat → St → Hp → Prop, (∃ m, W m σ H) ∧ ∀ m σ H, W m σ H →
  c σ H fun b H1 => if b = true then ∃ N : St → Hp → Prop, (∀ σ' H', N σ' H' → ∃ m', m' < m ∧ W m' σ' H') ∧ tb { D with nx := N, ct := N, bk := D.nx } σ H1 else D.nx σ H1
theorem ps_while {c : Expr} {body : List Stmt} {tc : TT} {tb : TS} (hp : PassesOwn (model X.prog X.w) X.A X.env X.xe) (hc : PT X c tc) (hb : PSs X body tb) : PS X (.While c body [] pos) (tWhile tc tb) := by
  intro pins s σ H D I h
  obtain ⟨W, ⟨m0, w0⟩, turn⟩ := h
  refine wpAny_While (codeAny_whileLoop (fun n s' => ∃ σ' H', Inv X pins σ' H' s' ∧ W n σ' H') ?_ m0 ⟨σ, H, I, w0⟩)
  rintro n s1 ⟨σ1, H1, I1, w1⟩
  refine wpAny_passesOwn hp (thn (hc pins s1 σ1 H1 _ I1 (turn n σ1 H1 w1)) fun b s2 ⟨H2, I2, q2⟩ => ?_)
  cases b with
  | true =>
    obtain ⟨N, hN, q2⟩ := q2
    rw [if_pos rfl]
    refine wpAny_passesOwn hp (thn (hb pins s2 σ1 H2 _ I2 q2) fun f s3 q3 => ?_)
    cases f with
    | next =>
      obtain ⟨σ3, H3, I3, n3⟩ := q3
      obtain ⟨m', hm, w3⟩ := hN σ3 H3 n3
      exact ⟨m', hm, σ3, H3, I3, w3⟩
    | cont =>
      obtain ⟨σ3, H3, I3, n3⟩ := q3
      obtain ⟨m', hm, w3⟩ := hN σ3 H3 n3
      exact ⟨m', hm, σ3, H3, I3, w3⟩
    | brk => exact q3
    | ret v => exact q3
  | false =>
    rw [if_neg Bool.false_ne_true]
    exact wpAny_execs_nil ⟨σ1, H2, I2, q2⟩
theorem zs_while {c : Expr} {body : List Stmt} {tc : TT} {tb : TS} (hp : PassesOwn (model X.prog X.w) X.A X.env X.xe) (hc : ZT X c tc) (hb : ZSs X body tb) : ZS X (.While c body [] pos) (tWhile tc tb) := by with_unfolding_all exact ps_while hp hc hb
end
structure It where
  go : Nat → Hp → Prop
  yld : Nat → Hp → V → Hp → Prop
  stop : Nat → Hp → Prop
noncomputable def FpOk (X : Cx) (pins : List (Addr × Obj)) (H : Hp) (b : Addr) : Prop :=
  H b = none ∧ b ≠ X.env.locals ∧ b ∉ X.fs ∧ (b ∈ X.ex ∨ X.s₀.heap.objs.size ≤ b) ∧ (∀ x c, X.env.cells.lookup x = some c → c ≠ b) ∧ ∀ p ∈ X.pn ++ pins, p.1 ≠ b
theorem Inv.fpOk {X : Cx} {pins : List (Addr × Obj)} {σ : St} {H H' : Hp} {s : Shared} {b : Addr} (I : Inv X pins σ H s) (hb : s.heap.objs.size ≤ b) (hn : H' b = none) : FpOk X pins H' b := by
  refine ⟨hn, Nat.ne_of_gt (Nat.lt_of_lt_of_le I.lt hb), I.nofs hb, .inr (Nat.le_trans I.sz hb), fun x c e z => ?_, fun p hp z => ?_⟩
  · obtain ⟨v, q⟩ := I.cell x c e
    exact absurd (Nat.lt_of_lt_of_le q.lt (by rw [z]; exact hb)) (Nat.lt_irrefl _)
  · exact absurd (Nat.lt_of_lt_of_le (Heap.lt_size (I.pin p hp).1) (by rw [z]; exact hb)) (Nat.lt_irrefl _)
structure Turn (P : Program) (w : World) (K : PySem.W.Frag) (tg : Expr) (J : It) (fp : List Addr) (it : Addr) (tn : Nat → Heap → Prop) : Prop where
  mem : it ∈ fp
  obj : ∀ i h, tn i h → ∀ b ∈ fp, ∃ o, h.get? b = some o ∧ ∀ v, o.data ≠ .cell v
  keep : ∀ i h h', tn i h → (∀ b ∈ fp, ∀ o, h.get? b = some o → h'.get? b = some o) → tn i h'
  item : ∀ (X : Cx), X.prog = P → X.w = w → X.K = K → X.calm = true → ∀ (i : Nat) (pins : List (Addr × Obj)) (s : Shared) (σ : St) (H : Hp) (E : Value → Shared → Prop), Inv X pins σ H s → (∀ b ∈ fp, FpOk X pins H b) → tn i s.heap → J.go i H →
    wpAny (model P w) X.A (pyNext (.ref it)) (fun r s1 => ∃ u, r = some u ∧
      wpAny (model P w) X.A (letOwnedTupleGo tg (.ref it) u) (fun _ s2 => ∃ x H', Inv X pins σ H' s2 ∧ RelV x u ∧ J.yld i H x H' ∧ tn (i + 1) s2.heap ∧ ∀ b ∈ fp, H' b = none) E s1) E s
  done : ∀ (X : Cx), X.prog = P → X.w = w → X.K = K → X.calm = true → ∀ (i : Nat) (pins : List (Addr × Obj)) (s : Shared) (σ : St) (H : Hp) (E : Value → Shared → Prop), Inv X pins σ H s → (∀ b ∈ fp, FpOk X pins H b) → tn i s.heap → J.stop i H →
    wpAny (model P w) X.A (pyNext (.ref it)) (fun r s1 => r = none ∧ Inv X pins σ H s1) E s
  self : ∀ (A : Around) (i : Nat) (s : Shared) (Q : Value → Shared → Prop) (E : Value → Shared → Prop), tn i s.heap → Q (.ref it) s → wpAny (model P w) A (pyIter (.ref it)) Q E s
noncomputable abbrev TI := St → Hp → (It → Hp → Prop) → Prop
noncomputable def PIE (X : Cx) (pins : List (Addr × Obj)) (σ : St) (tg : Expr) (R : It → Hp → Prop) (itv : Value) (s2 : Shared) : Prop :=
  ∃ (it : Addr) (fp : List Addr) (tn : Nat → Heap → Prop) (J : It) (H' : Hp), itv = .ref it ∧ Inv X pins σ H' s2 ∧ Turn X.prog X.w X.K tg J fp it tn ∧ tn 0 s2.heap ∧ (∀ b ∈ fp, FpOk X pins H' b) ∧ R J H'
noncomputable def PI (X : Cx) (tg iter : Expr) (wi : TI) : Prop :=
  ∀ (pins : List (Addr × Obj)) (s : Shared) (σ : St) (H : Hp) (R : It → Hp → Prop), Inv X pins σ H s → wi σ H R →
    wpAny (model X.prog X.w) X.A (eval iter X.env) (fun v s1 => wpAny (model X.prog X.w) X.A (pyIter v) (PIE X pins σ tg R) X.xe s1) X.xe s
@[irreducible] noncomputable def ZI (X : Cx) (tg iter : Expr) (wi : TI) : Prop := PI X tg iter wi
theorem go_of {M : Model} {A : Around} {E : Value → Shared → Prop} {s : Shared} {tg : Expr} {it : Addr} {u : Value} {o : Obj} {n : String} {vs : Array Value} {Q : Unit → Shared → Prop} (ho : s.heap.get? it = some o) (hc : o.cls = .type n) (hd : o.data = .fields vs)
    (hn : ["enumerate", "zip", "dict_itemiterator", "dict_reverseitemiterator", "odict_iterator", "itertools.zip_longest", "itertools.pairwise"].contains n = false) (hQ : Q () s) : wpAny M A (letOwnedTupleGo tg (.ref it) u) Q E s := by
  unfold letOwnedTupleGo
  cases tg <;> first
    | exact wpAny_pure hQ
    | (cases u <;> first
        | exact wpAny_pure hQ
        | (refine wpAny_bind (wpAny_load ho ?_)
           rw [hc, hd]
           show wpAny M A (if (["enumerate", "zip", "dict_itemiterator", "dict_reverseitemiterator", "odict_iterator", "itertools.zip_longest", "itertools.pairwise"].contains n && vs[0]? == some (rawInt _)) = true then _ else _) Q E s
           rw [if_neg (by intro h; rw [hn, Bool.false_and] at h; cases h)]
           exact wpAny_pure hQ))

noncomputable def Itl (K : PySem.W.Frag) (a : Addr) : It :=
  ⟨fun i H => ∃ xs x, SqL K H a xs ∧ xs[i]? = some x, fun i H x H' => H' = H ∧ ∀ xs, SqL K H a xs → xs[i]? = some x, fun i H => ∃ xs, SqL K H a xs ∧ xs.length ≤ i⟩
noncomputable def Itt (K : PySem.W.Frag) (a : Addr) : It :=
  ⟨fun i H => ∃ xs x, SqT K H a xs ∧ xs[i]? = some x, fun i H x H' => H' = H ∧ ∀ xs, SqT K H a xs → xs[i]? = some x, fun i H => ∃ xs, SqT K H a xs ∧ xs.length ≤ i⟩
noncomputable def Itr (lo : Int) (n : Nat) : It := ⟨fun i _ => i < n, fun i H x H' => H' = H ∧ x = .int (lo + i), fun i _ => n ≤ i⟩
theorem turn_list {P : Program} {w : World} {K : PySem.W.Frag} {tg : Expr} (a it : Addr) : Turn P w K tg (Itl K a) [it] it (fun i h => h.IsListIter it a i) where
  mem := by simp
  obj := fun i h st b hb => by
    have e : b = it := by simpa using hb
    subst e
    obtain ⟨o, e, c, d⟩ := st
    exact ⟨o, e, fun v z => by rw [d] at z; cases z⟩
  keep := fun i h h' st k => st.at fun o e => k it (by simp) o e
  item := by
    intro X hP hw hK hc i pins s σ H E I hf st hg
    subst hP hw hK
    obtain ⟨xs, x, hq, hx⟩ := hg
    obtain ⟨its, rv, p, hz⟩ := I.list hq
    obtain ⟨u, hu, ru⟩ := rv.get hx
    obtain ⟨f0, f1, f2, f3, f4, f5⟩ := hf it (by simp)
    refine wpAny_pyNext_list_item st p.isList (x := u) (by simpa using hu) fun h' st' sb => ?_
    have I1 : Inv X pins σ H { s with heap := h' } := I.turned (t' := s.toks) (fun b o hb e => (sb.2 b hb).trans e) f0 f1 f3 f4 f5
    obtain ⟨o, e, c, d⟩ := id st'
    exact ⟨u, rfl, go_of (s := { s with heap := h' }) e c d (by decide) ⟨x, H, I1, ru, ⟨rfl, fun ys hy => by rw [I.list_inj hy hq]; exact hx⟩, st', fun b hb => (hf b hb).1⟩⟩
  done := by
    intro X hP hw hK hc i pins s σ H E I hf st hg
    subst hP hw hK
    obtain ⟨xs, hq, hx⟩ := hg
    obtain ⟨its, rv, p, hz⟩ := I.list hq
    obtain ⟨f0, f1, f2, f3, f4, f5⟩ := hf it (by simp)
    have hl := rv.length
    exact wpAny_pyNext_list_end (I.ok.hd hc) st p.isList (by simp; omega) fun h' eb => ⟨rfl, I.turned (t' := s.toks) (fun b o hb e => eb b o hb e) f0 f1 f3 f4 f5⟩
  self := fun _ _ _ _ _ st h => wpAny_pyIter_listiter st h
theorem turn_tuple {P : Program} {w : World} {K : PySem.W.Frag} {tg : Expr} (a it : Addr) : Turn P w K tg (Itt K a) [it] it (fun i h => h.IsTupleIter it a i) where
  mem := by simp
  obj := fun i h st b hb => by
    have e : b = it := by simpa using hb
    subst e
    obtain ⟨o, e, c, d⟩ := st
    exact ⟨o, e, fun v z => by rw [d] at z; cases z⟩
  keep := fun i h h' st k => st.at fun o e => k it (by simp) o e
  item := by
    intro X hP hw hK hc i pins s σ H E I hf st hg
    subst hP hw hK
    obtain ⟨xs, x, hq, hx⟩ := hg
    obtain ⟨its, rv, p, hz⟩ := I.tuple hq
    obtain ⟨u, hu, ru⟩ := rv.get hx
    obtain ⟨f0, f1, f2, f3, f4, f5⟩ := hf it (by simp)
    refine wpAny_pyNext_tuple_item st (show s.heap.IsTuple a its.toArray from p) (x := u) (by simpa using hu) fun h' st' sb => ?_
    have I1 : Inv X pins σ H { s with heap := h' } := I.turned (t' := s.toks) (fun b o hb e => (sb.2 b hb).trans e) f0 f1 f3 f4 f5
    obtain ⟨o, e, c, d⟩ := id st'
    exact ⟨u, rfl, go_of (s := { s with heap := h' }) e c d (by decide) ⟨x, H, I1, ru, ⟨rfl, fun ys hy => by rw [I.tuple_inj hy hq]; exact hx⟩, st', fun b hb => (hf b hb).1⟩⟩
  done := by
    intro X hP hw hK hc i pins s σ H E I hf st hg
    subst hP hw hK
    obtain ⟨xs, hq, hx⟩ := hg
    obtain ⟨its, rv, p, hz⟩ := I.tuple hq
    obtain ⟨f0, f1, f2, f3, f4, f5⟩ := hf it (by simp)
    have hl := rv.length
    exact wpAny_pyNext_tuple_end (I.ok.hd hc) st (show s.heap.IsTuple a its.toArray from p) (by simp; omega) fun h' eb => ⟨rfl, I.turned (t' := s.toks) (fun b o hb e => eb b o hb e) f0 f1 f3 f4 f5⟩
  self := fun _ _ _ _ _ st h => wpAny_pyIter_tupleiter st h
theorem turn_range {P : Program} {w : World} {K : PySem.W.Frag} {tg : Expr} (it : Addr) (lo : Int) (n : Nat) : Turn P w K tg (Itr lo n) [it] it (fun i h => IsRangeIter h it (lo + (i : Nat) * 1) ((n : Int) - (i : Nat)) 1) where
  mem := by simp
  obj := fun i h st b hb => by
    have e : b = it := by simpa using hb
    subst e
    exact ⟨_, st, fun v z => by
      have z' : Data.fields _ = Data.cell v := z
      cases z'⟩
  keep := fun i h h' st k => k it (by simp) _ st
  item := by
    intro X hP hw hK hc i pins s σ H E I hf st hg
    subst hP hw hK
    obtain ⟨f0, f1, f2, f3, f4, f5⟩ := hf it (by simp)
    have W := Walks.range (prog := X.prog) (w := X.w) (I.ok.hd hc) it lo 1 n
    refine W.item i s _ _ hg st fun v h' tk hv st' kk => ?_
    obtain ⟨t, rfl⟩ := hv
    have I1 : Inv X pins σ H { s with heap := h', toks := tk } := I.turned (fun b o hb e => kk b o (by simpa using hb) e) f0 f1 f3 f4 f5
    refine ⟨_, rfl, go_of (s := { s with heap := h', toks := tk }) (n := "range_iterator") st' rfl rfl (by decide) ⟨.int (lo + i), H, I1, ⟨t, ?_⟩, ⟨rfl, rfl⟩, st', fun b hb => (hf b hb).1⟩⟩
    rw [Int.mul_one]
  done := by
    intro X hP hw hK hc i pins s σ H E I hf st hg
    subst hP hw hK
    obtain ⟨f0, f1, f2, f3, f4, f5⟩ := hf it (by simp)
    exact wpAny_pyNext_range_end (I.ok.hd hc) st (by have : n ≤ i := hg; omega) fun h' eb => ⟨rfl, I.turned (t' := s.toks) (fun b o hb e => eb b o hb e) f0 f1 f3 f4 f5⟩
  self := fun _ _ _ _ _ st h => wpAny_pyIter_rangeiter st h
end L2
namespace L2
open PySem PySem.Spec PyProof.Rows
section
variable {X : Cx} {tg : Expr}
noncomputable def iList (K : PySem.W.Frag) (tl : TE) : TI := fun σ H R => tl σ H fun x H1 => ∃ a, x = .ref a ∧ (∃ xs, SqL K H1 a xs) ∧ R (Itl K a) H1
noncomputable def iTup (K : PySem.W.Frag) (tl : TE) : TI := fun σ H R => tl σ H fun x H1 => ∃ a, x = .ref a ∧ (∃ xs, SqT K H1 a xs) ∧ R (Itt K a) H1
theorem pi_list {l : Expr} {tl : TE} (hl : PE X l tl) : PI X tg l (iList X.K tl) := by
  intro pins s σ H R I h
  refine thn (hl pins s σ H _ I h) fun v s1 ⟨x, H1, I1, r1, q1⟩ => ?_
  obtain ⟨a, e, ⟨xs, hq⟩, q⟩ := q1
  subst e
  cases r1
  obtain ⟨its, rv, p, hz⟩ := I1.list hq
  refine wpAny_pyIter_list p.isList ?_
  refine ⟨s1.heap.objs.size, [s1.heap.objs.size], _, _, H1, rfl, I1.kept (t' := s1.toks) fun b o e => Heap.get?_push_of_some _ e, turn_list a _, ⟨_, Heap.get?_push_size _ rfl, rfl, rfl⟩, fun b hb => ?_, q⟩
  have e : b = s1.heap.objs.size := by simpa using hb
  subst e
  exact I1.fpOk (Nat.le_refl _) (I1.hok.fresh (Nat.le_refl _))
theorem zi_list {l : Expr} {tl : TE} (hl : ZE X l tl) : ZI X tg l (iList X.K tl) := by with_unfolding_all exact pi_list hl
theorem pi_tup {l : Expr} {tl : TE} (hl : PE X l tl) : PI X tg l (iTup X.K tl) := by
  intro pins s σ H R I h
  refine thn (hl pins s σ H _ I h) fun v s1 ⟨x, H1, I1, r1, q1⟩ => ?_
  obtain ⟨a, e, ⟨xs, hq⟩, q⟩ := q1
  subst e
  cases r1
  obtain ⟨its, rv, p, hz⟩ := I1.tuple hq
  refine wpAny_pyIter_tuple (show s1.heap.IsTuple a its.toArray from p) ?_
  refine ⟨s1.heap.objs.size, [s1.heap.objs.size], _, _, H1, rfl, I1.kept (t' := s1.toks) fun b o e => Heap.get?_push_of_some _ e, turn_tuple a _, ⟨_, Heap.get?_push_size _ rfl, rfl, rfl⟩, fun b hb => ?_, q⟩
  have e : b = s1.heap.objs.size := by simpa using hb
  subst e
  exact I1.fpOk (Nat.le_refl _) (I1.hok.fresh (Nat.le_refl _))
theorem zi_tup {l : Expr} {tl : TE} (hl : ZE X l tl) : ZI X tg l (iTup X.K tl) := by with_unfolding_all exact pi_tup hl
theorem range_it {pins : List (Addr × Obj)} {σ : St} {H : Hp} {s : Shared} {R : It → Hp → Prop} {E : Value → Shared → Prop} {lo hi : Int} {t u v : Tok} {tk : Nat} (I : Inv X pins σ H s) (h1 : -(2 ^ 62) ≤ lo) (h2 : lo < 2 ^ 62) (h3 : -(2 ^ 62) ≤ hi) (h4 : hi < 2 ^ 62)
    (q : R (Itr lo (hi - lo).toNat) H) : wpAny (model X.prog X.w) X.A (pyIter (.ref s.heap.objs.size)) (PIE X pins σ tg R) E { s with heap := s.heap.push { cls := .type "range", data := .fields #[.int lo t, .int hi u, .int 1 v] }, toks := tk } := by
  refine wpAny_pyIter_range (IsRange.new ..) (small_one h1 h2 h3 h4) ?_
  have I1 : Inv X pins σ H { s with heap := s.heap.push { cls := .type "range", data := .fields #[.int lo t, .int hi u, .int 1 v] }, toks := tk } := I.kept fun b o e => Heap.get?_push_of_some _ e
  refine ⟨(s.heap.push { cls := .type "range", data := .fields #[.int lo t, .int hi u, .int 1 v] }).objs.size, [(s.heap.push { cls := .type "range", data := .fields #[.int lo t, .int hi u, .int 1 v] }).objs.size], _, _, H, rfl,
    I1.kept (t' := tk) fun b o e => Heap.get?_push_of_some _ e, turn_range _ lo (hi - lo).toNat, ?_, fun b hb => ?_, q⟩
  · have e1 : lo + ((0 : Nat) : Int) * 1 = lo := by simp
    have e2 : (((hi - lo).toNat : Nat) : Int) - ((0 : Nat) : Int) = Builtin.Range.rangeSize lo hi 1 := by rw [rangeSize_one]; split <;> omega
    show IsRangeIter _ _ (lo + ((0 : Nat) : Int) * 1) ((((hi - lo).toNat : Nat) : Int) - ((0 : Nat) : Int)) 1
    rw [e1, e2]
    exact Heap.get?_push_size _ rfl
  · have e : b = (s.heap.push { cls := .type "range", data := .fields #[.int lo t, .int hi u, .int 1 v] }).objs.size := by simpa using hb
    subst e
    exact I1.fpOk (Nat.le_refl _) (I1.hok.fresh (Nat.le_refl _))
noncomputable def iRng1 (ta : TA) : TI := fun σ H R => ta σ H fun vs H1 => ∃ j : Int, vs = [.int j] ∧ -(2 ^ 62) ≤ j ∧ j < 2 ^ 62 ∧ R (Itr 0 j.toNat) H1
noncomputable def iRng2 (ta : TA) : TI := fun σ H R => ta σ H fun vs H1 => ∃ i j : Int, vs = [.int i, .int j] ∧ (-(2 ^ 62) ≤ i ∧ i < 2 ^ 62 ∧ -(2 ^ 62) ≤ j ∧ j < 2 ^ 62) ∧ R (Itr i (j - i).toNat) H1
theorem pi_range1 {a : Expr} {ta : TA} {p pos : Pos} (hg : Gl X "range") (hm : X.mg "range" = none) (ha : PA X [a] ta) (hs : starEach [a] X.env = [(false, eval a X.env)] := by rfl) : PI X tg (.Call (.Name "range" p) [a] [] pos) (iRng1 ta) := by
  intro pins s σ H R I h
  refine Call_ (ld_blt I hg hm boot_range (PyProof.Rows.callWith_type1 (thn (ha pos pins s σ H _ I h) fun us s1 ⟨vs, H1, I1, r1, q1⟩ => ?_) hs rfl))
  obtain ⟨j, e, q1, q2, q⟩ := q1
  subst e
  cases r1 with
  | cons r rr =>
    cases rr
    obtain ⟨t, rfl⟩ := r
    exact call_range_1 (range_it I1 (by omega) (by omega) q1 q2 (by simpa using q))
theorem zi_range1 {a : Expr} {ta : TA} {p pos : Pos} (hg : Gl X "range") (hm : X.mg "range" = none) (ha : ZA X [a] ta) (hs : starEach [a] X.env = [(false, eval a X.env)] := by rfl) : ZI X tg (.Call (.Name "range" p) [a] [] pos) (iRng1 ta) := by with_unfolding_all exact pi_range1 hg hm ha hs
theorem pi_range2 {a b : Expr} {ta : TA} {p pos : Pos} (hg : Gl X "range") (hm : X.mg "range" = none) (ha : PA X [a, b] ta) (hs : starEach [a, b] X.env = [(false, eval a X.env), (false, eval b X.env)] := by rfl) (hs2 : starEach [b] X.env = [(false, eval b X.env)] := by rfl) :
    PI X tg (.Call (.Name "range" p) [a, b] [] pos) (iRng2 ta) := by
  intro pins s σ H R I h
  refine Call_ (ld_blt I hg hm boot_range (PyProof.Rows.callWith_type1 (thn (ha pos pins s σ H _ I h) fun us s1 ⟨vs, H1, I1, r1, q1⟩ => ?_) (by rw [hs, hs2]) (by rw [hs2]; rfl)))
  obtain ⟨i, j, e, ⟨q1, q2, q3, q4⟩, q⟩ := q1
  subst e
  cases r1 with
  | cons r rr =>
    cases rr with
    | cons r' rr =>
      cases rr
      obtain ⟨t, rfl⟩ := r
      obtain ⟨t', rfl⟩ := r'
      exact call_range_2 (range_it I1 q1 q2 q3 q4 q)
theorem zi_range2 {a b : Expr} {ta : TA} {p pos : Pos} (hg : Gl X "range") (hm : X.mg "range" = none) (ha : ZA X [a, b] ta) (hs : starEach [a, b] X.env = [(false, eval a X.env), (false, eval b X.env)] := by rfl) (hs2 : starEach [b] X.env = [(false, eval b X.env)] := by rfl) :
    ZI X tg (.Call (.Name "range" p) [a, b] [] pos) (iRng2 ta) := by with_unfolding_all exact pi_range2 hg hm ha hs hs2

noncomputable def tFor (wi : TI) (g : TG) (tb : TS) : TS := fun D σ H => wi σ H fun J H1 => ∃ W : Nat → Nat → St → Hp → Prop, (∃ m, W 0 m σ H1) ∧ ∀ i m σ H, W i m σ H →
  (J.stop i H ∧ D.nx σ H) ∨ (J.go i H ∧ ∃ N : St → Hp → Prop, (∀ σ' H', N σ' H' → ∃ m', m' < m ∧ W (i + 1) m' σ' H') ∧ ∀ x H', J.yld i H x H' → g x σ H' fun σ2 H2 => tb { D with nx := N, ct := N, bk := D.nx } σ2 H2)
noncomputable def pinsAt (fp : List Addr) (h : Heap) : List (Addr × Obj) := fp.filterMap fun b => (h.get? b).map fun o => (b, o)
theorem mem_pinsAt {fp : List Addr} {h : Heap} {b : Addr} {o : Obj} (hb : b ∈ fp) (e : h.get? b = some o) : (b, o) ∈ pinsAt fp h := List.mem_filterMap.mpr ⟨b, hb, by rw [e]; rfl⟩
theorem of_pinsAt {fp : List Addr} {h : Heap} {p : Addr × Obj} (hp : p ∈ pinsAt fp h) : p.1 ∈ fp ∧ h.get? p.1 = some p.2 := by
  obtain ⟨b, hb, e⟩ := List.mem_filterMap.mp hp
  cases q : h.get? b with
  | none => rw [q] at e; cases e
  | some o =>
    rw [q] at e
    have e' : (b, o) = p := Option.some.inj e
    subst e'
    exact ⟨hb, q⟩
theorem Inv.pinned {pins : List (Addr × Obj)} {σ : St} {H : Hp} {s : Shared} {fp : List Addr} (I : Inv X pins σ H s) (hf : ∀ b ∈ fp, FpOk X pins H b) (ho : ∀ b ∈ fp, ∃ o, s.heap.get? b = some o ∧ ∀ v, o.data ≠ .cell v) : Inv X (pins ++ pinsAt fp s.heap) σ H s :=
  I.pins_of fun p hp => (List.mem_append.mp hp).elim (fun z => I.pin p (List.mem_append_right _ z)) fun z => by
    obtain ⟨hb, e⟩ := of_pinsAt z
    obtain ⟨f0, f1, f2, _⟩ := hf p.1 hb
    obtain ⟨o, e', d⟩ := ho p.1 hb
    rw [e] at e'; cases e'
    exact ⟨e, f0, f1, f2, d⟩
theorem Inv.unpinned {pins pl : List (Addr × Obj)} {σ : St} {H : Hp} {s : Shared} (I : Inv X (pins ++ pl) σ H s) : Inv X pins σ H s := I.pins_of fun p hp => I.pin p (List.mem_append_right _ (List.mem_append_left _ hp))
theorem ps_for {iter : Expr} {body : List Stmt} {wi : TI} {g : TG} {tb : TS} {pos : Pos} (hp : PassesOwn (model X.prog X.w) X.A X.env X.xe) (hc : X.calm = true) (hi : PI X tg iter wi) (hg : PG X tg g) (hb : PSs X body tb)
    (hs : ∀ x, foldedSetIterable iter X.env x = pure x := by intro _; rfl) : PS X (.For tg iter body [] pos) (tFor wi g tb) := by
  intro pins s σ H D I h
  refine wpAny_For (thn (hi pins s σ H _ I h) fun v s1 h1 => thn h1 fun itv s2 h2 => ?_) hs
  obtain ⟨it, fp, tn, J, H2, e, I2, T, st2, f2, W, ⟨m0, w0⟩, turn⟩ := h2
  subst e
  -- what stays true of the iterator's objects through the loop
  have stat : ∀ {H' : Hp}, (∀ b ∈ fp, H' b = none) → ∀ b ∈ fp, FpOk X pins H' b := fun hn b hb => ⟨hn b hb, (f2 b hb).2⟩
  refine codeAny_forLoop_any (fun n s' => ∃ i σ' H', Inv X pins σ' H' s' ∧ tn i s'.heap ∧ (∀ b ∈ fp, H' b = none) ∧ W i n σ' H') ?_ m0 ⟨0, σ, H2, I2, st2, fun b hb => (f2 b hb).1, w0⟩
  rintro n s3 ⟨i, σ3, H3, I3, st3, fr3, w3⟩
  rcases turn i n σ3 H3 w3 with ⟨stop, qn⟩ | ⟨go, N, hN, step⟩
  · refine wpAny_passesOwn hp (thn (T.done X rfl rfl rfl hc i pins s3 σ3 H3 X.xe I3 (stat fr3) st3 stop) fun r s4 ⟨hr, I4⟩ => ?_)
    subst hr
    exact wpAny_execs_nil ⟨σ3, H3, I4, qn⟩
  · refine wpAny_passesOwn hp (thn (T.item X rfl rfl rfl hc i pins s3 σ3 H3 X.xe I3 (stat fr3) st3 go) fun r s4 ⟨u, hr, h4⟩ => ?_)
    subst hr
    refine wpAny_passesOwn hp (thn h4 fun _ s5 ⟨x, H5, I5, r5, y5, st5, fr5⟩ => ?_)
    have I5' := I5.pinned (stat fr5) (T.obj _ _ st5)
    refine wpAny_passesOwn hp (thn (hg _ s5 σ3 H5 x u _ I5' r5 (step x H5 y5)) fun _ s6 ⟨σ6, H6, I6, q6⟩ => ?_)
    refine wpAny_passesOwn hp (thn (hb _ s6 σ6 H6 _ I6 q6) fun f s7 q7 => ?_)
    have again : ∀ {σ7 : St} {H7 : Hp}, Inv X (pins ++ pinsAt fp s5.heap) σ7 H7 s7 → N σ7 H7 → ∃ m, m < n ∧ ∃ i σ' H', Inv X pins σ' H' s7 ∧ tn i s7.heap ∧ (∀ b ∈ fp, H' b = none) ∧ W i m σ' H' := fun {σ7 H7} I7 n7 => by
      obtain ⟨m', hm, w7⟩ := hN σ7 H7 n7
      refine ⟨m', hm, i + 1, σ7, H7, I7.unpinned, T.keep _ _ _ st5 fun b hb o e => (I7.pin (b, o) (List.mem_append_right _ (List.mem_append_right _ (mem_pinsAt hb e)))).1, fun b hb => ?_, w7⟩
      obtain ⟨o, e, d⟩ := T.obj _ _ st5 b hb
      exact (I7.pin (b, o) (List.mem_append_right _ (List.mem_append_right _ (mem_pinsAt hb e)))).2.1
    cases f with
    | next => obtain ⟨σ7, H7, I7, n7⟩ := q7; exact again I7 n7
    | cont => obtain ⟨σ7, H7, I7, n7⟩ := q7; exact again I7 n7
    | brk => obtain ⟨σ7, H7, I7, q7⟩ := q7; exact ⟨σ7, H7, I7.unpinned, q7⟩
    | ret v => obtain ⟨x7, σ7, H7, I7, r7, q7⟩ := q7; exact ⟨x7, σ7, H7, I7.unpinned, r7, q7⟩
theorem zs_for {iter : Expr} {body : List Stmt} {wi : TI} {g : TG} {tb : TS} {pos : Pos} (hp : PassesOwn (model X.prog X.w) X.A X.env X.xe) (hc : X.calm = true) (hi : ZI X tg iter wi) (hg : ZG X tg g) (hb : ZSs X body tb)
    (hs : ∀ x, foldedSetIterable iter X.env x = pure x := by intro _; rfl) : ZS X (.For tg iter body [] pos) (tFor wi g tb) := by with_unfolding_all exact ps_for hp hc hi hg hb hs
end
theorem for_range {lo : Int} {n : Nat} {g : TG} {tb : TS} {D : Ends} {σ : St} {H : Hp} (Pv : Nat → St → Hp → Prop) (h0 : Pv 0 σ H)
    (hs : ∀ i σ H, i < n → Pv i σ H → g (.int (lo + i)) σ H fun σ2 H2 => tb { D with nx := Pv (i + 1), ct := Pv (i + 1), bk := D.nx } σ2 H2) (hd : ∀ σ H, Pv n σ H → D.nx σ H) :
    ∃ W : Nat → Nat → St → Hp → Prop, (∃ m, W 0 m σ H) ∧ ∀ i m σ H, W i m σ H →
      ((Itr lo n).stop i H ∧ D.nx σ H) ∨ ((Itr lo n).go i H ∧ ∃ N : St → Hp → Prop, (∀ σ' H', N σ' H' → ∃ m', m' < m ∧ W (i + 1) m' σ' H') ∧ ∀ x H', (Itr lo n).yld i H x H' → g x σ H' fun σ2 H2 => tb { D with nx := N, ct := N, bk := D.nx } σ2 H2) := by
  refine ⟨fun i m σ H => m = n - i ∧ i ≤ n ∧ Pv i σ H, ⟨n, by simp, Nat.zero_le _, h0⟩, ?_⟩
  rintro i m σ H ⟨rfl, hi, p⟩
  by_cases hlt : i < n
  · refine .inr ⟨hlt, Pv (i + 1), fun σ' H' p' => ⟨n - (i + 1), by omega, rfl, hlt, p'⟩, fun x H' y => ?_⟩
    obtain ⟨e, y⟩ := y
    subst e y
    exact hs i σ _ hlt p
  · have e : i = n := by omega
    subst e
    exact .inl ⟨Nat.le_refl _, hd σ H p⟩
end L2
namespace L2
open PySem PySem.Spec PyProof.Rows
noncomputable abbrev R2 := V → V → Hp → VK → Prop
noncomputable def OpR (X : Cx) (f : Value → Value → Sem Value) (r : R2) : Prop :=
  ∀ (pins : List (Addr × Obj)) (s : Shared) (σ : St) (H : Hp) (x y : V) (v u : Value) (Q : VK), Inv X pins σ H s → RelV x v → RelV y u → r x y H Q →
    wpAny (model X.prog X.w) X.A (f v u) (EP X pins σ Q) X.xe s
noncomputable def UnR (X : Cx) (f : Value → Sem Value) (r : V → Hp → VK → Prop) : Prop :=
  ∀ (pins : List (Addr × Obj)) (s : Shared) (σ : St) (H : Hp) (x : V) (v : Value) (Q : VK), Inv X pins σ H s → RelV x v → r x H Q →
    wpAny (model X.prog X.w) X.A (f v) (EP X pins σ Q) X.xe s
noncomputable def CallR (X : Cx) (f : Value) (r : List V → Hp → VK → Prop) : Prop :=
  ∀ (pins : List (Addr × Obj)) (s : Shared) (σ : St) (H : Hp) (xs : List V) (us : List Value) (Q : VK), Inv X pins σ H s → Vals xs us → r xs H Q →
    wpAny (model X.prog X.w) X.A (call f us) (EP X pins σ Q) X.xe s
noncomputable def tOp (r : R2) (ta tb : TE) : TE := fun σ H Q => ta σ H fun x H1 => tb σ H1 fun y H2 => r x y H2 Q
noncomputable def tUn (r : V → Hp → VK → Prop) (ta : TE) : TE := fun σ H Q => ta σ H fun x H1 => r x H1 Q
noncomputable def rI (C : Int → Int → Prop) (g : Int → Int → V) : R2 := fun x y H Q => ∃ i j, x = .int i ∧ y = .int j ∧ C i j ∧ Q (g i j) H
noncomputable def rI0 (g : Int → Int → V) : R2 := fun x y H Q => ∃ i j, x = .int i ∧ y = .int j ∧ Q (g i j) H
noncomputable def rU (g : Int → V) : V → Hp → VK → Prop := fun x H Q => ∃ i, x = .int i ∧ Q (g i) H

section
variable {X : Cx} {a b c : Expr} {ta tb tc : TE} {pos : Pos}
theorem binT (ha : PE X a ta) (hb : PE X b tb) {pins : List (Addr × Obj)} {s : Shared} {σ : St} {H : Hp} {R : V → V → Hp → Prop} (I : Inv X pins σ H s)
    (h : ta σ H fun x H1 => tb σ H1 fun y H2 => R x y H2) {Q : Value → Shared → Prop} {f : Value → Value → Sem Value}
    (hf : ∀ v u s2 x y H2, Inv X pins σ H2 s2 → RelV x v → RelV y u → R x y H2 → wpAny (model X.prog X.w) X.A (f v u) Q X.xe s2) :
    wpAny (model X.prog X.w) X.A (eval a X.env) (fun v s₁ => wpAny (model X.prog X.w) X.A (eval b X.env) (fun u s₂ => wpAny (model X.prog X.w) X.A (f v u) Q X.xe s₂) X.xe s₁) X.xe s := by
  refine thn (ha pins s σ H _ I h) fun v s1 ⟨x, H1, I1, r1, q1⟩ => ?_
  refine thn (hb pins s1 σ H1 _ I1 q1) fun u s2 ⟨y, H2, I2, r2, q2⟩ => ?_
  exact hf v u s2 x y H2 I2 r1 r2 q2

theorem pe_op {op : Operator} {r : R2} (ho : OpR X (binaryOp op) r) (ha : PE X a ta) (hb : PE X b tb) : PE X (.BinOp a op b pos) (tOp r ta tb) := by
  intro pins s σ H Q I h
  exact wpAny_BinOp (binT ha hb I h fun v u s2 x y H2 I2 rx ry q => ho pins s2 σ H2 x y v u Q I2 rx ry q)
theorem ze_op {op : Operator} {r : R2} (ho : OpR X (binaryOp op) r) (ha : ZE X a ta) (hb : ZE X b tb) : ZE X (.BinOp a op b pos) (tOp r ta tb) := by with_unfolding_all exact pe_op ho ha hb
theorem pe_un {op : UnaryOp} {r : V → Hp → VK → Prop} (ho : UnR X (unaryOp op) r) (ha : PE X a ta) : PE X (.UnaryOp op a pos) (tUn r ta) := by
  intro pins s σ H Q I h
  exact UnaryOp_ (thn (ha pins s σ H _ I h) fun v s1 ⟨x, H1, I1, r1, q1⟩ => ho pins s1 σ H1 x v Q I1 r1 q1)
theorem ze_un {op : UnaryOp} {r : V → Hp → VK → Prop} (ho : UnR X (unaryOp op) r) (ha : ZE X a ta) : ZE X (.UnaryOp op a pos) (tUn r ta) := by with_unfolding_all exact pe_un ho ha
theorem opI {f : Value → Value → Sem Value} {C : Int → Int → Prop} {g : Int → Int → Int}
    (rule : ∀ (i j : Int) (t u : Tok) (s : Shared) (Q : Value → Shared → Prop) (E : Value → Shared → Prop), C i j → Q (.int (g i j) s.toks) { s with toks := s.toks + 1 } → wpAny (model X.prog X.w) X.A (f (.int i t) (.int j u)) Q E s) :
    OpR X f (rI C fun i j => .int (g i j)) := by
  intro pins s σ H x y v u Q I rx ry h
  obtain ⟨i, j, rfl, rfl, hc, q⟩ := h
  obtain ⟨t, rfl⟩ := rx
  obtain ⟨t', rfl⟩ := ry
  exact rule i j t t' s _ _ hc ⟨.int (g i j), H, I.tok _, ⟨_, rfl⟩, q⟩
theorem opI0 {f : Value → Value → Sem Value} {g : Int → Int → Int}
    (rule : ∀ (i j : Int) (t u : Tok) (s : Shared) (Q : Value → Shared → Prop) (E : Value → Shared → Prop), Q (.int (g i j) s.toks) { s with toks := s.toks + 1 } → wpAny (model X.prog X.w) X.A (f (.int i t) (.int j u)) Q E s) :
    OpR X f (rI0 fun i j => .int (g i j)) := by
  intro pins s σ H x y v u Q I rx ry h
  obtain ⟨i, j, rfl, rfl, q⟩ := h
  obtain ⟨t, rfl⟩ := rx
  obtain ⟨t', rfl⟩ := ry
  exact rule i j t t' s _ _ ⟨.int (g i j), H, I.tok _, ⟨_, rfl⟩, q⟩
theorem opB0 {f : Value → Value → Sem Value} {g : Int → Int → Bool}
    (rule : ∀ (i j : Int) (t u : Tok) (s : Shared) (Q : Value → Shared → Prop) (E : Value → Shared → Prop), Q (.bool (g i j)) s → wpAny (model X.prog X.w) X.A (f (.int i t) (.int j u)) Q E s) :
    OpR X f (rI0 fun i j => .bl (g i j)) := by
  intro pins s σ H x y v u Q I rx ry h
  obtain ⟨i, j, rfl, rfl, q⟩ := h
  obtain ⟨t, rfl⟩ := rx
  obtain ⟨t', rfl⟩ := ry
  exact rule i j t t' s _ _ ⟨.bl (g i j), H, I, rfl, q⟩

noncomputable def CDiv (i j : Int) : Prop := 0 < j ∧ j < 1073741824
noncomputable def CPow (i j : Int) : Prop := 0 ≤ j ∧ j ≤ 1000000 ∧ i.natAbs < 2 ^ 64
theorem op_add : OpR X (binaryOp .Add) (rI0 fun i j => .int (i + j)) := opI0 fun _ _ _ _ _ _ _ q => add_int q
theorem op_sub : OpR X (binaryOp .Sub) (rI0 fun i j => .int (i - j)) := opI0 fun _ _ _ _ _ _ _ q => sub_int q
theorem op_fdiv : OpR X (binaryOp .FloorDiv) (rI CDiv fun i j => .int (i / j)) := opI fun i j _ _ _ _ _ hc q => by
  have h1 : (0 : Int) < j := hc.1
  have h2 : j < 1073741824 := hc.2
  exact floordiv_int (by omega) (by rw [Int.fdiv_eq_ediv_of_nonneg i (by omega)]; exact q) (.inl (PyProof.noPylong_small (by omega)))
theorem op_mod : OpR X (binaryOp .Mod) (rI (fun _ j => 0 < j) fun i j => .int (i % j)) := opI fun i j _ _ _ _ _ hc q => by
  have h1 : (0 : Int) < j := hc
  exact mod_int' (by omega) (by rw [Int.fmod_eq_emod_of_nonneg i (by omega)]; exact q)
theorem op_pow : OpR X (binaryOp .Pow) (rI CPow fun i j => .int (i ^ j.toNat)) := opI fun _ _ _ _ _ _ _ hc q => pow_int_small hc.1 hc.2.1 hc.2.2 q
theorem unI {f : Value → Sem Value} {g : Int → Int}
    (rule : ∀ (i : Int) (t : Tok) (s : Shared) (Q : Value → Shared → Prop) (E : Value → Shared → Prop), Q (.int (g i) s.toks) { s with toks := s.toks + 1 } → wpAny (model X.prog X.w) X.A (f (.int i t)) Q E s) :
    UnR X f (rU fun i => .int (g i)) := by
  intro pins s σ H x v Q I rx h
  obtain ⟨i, rfl, q⟩ := h
  obtain ⟨t, rfl⟩ := rx
  exact rule i t s _ _ ⟨.int (g i), H, I.tok _, ⟨_, rfl⟩, q⟩
theorem un_neg : UnR X (unaryOp .USub) (rU fun i => .int (-i)) := unI fun _ _ _ _ _ q => neg_int q
end
noncomputable def scal : V → V → Bool
  | .non, .non => true | .non, .int _ => true | .int _, .non => true | .non, .bl _ => true | .bl _, .non => true | .non, .str _ => true | .str _, .non => true
  | .int _, .int _ => true | .bl _, .bl _ => true | .str _, .str _ => true | .byt _, .byt _ => true
  | .int _, .str _ => true | .str _, .int _ => true | .bl _, .str _ => true | .str _, .bl _ => true
  | _, _ => false
noncomputable def rEq : R2 := fun x y H Q => scal x y = true ∧ Q (.bl (decide (x = y))) H
noncomputable def rNe : R2 := fun x y H Q => scal x y = true ∧ Q (.bl (!decide (x = y))) H

theorem dec_int {i j : Int} : decide (V.int i = V.int j) = (i == j) := by
  rw [Bool.eq_iff_iff]
  simp
theorem dec_bl {i j : Bool} : decide (V.bl i = V.bl j) = (i == j) := by
  rw [Bool.eq_iff_iff]
  simp
theorem dec_str {i j : Str} : decide (V.str i = V.str j) = (i == j) := by
  rw [Bool.eq_iff_iff]
  simp
theorem dec_byt {i j : Array UInt8} : decide (V.byt i = V.byt j) = (i.toList == j.toList) := by
  rw [Bool.eq_iff_iff]
  cases i
  cases j
  simp

section
variable {X : Cx} {a b c : Expr} {ta tb tc : TE} {pos : Pos}
theorem fin_bl {pins : List (Addr × Obj)} {σ : St} {H : Hp} {s : Shared} {Q : VK} {k k' : Bool} (I : Inv X pins σ H s) (q : Q (.bl k) H) (e : k = k') : EP X pins σ Q (.bool k') s := by
  subst e
  exact ⟨.bl k, H, I, rfl, q⟩
theorem op_eq : OpR X (compareOp .Eq) rEq := by
  intro pins s σ H x y v u Q I rx ry h
  obtain ⟨hs, q⟩ := h
  cases x with
  | non =>
    cases rx
    cases y with
    | non => cases ry; exact PySem.EqNone.eq_none_none (fin_bl I q (by simp))
    | bl j => cases ry; exact PySem.EqNone.eq_none_bool (fin_bl I q (by simp))
    | int j => obtain ⟨t', rfl⟩ := ry; exact PySem.EqNone.eq_none_int (fin_bl I q (by simp))
    | str j => obtain ⟨t', rfl⟩ := ry; exact PySem.EqNone.eq_none_str (fin_bl I q (by simp))
    | _ => exact absurd (show false = true from hs) Bool.false_ne_true
  | bl i =>
    cases rx
    cases y with
    | non => cases ry; exact PySem.EqNone.eq_bool_none (fin_bl I q (by simp))
    | bl j => cases ry; exact eq_bool (fin_bl I q dec_bl)
    | str j => obtain ⟨t', rfl⟩ := ry; exact PySem.EqMixed.eq_bool_str (fin_bl I q (by simp))
    | _ => exact absurd (show false = true from hs) Bool.false_ne_true
  | int i =>
    obtain ⟨t, rfl⟩ := rx
    cases y with
    | non => cases ry; exact PySem.EqNone.eq_int_none (fin_bl I q (by simp))
    | int j => obtain ⟨t', rfl⟩ := ry; exact eq_int (fin_bl I q dec_int)
    | str j => obtain ⟨t', rfl⟩ := ry; exact PySem.EqMixed.eq_int_str (fin_bl I q (by simp))
    | _ => exact absurd (show false = true from hs) Bool.false_ne_true
  | str i =>
    obtain ⟨t, rfl⟩ := rx
    cases y with
    | non => cases ry; exact PySem.EqNone.eq_str_none (fin_bl I q (by simp))
    | bl j => cases ry; exact PySem.EqMixed.eq_str_bool (fin_bl I q (by simp))
    | int j => obtain ⟨t', rfl⟩ := ry; exact PySem.EqMixed.eq_str_int (fin_bl I q (by simp))
    | str j => obtain ⟨t', rfl⟩ := ry; exact eq_str (fin_bl I q dec_str)
    | _ => exact absurd (show false = true from hs) Bool.false_ne_true
  | byt i =>
    obtain ⟨t, rfl⟩ := rx
    cases y with
    | byt j => obtain ⟨t', rfl⟩ := ry; exact PySem.W.eq_bytes (fin_bl I q dec_byt)
    | _ => exact absurd (show false = true from hs) Bool.false_ne_true
  | _ => cases y <;> exact absurd (show false = true from hs) Bool.false_ne_true
theorem op_ne : OpR X (compareOp .NotEq) rNe := by
  intro pins s σ H x y v u Q I rx ry h
  obtain ⟨hs, q⟩ := h
  cases x with
  | non =>
    cases rx
    cases y with
    | non => cases ry; exact PySem.EqNone.ne_none_none (fin_bl I q (by simp))
    | bl j => cases ry; exact PySem.EqNone.ne_none_bool (fin_bl I q (by simp))
    | int j => obtain ⟨t', rfl⟩ := ry; exact PySem.EqNone.ne_none_int (fin_bl I q (by simp))
    | str j => obtain ⟨t', rfl⟩ := ry; exact PySem.EqNone.ne_none_str (fin_bl I q (by simp))
    | _ => exact absurd (show false = true from hs) Bool.false_ne_true
  | bl i =>
    cases rx
    cases y with
    | non => cases ry; exact PySem.EqNone.ne_bool_none (fin_bl I q (by simp))
    | bl j => cases ry; exact ne_bool (fin_bl I q (congrArg not dec_bl))
    | str j => obtain ⟨t', rfl⟩ := ry; exact PySem.EqMixed.ne_bool_str (fin_bl I q (by simp))
    | _ => exact absurd (show false = true from hs) Bool.false_ne_true
  | int i =>
    obtain ⟨t, rfl⟩ := rx
    cases y with
    | non => cases ry; exact PySem.EqNone.ne_int_none (fin_bl I q (by simp))
    | int j => obtain ⟨t', rfl⟩ := ry; exact ne_int (fin_bl I q (congrArg not dec_int))
    | str j => obtain ⟨t', rfl⟩ := ry; exact PySem.EqMixed.ne_int_str (fin_bl I q (by simp))
    | _ => exact absurd (show false = true from hs) Bool.false_ne_true
  | str i =>
    obtain ⟨t, rfl⟩ := rx
    cases y with
    | non => cases ry; exact PySem.EqNone.ne_str_none (fin_bl I q (by simp))
    | bl j => cases ry; exact PySem.EqMixed.ne_str_bool (fin_bl I q (by simp))
    | int j => obtain ⟨t', rfl⟩ := ry; exact PySem.EqMixed.ne_str_int (fin_bl I q (by simp))
    | str j => obtain ⟨t', rfl⟩ := ry; exact ne_str (fin_bl I q (congrArg not dec_str))
    | _ => exact absurd (show false = true from hs) Bool.false_ne_true
  | byt i =>
    obtain ⟨t, rfl⟩ := rx
    cases y with
    | byt j => obtain ⟨t', rfl⟩ := ry; exact PySem.W.ne_bytes (fin_bl I q (congrArg not dec_byt))
    | _ => exact absurd (show false = true from hs) Bool.false_ne_true
  | _ => cases y <;> exact absurd (show false = true from hs) Bool.false_ne_true

theorem op_lt : OpR X (compareOp .Lt) (rI0 fun i j => .bl (decide (i < j))) := opB0 fun _ _ _ _ _ _ _ q => lt_int q
theorem op_le : OpR X (compareOp .LtE) (rI0 fun i j => .bl (decide (i ≤ j))) := opB0 fun _ _ _ _ _ _ _ q => le_int q
theorem op_gt : OpR X (compareOp .Gt) (rI0 fun i j => .bl (decide (j < i))) := opB0 fun _ _ _ _ _ _ _ q => gt_int q
theorem op_ge : OpR X (compareOp .GtE) (rI0 fun i j => .bl (decide (j ≤ i))) := opB0 fun _ _ _ _ _ _ _ q => ge_int q
theorem op_isN : OpR X (compareOp .Is) (fun x y H Q => y = .non ∧ Q (.bl (decide (x = .non))) H) := by
  intro pins s σ H x y v u Q I rx ry h
  obtain ⟨rfl, q⟩ := h
  cases ry
  refine is_none_gen (fin_bl I q ?_)
  cases x <;> first
    | (cases rx; rfl)
    | (obtain ⟨t, rfl⟩ := rx; rfl)
theorem op_notN : OpR X (compareOp .IsNot) (fun x y H Q => y = .non ∧ Q (.bl (!decide (x = .non))) H) := by
  intro pins s σ H x y v u Q I rx ry h
  obtain ⟨rfl, q⟩ := h
  cases ry
  refine isnot_none_gen (fin_bl I q ?_)
  cases x <;> first
    | (cases rx; rfl)
    | (obtain ⟨t, rfl⟩ := rx; rfl)

theorem nomark (b : Expr) {op : CmpOp} (h : op ≠ .In := by decide) (h2 : op ≠ .NotIn := by decide) : behindInMarks op b = false := by
  have e1 : (op == CmpOp.In) = false := by cases op <;> first | rfl | exact absurd rfl h
  have e2 : (op == CmpOp.NotIn) = false := by cases op <;> first | rfl | exact absurd rfl h2
  cases b <;> simp [behindInMarks, e1, e2]
theorem pe_cmpR {op : CmpOp} {r : R2} (ho : OpR X (compareOp op) r) (ha : PE X a ta) (hb : PE X b tb) (hm : behindInMarks op b = false) : PE X (.Compare a [op] [b] pos) (tOp r ta tb) := by
  intro pins s σ H Q I h
  exact wpAny_Compare1 (binT ha hb I h fun v u s2 x y H2 I2 rx ry q => ho pins s2 σ H2 x y v u Q I2 rx ry q) hm
theorem ze_cmpR {op : CmpOp} {r : R2} (ho : OpR X (compareOp op) r) (ha : ZE X a ta) (hb : ZE X b tb) (hm : behindInMarks op b = false) : ZE X (.Compare a [op] [b] pos) (tOp r ta tb) := by with_unfolding_all exact pe_cmpR ho ha hb hm
theorem line63 : (sizeLine : Nat) < 2 ^ 63 := by rw [sizeLine_eq]; decide
theorem op_add_str : OpR X (binaryOp .Add) (fun x y H Q => ∃ i j, x = .str i ∧ y = .str j ∧ i.length + j.length ≤ sizeLine ∧ Q (.str (i ++ j)) H) := by
  intro pins s σ H x y v u Q I rx ry h
  obtain ⟨i, j, rfl, rfl, hz, q⟩ := h
  obtain ⟨t, rfl⟩ := rx
  obtain ⟨t', rfl⟩ := ry
  exact add_str (fun t' tk => ⟨.str (i ++ j), H, I.tok _, ⟨_, rfl⟩, q⟩) hz
theorem vals1 {x : V} {us : List Value} (r : Vals [x] us) : ∃ u, us = [u] ∧ RelV x u := by
  cases r with
  | cons r1 r2 => cases r2; exact ⟨_, rfl, r1⟩
theorem vals2 {x y : V} {us : List Value} (r : Vals [x, y] us) : ∃ u w', us = [u, w'] ∧ RelV x u ∧ RelV y w' := by
  cases r with
  | cons r1 r2 =>
    cases r2 with
    | cons r3 r4 => cases r4; exact ⟨_, _, rfl, r1, r3⟩
theorem call_abs : CallR X (.builtin "abs") (fun xs H Q => ∃ i, xs = [.int i] ∧ Q (.int (if i < 0 then -i else i)) H) := by
  intro pins s σ H xs us Q I r h
  obtain ⟨i, rfl, q⟩ := h
  obtain ⟨u, rfl, t, rfl⟩ := vals1 r
  exact call_abs_int fun u tk => ⟨.int (if i < 0 then -i else i), H, I.tok _, ⟨_, rfl⟩, q⟩
theorem call_max2 (hc : X.calm = true) : CallR X (.builtin "max") (fun xs H Q => ∃ i j, xs = [.int i, .int j] ∧ Q (.int (if j > i then j else i)) H) := by
  intro pins s σ H xs us Q I r h
  obtain ⟨i, j, rfl, q⟩ := h
  obtain ⟨u, w', rfl, ⟨t, rfl⟩, ⟨t', rfl⟩⟩ := vals2 r
  refine max_two_ints (I.ok.hd hc) fun h' tk k => ⟨_, H, I.kept k, ?_, q⟩
  by_cases hj : j > i
  · rw [if_pos hj, if_pos hj]; exact ⟨_, rfl⟩
  · rw [if_neg hj, if_neg hj]; exact ⟨_, rfl⟩
theorem call_min2 (hc : X.calm = true) : CallR X (.builtin "min") (fun xs H Q => ∃ i j, xs = [.int i, .int j] ∧ Q (.int (if j < i then j else i)) H) := by
  intro pins s σ H xs us Q I r h
  obtain ⟨i, j, rfl, q⟩ := h
  obtain ⟨u, w', rfl, ⟨t, rfl⟩, ⟨t', rfl⟩⟩ := vals2 r
  refine min_two_ints (I.ok.hd hc) fun h' tk k => ⟨_, H, I.kept k, ?_, q⟩
  by_cases hj : j < i
  · rw [if_pos hj, if_pos hj]; exact ⟨_, rfl⟩
  · rw [if_neg hj, if_neg hj]; exact ⟨_, rfl⟩
theorem call_int1 : CallR X (.type "int") (fun xs H Q => (∃ i, xs = [.int i] ∧ Q (.int i) H) ∨ ∃ k, xs = [.bl k] ∧ Q (.int (if k then 1 else 0)) H) := by
  intro pins s σ H xs us Q I r h
  rcases h with ⟨i, rfl, q⟩ | ⟨k, rfl, q⟩
  · obtain ⟨u, rfl, t, rfl⟩ := vals1 r
    exact call_int_int ⟨.int i, H, I, ⟨_, rfl⟩, q⟩
  · obtain ⟨u, rfl, r1⟩ := vals1 r
    cases r1
    exact call_int_bool ⟨.int (if k then 1 else 0), H, I.tok _, ⟨_, rfl⟩, q⟩
end
end L2
namespace L2
open PySem PySem.Spec PyProof.Rows
structure ObjM (h : Heap) (x dx C : Addr) (mA : Str → Option Value) : Prop where
  obj : h.get? x = some (PySem.W.instObj C dx)
  ns : h.Ns1 dx mA
  ne : dx ≠ x

theorem lookIn_ns {h : Heap} {dx : Addr} {mA : Str → Option Value} (n : h.Ns1 dx mA) : ∃ od, h.get? dx = some od ∧ ∀ name, PySem.W.lookIn name od = some (mA name) := by
  obtain ⟨o, es, ep, ho, hd, hk, _, hm⟩ := n
  refine ⟨o, ho, fun name => ?_⟩
  have e := hm name
  unfold nsFind findBy at e
  rw [← Array.find?_toList] at e
  unfold PySem.W.lookIn
  rw [hd]
  dsimp only
  split
  · rename_i y q
    rw [q] at e
    exact congrArg some e
  · rename_i q
    rw [q] at e
    have a : es.toList.any (·.refKey) = false := by
      rw [List.any_eq_false]
      intro y hy
      obtain ⟨z, t, hkey⟩ := hk y (Array.mem_toList_iff.mp hy)
      simp [DictEntry.refKey, hkey]
    have a' : ¬ es.toList.any (·.refKey) = true := by rw [a]; exact Bool.false_ne_true
    rw [if_neg a']
    exact congrArg some e

theorem ObjM.look {h : Heap} {x dx C : Addr} {mA : Str → Option Value} (I : ObjM h x dx C mA) : ∃ od, PySem.W.InstAt h x (PySem.W.instObj C dx) C (some od) ∧ ∀ name, PySem.W.lookIn name od = some (mA name) :=
  let ⟨od, ho, hl⟩ := lookIn_ns I.ns
  ⟨od, ⟨I.obj, rfl, rfl, ho⟩, hl⟩

section
variable {prog : Program} {w : World} {A : Around} {E : Value → Shared → Prop} {s : Shared} {K : PySem.W.Frag} {x dx C f : Addr} {mA : Str → Option Value} {name : Str} {v : Value}
end
section
variable {P : Program} {w : World} {H H' : Hp} {h h' : Heap} {a C dx : Addr} {fs fs' : List (Str × V)}
theorem ins_get (hok : HOk P w H h) (e : H a = some (.ins C dx fs)) : ∃ mA, ObjM h a dx C mA ∧ (∀ f, RelO (fs.lookup f) (mA f)) ∧ PySem.Within mA (fs.map (·.1)) ∧ fs.length ≤ 1000 ∧ H dx = some (.own a) := by
  obtain ⟨d, z, ne, ob, mA, n, r, q⟩ := (show ObjOk P w H h a (.ins C dx fs) from hok a _ e)
  exact ⟨mA, ⟨ob, n, ne⟩, r, q, z, d⟩
end
structure Cls (K : PySem.W.Frag) (C : Addr) : Prop where
  pg : PySem.W.plainGet K C Str.empty = true
  hd : PySem.W.hasDictIn K C = true
  po : PySem.W.plainOver K C = true
  sa : PySem.W.findIn K (.ref C) "__setattr__" = some (some (.builtin "object.__setattr__"))
theorem Cls.get {K : PySem.W.Frag} {C : Addr} (c : Cls K C) (f : Str) : PySem.W.plainGet K C f = true := c.pg
section
variable {X : Cx} {pins : List (Addr × Obj)} {σ : St} {H : Hp} {s : Shared} {a C dx : Addr} {fs : List (Str × V)} {f : Str} {v : V} {A : Around} {E : Value → Shared → Prop}
end
section
variable {X : Cx} {o e value : Expr} {f : Str} {pos pos' tpos : Pos} {ta tv : TE}
end
section
variable {X : Cx} {pins : List (Addr × Obj)} {σ : St} {H : Hp} {s : Shared} {A : Around} {E : Value → Shared → Prop} {Q : Value → Shared → Prop} {c : Value} {b : Bool}
inductive TyOf (K : PySem.W.Frag) (H : Hp) : V → Value → Prop where
  | non : TyOf K H .non (.type "NoneType")
  | bl (x : Bool) : TyOf K H (.bl x) (.type "bool")
  | int (i : Int) : TyOf K H (.int i) (.type "int")
  | str (x : Str) : TyOf K H (.str x) (.type "str")
  | flt (x : UInt64) : TyOf K H (.flt x) (.type "float")
  | lst {a : Addr} {xs : List V} (e : H a = some (.lst xs)) : TyOf K H (.ref a) (.type "list")
  | frz {a : Addr} {o : Obj} {xs : List V} (e : H a = some (.frz o (.lst xs))) : TyOf K H (.ref a) (.type "list")
  | tup {a : Addr} {xs : List V} (e : H a = some (.tup xs)) : TyOf K H (.ref a) (.type "tuple")
  | dK {a : Addr} {kvs : List (Key × V)} (e : H a = some (.dK kvs)) : TyOf K H (.ref a) (.type "dict")
  | dT {a : Addr} {kvs : List (List Key × V)} (e : H a = some (.dT kvs)) : TyOf K H (.ref a) (.type "dict")
  | ins {a C dx : Addr} {fs : List (Str × V)} (e : H a = some (.ins C dx fs)) (cl : Cls K C) (ha : PySem.W.findIn K (.ref C) "__class__" = some (some (.builtin "object.__class__")))
      (hn : PySem.W.specialIn K (.builtin "object.__class__") "__get__" = some (some (.builtin "getset_descriptor.__get__"))) (htk : PySem.W.takesIn K (.builtin "object.__class__") = some true)
      (hm : PySem.W.mroIn K C (.type "object") = some true) : TyOf K H (.ref a) (.ref C)
theorem isinst_ok {x : V} {u t : Value} (I : Inv X pins σ H s) (rx : RelV x u) (ty : TyOf X.K H x t) (e : PySem.W.kitOne X.K t c = some b) (h : ∀ tk, Q (.bool b) { s with toks := tk }) :
    wpAny (model X.prog X.w) A (call (.builtin "isinstance") [u, c]) Q E s := by
  cases ty with
  | non => cases (show u = Value.none from rx); exact PySem.W.kia_one PySem.W.kitx_none I.kIn True.intro e (fun z => nomatch z) h
  | bl y => cases (show u = Value.bool y from rx); exact PySem.W.kia_one PySem.W.kitx_bool I.kIn True.intro e (fun z => nomatch z) h
  | int i => obtain ⟨t, q⟩ := (show ∃ t, u = Value.int i t from rx); cases q; exact PySem.W.kia_one PySem.W.kitx_int I.kIn True.intro e (fun z => nomatch z) h
  | str y => obtain ⟨t, q⟩ := (show ∃ t, u = Value.str y t from rx); cases q; exact PySem.W.kia_one PySem.W.kitx_str I.kIn True.intro e (fun z => nomatch z) h
  | flt y => obtain ⟨t, q⟩ := (show ∃ t, u = Value.float y t from rx); cases q; exact PySem.W.kia_one PySem.W.kitx_float I.kIn True.intro e (fun z => nomatch z) h
  | @lst a xs ea =>
    cases (show u = Value.ref a from rx)
    obtain ⟨_, _, n, _, h1⟩ := (show ObjOk X.prog X.w H s.heap a (.lst xs) from I.hok a _ ea)
    exact PySem.W.kia_one PySem.W.kitx_list I.kIn ⟨_, h1, rfl⟩ e (fun z => nomatch z) h
  | @frz a ob xs ea =>
    cases (show u = Value.ref a from rx)
    obtain ⟨_, _, _, n, _, h1⟩ := (show ObjOk X.prog X.w H s.heap a (.frz ob (.lst xs)) from I.hok a _ ea)
    exact PySem.W.kia_one PySem.W.kitx_list I.kIn ⟨_, h1, rfl⟩ e (fun z => nomatch z) h
  | @tup a xs ea =>
    cases (show u = Value.ref a from rx)
    obtain ⟨_, _, _, p⟩ := (show ObjOk X.prog X.w H s.heap a (.tup xs) from I.hok a _ ea)
    obtain ⟨o, h1, h2, _⟩ := p.tup
    exact PySem.W.kia_one PySem.W.kitx_tuple I.kIn ⟨o, h1, h2⟩ e (fun z => nomatch z) h
  | @dK a kvs ea =>
    cases (show u = Value.ref a from rx)
    obtain ⟨_, _, vs, _, p⟩ := (show ObjOk X.prog X.w H s.heap a (.dK kvs) from I.hok a _ ea)
    obtain ⟨o, es, ep, h1, h2, _⟩ := p
    exact PySem.W.kia_one PySem.W.kitx_dict I.kIn ⟨o, h1, h2.1⟩ e (fun z => nomatch z) h
  | @dT a kvs ea =>
    cases (show u = Value.ref a from rx)
    obtain ⟨_, _, xs, _, o, es, ep, h1, h2, _⟩ := (show ObjOk X.prog X.w H s.heap a (.dT kvs) from I.hok a _ ea)
    exact PySem.W.kia_one PySem.W.kitx_dict I.kIn ⟨o, h1, h2.1⟩ e (fun z => nomatch z) h
  | @ins a C dx fs ea cl ha hn htk hm =>
    cases (show u = Value.ref a from rx)
    obtain ⟨mA, O, _⟩ := ins_get I.hok ea
    obtain ⟨od, J, _⟩ := O.look
    exact PySem.W.kia_one (PySem.W.kitx_own (cl.get _) cl.hd ha hn htk hm) I.kIn J e (fun z => nomatch z) h
end
end L2
namespace L2
open PySem PySem.Spec PyProof.Rows
structure Room (k : Nat) (A : Around) : Prop where
  hd : A.handled = none
  dp : A.depth + 3 * k + 5 < recursionLimit
  un : A.units + 16 * k + 200 < cLine
  gd : A.guards = some []
theorem Room.mono {j k : Nat} {A : Around} (r : Room k A) (h : j ≤ k) : Room j A := ⟨r.hd, by have := r.dp; omega, by have := r.un; omega, r.gd⟩
theorem Room.deeper {k : Nat} {A : Around} (r : Room (k + 1) A) (env : Env) : Room k (A.deeper env) :=
  ⟨r.hd, by have := r.dp; show A.depth + 1 + 3 * k + 5 < _; omega, by have := r.un; show A.units + 3 + 16 * k + 200 < _; omega, r.gd⟩
theorem Room.depth {k : Nat} {A : Around} (r : Room k A) : A.depth < recursionLimit := by have := r.dp; omega
theorem Room.units {k : Nat} {A : Around} (r : Room k A) : A.units + 64 < cLine := by have := r.un; omega
noncomputable def tNil : TA := fun _ H Q => Q [] H
noncomputable def tCons (ta : TE) (tr : TA) : TA := fun σ H Q => ta σ H fun x H1 => tr σ H1 fun xs H2 => Q (x :: xs) H2
section
variable {X : Cx} {e : Expr} {es : List Expr} {te : TE} {t : TA} {pos : Pos}
theorem pa_nil : PA X [] tNil := fun _ _ _ _ H Q I h => Calls.spliced_nil ⟨[], H, I, .nil, h⟩
theorem za_nil : ZA X [] tNil := by with_unfolding_all exact pa_nil 
theorem pa_cons (ha : PE X e te) (hr : PA X es t) (hs : starEach (e :: es) X.env = (false, eval e X.env) :: starEach es X.env := by rfl) : PA X (e :: es) (tCons te t) := by
  intro pos pins s σ H Q I h
  rw [hs]
  show wpAny _ _ (spliced ((false, eval e X.env) :: backTo pos (starEach es X.env))) _ _ s
  refine Calls.spliced_cons (thn (ha pins s σ H _ I h) fun u s1 ⟨x, H1, I1, r1, q1⟩ => ?_)
  exact thn (hr pos pins s1 σ H1 _ I1 q1) fun us s2 ⟨xs, H2, I2, r2, q2⟩ => ⟨x :: xs, H2, I2, .cons r1 r2, q2⟩
theorem za_cons (ha : ZE X e te) (hr : ZA X es t) (hs : starEach (e :: es) X.env = (false, eval e X.env) :: starEach es X.env := by rfl) : ZA X (e :: es) (tCons te t) := by with_unfolding_all exact pa_cons ha hr hs

noncomputable def tTup (t : TA) : TE := fun σ H Q => t σ H fun xs H1 => xs.length ≤ sizeLine ∧ ∀ p, H1 p = none → Q (.ref p) (upd H1 p (.tup xs))
noncomputable def tLst (t : TA) : TE := fun σ H Q => t σ H fun xs H1 => xs.length ≤ sizeLine ∧ ∀ p, H1 p = none → Q (.ref p) (upd H1 p (.lst xs))
theorem pe_tup {x1} (h : PA X es t) : PE X (.Tuple es x1 pos) (tTup t) := by
  intro pins s σ H Q I hq
  refine wpAny_Tuple_spliced (thn (h pos pins s σ H _ I hq) fun us s1 ⟨xs, H1, I1, r, z, q⟩ => ⟨by rw [← r.length]; exact z, ?_⟩)
  have hf : H1 s1.heap.objs.size = none := I1.hok.fresh (Nat.le_refl _)
  refine ⟨.ref s1.heap.objs.size, upd H1 s1.heap.objs.size (.tup xs), I1.laid (t' := s1.toks) (fun b u e => Heap.get?_push_of_some _ e) (Nat.le_refl _) ?_, rfl, q _ hf⟩
  exact ⟨z, us, r, ⟨_, Heap.get?_push_size _ rfl⟩⟩
theorem ze_tup {x1} (h : ZA X es t) : ZE X (.Tuple es x1 pos) (tTup t) := by with_unfolding_all exact pe_tup h
theorem pe_lst (h : PA X es t) : PE X (.List es pos) (tLst t) := by
  intro pins s σ H Q I hq
  refine wpAny_List_spliced (thn (h pos pins s σ H _ I hq) fun us s1 ⟨xs, H1, I1, r, z, q⟩ => ⟨by rw [← r.length]; exact z, ?_⟩)
  have hf : H1 s1.heap.objs.size = none := I1.hok.fresh (Nat.le_refl _)
  refine ⟨.ref s1.heap.objs.size, upd H1 s1.heap.objs.size (.lst xs), I1.laid (t' := s1.toks) (fun b u e => Heap.get?_push_of_some _ e) (Nat.le_refl _) ?_, rfl, q _ hf⟩
  exact ⟨z, us, 0, r, Heap.get?_push_size _ rfl⟩
theorem ze_lst (h : ZA X es t) : ZE X (.List es pos) (tLst t) := by with_unfolding_all exact pe_lst h
end
noncomputable abbrev Sp := List V → Hp → VK → XK → Prop
noncomputable abbrev CXT := List Env → Hp → Shared → XK → Value → Shared → Prop

structure Env0 (P : Program) (w : World) (K : PySem.W.Frag) (mg : Str → Option Value) (base : Heap) (A : Around) (outer : List Env) (s : Shared) (H : Hp) : Prop where
  frames : A.frames = some outer
  mod : Mod K mg base
  bs : ∀ b o, base.get? b = some o → s.heap.get? b = some o ∧ H b = none
  bsz : base.objs.size ≤ s.heap.objs.size
  funs : s.heap.FunFrames base outer
  frf : ∀ b ∈ frs outer, H b = none
  hok : HOk P w H s.heap
  bare : AllBare s.gens
noncomputable def CE (outer : List Env) (P : Program) (w : World) (H : Hp) (s : Shared) (Q : VK) (u : Value) (s' : Shared) : Prop :=
  ∃ v H', s'.os = s.os ∧ AllBare s'.gens ∧ Un (frs outer) [] H H' s.heap s'.heap ∧ HOk P w H' s'.heap ∧ RelV v u ∧ Q v H'
noncomputable def CR (CX : CXT) (outer : List Env) (P : Program) (w : World) (H : Hp) (s : Shared) (Q : VK) (E : XK) (r : Result) (s' : Shared) : Prop :=
  match r with
  | .ok (.ret u) => CE outer P w H s Q u s'
  | .ok _ => False
  | .error e => CX outer H s E e s'
structure FnOk (P : Program) (w : World) (K : PySem.W.Frag) (mg : Str → Option Value) (base : Heap) (CX : CXT) (k : Nat) (f : Addr) (fd : FuncData) (ps : List Str) (sp : Sp) : Prop where
  len : ∀ vs H Q E, sp vs H Q E → vs.length = ps.length
  run : ∀ (A : Around) (outer : List Env) (s : Shared) (H : Hp) (args : Args) (us : List Value) (vs : List V) (Q : VK) (E : XK), Room k A → Env0 P w K mg base A outer s H → BindsTo s fd args (ps.zip us) → Vals vs us → sp vs H Q E →
    codeAny (model P w) A (.call (.ref f) args) (CR CX outer P w H s Q E) s
theorem FnOk.mono {P : Program} {w : World} {K : PySem.W.Frag} {mg : Str → Option Value} {base : Heap} {CX : CXT} {j k : Nat} {f : Addr} {fd : FuncData} {ps : List Str} {sp : Sp} (F : FnOk P w K mg base CX j f fd ps sp) (h : j ≤ k) :
    FnOk P w K mg base CX k f fd ps sp := ⟨F.len, fun A outer s H args us vs Q E hr => F.run A outer s H args us vs Q E (hr.mono h)⟩
section
variable {X : Cx} {pins : List (Addr × Obj)} {σ : St} {H : Hp} {s s' : Shared}
theorem Inv.env0 (I : Inv X pins σ H s) : Env0 X.prog X.w X.K X.mg X.base X.A X.stack s H :=
  ⟨I.ok.frames, I.ok.mod, I.bs, Nat.le_trans I.ok.bsz I.sz, I.stack, I.stkFree, I.hok, I.bare⟩
theorem Inv.after {Q : VK} {u : Value} (I : Inv X pins σ H s) (h : CE X.stack X.prog X.w H s Q u s') : EP X pins σ Q u s' := by
  obtain ⟨v, H', os, bare, un, hok, r, q⟩ := h
  obtain ⟨hh, g, d, t, os'⟩ := s'
  obtain rfl : os' = s.os := os
  exact ⟨v, H', I.call (h' := hh) (g' := g) (d' := d) (t' := t) (ch := []) un hok bare (fun b z => absurd z (by simp)), r, q⟩
end
noncomputable def tCall (sp : Sp) (dvs : List V) (E : XK) (t : TA) : TE := fun σ H Q => t σ H fun vs H1 => sp (vs ++ dvs) H1 Q E
noncomputable def Binds (K : PySem.W.Frag) (fd : FuncData) (ps : List Str) (ds : List Value) : Prop :=
  ∀ (s : Shared) (us : List Value), K.In s.heap → (us ++ ds).length = ps.length → BindsTo s fd ⟨us, []⟩ (ps.zip (us ++ ds))
theorem Binds.all {K : PySem.W.Frag} {fd : FuncData} {ps : List Str} (h : ∀ us : List Value, us.length = ps.length → bindArgs fd ⟨us, []⟩ = pure (ps.zip us)) : Binds K fd ps [] := fun s us _ hl => by
  rw [List.append_nil] at hl ⊢
  exact .of_eq (h us hl)

noncomputable def Passes (CX : CXT) (X : Cx) (E : XK) : Prop := ∀ (pins : List (Addr × Obj)) (σ : St) (H : Hp) (s : Shared) (e : Value) (s' : Shared), Inv X pins σ H s → CX X.stack H s E e s' → X.xe e s'

section
variable {X : Cx} {CX : CXT} {k : Nat} {f C : Addr} {fd : FuncData} {ps : List Str} {sp : Sp} {dvs : List V} {ds : List Value} {E : XK} {x m : Str} {p pos apos : Pos} {e o : Expr} {es : List Expr} {ta : TE} {t : TA}
theorem run_fn {pins : List (Addr × Obj)} {σ : St} {H : Hp} {s : Shared} {Q : VK} {us : List Value} {vs : List V} (F : FnOk X.prog X.w X.K X.mg X.base CX k f fd ps sp) (hr : Room k X.A) (hb : Binds X.K fd ps ds) (hd : Vals dvs ds) (hx : Passes CX X E)
    (I : Inv X pins σ H s) (r : Vals vs us) (h : sp (vs ++ dvs) H Q E) : wpAny (model X.prog X.w) X.A (call (.ref f) us) (EP X pins σ Q) X.xe s := by
  have r2 : Vals (vs ++ dvs) (us ++ ds) := r.append hd
  have hl : (us ++ ds).length = ps.length := by rw [← r2.length]; exact F.len _ _ _ _ h
  refine wpAny_call (codeAny_mono (F.run X.A X.stack s H ⟨us, []⟩ (us ++ ds) (vs ++ dvs) Q E hr I.env0 (hb s us I.kIn hl) r2 h) fun r s' hq => ?_)
  cases r with
  | error e => exact hx pins σ H s e s' I hq
  | ok fl =>
    cases fl with
    | ret u => exact I.after hq
    | next => exact False.elim hq
    | brk => exact False.elim hq
    | cont => exact False.elim hq

theorem pe_call (F : FnOk X.prog X.w X.K X.mg X.base CX k f fd ps sp) (hr : Room k X.A) (hg : Gl X x) (hm : X.mg x = some (.ref f)) (hk : PySem.W.keepIn X.K (.ref f) = true) (hb : Binds X.K fd ps ds) (hd : Vals dvs ds) (hx : Passes CX X E)
    (ha : PA X (e :: es) t) (hdb : (x == ("__debug__" : Str)) = false := by decide) (he : starEach (e :: es) X.env = (false, eval e X.env) :: starEach es X.env := by rfl) (hpl : (backTo pos (starEach es X.env)).any (·.1) = false := by rfl) :
    PE X (.Call (.Name x p) (e :: es) [] pos) (tCall sp dvs E t) := by
  intro pins s σ H Q I h
  refine wpAny_Call_Name_kw (ld_glob I hg hm ?_ hdb)
  refine PySem.W.callWith_K (h₀ := X.base) I.ok.mod.kin hk (thn (ha pos pins s σ H _ I h) fun us s1 ⟨vs, H1, I1, r, q⟩ => ⟨I1.kIn, ?_⟩) he hpl
  exact run_fn F hr hb hd hx I1 r q
end
section
variable {X : Cx} {CX : CXT} {k : Nat} {f C : Addr} {fd : FuncData} {ps ks : List Str} {sp : Sp} {E : XK} {x m : Str} {p pos apos kpos : Pos} {e o : Expr} {es : List Expr} {kws : List Keyword} {te ta : TE} {t tk : TA} {nm : Option Str}
variable {g : List Value → List Value → List Value} {gV : List V → List V → List V}
end
structure FnScope (N P : List Str) (sc : Scope) : Prop where
  kind : sc.kind = .function
  co : sc.isCoroutine = false
  gen : sc.isGenerator = false
  nd : N.Nodup
  pre : N.take P.length = P
  par : ∀ x ∈ P, sc.names.lookup x = some .local ∨ sc.names.lookup x = some .cell
  nofree : ∀ y ∈ sc.names, y.2 ≠ .free

theorem bindL_out {kindOf : Str → Option NameKind} {x : Str} : ∀ {binds : List (Str × Value)} {m : Str → Option Value}, (∀ v, (x, v) ∉ binds) → bindL kindOf binds m x = m x
  | [], _, _ => rfl
  | (n, v) :: r, m, h => by
    unfold bindL
    rw [bindL_out fun w hw => h w (List.mem_cons_of_mem _ hw)]
    split
    · have : x ≠ n := by rintro rfl; exact h v List.mem_cons_self
      simp [this]
    · rfl
theorem bindC_out {kindOf : Str → Option NameKind} {x : Str} : ∀ {binds : List (Str × Value)} {m : Str → Option Value}, (∀ v, (x, v) ∉ binds) → bindC kindOf binds m x = m x
  | [], _, _ => rfl
  | (n, v) :: r, m, h => by
    unfold bindC
    rw [bindC_out fun w hw => h w (List.mem_cons_of_mem _ hw)]
    split
    · rfl
    · have : x ≠ n := by rintro rfl; exact h v List.mem_cons_self
      simp [this]
theorem bindL_get {kindOf : Str → Option NameKind} {x : Str} {v : Value} : ∀ {P : List Str} {vs : List Value} {i : Nat} {m : Str → Option Value}, P.Nodup → P[i]? = some x → vs[i]? = some v → kindOf x = some .local →
    bindL kindOf (P.zip vs) m x = some v
  | [], _, _, _, _, h, _, _ => by simp at h
  | _ :: _, [], _, _, _, _, h, _ => by simp at h
  | p :: P, w :: vs, 0, m, nd, h1, h2, hk => by
    simp at h1 h2; subst h1; subst h2
    show bindL kindOf ((p, w) :: P.zip vs) m p = _
    unfold bindL
    rw [bindL_out fun v hv => (List.nodup_cons.mp nd).1 (List.of_mem_zip hv).1, if_pos hk]
    simp
  | p :: P, w :: vs, i + 1, m, nd, h1, h2, hk => by
    show bindL kindOf ((p, w) :: P.zip vs) m x = _
    unfold bindL
    exact bindL_get (i := i) (List.nodup_cons.mp nd).2 (by simpa using h1) (by simpa using h2) hk
theorem bindC_get {kindOf : Str → Option NameKind} {x : Str} {v : Value} : ∀ {P : List Str} {vs : List Value} {i : Nat} {m : Str → Option Value}, P.Nodup → P[i]? = some x → vs[i]? = some v → kindOf x ≠ some .local →
    bindC kindOf (P.zip vs) m x = some v
  | [], _, _, _, _, h, _, _ => by simp at h
  | _ :: _, [], _, _, _, _, h, _ => by simp at h
  | p :: P, w :: vs, 0, m, nd, h1, h2, hk => by
    simp at h1 h2; subst h1; subst h2
    show bindC kindOf ((p, w) :: P.zip vs) m p = _
    unfold bindC
    rw [bindC_out fun v hv => (List.nodup_cons.mp nd).1 (List.of_mem_zip hv).1, if_neg hk]
    simp
  | p :: P, w :: vs, i + 1, m, nd, h1, h2, hk => by
    show bindC kindOf ((p, w) :: P.zip vs) m x = _
    unfold bindC
    exact bindC_get (i := i) (List.nodup_cons.mp nd).2 (by simpa using h1) (by simpa using h2) hk

noncomputable def start (N : List Str) (vs : List V) : St := vs.map some ++ List.replicate (N.length - vs.length) none

noncomputable def cxOf (CX : CXT) (P : Program) (w : World) (K : PySem.W.Frag) (mg : Str → Option Value) (base : Heap) (N : List Str) (qual : Str) (scope : Scope) (f : Addr) (cd : Value) (A : Around) (outer : List Env) (s : Shared) (H : Hp) (E : XK) : Cx where
  prog := P
  w := w
  K := K
  mg := mg
  base := base
  A := A.deeper (envOfC qual scope s.heap.objs.size f cd)
  N := N
  s₀ := s
  H₀ := H
  env := envOfC qual scope s.heap.objs.size f cd
  outer := outer
  stack := envOfC qual scope s.heap.objs.size f cd :: outer
  ex := []
  calm := true
  fn := fun _ => true
  pn := []
  xe := fun e s' => wpAny (model P w) (A.deeper (envOfC qual scope s.heap.objs.size f cd)) (leaving (envOfC qual scope s.heap.objs.size f cd) e) (fun _ s'' => CX outer H s E e s'') (fun e' s'' => CX outer H s E e' s'') s'

theorem cell_has {sc : Scope} {n : Nat} {x : Str} (h : sc.names.lookup x = some .cell) : ∃ c, (cellsFrom n sc.names []).lookup x = some c := by
  have q := PySem.W.cellsFrom_some sc.names n [] (.inl h)
  exact Option.isSome_iff_exists.mp q

theorem inv_start {CX : CXT} {P : Program} {w : World} {K : PySem.W.Frag} {mg : Str → Option Value} {base : Heap} {N ps : List Str} {qual : Str} {scope : Scope} {f : Addr} {cd : Value} {A : Around} {outer : List Env} {s s1 : Shared} {H : Hp} {E : XK} {us : List Value} {vs : List V}
    (S : FnScope N ps scope) (hd : A.handled = none) (e0 : Env0 P w K mg base A outer s H) (hl : vs.length = ps.length) (r : Vals vs us)
    (x : InCallC s s.heap.objs.size (bindL (envOfC qual scope s.heap.objs.size f cd).kindOf (ps.zip us) fun _ => none) (cellsFrom (s.heap.objs.size + 1) scope.names []) (bindC (envOfC qual scope s.heap.objs.size f cd).kindOf (ps.zip us) fun _ => none) s1) :
    Inv (cxOf CX P w K mg base N qual scope f cd A outer s H E) [] (start N vs) H s1 := by
  have hpl : ps.length ≤ N.length := by have := congrArg List.length S.pre; rw [List.length_take] at this; omega
  obtain ⟨h1, tk, rfl, hk⟩ := x.done
  have noA : ∀ b : Addr, b ∉ (cxOf CX P w K mg base N qual scope f cd A outer s H E).ex := fun b z => absurd (show b ∈ ([] : List Addr) from z) (by simp)
  refine ⟨⟨e0.mod, S.kind, rfl, rfl, Nat.le_refl _, fun y z c h1 h2 => ?_, fun y hy => ?_, fun y c _ h => ?_, fun _ => hd, Around.frames_deeper e0.frames, .inr ⟨rfl, rfl⟩, fun b z => absurd z (noA b), e0.bs, e0.bsz, fun b _ _ => noA b, fun b z => absurd z (noA b), e0.funs, e0.frf⟩,
    rfl, e0.bare, Un.kept hk, ⟨_, x.toInCall.ns, fun i y v h1 h2 h3 => ?_⟩, fun y c h => ⟨_, x.cell y c h⟩, e0.hok.fresh (Nat.le_refl _), fun y c h => ?_, fun p hp => absurd (show p ∈ ([] : List (Addr × Obj)) from hp) (by simp), e0.hok.kept hk, ?_⟩
  · exact name_of_addr x.apart (PySem.mem_of_lookup h1) (PySem.mem_of_lookup h2)
  · have hy : scope.names.lookup y = some .cell ∨ scope.names.lookup y = some .free := hy
    rcases hy with hy | hy
    · exact cell_has hy
    · exact absurd rfl (S.nofree _ (PySem.mem_of_lookup hy))
  · exact Nat.le_of_lt (x.above y c (PySem.mem_of_lookup h))
  · have hi : i < vs.length := by
      unfold start at h2
      by_cases hi : i < vs.length
      · exact hi
      · rw [List.getElem?_append_right (by simpa using hi)] at h2
        rw [List.getElem?_replicate] at h2
        split at h2 <;> cases h2
    have ha : vs[i]? = some v := by
      unfold start at h2
      rw [List.getElem?_append_left (by simpa using hi), List.getElem?_map] at h2
      cases e : vs[i]? with
      | none => rw [e] at h2; cases h2
      | some a => rw [e] at h2; cases h2; rfl
    obtain ⟨u, hu, rv⟩ := r.get ha
    have hp : ps[i]? = some y := by
      rw [← S.pre, List.getElem?_take_of_lt (by omega)]; exact h1
    have ndP : ps.Nodup := by rw [← S.pre]; exact S.nd.sublist (List.take_sublist _ _)
    refine ⟨u, rv, ?_⟩
    rcases S.par y (List.mem_of_getElem? hp) with k | k
    · exact .inl ⟨k, bindL_get ndP hp hu k⟩
    · obtain ⟨c, e⟩ := cell_has (n := s.heap.objs.size + 1) k
      refine .inr ⟨.inl k, c, e, ?_⟩
      have q := x.cell y c e
      rw [bindC_get ndP hp hu (by show scope.names.lookup y ≠ _; rw [k]; decide)] at q
      exact q
  · exact e0.hok.fresh (Nat.le_of_lt (x.above y c (PySem.mem_of_lookup h)))
  · unfold start
    show _ = N.length
    rw [List.length_append, List.length_map, List.length_replicate]
    omega

theorem fn_of {CX : CXT} {P : Program} {w : World} {K : PySem.W.Frag} {mg : Str → Option Value} {base : Heap} {k : Nat} {f : Addr} {name qual : Str} {params : Arguments} {body : List Stmt} {scope : Scope} {dV kV doc pm cdv ct oc : Value} {an od : Option Addr}
    {osl : Array (Option Value)} {N ps : List Str} {sp : Sp} (lk : K.lookup f = some ⟨oc, od, .func (PySem.W.fnOf name qual params body scope dV kV doc pm an cdv ct), osl⟩) (hcd : PySem.W.codeIn K cdv qual = true) (S : FnScope N ps scope)
    (len : ∀ vs H Q E, sp vs H Q E → vs.length = ps.length)
    (hbody : ∀ (A : Around) (outer : List Env) (s : Shared) (H : Hp) (vs : List V) (Q : VK) (E : XK), Room k (A.deeper (envOfC qual scope s.heap.objs.size f cdv)) → sp vs H Q E →
      ∃ t, PSs (cxOf CX P w K mg base N qual scope f cdv A outer s H E) body t ∧ t { nx := fun _ H' => Q .non H', rt := Q } (start N vs) H) :
    FnOk P w K mg base CX (k + 1) f (PySem.W.fnOf name qual params body scope dV kV doc pm an cdv ct) ps sp := by
  refine ⟨len, fun A outer s H args us vs Q E hr e0 hb r hsp => ?_⟩
  have hl := len _ _ _ _ hsp
  have KX : K.In s.heap := e0.mod.kin.keeps fun b o e => (e0.bs b o e).1
  have lim : s.heap.NoLimit := e0.mod.nolimit.keeps fun b o e => (e0.bs b o e).1
  have hkind : ∀ y ∈ ps.zip us, scope.names.lookup y.1 = some .local ∨ (scope.names.lookup y.1 = some .cell ∧ ((cellsFrom (s.heap.objs.size + 1) scope.names []).lookup y.1).isSome = true) := fun ⟨n, v⟩ hy => by
    rcases S.par n (List.of_mem_zip hy).1 with q | q
    · exact .inl q
    · exact .inr ⟨q, PySem.W.cellsFrom_some _ _ _ (.inl q)⟩
  refine codeAny_call_function hr.depth (KX _ _ lk) rfl S.co S.gen rfl (PySem.W.codeRec_of KX hcd) (hb _ _ _ _ ?_)
  refine wpAny_newFunctionEnv_cells S.kind hkind fun env he s1 x => ?_
  subst he
  refine ⟨lim.keeps x.toInCall.keep, codeAny_func ?_⟩
  obtain ⟨t, ht, hq⟩ := hbody A outer s H vs Q E (hr.deeper _) hsp
  have I : Inv (cxOf CX P w K mg base N qual scope f cdv A outer s H E) [] (start N vs) H s1 := inv_start S hr.hd e0 hl r x
  refine wpAny_mono (ht [] s1 (start N vs) H _ I hq) (fun fl s' hs => ?_) fun e s' hs => hs
  have fin : ∀ {σ' : St} {H' : Hp} {v : V} {u : Value}, Inv (cxOf CX P w K mg base N qual scope f cdv A outer s H E) [] σ' H' s' → RelV v u → Q v H' → CE outer P w H s Q u s' :=
    fun {σ' H' v u} J rv q => ⟨v, H', J.os, J.bare, J.base, J.hok, rv, q⟩
  cases fl with
  | ret u =>
    obtain ⟨v, σ', H', J, rv, q⟩ := hs
    exact fin J rv q
  | next =>
    obtain ⟨σ', H', J, q⟩ := hs
    exact fin (v := V.non) (u := Value.none) J rfl q
  | brk =>
    obtain ⟨_, _, _, q⟩ := hs
    exact False.elim q
  | cont =>
    obtain ⟨_, _, _, q⟩ := hs
    exact False.elim q
end L2
namespace L2
open PySem PySem.Spec PyProof.Rows
section
variable {X : Cx} {x : Str} {p pos : Pos} {e : Expr} {es : List Expr} {t : TA} {id T : String} {r : List V → Hp → VK → Prop}
noncomputable def tCB (r : List V → Hp → VK → Prop) (t : TA) : TE := fun σ H Q => t σ H fun vs H1 => r vs H1 Q
theorem pe_callB (hc : CallR X (.builtin id) r) (hg : Gl X x) (hm : X.mg x = none) (hv : bootBuiltins x = some (.builtin id)) (ha : PA X (e :: es) t) (hn : x ≠ "__name__" := by decide) (hdb : (x == ("__debug__" : Str)) = false := by decide)
    (he : starEach (e :: es) X.env = (false, eval e X.env) :: starEach es X.env := by rfl) (hpl : (backTo pos (starEach es X.env)).any (·.1) = false := by rfl) : PE X (.Call (.Name x p) (e :: es) [] pos) (tCB r t) := by
  intro pins s σ H Q I h
  refine wpAny_Call_Name_kw (ld_blt I hg hm hv ?_ hn hdb)
  exact PyProof.Rows.callWith_builtin1 (thn (ha pos pins s σ H _ I h) fun us s1 ⟨vs, H1, I1, r1, q1⟩ => hc pins s1 σ H1 vs us Q I1 r1 q1) he hpl
theorem pe_callTy (hc : CallR X (.type T) r) (hg : Gl X x) (hm : X.mg x = none) (hv : bootBuiltins x = some (.type T)) (ha : PA X (e :: es) t) (hn : x ≠ "__name__" := by decide) (hdb : (x == ("__debug__" : Str)) = false := by decide)
    (he : starEach (e :: es) X.env = (false, eval e X.env) :: starEach es X.env := by rfl) (hpl : (backTo pos (starEach es X.env)).any (·.1) = false := by rfl) : PE X (.Call (.Name x p) (e :: es) [] pos) (tCB r t) := by
  intro pins s σ H Q I h
  refine wpAny_Call_Name_kw (ld_blt I hg hm hv ?_ hn hdb)
  exact PyProof.Rows.callWith_type1 (thn (ha pos pins s σ H _ I h) fun us s1 ⟨vs, H1, I1, r1, q1⟩ => hc pins s1 σ H1 vs us Q I1 r1 q1) he hpl
end
end L2
namespace HT
open PySem PyProof.Rows
section
open PySem.SeqAt
open PySem.AutoSeq1 (wpAny_loadPart')
open PySem.MeetsSeq PySem.MeetsSeq2 PySem.MeetsSeq3
end
section
variable {prog : Program} {w : World} {A : Around} {E : Value → Shared → Prop} {s : Shared}
theorem cat_tup {t b : Addr} {vs ws : List Value} {Q : Value → Shared → Prop} (ht : IsTup s.heap t vs.toArray) (hb : IsTup s.heap b ws.toArray) (hv : vs ≠ [])
    (h1 : ws = [] → Q (.ref t) s) (h2 : ws ≠ [] → Q (.ref s.heap.objs.size) { s with heap := s.heap.push { cls := .type "tuple", data := .seq (vs ++ ws).toArray } })
    (hsz : vs.length + ws.length ≤ sizeLine) : wpAny (model prog w) A (binaryOp .Add (.ref t) (.ref b)) Q E s := by
  obtain ⟨⟨cls, dd, data, sl⟩, ho, hc, n, hd⟩ := id ht
  obtain ⟨⟨cls2, dd2, data2, sl2⟩, ho2, hc2, n2, hd2⟩ := id hb
  simp only at hc hd hc2 hd2
  subst hc hd hc2 hd2
  have e : vs.toArray ++ ws.toArray = (vs ++ ws).toArray := by simp
  by_cases hw : ws = []
  · exact concat_meets ⟨_, ho, rfl⟩ ⟨_, ho2, rfl⟩ noFill_tuple_add seq_tuple_add PySem.F.slot_tuple_add PySem.F.entry_tuple_add (PySem.F.args_tuple_add_2 _ _)
      (tuple_addW1 t b vs.toArray ws.toArray n n2 dd dd2 sl sl2 (by simpa using hv) (by simp [hw])) ⟨ho, ho2, h1 hw⟩
  · refine concat_meets ⟨_, ho, rfl⟩ ⟨_, ho2, rfl⟩ noFill_tuple_add seq_tuple_add PySem.F.slot_tuple_add PySem.F.entry_tuple_add (PySem.F.args_tuple_add_2 _ _)
      (tuple_addW2 t b vs.toArray ws.toArray n n2 dd dd2 sl sl2 (by simpa using hv) (by simpa using hw) (by rw [List.size_toArray, List.size_toArray]; exact hsz)) ⟨ho, ho2, ?_⟩
    rw [e]
    exact h2 hw

noncomputable def sIx (n d : Nat) : Option Int → Nat
  | none => d
  | some v => if v < 0 then (v + (n : Int)).toNat else min v.toNat n
theorem sIx_none (n d : Nat) : sIx n d none = d := rfl
theorem sIx_nat (n d k : Nat) : sIx n d (some (k : Int)) = min k n := by
  show (if (k : Int) < 0 then ((k : Int) + (n : Int)).toNat else min (k : Int).toNat n) = min k n
  rw [if_neg (by omega), Int.toNat_natCast]
theorem sIx_le (n d : Nat) (hd : d ≤ n) (o : Option Int) : sIx n d o ≤ n := by
  cases o with
  | none => exact hd
  | some v =>
    show (if v < 0 then (v + (n : Int)).toNat else min v.toNat n) ≤ n
    by_cases hv : v < 0
    · rw [if_pos hv]; omega
    · rw [if_neg hv]; exact Nat.min_le_right _ _
theorem clip_eq (v : Int) (n d : Nat) : (if v < 0 then max (v + (n : Int)) 0 else min v (n : Int)) = ((sIx n d (some v) : Nat) : Int) := by
  show (if v < 0 then max (v + (n : Int)) 0 else min v (n : Int)) = (((if v < 0 then (v + (n : Int)).toNat else min v.toNat n) : Nat) : Int)
  by_cases hv : v < 0
  · simp only [if_pos hv]; omega
  · simp only [if_neg hv]; omega
theorem adjust_gen (lo hi : Option Int) (n : Nat) : Builtin.Slice.sliceAdjust lo hi 1 (n : Int) = (((sIx n 0 lo : Nat) : Int), ((sIx n n hi : Nat) : Int)) := by
  have h1 : ¬ ((1 : Int) < 0) := by omega
  unfold Builtin.Slice.sliceAdjust
  simp only [h1, if_false]
  refine Prod.ext ?_ ?_
  · cases lo with
    | none => rfl
    | some v => exact clip_eq v n 0
  · cases hi with
    | none => rfl
    | some v => exact clip_eq v n n
theorem places_gen (i j : Nat) : Builtin.Slice.slicePlaces (i : Int) (j : Int) 1 = j - i := by
  unfold Builtin.Slice.slicePlaces
  have h1 : (1 : Int) > 0 := by omega
  simp only [h1, if_true, Int.ediv_one]
  split <;> omega
theorem slicePart_ {v : Value} {o : Option Int} {Q : Option Int → Shared → Prop} (p : IsPart v o) (h : Q o s) : wpAny (model prog w) A (Builtin.Slice.slicePartIndex v) Q E s := by
  cases p with
  | none => exact slicePart_none h
  | int i t => exact slicePart_int h
theorem sliceApplied_gen {sl : Addr} {vl vu : Value} {lo hi : Option Int} {n : Nat} {Q : Int × Int × Nat → Shared → Prop} (hs : s.heap.IsSliceOf sl vl vu .none) (pl : IsPart vl lo) (pu : IsPart vu hi)
    (h : Q (((sIx n 0 lo : Nat) : Int), 1, sIx n n hi - sIx n 0 lo) s) : wpAny (model prog w) A (Builtin.Slice.sliceApplied (.ref sl) (pure (n : Int))) Q E s := by
  obtain ⟨os, hos, hcs, hds⟩ := id hs
  unfold Builtin.Slice.sliceApplied Builtin.Slice.sliceFields
  refine wpAny_bind (wpAny_bind (wpAny_field hos hds (x := vl) rfl (wpAny_bind (wpAny_field hos hds (x := vu) rfl (wpAny_bind (wpAny_field hos hds (x := .none) rfl (wpAny_pure ?_)))))))
  refine wpAny_bind (slicePart_none ?_)
  show wpAny _ _ (if ((1 : Int) == 0) = true then _ else _) _ _ s
  rw [if_neg (by decide)]
  refine wpAny_bind (slicePart_ pl (wpAny_bind (slicePart_ pu (wpAny_bind (wpAny_pure ?_)))))
  show wpAny _ _ (match Builtin.Slice.sliceAdjust lo hi 1 (n : Int) with | (lo, hi) => pure (lo, (1 : Int), Builtin.Slice.slicePlaces lo hi 1)) _ _ s
  rw [adjust_gen lo hi n]
  show wpAny _ _ (pure (((sIx n 0 lo : Nat) : Int), (1 : Int), Builtin.Slice.slicePlaces ((sIx n 0 lo : Nat) : Int) ((sIx n n hi : Nat) : Int) 1)) _ _ s
  rw [places_gen]
  exact wpAny_pure h
theorem pick_gen (xs : Array Value) (i k : Nat) : ((List.range k).filterMap fun (m : Nat) => xs[((i : Int) + (m : Int) * 1).toNat]?).toArray = ((xs.toList.drop i).take k).toArray := by
  have e : (fun (m : Nat) => xs[((i : Int) + (m : Int) * 1).toNat]?) = fun m => xs[i + m]? := by
    funext m
    have : ((i : Int) + (m : Int) * 1).toNat = i + m := by omega
    rw [this]
  rw [e]
  have := pick_run xs i k
  rw [List.filterMap_map] at this
  have e2 : ((fun x => xs[x]?) ∘ fun x => i + x) = fun m => xs[i + m]? := rfl
  rw [e2] at this
  rw [this]

theorem getItem_tuple_cut {t sl : Addr} {items : Array Value} {vl vu : Value} {lo hi : Option Int} {Q : Value → Shared → Prop} (ht : IsTup s.heap t items) (hs : s.heap.IsSliceOf sl vl vu .none) (pl : IsPart vl lo) (pu : IsPart vu hi)
    (hw : ¬ (sIx items.size 0 lo = 0 ∧ sIx items.size items.size hi = items.size))
    (h : Q (.ref s.heap.objs.size) { s with heap := s.heap.push { cls := .type "tuple", data := .seq ((items.toList.drop (sIx items.size 0 lo)).take (sIx items.size items.size hi - sIx items.size 0 lo)).toArray } })
    (hsz : items.size ≤ sizeLine) : wpAny (model prog w) A (getItem (.ref t) (.ref sl)) Q E s := by
  have htake : sizeOk (.seq ((items.toList.drop (sIx items.size 0 lo)).take (sIx items.size items.size hi - sIx items.size 0 lo)).toArray) := by
    show ((items.toList.drop (sIx items.size 0 lo)).take (sIx items.size items.size hi - sIx items.size 0 lo)).toArray.size ≤ sizeLine
    rw [List.size_toArray, List.length_take, List.length_drop, Array.length_toList]
    omega
  have hj : sIx items.size items.size hi ≤ items.size := sIx_le _ _ (Nat.le_refl _) hi
  obtain ⟨os, hos, hcs, hds⟩ := id hs
  have hTs : s.TypeIs (.ref sl) "slice" := ⟨os, hos, hcs⟩
  unfold getItem
  try with_reducible refine wpAny_holding ?_
  first | refine wpAny_bind (wpAny_pure ?_) | skip
  refine wpAny_bind (wpAny_sequenceKey ht.typeIs (by decide) ?_)
  refine wpAny_bind (wpAny_callSpecial?_slot (name := Str.ofString "__getitem__") ht.typeIs PyProof.Rows.slot_tuple_getitem
    (wpAny_call_entry PyProof.Rows.slot_tuple_getitem ht.typeIs entry_tuple_getitem ?_ (args_tuple_getitem _ _)))
  show wpAny _ _ (Builtin.Tuple.tupleItemsOf (.ref t) >>= _) _ _ s
  refine wpAny_bind (tupleItemsOf_ ht ?_)
  refine wpAny_bind (wpAny_typeOf hTs ?_)
  rw [if_pos (by decide)]
  refine wpAny_bind (sliceApplied_gen hs pl pu ?_)
  have hno : ¬ ((((sIx items.size 0 lo : Nat) : Int) == 0 && (1 : Int) == 1 && (sIx items.size items.size hi - sIx items.size 0 lo) == items.size) = true) := by
    intro q
    rw [Bool.and_eq_true, Bool.and_eq_true] at q
    have q1 : ((sIx items.size 0 lo : Nat) : Int) = 0 := eq_of_beq q.1.1
    have q2 : sIx items.size items.size hi - sIx items.size 0 lo = items.size := eq_of_beq q.2
    exact hw ⟨by omega, by omega⟩
  show wpAny _ _ (if (((sIx items.size 0 lo : Nat) : Int) == 0 && (1 : Int) == 1 && (sIx items.size items.size hi - sIx items.size 0 lo) == items.size) = true then _ else _) _ _ s
  rw [if_neg hno, pick_gen]
  first
    | exact wpAny_bind (m := Builtin.Tuple.tupleExact _) (wpAny_newObj_type (wpAny_pure ⟨_, rfl, wpAny_pure h⟩) htake)
    | exact wpAny_bind (m := Builtin.Tuple.tupleExact _) (wpAny_newObj_type (wpAny_bind (wpAny_pure (wpAny_pure ⟨_, rfl, wpAny_pure h⟩))) htake)
    | exact wpAny_bind (wpAny_bind (m := Builtin.Tuple.tupleExact _) (wpAny_newObj_type (wpAny_pure (wpAny_pure ⟨_, rfl, wpAny_pure h⟩)) htake))
    | exact wpAny_bind (wpAny_bind (m := Builtin.Tuple.tupleExact _) (wpAny_newObj_type (wpAny_pure ⟨_, rfl, wpAny_pure h⟩) htake))
end
end HT
namespace L2
open PySem PySem.Spec PyProof.Rows
noncomputable abbrev TO := St → Hp → (Option Int → Hp → Prop) → Prop
noncomputable def PO (X : Cx) (e : Option Expr) (t : TO) : Prop :=
  ∀ (pins : List (Addr × Obj)) (s : Shared) (σ : St) (H : Hp) (Q : Option Int → Hp → Prop), Inv X pins σ H s → t σ H Q →
    wpAny (model X.prog X.w) X.A (evalPart e X.env) (fun u s' => ∃ o H', Inv X pins σ H' s' ∧ IsPart u o ∧ Q o H') X.xe s
@[irreducible] noncomputable def ZO (X : Cx) (e : Option Expr) (t : TO) : Prop := PO X e t
noncomputable def tNoPart : TO := fun _ H Q => Q none H
noncomputable def tPart (t : TE) : TO := fun σ H Q => t σ H fun x H1 => ∃ i, x = .int i ∧ Q (some i) H1

theorem intsAre_of {ns : List Int} : ∀ {us : List Value}, Vals (ns.map V.int) us → IntsAre us ns := by
  induction ns with
  | nil => intro us r; rw [List.map_nil] at r; cases r; exact .nil
  | cons n ns ih =>
    intro us r
    rw [List.map_cons] at r
    cases r with
    | cons r1 r2 =>
      obtain ⟨t, e⟩ := r1
      subst e
      exact .cons n t (ih r2)

section
variable {X : Cx} {e : Expr} {te : TE} {lo hi : Option Expr} {tl th : TO} {pos p2 : Pos}
theorem po_none : PO X none tNoPart := by
  intro pins s σ H Q I h
  rw [evalPart_none]
  exact wpAny_pure ⟨none, H, I, .none, h⟩
theorem zo_none : ZO X none tNoPart := by with_unfolding_all exact po_none 
theorem po_some (h : PE X e te) : PO X (some e) (tPart te) := by
  intro pins s σ H Q I hw
  rw [evalPart_some]
  refine thn (h pins s σ H _ I hw) fun u s1 ⟨x, H1, I1, r1, q1⟩ => ?_
  obtain ⟨i, rfl, q⟩ := q1
  obtain ⟨t, rfl⟩ := r1
  exact ⟨some i, H1, I1, .int i t, q⟩
theorem zo_some (h : ZE X e te) : ZO X (some e) (tPart te) := by with_unfolding_all exact po_some h

noncomputable def SlR (X : Cx) (r : V → Option Int → Option Int → Hp → VK → Prop) : Prop :=
  ∀ (pins : List (Addr × Obj)) (s : Shared) (σ : St) (H : Hp) (x : V) (v vl vu : Value) (lo hi : Option Int) (sl : Addr) (Q : VK), Inv X pins σ H s → RelV x v → s.heap.IsSliceOf sl vl vu .none → IsPart vl lo → IsPart vu hi → r x lo hi H Q →
    ∃ T id, typeLookup (.type T) "__getitem__" = pure (some (.builtin id)) ∧ s.TypeIs v T ∧ wpAny (model X.prog X.w) X.A (getItem v (.ref sl)) (EP X pins σ Q) X.xe s
noncomputable def tSl (r : V → Option Int → Option Int → Hp → VK → Prop) (te : TE) (tl th : TO) : TE := fun σ H Q => te σ H fun x H1 => tl σ H1 fun l H2 => th σ H2 fun u H3 => r x l u H3 Q
theorem pe_slice {r : V → Option Int → Option Int → Hp → VK → Prop} (hr : SlR X r) (he : PE X e te) (hl : PO X lo tl) (hu : PO X hi th) : PE X (.Subscript e (.Slice lo hi none p2) pos) (tSl r te tl th) := by
  intro pins s σ H Q I h
  refine Subscript_ (thn (he pins s σ H _ I h) fun v s1 ⟨x, H1, I1, r1, q1⟩ => ?_)
  refine wpAny_Slice (thn (hl pins s1 σ H1 _ I1 q1) fun vl s2 ⟨l, H2, I2, pl, q2⟩ => thn (hu pins s2 σ H2 _ I2 q2) fun vu s3 ⟨u, H3, I3, pu, q3⟩ => ?_)
  rw [evalPart_none]
  refine wpAny_pure ?_
  have I4 : Inv X pins σ H3 { s3 with heap := s3.heap.push { cls := .type "slice", data := .fields #[vl, vu, .none] } } := I3.kept (t' := s3.toks) fun b ob q => Heap.get?_push_of_some _ q
  obtain ⟨T, id, hT, ht, hg⟩ := hr pins { s3 with heap := s3.heap.push { cls := .type "slice", data := .fields #[vl, vu, .none] } } σ H3 x v vl vu l u s3.heap.objs.size Q I4 r1 (Heap.IsSliceOf.new ..) pl pu q3
  show wpAny (model X.prog X.w) X.A (subscriptTail e (.Slice lo hi none p2) v (.ref s3.heap.objs.size)) (EP X pins σ Q) X.xe { s3 with heap := s3.heap.push { cls := .type "slice", data := .fields #[vl, vu, .none] } }
  exact tail_any (ops := [.ref s3.heap.objs.size, v]) ht hT hg (by with_unfolding_all rfl)
theorem ze_slice {r : V → Option Int → Option Int → Hp → VK → Prop} (hr : SlR X r) (he : ZE X e te) (hl : ZO X lo tl) (hu : ZO X hi th) : ZE X (.Subscript e (.Slice lo hi none p2) pos) (tSl r te tl th) := by with_unfolding_all exact pe_slice hr he hl hu

noncomputable def cutV (xs : List V) (lo hi : Option Int) : List V := (xs.drop (HT.sIx xs.length 0 lo)).take (HT.sIx xs.length xs.length hi - HT.sIx xs.length 0 lo)
theorem cutV_length (xs : List V) (lo hi : Option Int) : (cutV xs lo hi).length ≤ xs.length := by
  unfold cutV
  rw [List.length_take, List.length_drop]
  omega
noncomputable def rSlT (K : PySem.W.Frag) : V → Option Int → Option Int → Hp → VK → Prop := fun x lo hi H Q => ∃ a xs, x = .ref a ∧ SqT K H a xs ∧
  ¬ (HT.sIx xs.length 0 lo = 0 ∧ HT.sIx xs.length xs.length hi = xs.length) ∧ ∀ p, H p = none → Q (.ref p) (upd H p (.tup (cutV xs lo hi)))
theorem sl_tup : SlR X (rSlT X.K) := by
  intro pins s σ H x v vl vu lo hi sl Q I rx hs pl pu h
  obtain ⟨a, xs, rfl, hx, hw, q⟩ := h
  cases rx
  obtain ⟨its, r, ht, hz⟩ := I.tuple hx
  have hlen : its.toArray.size = xs.length := by rw [List.size_toArray]; exact r.length.symm
  refine ⟨"tuple", _, PyProof.Rows.slot_tuple_getitem.lookup, ht.typeIs, ?_⟩
  refine HT.getItem_tuple_cut ht hs pl pu (by rw [hlen]; exact hw) ?_ (by rw [hlen]; exact hz)
  rw [hlen]
  refine ⟨.ref s.heap.objs.size, _, I.laid (t' := s.toks) (o := .tup (cutV xs lo hi)) (fun b ob q => Heap.get?_push_of_some _ q) (Nat.le_refl _) ?_, rfl, q _ (I.hok.fresh (Nat.le_refl _))⟩
  exact ⟨Nat.le_trans (cutV_length xs lo hi) hz, _, (r.drop (HT.sIx xs.length 0 lo)).take (HT.sIx xs.length xs.length hi - HT.sIx xs.length 0 lo), TupD.new _ _⟩

noncomputable def rCatT (K : PySem.W.Frag) : R2 := fun x y H Q => ∃ a b xs ys, x = .ref a ∧ y = .ref b ∧ SqT K H a xs ∧ SqT K H b ys ∧ xs ≠ [] ∧ xs.length + ys.length ≤ sizeLine ∧
  (ys = [] → Q (.ref a) H) ∧ (ys ≠ [] → ∀ p, H p = none → Q (.ref p) (upd H p (.tup (xs ++ ys))))
theorem Vals.nil_iff {xs : List V} {us : List Value} (r : Vals xs us) : us = [] ↔ xs = [] := by
  cases r with
  | nil => simp
  | cons _ _ => simp
theorem op_catT : OpR X (binaryOp .Add) (rCatT X.K) := by
  intro pins s σ H x y v u Q I rx ry h
  obtain ⟨a, b, xs, ys, rfl, rfl, ha, hb, hx, hz, q1, q2⟩ := h
  cases rx
  cases ry
  obtain ⟨its, r1, p1, _⟩ := I.tuple ha
  obtain ⟨its2, r2, p2, _⟩ := I.tuple hb
  refine HT.cat_tup p1 p2 (fun z => hx (r1.nil_iff.mp z)) (fun z => ⟨.ref a, H, I, rfl, q1 (r2.nil_iff.mp z)⟩) (fun z => ?_) (by rw [← r1.length, ← r2.length]; exact hz)
  refine ⟨.ref s.heap.objs.size, _, I.laid (t' := s.toks) (o := .tup (xs ++ ys)) (fun b ob q => Heap.get?_push_of_some _ q) (Nat.le_refl _) ?_, rfl, q2 (fun w => z (r2.nil_iff.mpr w)) _ (I.hok.fresh (Nat.le_refl _))⟩
  exact ⟨by rw [List.length_append]; exact hz, _, r1.append r2, TupD.new _ _⟩
end
end L2
namespace L2
open PySem PySem.Spec PyProof.Rows
noncomputable def ixN (n : Nat) (i : Int) : Option Nat := if 0 ≤ i then (if i < n then some i.toNat else none) else if -(n : Int) ≤ i then some (i + n).toNat else none
noncomputable def atI {α : Type} (xs : List α) (i : Int) : Option α := (ixN xs.length i).bind fun j => xs[j]?
theorem ixN_seq {n : Nat} {i : Int} {j : Nat} (h : ixN n i = some j) : seqIndex? i n = some j ∧ j < n ∧ -(n : Int) ≤ i ∧ i < n := by
  unfold ixN at h
  by_cases h0 : 0 ≤ i
  · rw [if_pos h0] at h
    by_cases h1 : i < n
    · rw [if_pos h1] at h
      have e : i.toNat = j := Option.some.inj h
      exact ⟨by rw [seqIndex_of h0 h1, e], by omega, by omega, h1⟩
    · rw [if_neg h1] at h; cases h
  · rw [if_neg h0] at h
    by_cases h1 : -(n : Int) ≤ i
    · rw [if_pos h1] at h
      have e : (i + n).toNat = j := Option.some.inj h
      exact ⟨by rw [seqIndex_neg (by omega) h1, e], by omega, h1, by omega⟩
    · rw [if_neg h1] at h; cases h
theorem atI_get {α : Type} {xs : List α} {i : Int} {v : α} (h : atI xs i = some v) : ∃ j, seqIndex? i xs.length = some j ∧ xs[j]? = some v ∧ j < xs.length ∧ -(xs.length : Int) ≤ i ∧ i < xs.length := by
  unfold atI at h
  cases e : ixN xs.length i with
  | none => rw [e] at h; cases h
  | some j =>
    rw [e] at h
    obtain ⟨h1, h2, h3, h4⟩ := ixN_seq e
    exact ⟨j, h1, h, h2, h3, h4⟩
theorem atI_nat {α : Type} {xs : List α} {j : Nat} {v : α} (h : xs[j]? = some v) : atI xs (j : Int) = some v := by
  have hj : j < xs.length := (List.getElem?_eq_some_iff.mp h).1
  have e : ixN xs.length (j : Int) = some j := by
    unfold ixN
    rw [if_pos (by omega), if_pos (by omega)]; simp
  unfold atI; rw [e]; exact h
theorem atI_last {α : Type} (xs : List α) (v : α) : atI (xs ++ [v]) (-1) = some v := by
  have hl : (xs ++ [v]).length = xs.length + 1 := by simp
  have e : ixN (xs ++ [v]).length (-1) = some xs.length := by
    unfold ixN
    rw [hl, if_neg (by decide), if_pos (by omega)]
    congr 1
    omega
  unfold atI
  rw [e]
  show (xs ++ [v])[xs.length]? = some v
  simp

noncomputable def PlainIx (b : Expr) : Prop := ∀ o i, subscripted b false o i = operate [o, i] (getItem o i)
noncomputable def IxR (X : Cx) (r : R2) : Prop :=
  ∀ (value slice : Expr) (pins : List (Addr × Obj)) (s : Shared) (σ : St) (H : Hp) (x y : V) (v u : Value) (Q : VK), Inv X pins σ H s → RelV x v → RelV y u → r x y H Q →
    subscripted slice false v u = operate [v, u] (getItem v u) → wpAny (model X.prog X.w) X.A (subscriptTail value slice v u) (EP X pins σ Q) X.xe s
noncomputable def MtR (X : Cx) (id : String) (r : V → List V → Hp → VK → Prop) : Prop :=
  ∀ (pins : List (Addr × Obj)) (s : Shared) (σ : St) (H : Hp) (x : V) (xs : List V) (v : Value) (us : List Value) (Q : VK), Inv X pins σ H s → RelV x v → Vals xs us → r x xs H Q →
    wpAny (model X.prog X.w) X.A (call (.builtin id) (v :: us)) (EP X pins σ Q) X.xe s
section
variable {X : Cx} {a b : Expr} {ta tb : TE} {pos : Pos}
theorem pe_ix {r : R2} (hr : IxR X r) (ha : PE X a ta) (hb : PE X b tb) (hs : PlainIx b) : PE X (.Subscript a b pos) (tOp r ta tb) := by
  intro pins s σ H Q I h
  exact Subscript_ (binT ha hb I h fun v u s2 x y H2 I2 rx ry q => hr a b pins s2 σ H2 x y v u Q I2 rx ry q (hs _ _))
theorem ze_ix {r : R2} (hr : IxR X r) (ha : ZE X a ta) (hb : ZE X b tb) (hs : PlainIx b) : ZE X (.Subscript a b pos) (tOp r ta tb) := by with_unfolding_all exact pe_ix hr ha hb hs

noncomputable def rIxL (K : PySem.W.Frag) : R2 := fun x y H Q => ∃ p xs i v, x = .ref p ∧ y = .int i ∧ SqL K H p xs ∧ atI xs i = some v ∧ Q v H
noncomputable def rIxT (K : PySem.W.Frag) : R2 := fun x y H Q => ∃ p xs i v, x = .ref p ∧ y = .int i ∧ SqT K H p xs ∧ atI xs i = some v ∧ Q v H
theorem ix_list : IxR X (rIxL X.K) := by
  intro value slice pins s σ H x y v u Q I rx ry h hs
  obtain ⟨p, xs, i, z, rfl, rfl, hq, he, q⟩ := h
  cases rx
  obtain ⟨t, rfl⟩ := ry
  obtain ⟨its, r, pl, hz⟩ := I.list hq
  obtain ⟨j, h1, h2, h3, h4, h5⟩ := atI_get he
  obtain ⟨w, ew, rw'⟩ := r.get h2
  have hl := r.length
  have hn := line63
  have fin : EP X pins σ Q w s := ⟨z, H, I, rw', q⟩
  by_cases h0 : 0 ≤ i
  · have hj : i.toNat = j := by
      rw [seqIndex_of h0 h5] at h1
      exact Option.some.inj h1
    exact item_listR pl.isList h0 (by omega) (by rw [hj]; simpa using ew) fin hs
  · have hj : (i + (its.toArray.size : Int)).toNat = j := by
      rw [seqIndex_neg (by omega) h4] at h1
      rw [List.size_toArray, ← hl]
      exact Option.some.inj h1
    exact subscriptTail_builtinR (x := w) pl.isList.typeIs slot_list_getitem.lookup
      (wpAny_getItem_list_neg (Q := fun r s' => r = w ∧ EP X pins σ Q r s') pl.isList (by omega) (by rw [List.size_toArray] <;> omega) (by omega) (by rw [hj]; simpa using ew) ⟨rfl, fin⟩) hs
theorem ix_tup : IxR X (rIxT X.K) := by
  intro value slice pins s σ H x y v u Q I rx ry h hs
  obtain ⟨p, xs, i, z, rfl, rfl, hq, he, q⟩ := h
  cases rx
  obtain ⟨t, rfl⟩ := ry
  obtain ⟨its, r, pl, hz⟩ := I.tuple hq
  obtain ⟨j, h1, h2, h3, h4, h5⟩ := atI_get he
  obtain ⟨w, ew, rw'⟩ := r.get h2
  have hl := r.length
  have hn := line63
  have fin : EP X pins σ Q w s := ⟨z, H, I, rw', q⟩
  exact subscriptTail_builtinR (x := w) pl.typeIs slot_tuple_getitem.lookup
    (getItem_tuple (j := j) (Q := fun r s' => r = w ∧ EP X pins σ Q r s') pl (by omega) (by omega) (by rw [List.size_toArray, ← hl]; exact h1) (by simpa using ew) ⟨rfl, fin⟩) hs
theorem mapSeq_set (its : List Value) (n j : Nat) (u : Value) : Obj.mapSeq (·.setIfInBounds j u) { cls := .type "list", data := .seq its.toArray n } = { cls := .type "list", data := .seq (its.set j u).toArray n } := by
  simp [Obj.mapSeq]
theorem Inv.lst {pins : List (Addr × Obj)} {σ : St} {H : Hp} {s : Shared} {p : Addr} {xs : List V} (I : Inv X pins σ H s) (h : H p = some (.lst xs)) :
    ∃ (its : List Value) (n : Nat), Vals xs its ∧ s.heap.get? p = some { cls := .type "list", data := .seq its.toArray n } ∧ xs.length ≤ sizeLine := by
  obtain ⟨z, its, n, r, e⟩ := I.hok p _ h
  exact ⟨its, n, r, e, z⟩
theorem Inv.lstUpd {pins : List (Addr × Obj)} {σ : St} {H : Hp} {s : Shared} {p : Addr} {xs ys : List V} {its its' : List Value} {n n' : Nat} {f : Obj → Obj} (I : Inv X pins σ H s) (h : H p = some (.lst xs))
    (ho : s.heap.get? p = some { cls := .type "list", data := .seq its.toArray n }) (hf : f { cls := .type "list", data := .seq its.toArray n } = { cls := .type "list", data := .seq its'.toArray n' }) (r : Vals ys its') (hz : ys.length ≤ sizeLine) (t : Nat) :
    Inv X pins σ (upd H p (.lst ys)) { s with heap := s.heap.update p f, toks := t } := by
  have e : (s.heap.update p f).get? p = some { cls := .type "list", data := .seq its'.toArray n' } := by
    rw [Heap.get?_update_self f ho (by rw [hf] <;> rfl), hf]
  refine I.write (x := p) (e := p) (by rw [h]; trivial) (.inl rfl) (fun b u hb q => (Heap.get?_update_other _ _ (Ne.symm hb)).trans q) ⟨_, e⟩ ?_
  exact ⟨hz, its', n', r, e⟩
noncomputable def rSetL : V → V → V → Hp → (Hp → Prop) → Prop := fun o i v H Q => ∃ p xs k j, o = .ref p ∧ i = .int k ∧ H p = some (.lst xs) ∧ ixN xs.length k = some j ∧ Q (upd H p (.lst (xs.set j v)))
theorem set_list : PSet X rSetL := by
  intro pins s σ H o i v ov iv u Q I ro ri rv h
  obtain ⟨p, xs, k, j, rfl, rfl, hp, hj, q⟩ := h
  cases ro
  obtain ⟨t, rfl⟩ := ri
  obtain ⟨its, n, r, ho, hz⟩ := I.lst hp
  obtain ⟨h1, h2, h3, h4⟩ := ixN_seq hj
  have hl := r.length
  have hn := line63
  have I' : Inv X pins σ (upd H p (.lst (xs.set j v))) { s with heap := s.heap.update p (Obj.mapSeq (·.setIfInBounds j u)) } :=
    I.lstUpd hp ho (mapSeq_set its n j u) (r.set rv j) (by rw [List.length_set]; exact hz) s.toks
  by_cases h0 : 0 ≤ k
  · have hk : k.toNat = j := by
      rw [seqIndex_of h0 h4] at h1
      exact Option.some.inj h1
    exact PySem.W.ki_setAt ho h0 (by omega) (by rw [List.size_toArray, ← hl]; exact h4) (by rw [hk]; exact ⟨_, I', q⟩)
  · have hk : (k + (its.toArray.size : Int)).toNat = j := by
      rw [seqIndex_neg (by omega) h3] at h1
      rw [List.size_toArray, ← hl]
      exact Option.some.inj h1
    exact PySem.W.ki_setBack ho (by omega) (by rw [List.size_toArray, ← hl]; exact h3) (by omega) (by rw [hk]; exact ⟨_, I', q⟩)

theorem slice_bounds (lo hi : Option Int) (n : Nat) : (sliceBounds lo hi none n).1 = ((HT.sIx n 0 lo : Nat) : Int) ∧ (sliceBounds lo hi none n).2.1 = ((HT.sIx n n hi : Nat) : Int) ∧ (sliceBounds lo hi none n).2.2 = 1 := by
  refine ⟨?_, ?_, rfl⟩
  · cases lo with
    | none => simp [sliceBounds, HT.sIx]
    | some i =>
      simp only [sliceBounds, HT.sIx, Option.getD_none, show (1 : Int) > 0 by decide, if_true]
      by_cases h : i < 0
      · simp only [h, if_true] <;> omega
      · simp only [h, if_false] <;> omega
  · cases hi with
    | none => simp [sliceBounds, HT.sIx]
    | some i =>
      simp only [sliceBounds, HT.sIx, Option.getD_none, show (1 : Int) > 0 by decide, if_true]
      by_cases h : i < 0
      · simp only [h, if_true] <;> omega
      · simp only [h, if_false] <;> omega
theorem slicePick_cut (its : List Value) (lo hi : Option Int) : slicePick its.toArray lo hi none = ((its.drop (HT.sIx its.length 0 lo)).take (HT.sIx its.length its.length hi - HT.sIx its.length 0 lo)).toArray := by
  obtain ⟨h1, h2, h3⟩ := slice_bounds lo hi its.toArray.size
  unfold slicePick
  rw [h1, h2, h3]
  simp only [sliceRange_one, pick_run, List.size_toArray] <;> rfl
noncomputable def rSlL (K : PySem.W.Frag) : V → Option Int → Option Int → Hp → VK → Prop := fun x lo hi H Q => ∃ a xs, x = .ref a ∧ SqL K H a xs ∧ ∀ p, H p = none → Q (.ref p) (upd H p (.lst (cutV xs lo hi)))
theorem sl_list : SlR X (rSlL X.K) := by
  intro pins s σ H x v vl vu lo hi sl Q I rx hs pl pu h
  obtain ⟨a, xs, rfl, hx, q⟩ := h
  cases rx
  obtain ⟨its, r, ht, hz⟩ := I.list hx
  have hlen := r.length
  refine ⟨"list", _, slot_list_getitem.lookup, ht.isList.typeIs, ?_⟩
  refine wpAny_getItem_list_slice ht.isList hs pl pu .none (by simp) ?_ (by rw [List.size_toArray] <;> omega)
  rw [slicePick_cut, ← hlen]
  refine ⟨.ref s.heap.objs.size, _, I.laid (t' := s.toks) (o := .lst (cutV xs lo hi)) (fun b ob q => Heap.get?_push_of_some _ q) (Nat.le_refl _) ?_, rfl, q _ (I.hok.fresh (Nat.le_refl _))⟩
  exact ⟨Nat.le_trans (cutV_length xs lo hi) hz, _, 0, (r.drop (HT.sIx xs.length 0 lo)).take (HT.sIx xs.length xs.length hi - HT.sIx xs.length 0 lo), Heap.get?_push_size _ rfl⟩

noncomputable def flatV : V → Bool
  | .non => true
  | .bl _ => true
  | .int _ => true
  | .str _ => true
  | _ => false
noncomputable def eqV : V → V → Bool
  | .non, .non => true
  | .bl a, .bl b => a == b
  | .bl a, .int b => (if a then 1 else 0) == b
  | .int a, .bl b => a == (if b then 1 else 0)
  | .int a, .int b => a == b
  | .str a, .str b => a == b
  | _, _ => false
theorem eqAt_V {A : Around} {s : Shared} {y x : V} {u v : Value} (ry : RelV y u) (rx : RelV x v) (fy : flatV y = true) (fx : flatV x = true) : SeqAt.EqAt A s u v (eqV y x) := by
  cases y with
  | non =>
    cases ry
    cases x with
    | non => cases rx; exact SeqAt.EqAt.same _
    | bl b => cases rx; exact SeqAt.EqAt.none_bool b
    | int b => obtain ⟨t, rfl⟩ := rx; exact SeqAt.EqAt.none_int b t
    | str b => obtain ⟨t, rfl⟩ := rx; exact SeqAt.EqAt.none_str b t
    | _ => exact absurd (show false = true from fx) Bool.false_ne_true
  | bl a =>
    cases ry
    cases x with
    | non => cases rx; exact SeqAt.EqAt.bool_none a
    | bl b => cases rx; exact SeqAt.EqAt.bool_bool a b
    | int b => obtain ⟨t, rfl⟩ := rx; exact SeqAt.EqAt.bool_int a b t
    | str b => obtain ⟨t, rfl⟩ := rx; exact SeqAt.EqAt.bool_str a b t
    | _ => exact absurd (show false = true from fx) Bool.false_ne_true
  | int a =>
    obtain ⟨t', rfl⟩ := ry
    cases x with
    | non => cases rx; exact SeqAt.EqAt.int_none a t'
    | bl b => cases rx; exact SeqAt.EqAt.int_bool a t' b
    | int b => obtain ⟨t, rfl⟩ := rx; exact SeqAt.EqAt.int_int a t' b t
    | str b => obtain ⟨t, rfl⟩ := rx; exact SeqAt.EqAt.int_str a t' b t
    | _ => exact absurd (show false = true from fx) Bool.false_ne_true
  | str a =>
    obtain ⟨t', rfl⟩ := ry
    cases x with
    | non => cases rx; exact SeqAt.EqAt.str_none a t'
    | bl b => cases rx; exact SeqAt.EqAt.str_bool a t' b
    | int b => obtain ⟨t, rfl⟩ := rx; exact SeqAt.EqAt.str_int a t' b t
    | str b => obtain ⟨t, rfl⟩ := rx; exact SeqAt.EqAt.str_str a t' b t
    | _ => exact absurd (show false = true from fx) Bool.false_ne_true
  | _ => exact absurd (show false = true from fy) Bool.false_ne_true
noncomputable def eqU (x : V) (u : Value) : Bool := match u with
  | .none => eqV .non x
  | .bool b => eqV (.bl b) x
  | .int i _ => eqV (.int i) x
  | .str z _ => eqV (.str z) x
  | _ => false
theorem eqU_of {x y : V} {u : Value} (r : RelV y u) (f : flatV y = true) : eqU x u = eqV y x := by
  cases y with
  | non => cases r; rfl
  | bl b => cases r; rfl
  | int i => obtain ⟨t, rfl⟩ := r; rfl
  | str z => obtain ⟨t, rfl⟩ := r; rfl
  | _ => exact absurd (show false = true from f) Bool.false_ne_true
theorem any_eqU {x : V} : ∀ {xs : List V} {us : List Value}, Vals xs us → xs.all flatV = true → us.any (eqU x) = xs.any fun y => eqV y x
  | _, _, .nil, _ => rfl
  | y :: xs, u :: us, .cons r t, f => by
    rw [List.all_cons, Bool.and_eq_true] at f
    rw [List.any_cons, List.any_cons, eqU_of r f.1, any_eqU t f.2]
theorem mem_eqAt {A : Around} {s : Shared} {x : V} {v : Value} (rx : RelV x v) (fx : flatV x = true) : ∀ {xs : List V} {us : List Value}, Vals xs us → xs.all flatV = true → ∀ u ∈ us, SeqAt.EqAt A s u v (eqU x u)
  | _, _, .nil, _ => fun u hu => by cases hu
  | y :: xs, u :: us, .cons r t, f => fun u' hu => by
    rw [List.all_cons, Bool.and_eq_true] at f
    rcases List.mem_cons.mp hu with rfl | hu
    · rw [eqU_of r f.1]; exact eqAt_V r rx f.1 fx
    · exact mem_eqAt rx fx t f.2 u' hu
noncomputable def inV (x : V) (xs : List V) : Bool := xs.any fun y => eqV y x
noncomputable def rIn (K : PySem.W.Frag) (neg : Bool) : R2 := fun x y H Q => ∃ p xs, y = .ref p ∧ (SqL K H p xs ∨ SqT K H p xs) ∧ flatV x = true ∧ xs.all flatV = true ∧ Q (.bl (if neg then !inV x xs else inV x xs)) H
theorem op_in_seq : OpR X (compareOp .In) (rIn X.K false) := by
  intro pins s σ H x y v u Q I rx ry h
  obtain ⟨p, xs, rfl, hq, fx, fs, q⟩ := h
  cases ry
  rcases hq with hq | hq
  · obtain ⟨its, r, pl, hz⟩ := I.list hq
    refine SeqAt.in_listAt (eqU x) pl.isList (fun w hw => mem_eqAt rx fx r fs w (by simpa using hw)) ⟨.bl _, H, I, rfl, ?_⟩
    rw [show its.toArray.any (eqU x) = its.any (eqU x) by simp, any_eqU r fs]
    exact q
  · obtain ⟨its, r, pl, hz⟩ := I.tuple hq
    refine SeqAt.in_tupleAt (eqU x) pl (fun w hw => mem_eqAt rx fx r fs w (by simpa using hw)) ⟨.bl _, H, I, rfl, ?_⟩
    rw [show its.toArray.any (eqU x) = its.any (eqU x) by simp, any_eqU r fs]
    exact q
theorem call_len_seq : CallR X (.builtin "len") (fun xs H Q => ∃ p ys, xs = [.ref p] ∧ (SqL X.K H p ys ∨ SqT X.K H p ys) ∧ Q (.int ys.length) H) := by
  intro pins s σ H xs us Q I r h
  obtain ⟨p, ys, rfl, hq, q⟩ := h
  obtain ⟨u, rfl, rx⟩ := vals1 r
  cases rx
  have hn := line63
  rcases hq with hq | hq
  · obtain ⟨its, r', pl, hz⟩ := I.list hq
    have hlen := r'.length
    exact Calls.call_len_list pl.isList (by simp only [List.size_toArray] <;> omega) ⟨.int ys.length, H, I.tok _, ⟨s.toks + 1, by rw [List.size_toArray, hlen]⟩, q⟩
  · obtain ⟨its, r', pl, hz⟩ := I.tuple hq
    have hlen := r'.length
    exact len_tuple pl (by simp only [List.size_toArray] <;> omega) ⟨.int ys.length, H, I.tok _, ⟨s.toks + 1, by rw [List.size_toArray, hlen]⟩, q⟩
theorem call_tuple_of : CallR X (.type "tuple") (fun xs H Q => ∃ p ys, xs = [.ref p] ∧ ((SqL X.K H p ys ∧ ∀ l, H l = none → Q (.ref l) (upd H l (.tup ys))) ∨ (SqT X.K H p ys ∧ Q (.ref p) H))) := by
  intro pins s σ H xs us Q I r h
  obtain ⟨p, ys, rfl, h⟩ := h
  obtain ⟨u, rfl, rx⟩ := vals1 r
  cases rx
  rcases h with ⟨hq, q⟩ | ⟨hq, q⟩
  · obtain ⟨its, r', pl, hz⟩ := I.list hq
    have hlen := r'.length
    refine call_tuple_list pl.isList (fun h' kp => ?_) (by simp only [List.size_toArray] <;> omega)
    have I1 : Inv X pins σ H { s with heap := h' } := I.kept (t' := s.toks) kp
    have I2 : Inv X pins σ (upd H h'.objs.size (.tup ys)) { s with heap := h'.push { cls := .type "tuple", data := .seq its.toArray } } :=
      I1.laid (t' := s.toks) (fun b o e => Heap.get?_push_of_some _ e) (Nat.le_refl _) (show ObjOk X.prog X.w _ _ _ (.tup ys) from ⟨hz, its, r', TupD.new _ _⟩)
    exact ⟨.ref h'.objs.size, _, I2, rfl, q _ (I1.hok.fresh (Nat.le_refl _))⟩
  · obtain ⟨its, r', pl, hz⟩ := I.tuple hq
    exact call_tuple_same pl ⟨.ref p, H, I, rfl, q⟩

noncomputable def tyV (K : PySem.W.Frag) (T : String) (x : V) (H : Hp) : Prop := match x with
  | .str _ => T = "str"
  | .int _ => T = "int"
  | .ref p => (T = "list" ∧ ∃ xs, SqL K H p xs) ∨ (T = "tuple" ∧ ∃ o, K.lookup p = some o ∧ o.cls = .type "tuple" ∧ o.dict = none) ∨
      (T = "dict" ∧ ((∃ kvs, H p = some (.dK kvs)) ∨ ∃ kvs, H p = some (.dT kvs))) ∨ (T = "set" ∧ ∃ S n, H p = some (.set S n)) ∨ (T = "tuple" ∧ ∃ xs, H p = some (.tup xs))
  | _ => False
theorem tyV_is {pins : List (Addr × Obj)} {σ : St} {H : Hp} {s : Shared} {T : String} {x : V} {v : Value} (I : Inv X pins σ H s) (r : RelV x v) (ty : tyV X.K T x H) :
    s.TypeIs v T ∧ ∀ a, v = .ref a → ∃ ob, s.heap.get? a = some ob ∧ ob.dict = none := by
  cases x with
  | str z =>
    obtain ⟨t, rfl⟩ := r
    cases (show T = "str" from ty)
    exact ⟨typeIs_str s z t, fun _ e => nomatch e⟩
  | int i =>
    obtain ⟨t, rfl⟩ := r
    cases (show T = "int" from ty)
    exact ⟨typeIs_int s i t, fun _ e => nomatch e⟩
  | ref p =>
    cases r
    rcases ty with ⟨rfl, xs, hq⟩ | ⟨rfl, o, hk, hc, hd⟩ | ⟨rfl, hk⟩ | ⟨rfl, S, n, hk⟩ | ⟨rfl, xs, hk⟩
    · obtain ⟨its, _, pl, _⟩ := I.list hq
      refine ⟨pl.isList.typeIs, fun a e => ?_⟩
      cases e
      obtain ⟨o, n, e, c, hd, _⟩ := pl
      exact ⟨o, e, hd⟩
    · refine ⟨⟨o, I.kIn p o hk, hc⟩, fun a e => ?_⟩
      cases e
      exact ⟨o, I.kIn _ o hk, hd⟩
    · have z : ∃ o, s.heap.get? p = some o ∧ o.ExactDict := by
        rcases hk with ⟨kvs, hk⟩ | ⟨kvs, hk⟩
        · obtain ⟨_, _, _, _, o, _, _, e, ex, _⟩ := I.hok p _ hk
          exact ⟨o, e, ex⟩
        · obtain ⟨_, _, _, _, o, _, _, e, ex, _⟩ := I.hok p _ hk
          exact ⟨o, e, ex⟩
      obtain ⟨o, e, ex⟩ := z
      refine ⟨⟨o, e, ex.1⟩, fun a e2 => ?_⟩
      cases e2
      exact ⟨o, e, ex.2.1⟩
    · obtain ⟨o, _, _, _, e, ex, _⟩ := I.hok p _ hk
      refine ⟨⟨o, e, ex.1⟩, fun a e2 => ?_⟩
      cases e2
      exact ⟨o, e, ex.2.1⟩
    · obtain ⟨_, _, _, n, e⟩ := I.hok p _ hk
      refine ⟨⟨_, e, rfl⟩, fun a e2 => ?_⟩
      cases e2
      exact ⟨_, e, rfl⟩
  | _ => exact False.elim ty
noncomputable def tBM (K : PySem.W.Frag) (T : String) (r : V → List V → Hp → VK → Prop) (to : TE) (t : TA) : TE := fun σ H Q => to σ H fun x H1 => tyV K T x H1 ∧ t σ H1 fun xs H2 => r x xs H2 Q
variable {o e : Expr} {es : List Expr} {to : TE} {t : TA} {name : Str} {apos cpos : Pos} {T id : String} {r : V → List V → Hp → VK → Prop}
theorem pe_bm (pa : PlainAttrs T) (slot : Slot T name id) (hty : typeOf (.builtin id) = pure (.type "method_descriptor")) (hm : MtR X id r) (ho : PE X o to) (ha : PA X (e :: es) t)
    (hbase : attributeBase o name X.env (eval o X.env) = eval o X.env := by rfl)
    (hfew : ((backTo cpos (starEach (e :: es) X.env)).all (fun x => !x.1) && (backToKw cpos (keywordEach [] X.env)).all (fun x => x.1.isSome)
      && decide ((e :: es).length + ([] : List Keyword).length + (if ([] : List Keyword).isEmpty then 0 else 1) < 30)) = true := by rfl)
    (hline : (apos.endLine == cpos.line) = true := by rfl) (hs : starEach (e :: es) X.env = (false, eval e X.env) :: starEach es X.env := by rfl) (hplain : (backTo cpos (starEach es X.env)).any (·.1) = false := by rfl) :
    PE X (.Call (.Attribute o name apos) (e :: es) [] cpos) (tBM X.K T r to t) := by
  intro pins s σ H Q I h
  refine wpAny_Call_method_late hbase hfew hline rfl (thn (ho pins s σ H _ I h) fun v s1 ⟨x, H1, I1, r1, ty, q1⟩ => ?_)
  obtain ⟨h1, h2⟩ := tyV_is I1 r1 ty
  refine ⟨T, id, pa, slot, hty, h1, h2, ?_⟩
  have hA := ha cpos pins s1 σ H1 _ I1 q1
  rw [hs] at hA ⊢
  refine Calls.callWith_builtin (by show (false || (backTo cpos (starEach es X.env)).any (·.1)) = false; rw [hplain] <;> rfl) (Calls.evalArgs_plain ?_)
  exact thn hA fun us s2 ⟨vs, H2, I2, r2, q2⟩ => hm pins s2 σ H2 x vs v us Q I2 r1 r2 q2
/- xs.append(e), list.index on a module's tuple .. are MtR facts of 06m -/
end
end L2
namespace L2
open PySem PySem.Spec PyProof.Rows
noncomputable def MtM (X : Cx) (id : String) (r : V → List V → Hp → VK → Prop) : Prop :=
  ∀ (pins : List (Addr × Obj)) (s : Shared) (σ : St) (H : Hp) (x : V) (xs : List V) (v : Value) (us : List Value) (Q : VK), Inv X pins σ H s → RelV x v → Vals xs us → r x xs H Q →
    wpAny (model X.prog X.w) X.A (call (.builtin id) (v :: us)) (EP X pins σ Q) X.xe s

theorem Vals.one : ∀ {x : V} {us : List Value}, Vals [x] us → ∃ u, us = [u] ∧ RelV x u
  | _, _, .cons r .nil => ⟨_, rfl, r⟩
theorem Vals.reverse {xs : List V} {us : List Value} (h : Vals xs us) : Vals xs.reverse us.reverse := by
  induction h with
  | nil => exact .nil
  | cons r t ih => rw [List.reverse_cons, List.reverse_cons]; exact Vals.append ih (.cons r .nil)
theorem Vals.rep {xs : List V} {us : List Value} (h : Vals xs us) : ∀ k : Nat, Vals (List.replicate k xs).flatten (List.replicate k us).flatten
  | 0 => .nil
  | k + 1 => by
    rw [List.replicate_succ, List.replicate_succ, List.flatten_cons, List.flatten_cons]
    exact Vals.append h (Vals.rep h k)
theorem foldl_rep (its : List Value) : ∀ (k : Nat) (acc : List Value),
    List.foldl (fun x1 x2 => x1 ++ x2) acc.toArray (List.replicate k its.toArray) = (acc ++ (List.replicate k its).flatten).toArray
  | 0, acc => by simp
  | k + 1, acc => by
    have e : acc.toArray ++ its.toArray = (acc ++ its).toArray := by simp
    have e2 : (acc ++ its) ++ (List.replicate k its).flatten = acc ++ (List.replicate (k + 1) its).flatten := by
      rw [List.replicate_succ, List.flatten_cons, List.append_assoc]
    rw [← e2, ← foldl_rep its k (acc ++ its), ← e, List.replicate_succ, List.foldl_cons]

section
variable {X : Cx} {pins : List (Addr × Obj)} {σ : St} {H : Hp} {s : Shared} {l b : Addr} {xs ys zs : List V}
theorem Inv.lset {its its' : List Value} {n : Nat} {f : Array Value → Array Value} {t' : Nat} (I : Inv X pins σ H s) (hH : H l = some (.lst xs))
    (e : s.heap.get? l = some { cls := .type "list", data := .seq its.toArray n }) (hf : f its.toArray = its'.toArray) (hv : Vals ys its') (hz : ys.length ≤ sizeLine) :
    Inv X pins σ (upd H l (.lst ys)) { s with heap := s.heap.update l (Obj.mapSeq f), toks := t' } := by
  have q := PySem.IsL.update e f
  rw [hf] at q
  refine I.write (x := l) (e := l) (by rw [hH]; exact trivial) (.inl rfl) (fun b' u hb hu => (Heap.get?_update_other s.heap (Obj.mapSeq f) (Ne.symm hb)).trans hu) ⟨_, q⟩ ?_
  exact ⟨hz, its', _, hv, q⟩
theorem Inv.lnew {its : List Value} {t' : Nat} (I : Inv X pins σ H s) (hv : Vals ys its) (hz : ys.length ≤ sizeLine) :
    Inv X pins σ (upd H s.heap.objs.size (.lst ys)) { s with heap := s.heap.push { cls := .type "list", data := .seq its.toArray }, toks := t' } :=
  I.laid (fun _ _ q => Heap.get?_push_of_some _ q) (Nat.le_refl _) ⟨hz, its, 0, hv, Heap.get?_push_size _ rfl⟩
theorem Inv.fresh (I : Inv X pins σ H s) : H s.heap.objs.size = none := I.hok.fresh (Nat.le_refl _)
theorem Inv.lstM (I : Inv X pins σ H s) (hH : H l = some (.lst xs)) : xs.length ≤ sizeLine ∧ ∃ (its : List Value) (n : Nat), Vals xs its ∧ xs.length = its.length ∧ s.heap.get? l = some { cls := .type "list", data := .seq its.toArray n } := by
  obtain ⟨z, its, n, r, e⟩ := I.hok l _ hH
  exact ⟨z, its, n, r, r.length, e⟩

theorem notLongL {n : Nat} (h : n ≤ sizeLine) : Builtin.List.listTooLong n = false := by
  unfold Builtin.List.listTooLong
  exact decide_eq_false (by omega)
end
section
variable {X : Cx}
noncomputable def rAppend : V → List V → Hp → VK → Prop := fun x vs H Q => ∃ l xs y, x = .ref l ∧ vs = [y] ∧ H l = some (.lst xs) ∧ xs.length < sizeLine ∧ Q .non (upd H l (.lst (xs ++ [y])))
theorem mt_append : MtM X "list.append" rAppend := by
  intro pins s σ H x vs v us Q I rx rv h
  obtain ⟨l, xs, y, rfl, rfl, hH, hz, q⟩ := h
  cases rx
  obtain ⟨u, rfl, ru⟩ := rv.one
  obtain ⟨z, its, n, r, hl, e⟩ := I.lstM hH
  refine call_meets F.slot_list_append ⟨_, e, rfl⟩ F.entry_list_append (F.args_list_append_2 _ _) (PySem.list_append l its.toArray n u (by rw [List.size_toArray]; omega)) ⟨e, ?_⟩
  refine ⟨.non, _, I.lset (its' := its ++ [u]) hH e (by simp) (r.append (.cons ru .nil)) ?_, rfl, q⟩
  rw [List.length_append, List.length_singleton]
  omega

noncomputable def rCat : R2 := fun x y H Q => ∃ l b xs zs, x = .ref l ∧ y = .ref b ∧ H l = some (.lst xs) ∧ H b = some (.lst zs) ∧ xs.length + zs.length ≤ sizeLine ∧ ∀ p, H p = none → Q (.ref p) (upd H p (.lst (xs ++ zs)))
theorem op_cat : OpR X (binaryOp .Add) rCat := by
  intro pins s σ H x y v u Q I rx ry h
  obtain ⟨l, b, xs, zs, rfl, rfl, hH, hB, hz, q⟩ := h
  cases rx
  cases ry
  obtain ⟨z, its, n, r, hl, e⟩ := I.lstM hH
  obtain ⟨z2, its2, n2, r2, hl2, e2⟩ := I.lstM hB
  refine PySem.P.add_list e e2 ?_ (by rw [List.size_toArray, List.size_toArray]; omega)
  have ea : its.toArray ++ its2.toArray = (its ++ its2).toArray := by simp
  rw [ea]
  exact ⟨.ref _, _, I.lnew (t' := s.toks) (r.append r2) (by rw [List.length_append]; omega), rfl, q _ I.fresh⟩
noncomputable def rRep : R2 := fun x y H Q => ∃ l k xs, x = .ref l ∧ y = .int k ∧ H l = some (.lst xs) ∧ -(2 ^ 63) ≤ k ∧ k < 2 ^ 63 ∧ xs.length * k.toNat ≤ sizeLine ∧
  ∀ p, H p = none → Q (.ref p) (upd H p (.lst (List.replicate k.toNat xs).flatten))
theorem len_rep {α : Type} (xs : List α) (k : Nat) : (List.replicate k xs).flatten.length = k * xs.length := by
  induction k with
  | zero => simp
  | succ k ih => rw [List.replicate_succ, List.flatten_cons, List.length_append, ih, Nat.succ_mul, Nat.add_comm]
theorem op_rep : OpR X (binaryOp .Mult) rRep := by
  intro pins s σ H x y v u Q I rx ry h
  obtain ⟨l, k, xs, rfl, rfl, hH, h1, h2, hz, q⟩ := h
  cases rx
  obtain ⟨t, rfl⟩ := ry
  obtain ⟨z, its, n, r, hl, e⟩ := I.lstM hH
  have hlen : its.toArray.size * k.toNat ≤ sizeLine := by rw [List.size_toArray, ← hl]; exact hz
  have hcap : ¬ its.toArray.size * k.toNat > (2 ^ 63 - 1) / 8 := by
    have : (sizeLine : Nat) ≤ (2 ^ 63 - 1) / 8 := by decide
    omega
  have hfit : ¬ (!Builtin.List.listFitsIndex k) = true := by
    rw [fitsIndex_both h1 h2]
    exact Bool.false_ne_true
  have hlong : ¬ Builtin.List.listTooLong (its.toArray.size * k.toNat) = true := by
    rw [notLongL hlen]
    exact Bool.false_ne_true
  have hnew : List.foldl (fun x1 x2 => x1 ++ x2) #[] (List.replicate (if its.toArray.isEmpty = true then 0 else k.toNat) its.toArray) = (List.replicate k.toNat its).flatten.toArray := by
    have f0 : ∀ m : Nat, List.foldl (fun x1 x2 => x1 ++ x2) #[] (List.replicate m its.toArray) = (List.replicate m its).flatten.toArray := fun m => by
      have := foldl_rep its m []
      rw [List.nil_append] at this
      exact this
    rw [f0]
    cases its with
    | nil => simp
    | cons a r' => rw [if_neg (by simp)]
  refine wpAny_binaryOp_repeat_ref (T := "list") (U := "int") (by decide) ⟨_, e, rfl⟩ (fun s' => typeIs_int s' k t) noFill_list_mul F.fills_int_mul F.slot_int_rmul repeat_list F.slot_int_index.lookup
    (call_meets F.slot_int_rmul (typeIs_int s k t) F.entry_int_rmul (F.args_int_rmul_2 _ _) (int___rmul___int_list k t l its.toArray n)
      ⟨e, rfl, ⟨_, e, rfl⟩, call_meets F.slot_list_mul ⟨_, e, rfl⟩ F.entry_list_mul (F.args_list_mul_2 _ _) (AutoListH.list___mul___list_int_3 l its.toArray n k t hfit hcap hlong) ⟨e, ?_⟩⟩)
  rw [hnew]
  exact ⟨.ref _, _, I.lnew (t' := s.toks) (r.rep k.toNat) (by rw [len_rep, Nat.mul_comm]; exact hz), rfl, q _ I.fresh⟩

end
section
variable {prog : Program} {w : World} {A : Around} {E : Value → Shared → Prop} {s : Shared}
end
section
variable {X : Cx}
end
end L2
namespace Att
open PySem PySem.W PySem.Calls PyProof.Rows
theorem ints_of_wellAll {P : Params} {h : Heap} : ∀ (ns : List Int) (vs : List Value), WellAll P h vs (ns.map WData.int) → IntsAre vs ns := by
  intro ns
  induction ns with
  | nil =>
    intro vs w
    rw [List.map_nil] at w
    cases w
    exact .nil
  | cons n ns ih =>
    intro vs w
    rw [List.map_cons] at w
    cases w with
    | cons a b =>
      cases a
      exact .cons _ _ (ih _ b)

theorem script_of {l : OpenLaw} {n : Nat} (hn : l.most = some n) {P : Params} {h : Heap} {args : List WData} {vals : List Value}
    (hpre : l.row.toRowW.claim.pre args = true) (hwl : WellAll P h vals args) :
    ∃ a vs ns, vals = [Value.ref a] ∧ args = [WData.list (ns.map WData.int)] ∧ h.get? a = some { cls := .type "list", data := .seq vs.toArray } ∧ IntsAre vs ns ∧ ns.length ≤ n := by
  have hsh : WShape.hasAll [] args [.list .int] = true := (pre_splitW hpre).1
  have hc : l.pre.holds [] { args := args } = true := (pre_splitW hpre).2
  obtain ⟨d, r, rfl, h1, h2⟩ := hasAllW_cons hsh
  obtain rfl := hasAllW_nil h2
  obtain ⟨xs, rfl, h3⟩ := hasW_list h1
  obtain ⟨ns, rfl⟩ := items_int h3
  have hlen : ns.length ≤ n := by
    unfold OpenLaw.pre at hc
    have h4 : (WTm.not (.lt (.lit (.int (n : Int))) (.len (.arg 0)))).holds [] { args := [.list (ns.map .int)] } = true := by
      have h4 := (holds_andW hc).1
      rw [hn] at h4
      exact h4
    have h5 := condW_of h4 (w_not (w_lt w_lit (w_len_list (w_arg rfl))))
    rw [List.length_map] at h5
    refine Nat.le_of_not_lt fun q => ?_
    have q' : (n : Int) < ((ns.length : Nat) : Int) := by omega
    first
      | (rw [decide_eq_true q'] at h5; exact absurd h5 (by decide))
      | (simp at h5; omega)
  cases hwl with
  | cons w1 w2 =>
    cases w2
    cases w1 with
    | list ho hall => exact ⟨_, _, ns, rfl, rfl, ho, ints_of_wellAll ns _ hall, hlen⟩

theorem post_true (l : OpenLaw) (args : List WData) : l.row.toRowW.claim.post args (.bool true) args = true :=
  postW_of (r := l.row.toRowW) (X := (true == true))
    (show WShape.has [] (.bool true) .bool = true by first | rfl | decide | simp [WShape.has, WShape.arms, WShape.armsAll])
    (show (WTm.eq .res (.lit (.bool true))).value [] { args := args, res := some (.bool true), after := args } = some (.bool (true == true)) from w_eq_bool (w_res rfl) w_lit) rfl

theorem attach_call {l : OpenLaw} {n : Nat} {q : Program} {loose : List Str} {XP : (Str → Option Value) → Heap → Prop} {YP : World → Heap → Prop} {d : DefRec}
    (hn : l.most = some n) (hdf : d.params.defaults = [])
    (call : ∀ (w : World) (s₀ s₁ : Shared) (mg mb : Str → Option Value) (fa : Addr) (o : Obj) (pm cd doc : Value) (a : Addr) (vs : List Value) (ns : List Int),
      Ground q loose [] XP w s₀ mg mb s₁.heap → YP w s₁.heap →
      s₁.heap.get? fa = some o → o.data = .func (docDef d.name d.params d.body d.scope pm cd doc) → s₁.heap.CodeRec cd d.name → mg d.name = some (.ref fa) →
      s₁.heap.get? a = some { cls := .type "list", data := .seq vs.toArray } → IntsAre vs ns → ns.length ≤ n → s₁.gens = #[] →
      codeAny (model l.prog w) callerA (.call (.ref fa) ⟨[.ref a], []⟩) (fun r s' => r = .ok (.ret (.bool true)) ∧ OldK s₁.heap s'.heap ∧ s'.os = s₁.os ∧ AllBare s'.gens) s₁) :
    WalkO q loose XP YP l.row.toRowW d [] (fun f vs => PySem.call f vs) := by
  intro w s₀ s₁ mg mb G Y fa o pm cd doc dV kV ho hd hcd hD hmg hg args vals as hpre hlay hrd hwl hlo
  obtain rfl : dV = .none := Dflts.none hD hdf
  obtain rfl : kV = .none := Dflts.noKw hD
  obtain ⟨a, vs, ns, rfl, rfl, hobj, hints, hlen⟩ := script_of hn hpre hwl
  refine enter_call (codeAny_mono (call w s₀ s₁ mg mb fa o pm cd doc a vs ns G Y ho (fd_plain hd) hcd hmg hobj hints hlen hg) fun r s' hq => ?_)
  obtain ⟨rfl, h2, h3, h4⟩ := hq
  exact ⟨.inl ⟨.bool true, .bool true, [], rfl, fun _ => rfl, .bool true, post_true l _, fun _ => ⟨List.Pairwise.nil, fun _ hm => (nomatch hm)⟩⟩, h2, h3, h4⟩

section
variable {prog : Program} {w : World} {A : Around} {E : Value → Shared → Prop} {s : Shared} {K : Frag}
end
end Att
namespace L2
open PySem PySem.Spec PyProof.Rows
theorem vals_ints : ∀ {vs : List Value} {ns : List Int}, IntsAre vs ns → Vals (ns.map V.int) vs
  | _, _, .nil => .nil
  | _, _, .cons n t h => .cons ⟨t, rfl⟩ (vals_ints h)

noncomputable def Only (H : Hp) : Prop := ∀ b, H b = none ∨ ∃ o xs, H b = some (.frz o (.lst xs))

theorem law_call {P : Program} {w : World} {K : PySem.W.Frag} {mg mb : Str → Option Value} {CX : CXT} {k : Nat} {fa a : Addr} {fd : FuncData} {x : Str} {sp : Sp} {s₁ : Shared} {vs : List Value} {ns : List Int}
    (KX : K.In s₁.heap) (hns : s₁.heap.Ns mainGlobals mg) (hb : s₁.heap.Ns builtinsNs mb) (hbb : ∀ x : Str, x ≠ "__name__" → mb x = bootBuiltins x) (hlim : s₁.heap.NoLimit) (hg : s₁.gens = #[])
    (ha : s₁.heap.get? a = some { cls := .type "list", data := .seq vs.toArray }) (hi : IntsAre vs ns) (hl : ns.length ≤ sizeLine) (hr : Room k callerA)
    (F : ∀ base : Heap, K.In base → base.Ns mainGlobals mg → FnOk P w K mg base CX k fa fd [x] sp) (hbind : ∀ (s : Shared) (u : Value), BindsTo s fd ⟨[u], []⟩ [(x, u)])
    (hsp : ∀ H : Hp, Only H → SqL K H a (ns.map V.int) → sp [.ref a] H (fun v _ => v = .bl true) fun _ _ _ => False)
    (hCX : ∀ H e s', CX [] H s₁ (fun _ _ _ => False) e s' → False) :
    codeAny (model P w) callerA (.call (.ref fa) ⟨[.ref a], []⟩) (fun r s' => r = .ok (.ret (.bool true)) ∧ OldK s₁.heap s'.heap ∧ s'.os = s₁.os ∧ AllBare s'.gens) s₁ := by
  have rv := vals_ints hi
  have lenV := hi.length
  -- from an abstract heap in which nothing but the script may be tracked
  have core : ∀ H : Hp, Only H → SqL K H a (ns.map V.int) → HOk P w H s₁.heap → (∀ b, H b ≠ none → b = a) → (H a ≠ none → K.lookup a = none) →
      codeAny (model P w) callerA (.call (.ref fa) ⟨[.ref a], []⟩) (fun r s' => r = .ok (.ret (.bool true)) ∧ OldK s₁.heap s'.heap ∧ s'.os = s₁.os ∧ AllBare s'.gens) s₁ := by
    intro H hO hS hok hA hK
    have base_of : ∀ {b : Addr} {o : Obj}, s₁.heap.get? b = some o → H b = none → (hidT s₁.heap H).get? b = some o := fun e n => hidT_get e n
    have noA : ∀ {b : Addr} {o : Obj} {es : Array DictEntry} {ep : Nat}, s₁.heap.get? b = some o → o.data = .dict es ep → H b = none := fun {b o es ep} e d => by
      cases q : H b with
      | none => rfl
      | some u =>
        have e' : b = a := hA b (by rw [q]; simp)
        subst e'
        rw [ha] at e; cases e
        have d' : Data.seq vs.toArray _ = Data.dict es ep := d
        cases d'
    have nsK : ∀ {b : Addr} {m : Str → Option Value}, s₁.heap.Ns b m → (hidT s₁.heap H).Ns b m := fun {b m} ⟨o, es, ep, e, d, r⟩ => ⟨o, es, ep, base_of e (noA e d), d, r⟩
    have hKb : K.In (hidT s₁.heap H) := fun b o e => base_of (KX b o e) (by
      cases q : H b with
      | none => rfl
      | some u =>
        have e' : b = a := hA b (by rw [q]; simp)
        subst e'
        rw [hK (by rw [q]; simp)] at e; cases e)
    have hM : Mod K mg (hidT s₁.heap H) := ⟨hKb, nsK hns, ⟨mb, nsK hb, hbb⟩, let ⟨mc, h1, h2⟩ := hlim; ⟨mc, nsK h1, h2⟩⟩
    have e0 : Env0 P w K mg (hidT s₁.heap H) callerA [] s₁ H := ⟨rfl, hM, fun b o e => of_hidT e, Nat.le_of_eq (hidT_size _ _), trivial, fun b hb => absurd (show b ∈ ([] : List Addr) from hb) (by simp), hok, .of_eq hg⟩
    refine codeAny_mono ((F _ hKb (nsK hns)).run callerA [] s₁ H ⟨[.ref a], []⟩ [.ref a] [.ref a] _ _ hr e0 (hbind s₁ (.ref a)) (.cons rfl .nil) (hsp H hO hS)) fun r s' h => ?_
    cases r with
    | error e => exact (hCX H e s' h).elim
    | ok fl =>
      cases fl with
      | next => exact False.elim h
      | brk => exact False.elim h
      | cont => exact False.elim h
      | ret u =>
        obtain ⟨v, H', os, bare, un, hok', r', q⟩ := h
        have q' : v = .bl true := q
        subst q'
        obtain rfl : u = Value.bool true := r'
        refine ⟨rfl, OldK.of_keep fun b o e => ?_, os, bare⟩
        cases q : H b with
        | none => exact un.keep b o e q (by intro z; exact absurd (show b ∈ ([] : List Addr) from z) (by simp)) (by simp)
        | some u =>
          rcases hO b with z | ⟨ob, xs, z⟩
          · rw [q] at z; cases z
          · have z2 := un.frzs b ob _ z
            obtain ⟨e1, _⟩ := hok b _ z
            obtain ⟨e2, _⟩ := hok' b _ z2
            rw [e] at e1; cases e1
            exact e2
  cases hk : K.lookup a with
  | some o =>
    -- the script is one of the module's own objects
    have e := KX a o hk
    rw [ha] at e
    cases e
    refine core (fun _ => none) (fun _ => .inl rfl) (.inr ⟨_, vs.toArray, _, hk, rfl, rfl, rfl, by rw [List.size_toArray, lenV]; exact hl, by simpa using rv⟩) (fun b u z => by have z' : (none : Option HO) = some u := z; cases z') (fun b z => absurd rfl z) fun z => absurd rfl z
  | none =>
    refine core (fun b => if b = a then some (.frz { cls := .type "list", data := .seq vs.toArray } (.lst (ns.map V.int))) else none) (fun b => ?_) (.inl (.inr ⟨{ cls := .type "list", data := .seq vs.toArray }, if_pos rfl⟩)) (fun b u z => ?_) (fun b z => ?_) fun _ => hk
    · by_cases hb : b = a
      · exact .inr ⟨_, _, if_pos hb⟩
      · exact .inl (if_neg hb)
    · by_cases hb : b = a
      · have z' := (if_pos hb).symm.trans z
        cases z'
        subst hb
        exact ⟨ha, by rw [List.length_map]; exact hl, vs, _, rv, ha⟩
      · have z' := (if_neg hb).symm.trans z
        cases z'
    · by_cases hb : b = a
      · exact hb
      · exact absurd (if_neg hb) z
end L2
namespace L2
open PySem PySem.Spec PyProof.Rows
theorem walk_of {l : PySem.W.OpenLaw} {n k : Nat} {q : Program} {loose : List Str} {XP : (Str → Option Value) → Heap → Prop} {YP : World → Heap → Prop} {d : DefRec} {K : Params → PySem.W.Frag} {CX : World → CXT} {sp : World → Sp} {x : Str}
    (hn : l.most = some n) (hn2 : n ≤ sizeLine) (hdf : d.params.defaults = []) (hr : Room k callerA)
    (hY : ∀ (w : World) (h : Heap), YP w h → (K w.params).In h)
    (F : ∀ (w : World) (mg : Str → Option Value) (fa : Addr) (h : Heap), (K w.params).In h → h.Ns mainGlobals mg → mg d.name = some (.ref fa) →
      ∃ fd : FuncData, (∀ (s : Shared) (u : Value), BindsTo s fd ⟨[u], []⟩ [(x, u)]) ∧
        ∀ base : Heap, (K w.params).In base → base.Ns mainGlobals mg → FnOk l.prog w (K w.params) mg base (CX w) k fa fd [x] (sp w))
    (hsp : ∀ (w : World) (H : Hp) (a : Addr) (ns : List Int), ns.length ≤ n → Only H → SqL (K w.params) H a (ns.map V.int) → sp w [.ref a] H (fun v _ => v = .bl true) fun _ _ _ => False)
    (hCX : ∀ (w : World) (H : Hp) (s : Shared) (e : Value) (s' : Shared), CX w [] H s (fun _ _ _ => False) e s' → False) :
    PySem.W.WalkO q loose XP YP l.row.toRowW d [] (fun f vs => PySem.call f vs) := by
  refine Att.attach_call hn hdf fun w s₀ s₁ mg mb fa o pm cd doc a vs ns G Y ho hd hcd hmg hobj hints hlen hg => ?_
  have KX := hY w _ Y
  obtain ⟨fd, hb, hF⟩ := F w mg fa _ KX G.T.g hmg
  exact law_call KX G.T.g G.T.b G.T.builtins G.T.nolimit hg hobj hints (Nat.le_trans hlen hn2) hr hF hb (fun H hO hS => hsp w H a ns hlen hO hS) fun H e s' => hCX w H s₁ e s'
end L2
/- THE LAST THEOREM (shape; LID, My.* are yours):
   My.Adr: a structure of the addresses that your layer names (classes, functions); My.Txt K t: a structure (Prop) of the equations over K;
   My.txt_mk : {K} {implicit addresses ..} (e1 : nsIn K mainGlobals "law" = some (some (.ref f))) (e2 : K.lookup f = some ⟨oc, od, .func (fnOf "law" "law" params body scope dV kV doc pm an cdv ct), sl⟩) (e3 : codeIn K cdv "law" = true) .. : ∃ t, My.Txt K t
(the tactic k_is has no namespace: write k_is) -/
namespace L2
open PySem PySem.Spec PyProof.Rows
noncomputable def defArgs (s : Stmt) : Arguments := match s with
  | .FunctionDef _ a _ _ _ _ _ _ _ _ => a
  | _ => { posonlyargs := [], args := [], vararg := none, kwonlyargs := [], kw_defaults := [], kwarg := none, defaults := [] }
noncomputable def defBody (s : Stmt) : List Stmt := match s with
  | .FunctionDef _ _ b _ _ _ _ _ _ _ => b
  | _ => []
noncomputable def defScope (s : Stmt) : Scope := match s with
  | .FunctionDef _ _ _ _ _ _ sc _ _ _ => sc
  | _ => { kind := .function, names := [], isGenerator := false, isCoroutine := false }

noncomputable abbrev CX0 : CXT := fun _ _ _ _ _ _ => False
noncomputable abbrev E0 : XK := fun _ _ _ => False
theorem pass0 {X : Cx} : Passes CX0 X E0 := fun _ _ _ _ _ _ _ h => h.elim

structure Fun (K : PySem.W.Frag) (x qual : Str) (st : Stmt) (f : Addr) (fd : FuncData) : Prop where
  ex : ∃ (oc : Value) (od : Option Addr) (kV doc pm : Value) (an : Option Addr) (cdv ct : Value) (osl : Array (Option Value)),
    fd = PySem.W.fnOf x qual (defArgs st) (defBody st) (defScope st) .none kV doc pm an cdv ct ∧ K.lookup f = some ⟨oc, od, .func fd, osl⟩ ∧ PySem.W.codeIn K cdv qual = true
  kp : PySem.W.keepIn K (.ref f) = true
section
variable {P : Program} {w : World} {K : PySem.W.Frag} {mg : Str → Option Value} {base : Heap}
theorem Fun.ok {x qual : Str} {st : Stmt} {f : Addr} {fd : FuncData} {N ps : List Str} {k : Nat} {sp : Sp} (F : Fun K x qual st f fd) (S : FnScope N ps (defScope st)) (len : ∀ vs H Q E, sp vs H Q E → vs.length = ps.length)
    (hbody : ∀ (cdv : Value) (A : Around) (outer : List Env) (s : Shared) (H : Hp) (vs : List V) (Q : VK) (E : XK), Room k (A.deeper (envOfC qual (defScope st) s.heap.objs.size f cdv)) → sp vs H Q E →
      ∃ t, PSs (cxOf CX0 P w K mg base N qual (defScope st) f cdv A outer s H E).nox (defBody st) t ∧ t { nx := fun _ H' => Q .non H', rt := Q } (start N vs) H) : FnOk P w K mg base CX0 (k + 1) f fd ps sp := by
  obtain ⟨oc, od, kV, doc, pm, an, cdv, ct, osl, rfl, lk, hcd⟩ := F.ex
  refine fn_of lk hcd S len fun A outer s H vs Q E hr hsp => ?_
  obtain ⟨t, h, q⟩ := hbody cdv A outer s H vs Q E hr hsp
  exact ⟨t, h.nox, q⟩
theorem Fun.okz {x qual : Str} {st : Stmt} {f : Addr} {fd : FuncData} {N ps : List Str} {k : Nat} {sp : Sp} (F : Fun K x qual st f fd) (S : FnScope N ps (defScope st)) (len : ∀ vs H Q E, sp vs H Q E → vs.length = ps.length)
    (hbody : ∀ (cdv : Value) (A : Around) (outer : List Env) (s : Shared) (H : Hp) (vs : List V) (Q : VK) (E : XK), Room k (A.deeper (envOfC qual (defScope st) s.heap.objs.size f cdv)) → sp vs H Q E →
      ∃ t, ZSs (cxOf CX0 P w K mg base N qual (defScope st) f cdv A outer s H E).nox (defBody st) t ∧ t { nx := fun _ H' => Q .non H', rt := Q } (start N vs) H) : FnOk P w K mg base CX0 (k + 1) f fd ps sp :=
  F.ok S len fun cdv A outer s H vs Q E hr h => let ⟨t, h1, h2⟩ := hbody cdv A outer s H vs Q E hr h; ⟨t, h1.p, h2⟩
theorem Fun.binds {x qual : Str} {st : Stmt} {f : Addr} {fd : FuncData} {ps : List Str} (F : Fun K x qual st f fd)
    (h : ∀ (kV doc pm : Value) (an : Option Addr) (cdv ct : Value) (us : List Value), us.length = ps.length → bindArgs (PySem.W.fnOf x qual (defArgs st) (defBody st) (defScope st) .none kV doc pm an cdv ct) ⟨us, []⟩ = pure (ps.zip us)) : Binds K fd ps [] := by
  obtain ⟨oc, od, kV, doc, pm, an, cdv, ct, osl, rfl, lk, hcd⟩ := F.ex
  exact .all (h kV doc pm an cdv ct)
theorem fun_mk {x qual : Str} {st : Stmt} {f : Addr} {oc : Value} {od an : Option Addr} {osl : Array (Option Value)} {kV doc pm cdv ct : Value} (l : K.lookup f = some ⟨oc, od, .func (PySem.W.fnOf x qual (defArgs st) (defBody st) (defScope st) .none kV doc pm an cdv ct), osl⟩)
    (c : PySem.W.codeIn K cdv qual = true) (k : PySem.W.keepIn K (.ref f) = true) : Fun K x qual st f (PySem.W.fnOf x qual (defArgs st) (defBody st) (defScope st) .none kV doc pm an cdv ct) := ⟨⟨oc, od, kV, doc, pm, an, cdv, ct, osl, rfl, l, c⟩, k⟩
end
theorem small1000 {n : Nat} (h : n ≤ 1000) : n < sizeLine := Nat.lt_of_le_of_lt h (by decide)

section
variable {X : Cx}
end
theorem iteF {A B : Prop} (h : B) : if false = true then A else B := by
  rw [if_neg Bool.false_ne_true]
  exact h
theorem iteT {A B : Prop} (h : A) : if true = true then A else B := by
  rw [if_pos rfl]
  exact h
noncomputable def Same (H H' : Hp) : Prop := ∀ b o, H b = some o → H' b = some o
theorem Same.refl (H : Hp) : Same H H := fun _ _ h => h
theorem Same.trans {H H1 H2 : Hp} (a : Same H H1) (b : Same H1 H2) : Same H H2 := fun c o h => b c o (a c o h)
end L2
set_option Elab.async false
set_option linter.all false
set_option maxRecDepth 100000
set_option maxHeartbeats 4000000
namespace L2
open PySem PySem.Spec PyProof.Rows
noncomputable def clsOf (env : Env) : List (Str × NameKind) → List (Str × Addr) → List (Str × Addr)
  | [], cs => cs
  | y :: r, cs => clsOf env r (if (y.2 == .free) = true then (y.1, (env.cells.lookup y.1).getD 0) :: cs else cs)
theorem closure_ok {env : Env} {scope : Scope} (h : ∀ y ∈ scope.names, y.2 = .free → ∃ c, env.cells.lookup y.1 = some c) : closureFor scope env = pure (clsOf env scope.names []) := by
  simp only [closureFor]
  generalize scope.names = ns at h
  have go : ∀ (ns : List (Str × NameKind)) (cs : List (Str × Addr)), (∀ y ∈ ns, y.2 = .free → ∃ c, env.cells.lookup y.1 = some c) →
      (forIn ns cs fun (x : Str × NameKind) (r : List (Str × Addr)) => (if (x.2 == NameKind.free) = true then do let a ← cellOf env x.1; pure (ForInStep.yield ((x.1, a) :: r)) else pure (ForInStep.yield r) : Sem (ForInStep (List (Str × Addr))))) = (pure (clsOf env ns cs) : Sem (List (Str × Addr))) := by
    intro ns
    induction ns with
    | nil => intro cs _; rfl
    | cons y r ih =>
      intro cs hy
      rw [List.forIn_cons]
      have hr := fun z hz => hy z (List.mem_cons_of_mem _ hz)
      by_cases hf : (y.2 == NameKind.free) = true
      · obtain ⟨c, hc⟩ := hy y List.mem_cons_self (by simpa using hf)
        have e : cellOf env y.1 = pure c := by unfold cellOf; rw [hc]
        rw [if_pos hf, e]
        refine Eq.trans (ih ((y.1, c) :: cs) hr) (congrArg pure ?_)
        show _ = clsOf env r (if (y.2 == .free) = true then (y.1, (env.cells.lookup y.1).getD 0) :: cs else cs)
        rw [if_pos hf, hc]
        rfl
      · rw [if_neg hf]
        refine Eq.trans (ih cs hr) (congrArg pure ?_)
        show _ = clsOf env r (if (y.2 == .free) = true then (y.1, (env.cells.lookup y.1).getD 0) :: cs else cs)
        rw [if_neg hf]
  have e := go ns [] h
  exact (congrArg (fun (t : Sem (List (Str × Addr))) => t >>= fun cs => pure cs) e).trans rfl
theorem clsOf_look {env : Env} : ∀ (ns : List (Str × NameKind)) (cs : List (Str × Addr)), (∀ y ∈ ns, y.2 = .free → ∃ c, env.cells.lookup y.1 = some c) → (∀ n c, cs.lookup n = some c → env.cells.lookup n = some c) →
    ∀ n c, (clsOf env ns cs).lookup n = some c → env.cells.lookup n = some c
  | [], cs, _, hc => hc
  | y :: r, cs, hy, hc => by
    refine clsOf_look r _ (fun z hz => hy z (List.mem_cons_of_mem _ hz)) fun n c e => ?_
    by_cases hf : (y.2 == NameKind.free) = true
    · rw [if_pos hf, List.lookup_cons] at e
      obtain ⟨c', hc'⟩ := hy y List.mem_cons_self (by simpa using hf)
      cases hn : n == y.1 with
      | true =>
        rw [hn] at e
        have en : n = y.1 := by simpa using hn
        rw [hc'] at e
        rw [en, hc']
        exact e
      | false => rw [hn] at e; exact hc n c e
    · rw [if_neg hf] at e
      exact hc n c e
theorem clsOf_has {env : Env} : ∀ (ns : List (Str × NameKind)) (cs : List (Str × Addr)) (n : Str), ((n, NameKind.free) ∈ ns ∨ ∃ c, cs.lookup n = some c) → ∃ c, (clsOf env ns cs).lookup n = some c
  | [], cs, n, h => by
    rcases h with h | h
    · cases h
    · exact h
  | y :: r, cs, n, h => by
    refine clsOf_has r _ n ?_
    rcases h with h | ⟨c, h⟩
    · rcases List.mem_cons.mp h with e | h
      · refine .inr ⟨(env.cells.lookup n).getD 0, ?_⟩
        have e2 : y.2 = .free := by rw [← e]
        have e1 : y.1 = n := by rw [← e]
        rw [if_pos (by rw [e2]; rfl), e1, List.lookup_cons]
        simp
      · exact .inl h
    · refine .inr ?_
      by_cases hf : (y.2 == NameKind.free) = true
      · rw [if_pos hf, List.lookup_cons]
        cases hn : n == y.1 with
        | true => exact ⟨_, rfl⟩
        | false => exact ⟨c, h⟩
      · rw [if_neg hf]; exact ⟨c, h⟩
noncomputable def rlOf (env : Env) (y : Str × NameKind) : Str × NameKind := if (y.2 == NameKind.free && env.scope.kind == .function && env.kindOf y.1 == some .cell) = true then (y.1, NameKind.cell) else (y.1, y.2)
theorem rl_look {env : Env} : ∀ {names : List (Str × NameKind)} {x : Str} {k' : NameKind}, (names.map (rlOf env)).lookup x = some k' →
    ∃ k, (x, k) ∈ names ∧ names.lookup x = some k ∧ (k' = k ∨ (k = .free ∧ k' = .cell))
  | [], _, _, h => by simp at h
  | (n, k) :: r, x, k', h => by
    have ih := @rl_look env r x k'
    rw [List.map_cons] at h
    unfold rlOf at h
    dsimp only at h
    cases hx : x == n with
    | true =>
      have en : x = n := by simpa using hx
      refine ⟨k, by rw [en]; exact List.mem_cons_self, by simp [List.lookup_cons, hx], ?_⟩
      by_cases hc : (k == NameKind.free && env.scope.kind == .function && env.kindOf n == some .cell) = true
      · rw [if_pos hc, List.lookup_cons, hx] at h
        have hk : k = .free := by
          have := (Bool.and_eq_true_iff.mp (Bool.and_eq_true_iff.mp hc).1).1
          simpa using this
        exact .inr ⟨hk, by cases h; rfl⟩
      · rw [if_neg hc, List.lookup_cons, hx] at h
        exact .inl (by cases h; rfl)
    | false =>
      have h' : (r.map (rlOf env)).lookup x = some k' := by
        by_cases hc : (k == NameKind.free && env.scope.kind == .function && env.kindOf n == some .cell) = true
        · rw [if_pos hc, List.lookup_cons, hx] at h; exact h
        · rw [if_neg hc, List.lookup_cons, hx] at h; exact h
      obtain ⟨k, h1, h2, h3⟩ := ih h'
      exact ⟨k, List.mem_cons_of_mem _ h1, by rw [List.lookup_cons, hx]; exact h2, h3⟩
theorem rl_has {env : Env} : ∀ {names : List (Str × NameKind)} {x : Str} {k : NameKind}, names.lookup x = some k → ∃ k', (names.map (rlOf env)).lookup x = some k'
  | [], _, _, h => by simp at h
  | (n, k0) :: r, x, k, h => by
    have ih := @rl_has env r x k
    rw [List.map_cons]
    have e1 : (rlOf env (n, k0)).1 = n := by unfold rlOf; split <;> rfl
    have e0 : rlOf env (n, k0) = (n, (rlOf env (n, k0)).2) := by rw [Prod.ext_iff]; exact ⟨e1, rfl⟩
    rw [e0, List.lookup_cons]
    cases hx : x == n with
    | true => exact ⟨_, rfl⟩
    | false =>
      rw [List.lookup_cons, hx] at h
      exact ih h

noncomputable def cmpX (X : Cx) (nv : List Str) (ix : List (Str × Nat)) (scope : Scope) (C : Addr) (s₀ : Shared) (H₀ : Hp) (fp : List Addr) : Cx :=
  { X with N := nv ++ ix.map (·.1), s₀ := s₀, H₀ := H₀, env := compEnvC scope (clsOf X.env scope.names []) C X.env, outer := X.stack, stack := X.stack, ex := fp, fn := fun _ => false, pn := [], xe := fun _ _ => False }
noncomputable def frV (σ : St) (ix : List (Str × Nat)) : St := ix.map fun p => (σ[p.2]?).join
noncomputable def st0 (nv : List Str) (ix : List (Str × Nat)) (σ : St) : St := nv.map (fun _ => none) ++ frV σ ix
structure CompOk (X : Cx) (nv : List Str) (ix : List (Str × Nat)) (scope : Scope) : Prop where
  kind : scope.kind = .function
  nocell : ∀ y ∈ scope.names, y.2 ≠ .cell
  names : ∀ y ∈ scope.names, y.2 = .local → scope.names.lookup y.1 = some .local
  free : (scope.names.all fun y => !(y.2 == NameKind.free) || (X.env.kindOf y.1 == some NameKind.cell || X.env.kindOf y.1 == some NameKind.free)) = true
  ix : (ix.all fun p => (scope.names.lookup p.1 == some NameKind.free) && (X.N[p.2]? == some p.1)) = true
section
variable {X : Cx} {nv : List Str} {ix : List (Str × Nat)} {scope : Scope} {pins : List (Addr × Obj)} {σ : St} {H : Hp} {s : Shared}
theorem CompOk.fk (co : CompOk X nv ix scope) {y : Str × NameKind} (hy : y ∈ scope.names) (hf : y.2 = .free) : X.env.kindOf y.1 = some .cell ∨ X.env.kindOf y.1 = some .free := by
  have q := List.all_eq_true.mp co.free y hy
  rw [hf] at q
  simpa using q
theorem CompOk.cells (co : CompOk X nv ix scope) (ok : X.Ok) : ∀ y ∈ scope.names, y.2 = .free → ∃ c, X.env.cells.lookup y.1 = some c := fun y hy hf => ok.has y.1 (co.fk hy hf)
theorem CompOk.look (co : CompOk X nv ix scope) (ok : X.Ok) {n : Str} {c : Addr} (h : (clsOf X.env scope.names []).lookup n = some c) : X.env.cells.lookup n = some c :=
  clsOf_look _ _ (co.cells ok) (fun _ _ e => by cases e) n c h
theorem CompOk.ixp (co : CompOk X nv ix scope) {p : Str × Nat} (hp : p ∈ ix) : scope.names.lookup p.1 = some .free ∧ X.N[p.2]? = some p.1 := by
  have q := Bool.and_eq_true_iff.mp (List.all_eq_true.mp co.ix p hp)
  exact ⟨by simpa using q.1, by simpa using q.2⟩
theorem lookup_mem {α : Type} : ∀ {l : List (Str × α)} {n : Str} {k : α}, l.lookup n = some k → (n, k) ∈ l
  | [], _, _, h => by cases h
  | (m, j) :: r, n, k, h => by
    rw [List.lookup_cons] at h
    cases e : n == m with
    | true => rw [e] at h; cases h; have : n = m := by simpa using e
              rw [this]; exact List.mem_cons_self
    | false => rw [e] at h; exact List.mem_cons_of_mem _ (lookup_mem h)
theorem cmpX_ok (co : CompOk X nv ix scope) (I : Inv X pins σ H s) {fp : List Addr} {C : Addr} (hC : s.heap.objs.size ≤ C) (hf : ∀ b ∈ fp, FpOk X pins H b) (hlt : ∀ b ∈ fp, b < s.heap.objs.size) : (cmpX X nv ix scope C s H fp).Ok where
  mod := I.mod
  kind := co.kind
  glob := I.ok.glob
  blt := I.ok.blt
  above := hC
  inj := fun x y c a b => I.ok.inj x y c (co.look I.ok a) (co.look I.ok b)
  has := fun x hk => by
    have z : ∃ k, (x, k) ∈ scope.names ∧ k = .free := by
      rcases hk with hk | hk
      · obtain ⟨k, h1, _, h3⟩ := rl_look (env := X.env) (names := scope.names) hk
        rcases h3 with h3 | ⟨h3, _⟩
        · exact absurd h3.symm (co.nocell _ h1)
        · exact ⟨k, h1, h3⟩
      · obtain ⟨k, h1, _, h3⟩ := rl_look (env := X.env) (names := scope.names) hk
        rcases h3 with h3 | ⟨_, h3⟩
        · exact ⟨k, h1, h3.symm⟩
        · cases h3
    obtain ⟨k, h1, rfl⟩ := z
    exact clsOf_has _ _ x (.inl h1)
  cab := fun x c h _ => by cases h
  hd := I.ok.hd
  frames := I.ok.frames
  stk := .inl rfl
  exf := fun b hb => ⟨Nat.ne_of_lt (Nat.lt_of_lt_of_le (hlt b hb) hC), fun x c e => (hf b hb).2.2.2.2.1 x c (co.look I.ok e)⟩
  bs := fun b o e => I.bs b o e
  bsz := Nat.le_trans I.ok.bsz I.sz
  noex := fun b o e hb => by
    rcases (hf b hb).2.2.2.1 with z | z
    · exact I.ok.noex b o e z
    · exact absurd (Nat.lt_of_lt_of_le (Heap.lt_size e) (Nat.le_trans I.ok.bsz z)) (Nat.lt_irrefl _)
  exfs := fun b hb hs => by
    rcases List.mem_cons.mp (I.stkSub b hs) with e | h
    · exact (hf b hb).2.1 e
    · exact (hf b hb).2.2.1 h
  funs := I.stack
  frf := I.stkFree
noncomputable abbrev lobj (its : List Value) (k : Nat) : Obj := { cls := .type "list", data := .seq its.toArray k }
theorem join_some {o : Option (Option V)} {v : V} (h : o.join = some v) : o = some (some v) := by
  cases o with
  | none => cases h
  | some o' => exact congrArg some h
theorem cmp_start (co : CompOk X nv ix scope) (I : Inv X pins σ H s) {fp : List Addr} {h₁ : Heap} {tk : Nat} {m : Str → Option Value} (hf : ∀ b ∈ fp, FpOk X pins H b) (hlt : ∀ b ∈ fp, b < s.heap.objs.size)
    (hn : h₁.Ns (s.heap.objs.size + 1) m) (old : ∀ b o, s.heap.get? b = some o → h₁.get? b = some o) (hD : h₁.get? s.heap.objs.size = some (lobj [] 0)) :
    Inv (cmpX X nv ix scope (s.heap.objs.size + 1) s H fp) [(s.heap.objs.size, lobj [] 0)] (st0 nv ix σ) H { s with heap := h₁, toks := tk } where
  ok := cmpX_ok co I (Nat.le_succ _) hf hlt
  os := rfl
  bare := I.bare
  base := Un.kept old
  loc := by
    refine ⟨m, hn, fun i x v e1 e2 hv => ?_⟩
    obtain ⟨m₀, _, hl⟩ := I.loc
    have e1' : (nv ++ ix.map (·.1))[i]? = some x := e1
    unfold st0 at e2
    by_cases hi : i < nv.length
    · rw [List.getElem?_append_left (by rw [List.length_map]; exact hi), List.getElem?_map] at e2
      cases q : nv[i]? with
      | none => rw [q] at e2; cases e2
      | some z => rw [q] at e2; cases e2
    · have hi' : nv.length ≤ i := Nat.not_lt.mp hi
      rw [List.getElem?_append_right hi', List.getElem?_map] at e1'
      rw [List.getElem?_append_right (by rw [List.length_map]; exact hi'), List.length_map] at e2
      unfold frV at e2
      rw [List.getElem?_map] at e2
      cases q : ix[i - nv.length]? with
      | none => rw [q] at e1'; cases e1'
      | some p =>
        rw [q] at e1' e2
        have hp : p ∈ ix := List.mem_of_getElem? q
        have ex : p.1 = x := Option.some.inj e1'
        have ev : σ[p.2]? = some (some v) := join_some (Option.some.inj e2)
        obtain ⟨f1, f2⟩ := co.ixp hp
        have hk := co.fk (lookup_mem f1) rfl
        obtain ⟨u, r, l⟩ := hl p.2 p.1 v f2 ev (hk.elim (fun z => .inr (.inl z)) fun z => .inr (.inr z))
        refine ⟨u, r, .inr ⟨?_, ?_⟩⟩
        · obtain ⟨k', hk'⟩ := rl_has (env := X.env) f1
          obtain ⟨k, h1, h2, h3⟩ := rl_look hk'
          rw [f1] at h2
          cases h2
          rw [← ex]
          rcases h3 with h3 | ⟨_, h3⟩
          · exact .inr (hk'.trans (congrArg some h3))
          · exact .inl (hk'.trans (congrArg some h3))
        · obtain ⟨c, hc⟩ := clsOf_has (env := X.env) scope.names [] p.1 (.inl (lookup_mem f1))
          refine ⟨c, by rw [← ex]; exact hc, ?_⟩
          have hc' := co.look I.ok hc
          rcases l with ⟨z, _⟩ | ⟨_, c', z1, o, z2, z3⟩
          · have z' : X.env.kindOf p.1 = some .local := z
            rcases hk with hk | hk
            · have hk' : X.env.kindOf p.1 = some .cell := hk
              rw [z'] at hk'; cases hk'
            · have hk' : X.env.kindOf p.1 = some .free := hk
              rw [z'] at hk'; cases hk'
          · rw [hc'] at z1
            cases z1
            exact ⟨o, old _ _ z2, z3⟩
  cell := fun x c e => by
    obtain ⟨v, o, h1, h2⟩ := I.cell x c (co.look I.ok e)
    exact ⟨v, o, old _ _ h1, h2⟩
  free := I.hok.fresh (Nat.le_succ _)
  freeC := fun x c e => I.freeC x c (co.look I.ok e)
  pin := fun p hp => by
    have e : p = (s.heap.objs.size, lobj [] 0) := by simpa [cmpX] using hp
    subst e
    refine ⟨hD, I.hok.fresh (Nat.le_refl _), Nat.ne_of_lt (Nat.lt_succ_self _), fun hb => ?_, fun v z => by cases z⟩
    rcases List.mem_cons.mp (I.stkSub _ hb) with e | h
    · exact absurd I.lt (by rw [← e]; exact Nat.lt_irrefl _)
    · exact I.nofs (Nat.le_refl _) h
  hok := I.hok.kept old
  len := by
    show (nv.map (fun _ => none) ++ frV σ ix).length = (nv ++ ix.map (·.1)).length
    unfold frV
    simp
theorem Inv.track {D : Addr} {ys its : List _} {k : Nat} (I : Inv X pins σ H s) (rv : Vals ys its) (hz : ys.length ≤ sizeLine) (e : s.heap.get? D = some (lobj its k)) (hn : H D = none) (hd : FpOk X pins H D) : Inv X pins σ (upd H D (.lst ys)) s := by
  have nD : ∀ b u, H b = some u → b ≠ D := fun b u q z => by rw [z, hn] at q; cases q
  obtain ⟨h1, h2, h3, h4, h5, h6⟩ := hd
  refine I.step (s := s) (h' := s.heap) (g' := s.gens) (t' := s.toks) (d' := s.drawn) (ch := [D]) (fun b hb => ?_) (fun b o _ _ _ q _ => q) (fun b o _ _ _ q _ => ⟨o.slots, q⟩) (fun b o hb _ q => ?_) (fun b o _ q => ⟨o, q⟩)
    (fun b xs q => by rw [upd_ne (nD b _ q)]; exact q) (fun b o u q => by rw [upd_ne (nD b _ q)]; exact q) (fun b ps q => ⟨#[], by rw [upd_ne (nD b _ q), q]; simp⟩) (fun m hm => hm) (fun b u q => ?_) I.bare
  · have e : b = D := by simpa using hb
    subst e
    exact ⟨h4, h2, h5, h6⟩
  · rw [upd_ne (fun z => hb (by simp [z]))]; exact q
  · by_cases hb : b = D
    · subst hb
      rw [upd_same] at q
      cases q
      exact ⟨hz, its, k, rv, e⟩
    · rw [upd_ne hb] at q
      exact (I.hok b u q).stay (fun c v _ r => r) (fun c r => by rw [upd_ne (nD c _ r)]; exact r) fun c xs r => by rw [upd_ne (nD c _ r)]; exact r
theorem cmp_end {ps2 : List (Addr × Obj)} {σ2 : St} {H' : Hp} {s' : Shared} {fp : List Addr} {C : Addr} (I : Inv X pins σ H s) (hf : ∀ b ∈ fp, FpOk X pins H b) (Ic : Inv (cmpX X nv ix scope C s H fp) ps2 σ2 H' s') : Inv X pins σ H' s' :=
  I.call' (ch := fp) Ic.os Ic.base Ic.hok Ic.bare fun b hb => ⟨(hf b hb).2.2.2.1, (hf b hb).2.1, (hf b hb).2.2.2.2.1, (hf b hb).2.2.2.2.2⟩

noncomputable def PIf (X : Cx) (ifs : List Expr) (t : TT) : Prop :=
  ∀ (pins : List (Addr × Obj)) (s : Shared) (σ : St) (H : Hp) (Q : Bool → Hp → Prop), Inv X pins σ H s → t σ H Q →
    wpAny (model X.prog X.w) X.A (forIn ifs true fun c r => if r = true then do let ok ← isTrue c X.env (eval c X.env); pure (ForInStep.yield ok) else pure (ForInStep.yield r)) (TP X pins σ Q) X.xe s
@[irreducible] noncomputable def ZIf (X : Cx) (ifs : List Expr) (t : TT) : Prop := PIf X ifs t
noncomputable def tYes : TT := fun _ H Q => Q true H
theorem pif_nil : PIf X [] tYes := fun _ _ _ H _ I h => wpAny_tests_nil ⟨H, I, h⟩
theorem zif_nil : ZIf X [] tYes := by with_unfolding_all exact pif_nil 
theorem pif_one {c : Expr} {t : TT} (h : PT X c t) : PIf X [c] t := fun pins s σ H Q I q => wpAny_tests_one (h pins s σ H Q I q)
theorem zif_one {c : Expr} {t : TT} (h : ZT X c t) : ZIf X [c] t := by with_unfolding_all exact pif_one h
end
section
variable {prog : Program} {w : World} {A : Around} {E : Value → Shared → Prop} {R : Result → Shared → Prop} {s : Shared}
theorem compLoop_go {elt target iter : Expr} {ifs : List Expr} {scope : Scope} {pos : Pos} {it acc : Value} {env : Env} (I : Nat → Shared → Prop)
    (turn : ∀ n s, I n s → wpAny (model prog w) A (pyNext it) (fun r s₁ => match r with
      | none => R (.ok .next) s₁
      | some v => wpAny (model prog w) A (letOwnedTupleGo target it v) (fun _ s₁' => wpAny (model prog w) A (assign target env v) (fun _ s₂ =>
          wpAny (model prog w) A (forIn ifs true fun c r => if r = true then do let ok ← isTrue c env (eval c env); pure (ForInStep.yield ok) else pure (ForInStep.yield r)) (fun ok s₃ =>
            if ok = true then wpAny (model prog w) A (eval elt env) (fun x s₄ =>
              wpAny (model prog w) A (call (.builtin "list.append") [acc, x]) (fun _ s₅ => ∃ m, m < n ∧ I m s₅) (fun _ _ => False) s₄) (fun _ _ => False) s₃
            else ∃ m, m < n ∧ I m s₃) (fun _ _ => False) s₂) (fun _ _ => False) s₁') (fun _ _ => False) s₁) (fun _ _ => False) s)
    (n : Nat) (h : I n s) :
    codeAny (model prog w) A (.compLoop (.ListComp elt [⟨target, iter, ifs, 0⟩] scope pos) 0 it acc env) R s := by
  refine codeAny_loop rfl I (fun n s hI => ?_) n h
  show wpAny _ A ((compTurn (.ListComp elt [⟨target, iter, ifs, 0⟩] scope pos) 0 it acc env).onRaise (fun x => do noteFrame x env; theTreesLotGoes x)) _ _ s
  refine wpAny_noted ?_
  rw [compTurn_list]
  refine wpAny_bind (wpAny_standAt (wpAny_bind (wpAny_mono (turn n s hI) (fun r s₁ h₁ => ?_) fun _ _ h' => h'.elim)))
  cases r with
  | none => exact wpAny_pure h₁
  | some v =>
    refine wpAny_bind (wpAny_mono h₁ (fun _ s₁' h₁' => ?_) fun _ _ h' => h'.elim)
    refine wpAny_bind (wpAny_mono h₁' (fun _ s₂ h₂ => wpAny_bind (wpAny_mono h₂ (fun ok s₃ h₃ => ?_) fun _ _ h' => h'.elim)) fun _ _ h' => h'.elim)
    cases ok with
    | false => exact wpAny_pure ⟨rfl, h₃⟩
    | true =>
      exact wpAny_bind (wpAny_bind (wpAny_mono h₃ (fun x s₄ h₄ => wpAny_bind (wpAny_mono h₄ (fun _ s₅ h₅ => wpAny_pure (wpAny_pure ⟨rfl, h₅⟩)) fun _ _ h' => h'.elim)) fun _ _ h' => h'.elim))
end
section
variable {X : Cx} {nv : List Str} {ix : List (Str × Nat)} {scope : Scope} {pins : List (Addr × Obj)} {σ : St} {H : Hp} {s : Shared} {elt tg iter : Expr} {ifs : List Expr} {pos : Pos}
noncomputable def Kp (σ σ2 : St) : Prop := σ.length = σ2.length ∧ ∀ (i : Nat) v, σ[i]? = some (some v) → σ2[i]? = some (some v)
noncomputable def KpG (nv : List Str) (g : TG) : Prop := ∀ (fr : St) (v : V) (H : Hp) (Q : St → Hp → Prop), g v (nv.map (fun _ => none) ++ fr) H Q → g v (nv.map (fun _ => none) ++ fr) H fun σ2 H2 => Kp (nv.map (fun _ => none) ++ fr) σ2 ∧ Q σ2 H2
theorem kpg_name {x : Str} : KpG [x] (gName 0) := fun fr v H Q h => by
  refine ⟨⟨by simp, fun i w e => ?_⟩, h⟩
  cases i with
  | zero => cases e
  | succ i => exact e
noncomputable def CmpW (nv : List Str) (ix : List (Str × Nat)) (g : TG) (ti : TT) (te : TE) (σ : St) (J : It) (Fin : List V → Hp → Prop) (H1 : Hp) : Prop :=
  ∃ W : Nat → Nat → List V → Hp → Prop, (∃ m, W 0 m [] H1) ∧ ∀ i m ys H, W i m ys H →
    (J.stop i H ∧ Fin ys H) ∨ (J.go i H ∧ ys.length < sizeLine ∧ ∃ N : List V → Hp → Prop, (∀ ys' H', N ys' H' → ∃ m', m' < m ∧ W (i + 1) m' ys' H') ∧
      ∀ x H', J.yld i H x H' → g x (st0 nv ix σ) H' fun σ2 H2 => ti σ2 H2 fun b H3 => if b = true then te σ2 H3 fun y H4 => N (ys ++ [y]) H4 else N ys H3)
theorem comp_run {J : It} {fp : List Addr} {it : Addr} {tn : Nat → Heap → Prop} {g : TG} {ti : TT} {te : TE} {Fin : List V → Hp → Prop} {E : Value → Shared → Prop} {RR : Value → Addr → Result → Shared → Prop}
    (co : CompOk X nv ix scope) (hc : X.calm = true) (I : Inv X pins σ H s) (T : Turn X.prog X.w X.K tg J fp it tn) (st : tn 0 s.heap) (hf : ∀ b ∈ fp, FpOk X pins H b)
    (kg : KpG nv g) (hg : ∀ C s₀ H₀ fp, PG (cmpX X nv ix scope C s₀ H₀ fp) tg g) (hi : ∀ C s₀ H₀ fp, PIf (cmpX X nv ix scope C s₀ H₀ fp) ifs ti) (he : ∀ C s₀ H₀ fp, PE (cmpX X nv ix scope C s₀ H₀ fp) elt te)
    (q : CmpW nv ix g ti te σ J Fin H)
    (fin : ∀ D C s' H' ys, Inv X pins σ (upd H' D (.lst ys)) s' → H' D = none → Fin ys H' → (∃ m, s'.heap.Ns C m) → FpOk X pins (upd H' D (.lst ys)) C → RR (.ref D) C (.ok .next) s') :
    wpAny (model X.prog X.w) X.A (newList []) (fun acc s₃ => wpAny (model X.prog X.w) X.A (newFunctionEnv scope X.env.globals (clsOf X.env scope.names []) [] X.env.qual none .none (some X.env)) (fun cenv s₄ =>
      codeAny (model X.prog X.w) X.A (.compStart (.ListComp elt [⟨tg, iter, ifs, 0⟩] scope pos) 0 (.ref it) acc { cenv with scope := relabel scope X.env }) (RR acc cenv.locals) s₄) E s₃) E s := by
  obtain ⟨W, ⟨m0, w0⟩, turn⟩ := q
  refine wpAny_newObj_type (wpAny_newFunctionEnv co.nocell (by intro y hy; simp at hy) (fun h₁ hns₁ hsb₁ => ?_) co.kind)
  dsimp only at hns₁ hsb₁ ⊢
  generalize hH2 : s.heap.push { cls := .type "list", dict := none, data := .seq ([] : List Value).toArray } = H2 at hns₁ hsb₁ ⊢
  have hC : H2.objs.size = s.heap.objs.size + 1 := by rw [← hH2, Heap.size_push]
  rw [hC] at hns₁ hsb₁ ⊢
  have hDC : s.heap.objs.size ≠ s.heap.objs.size + 1 := Nat.ne_of_lt (Nat.lt_succ_self _)
  have below : ∀ b, b < s.heap.objs.size → b ≠ s.heap.objs.size + 1 ∧ b ≠ s.heap.objs.size := fun b hb => ⟨Nat.ne_of_lt (Nat.lt_succ_of_lt hb), Nat.ne_of_lt hb⟩
  have old : ∀ b o, s.heap.get? b = some o → h₁.get? b = some o := fun b o e => hsb₁.extBut b o (below b (Heap.lt_size e)).1 (Heap.get?_push_of_some _ (hH2 ▸ Heap.get?_push_of_some _ e))
  have hacc : h₁.get? s.heap.objs.size = some (lobj [] 0) := hsb₁.extBut _ _ hDC (Heap.get?_push_of_some _ (hH2 ▸ Heap.get?_push_size _ rfl))
  have hlt : ∀ b ∈ fp, b < s.heap.objs.size := fun b hb => by
    obtain ⟨o, e, _⟩ := T.obj 0 _ st b hb
    exact Heap.lt_size e
  have I₁ := fun tk => cmp_start (tk := tk) co I hf hlt hns₁ old hacc
  have st₁ : tn 0 h₁ := T.keep 0 _ _ st fun b _ o e => old b o e
  have fpD : ∀ {H' : Hp}, H' s.heap.objs.size = none → FpOk X pins H' s.heap.objs.size := fun hn => I.fpOk (Nat.le_refl _) hn
  have loop : ∀ tk : Nat, codeAny (model X.prog X.w) X.A (.compLoop (.ListComp elt [⟨tg, iter, ifs, 0⟩] scope pos) 0 (.ref it) (.ref s.heap.objs.size) (compEnvC scope (clsOf X.env scope.names []) (s.heap.objs.size + 1) X.env))
      (RR (.ref s.heap.objs.size) (s.heap.objs.size + 1)) { s with heap := h₁, toks := tk } := by
    intro tk
    refine compLoop_go (fun n s' => ∃ i H' ys its k, Inv (cmpX X nv ix scope (s.heap.objs.size + 1) s H fp) [(s.heap.objs.size, lobj its k)] (st0 nv ix σ) H' s' ∧ Vals ys its ∧ ys.length ≤ sizeLine ∧ tn i s'.heap ∧ (∀ b ∈ fp, H' b = none) ∧ W i n ys H')
      ?_ m0 ⟨0, H, [], [], 0, I₁ tk, .nil, Nat.zero_le _, st₁, fun b hb => (hf b hb).1, w0⟩
    rintro n s3 ⟨i, H3, ys, its, k, I3, rv, hz, st3, fr3, w3⟩
    have fpc : ∀ {H' : Hp} {its : List Value} {k : Nat}, (∀ b ∈ fp, H' b = none) → ∀ b ∈ fp, FpOk (cmpX X nv ix scope (s.heap.objs.size + 1) s H fp) [(s.heap.objs.size, lobj its k)] H' b := fun {H' its k} hn b hb => by
      refine ⟨hn b hb, (below b (hlt b hb)).1, fun hs => ?_, .inl hb, fun x c e => (hf b hb).2.2.2.2.1 x c (co.look I.ok e), fun p hp z => ?_⟩
      · rcases List.mem_cons.mp (I.stkSub b hs) with e | h
        · exact (hf b hb).2.1 e
        · exact (hf b hb).2.2.1 h
      · have e : p = (s.heap.objs.size, lobj its k) := by simpa [cmpX] using hp
        subst e
        exact (below b (hlt b hb)).2 z.symm
    have pD := fun {ps : List (Addr × Obj)} {σ' : St} {H' : Hp} {s' : Shared} (I' : Inv (cmpX X nv ix scope (s.heap.objs.size + 1) s H fp) ((s.heap.objs.size, lobj its k) :: ps) σ' H' s') =>
      I'.pin (s.heap.objs.size, lobj its k) (List.mem_append_right _ List.mem_cons_self)
    rcases turn i n ys H3 w3 with ⟨stop, fin0⟩ | ⟨go, hlt', N, hN, step⟩
    · refine thn (T.done (cmpX X nv ix scope (s.heap.objs.size + 1) s H fp) rfl rfl rfl hc i _ s3 _ H3 _ I3 (fpc fr3) st3 stop) fun r s4 ⟨hr, I4⟩ => ?_
      subst hr
      obtain ⟨p1, p2, _⟩ := pD I4
      have I5 := (cmp_end I hf I4).track rv hz p1 p2 (fpD p2)
      obtain ⟨mC, hmC, _⟩ := I4.loc
      exact fin _ _ s4 H3 ys I5 p2 fin0 ⟨mC, hmC⟩ (I.fpOk (Nat.le_succ _) (by rw [upd_ne (Ne.symm hDC)]; exact I4.free))
    · refine thn (T.item (cmpX X nv ix scope (s.heap.objs.size + 1) s H fp) rfl rfl rfl hc i _ s3 _ H3 _ I3 (fpc fr3) st3 go) fun r s4 ⟨u, hr, h4⟩ => ?_
      subst hr
      refine thn h4 fun _ s5 ⟨x, H5, I5, r5, y5, st5, fr5⟩ => ?_
      have I5' := I5.pinned (fpc fr5) (T.obj _ _ st5)
      refine thn (hg _ _ _ _ _ s5 _ H5 x u _ I5' r5 (kg _ _ _ _ (step x H5 y5))) fun _ s6 ⟨σ6, H6, I6, kp, q6⟩ => ?_
      refine thn (hi _ _ _ _ _ s6 σ6 H6 _ I6 q6) fun b s7 ⟨H7, I7, q7⟩ => ?_
      have again : ∀ {s7 : Shared} {H7 : Hp} {ys' its' : List _} {k' : Nat}, Inv (cmpX X nv ix scope (s.heap.objs.size + 1) s H fp) ([(s.heap.objs.size, lobj its' k')] ++ pinsAt fp s5.heap) σ6 H7 s7 → Vals ys' its' → ys'.length ≤ sizeLine → N ys' H7 →
          ∃ m, m < n ∧ ∃ i H' ys its k, Inv (cmpX X nv ix scope (s.heap.objs.size + 1) s H fp) [(s.heap.objs.size, lobj its k)] (st0 nv ix σ) H' s7 ∧ Vals ys its ∧ ys.length ≤ sizeLine ∧ tn i s7.heap ∧ (∀ b ∈ fp, H' b = none) ∧ W i m ys H' := fun {s7 H7 ys' its' k'} I8 rv' hz' n8 => by
        obtain ⟨m', hm, w8⟩ := hN _ _ n8
        have pn := fun (b : Addr) (o : Obj) (hb : b ∈ fp) (e : s5.heap.get? b = some o) => I8.pin (b, o) (List.mem_append_right _ (List.mem_append_right _ (mem_pinsAt hb e)))
        refine ⟨m', hm, i + 1, H7, ys', its', k', (I8.unpinned).weak kp.1 kp.2, rv', hz', T.keep _ _ _ st5 fun b hb o e => (pn b o hb e).1, fun b hb => ?_, w8⟩
        obtain ⟨o, e, d⟩ := T.obj _ _ st5 b hb
        exact (pn b o hb e).2.1
      cases b with
      | false =>
        rw [if_neg Bool.false_ne_true] at q7 ⊢
        exact again I7 rv hz q7
      | true =>
        rw [if_pos rfl] at q7 ⊢
        refine thn (he _ _ _ _ _ s7 σ6 H7 _ I7 q7) fun u8 s8 ⟨y, H8, I8, r8, q8⟩ => ?_
        obtain ⟨p1, p2, p3, p4, p5⟩ := pD I8
        refine append_at (hsz := by rw [List.size_toArray, ← rv.length]; exact Nat.le_of_lt hlt') p1 fun h9 hs9 hD9 => ?_
        have I9 : Inv (cmpX X nv ix scope (s.heap.objs.size + 1) s H fp) (pinsAt fp s5.heap) σ6 H8 { s8 with heap := h9 } := by
          have Iu : Inv (cmpX X nv ix scope (s.heap.objs.size + 1) s H fp) (pinsAt fp s5.heap) σ6 H8 s8 := I8.pins_of fun p hp => I8.pin p (List.mem_append_right _ (List.mem_append_right _ hp))
          refine Iu.turned (t' := s8.toks) (it := s.heap.objs.size) (fun b o hb e => (hs9.2 b hb).trans e) p2 p3 (.inr (Nat.le_refl _)) (fun x c e z => ?_) fun p hp z => ?_
          · obtain ⟨v, o, e1, _⟩ := I.cell x c (co.look I.ok e)
            exact absurd (Heap.lt_size e1) (by rw [z]; exact Nat.lt_irrefl _)
          · have hp' : p ∈ pinsAt fp s5.heap := by simpa [cmpX] using hp
            obtain ⟨hb, _⟩ := of_pinsAt hp'
            exact (below _ (hlt _ hb)).2 z
        have I10 : Inv (cmpX X nv ix scope (s.heap.objs.size + 1) s H fp) ([(s.heap.objs.size, lobj (its ++ [u8]) (k + 1))] ++ pinsAt fp s5.heap) σ6 H8 { s8 with heap := h9 } :=
          I9.pins_of fun p hp => by
            rcases List.mem_append.mp hp with hp | hp
            · have e : p = (s.heap.objs.size, lobj (its ++ [u8]) (k + 1)) := by simpa using hp
              subst e
              refine ⟨?_, p2, p3, p4, fun v z => by cases z⟩
              rw [List.push_toArray] at hD9
              exact hD9
            · exact I9.pin p (List.mem_append_right _ hp)
        exact again I10 (rv.append (.cons r8 .nil)) (by rw [List.length_append, List.length_singleton]; exact hlt') q8
  exact codeAny_compStart_list (loop _) (T.self _ 0 _ _ _ st₁ (loop _))

noncomputable def tComp (nv : List Str) (ix : List (Str × Nat)) (wi : TI) (g : TG) (ti : TT) (te : TE) : TE := fun σ H Q => wi σ H fun J H1 => CmpW nv ix g ti te σ J (fun ys H2 => ∀ D, H2 D = none → Q (.ref D) (upd H2 D (.lst ys))) H1
theorem pe_comp {wi : TI} {g : TG} {ti : TT} {te : TE} (nv : List Str) (ix : List (Str × Nat)) (hc : X.calm = true) (co : CompOk X nv ix scope) (hit : PI X tg iter wi) (kg : KpG nv g) (hg : ∀ C s₀ H₀ fp, PG (cmpX X nv ix scope C s₀ H₀ fp) tg g)
    (hi : ∀ C s₀ H₀ fp, PIf (cmpX X nv ix scope C s₀ H₀ fp) ifs ti) (he : ∀ C s₀ H₀ fp, PE (cmpX X nv ix scope C s₀ H₀ fp) elt te)
    (hs : ∀ x, foldedSetIterable iter X.env x = pure x := by intro _; rfl) : PE X (.ListComp elt [⟨tg, iter, ifs, 0⟩] scope pos) (tComp nv ix wi g ti te) := by
  intro pins s σ H Q I h
  rw [eval_ListComp]
  refine wpAny_comprehension_free (use := none) rfl hs (closure_ok (co.cells I.ok)) co.kind co.names (thn (hit pins s σ H _ I h) fun v s1 h1 => thn h1 fun itv s2 h2 => ?_)
  obtain ⟨it, fp, tn, J, H2, e, I2, T, st2, f2, q⟩ := h2
  subst e
  refine comp_run co hc I2 T st2 f2 kg hg hi he q fun D C s' H' ys I' hD fin ⟨m, hm⟩ hC => ?_
  obtain ⟨c0, c1, c2, c3, c4, c5⟩ := hC
  exact ⟨m, hm, fun h' hs' => ⟨.ref D, _, I'.turned (t' := s'.toks) (fun b o hb e => (hs'.2 b hb).trans e) c0 c1 c3 c4 c5, rfl, fin D hD⟩⟩
theorem ze_comp {wi : TI} {g : TG} {ti : TT} {te : TE} (nv : List Str) (ix : List (Str × Nat)) (hc : X.calm = true) (co : CompOk X nv ix scope) (hit : ZI X tg iter wi) (kg : KpG nv g) (hg : ∀ C s₀ H₀ fp, ZG (cmpX X nv ix scope C s₀ H₀ fp) tg g)
    (hi : ∀ C s₀ H₀ fp, ZIf (cmpX X nv ix scope C s₀ H₀ fp) ifs ti) (he : ∀ C s₀ H₀ fp, ZE (cmpX X nv ix scope C s₀ H₀ fp) elt te)
    (hs : ∀ x, foldedSetIterable iter X.env x = pure x := by intro _; rfl) : ZE X (.ListComp elt [⟨tg, iter, ifs, 0⟩] scope pos) (tComp nv ix wi g ti te) := by with_unfolding_all exact pe_comp nv ix hc co hit kg hg hi he hs
theorem ps_setcomp {wi : TI} {g : TG} {ti : TT} {te : TE} {i : Nat} {y : Str} {py spos : Pos} (nv : List Str) (ix : List (Str × Nat)) (hc : X.calm = true) (hN : X.N.Nodup) (hi' : X.N[i]? = some y) (hy : Loc X.env.scope y) (co : CompOk X nv ix scope) (hit : PI X tg iter wi) (kg : KpG nv g)
    (hg : ∀ C s₀ H₀ fp, PG (cmpX X nv ix scope C s₀ H₀ fp) tg g) (hi : ∀ C s₀ H₀ fp, PIf (cmpX X nv ix scope C s₀ H₀ fp) ifs ti) (he : ∀ C s₀ H₀ fp, PE (cmpX X nv ix scope C s₀ H₀ fp) elt te)
    (hsw : swapsWith (.ListComp elt [⟨tg, iter, ifs, 0⟩] scope pos) (some (.Name y py)) spos.line X.env = pure true := by rfl)
    (hs : ∀ x, foldedSetIterable iter X.env x = pure x := by intro _; rfl) (hfn : X.fn y = true ∨ X.env.scope.names.lookup y = some .local := by first | exact .inl rfl | exact .inr rfl | assumption) :
    PS X (.Assign [.Name y py] (.ListComp elt [⟨tg, iter, ifs, 0⟩] scope pos) spos) (tAsg (tComp nv ix wi g ti te) (gName i)) := by
  intro pins s σ H D I h
  rw [exec_Assign_Name_used _ _ _ _ hsw]
  refine wpAny_bind (wpAny_standAt (wpAny_bind ?_))
  show wpAny _ X.A (do let _ ← comprehension (.ListComp elt [⟨tg, iter, ifs, 0⟩] scope pos) scope X.env _ (newList []) false (eval iter X.env) (some (assign (.Name y py) X.env))) _ _ s
  refine wpAny_bind (wpAny_mono (wpAny_comprehension_free (use := some (assign (.Name y py) X.env)) (Q := fun _ s' => SP X pins D .next s') rfl hs (closure_ok (co.cells I.ok)) co.kind co.names
    (thn (hit pins s σ H _ I h) fun v s1 h1 => thn h1 fun itv s2 h2 => ?_)) (fun _ s' hq => wpAny_pure (wpAny_pure hq)) fun _ _ e => e)
  obtain ⟨it, fp, tn, J, H2, e, I2, T, st2, f2, q⟩ := h2
  subst e
  refine comp_run co hc I2 T st2 f2 kg hg hi he q fun DD C s' H' ys I' hD fin ⟨m, hm⟩ hC => ?_
  obtain ⟨c0, c1, c2, c3, c4, c5⟩ := hC
  show wpAny _ X.A (assign (.Name y py) X.env (.ref DD)) _ _ s'
  refine wpAny_assign_Name (store_ok2 I' hN hi' hy (show RelV (.ref DD) (.ref DD) from rfl) (fun s'' I'' ⟨a, sb, ha⟩ => ?_) hfn)
  have hCa : C ≠ a := by
    rcases ha with rfl | ha
    · exact c1
    · exact fun z => c4 y a ha z.symm
  refine ⟨m, hm.sameBut sb hCa, fun h' hs' => ⟨_, _, I''.turned (t' := s''.toks) (fun b o hb e => (hs'.2 b hb).trans e) c0 c1 c3 c4 c5, fin DD hD⟩⟩
theorem zs_setcomp {wi : TI} {g : TG} {ti : TT} {te : TE} {i : Nat} {y : Str} {py spos : Pos} (nv : List Str) (ix : List (Str × Nat)) (hc : X.calm = true) (hN : X.N.Nodup) (hi' : X.N[i]? = some y) (hy : Loc X.env.scope y) (co : CompOk X nv ix scope) (hit : ZI X tg iter wi) (kg : KpG nv g)
    (hg : ∀ C s₀ H₀ fp, ZG (cmpX X nv ix scope C s₀ H₀ fp) tg g) (hi : ∀ C s₀ H₀ fp, ZIf (cmpX X nv ix scope C s₀ H₀ fp) ifs ti) (he : ∀ C s₀ H₀ fp, ZE (cmpX X nv ix scope C s₀ H₀ fp) elt te)
    (hsw : swapsWith (.ListComp elt [⟨tg, iter, ifs, 0⟩] scope pos) (some (.Name y py)) spos.line X.env = pure true := by rfl)
    (hs : ∀ x, foldedSetIterable iter X.env x = pure x := by intro _; rfl) (hfn : X.fn y = true ∨ X.env.scope.names.lookup y = some .local := by first | exact .inl rfl | exact .inr rfl | assumption) :
    ZS X (.Assign [.Name y py] (.ListComp elt [⟨tg, iter, ifs, 0⟩] scope pos) spos) (tAsg (tComp nv ix wi g ti te) (gName i)) := by with_unfolding_all exact ps_setcomp nv ix hc hN hi' hy co hit kg hg hi he hsw hs hfn
end
section
variable {nv : List Str} {ix : List (Str × Nat)} {σ : St} {H : Hp} {g : TG} {ti : TT} {te : TE} {Fin : List V → Hp → Prop} {K : PySem.W.Frag} {a : Addr} {xs : List V}
theorem cmp_list (Pv : Nat → List V → Hp → Prop) (h0 : Pv 0 [] H) (hl : ∀ i ys H, i ≤ xs.length → Pv i ys H → SqL K H a xs)
    (hs : ∀ i x ys H, xs[i]? = some x → Pv i ys H → ys.length < sizeLine ∧ g x (st0 nv ix σ) H fun σ2 H2 => ti σ2 H2 fun b H3 => if b = true then te σ2 H3 fun y H4 => Pv (i + 1) (ys ++ [y]) H4 else Pv (i + 1) ys H3)
    (hd : ∀ ys H, Pv xs.length ys H → Fin ys H) : CmpW nv ix g ti te σ (Itl K a) Fin H := by
  refine ⟨fun i m ys H => m = xs.length - i ∧ i ≤ xs.length ∧ Pv i ys H, ⟨xs.length, by simp, Nat.zero_le _, h0⟩, ?_⟩
  rintro i m ys H ⟨rfl, hi, p⟩
  have q := hl i ys H hi p
  by_cases hlt : i < xs.length
  · have e := hs i xs[i] ys H (by simp [hlt]) p
    refine .inr ⟨⟨xs, xs[i], q, by simp [hlt]⟩, e.1, Pv (i + 1), fun σ' H' p' => ⟨xs.length - (i + 1), by omega, rfl, hlt, p'⟩, fun x H' y => ?_⟩
    obtain ⟨e', y⟩ := y
    subst e'
    exact (hs i x ys _ (y xs q) p).2
  · have e : i = xs.length := by omega
    subst e
    exact .inl ⟨⟨xs, q, Nat.le_refl _⟩, hd ys H p⟩
theorem cmp_tup (Pv : Nat → List V → Hp → Prop) (h0 : Pv 0 [] H) (hl : ∀ i ys H, i ≤ xs.length → Pv i ys H → SqT K H a xs)
    (hs : ∀ i x ys H, xs[i]? = some x → Pv i ys H → ys.length < sizeLine ∧ g x (st0 nv ix σ) H fun σ2 H2 => ti σ2 H2 fun b H3 => if b = true then te σ2 H3 fun y H4 => Pv (i + 1) (ys ++ [y]) H4 else Pv (i + 1) ys H3)
    (hd : ∀ ys H, Pv xs.length ys H → Fin ys H) : CmpW nv ix g ti te σ (Itt K a) Fin H := by
  refine ⟨fun i m ys H => m = xs.length - i ∧ i ≤ xs.length ∧ Pv i ys H, ⟨xs.length, by simp, Nat.zero_le _, h0⟩, ?_⟩
  rintro i m ys H ⟨rfl, hi, p⟩
  have q := hl i ys H hi p
  by_cases hlt : i < xs.length
  · have e := hs i xs[i] ys H (by simp [hlt]) p
    refine .inr ⟨⟨xs, xs[i], q, by simp [hlt]⟩, e.1, Pv (i + 1), fun σ' H' p' => ⟨xs.length - (i + 1), by omega, rfl, hlt, p'⟩, fun x H' y => ?_⟩
    obtain ⟨e', y⟩ := y
    subst e'
    exact (hs i x ys _ (y xs q) p).2
  · have e : i = xs.length := by omega
    subst e
    exact .inl ⟨⟨xs, q, Nat.le_refl _⟩, hd ys H p⟩
theorem cmp_range {lo : Int} {n : Nat} (Pv : Nat → List V → Hp → Prop) (h0 : Pv 0 [] H)
    (hs : ∀ i ys H, i < n → Pv i ys H → ys.length < sizeLine ∧ g (.int (lo + i)) (st0 nv ix σ) H fun σ2 H2 => ti σ2 H2 fun b H3 => if b = true then te σ2 H3 fun y H4 => Pv (i + 1) (ys ++ [y]) H4 else Pv (i + 1) ys H3)
    (hd : ∀ ys H, Pv n ys H → Fin ys H) : CmpW nv ix g ti te σ (Itr lo n) Fin H := by
  refine ⟨fun i m ys H => m = n - i ∧ i ≤ n ∧ Pv i ys H, ⟨n, by simp, Nat.zero_le _, h0⟩, ?_⟩
  rintro i m ys H ⟨rfl, hi, p⟩
  by_cases hlt : i < n
  · refine .inr ⟨hlt, (hs i ys H hlt p).1, Pv (i + 1), fun σ' H' p' => ⟨n - (i + 1), by omega, rfl, hlt, p'⟩, fun x H' y => ?_⟩
    obtain ⟨e', y⟩ := y
    subst e' y
    exact (hs i ys _ hlt p).2
  · have e : i = n := by omega
    subst e
    exact .inl ⟨Nat.le_refl _, hd ys H p⟩
end
end L2
set_option Elab.async false
set_option linter.all false
set_option maxRecDepth 100000
set_option maxHeartbeats 4000000
namespace L2
open PySem PySem.Spec PyProof.Rows
theorem Same.new {H : Hp} {p : Addr} (h : H p = none) (o : HO) : Same H (upd H p o) := fun b u q => by rw [upd_ne (ne_of_none q h)]; exact q

section
variable {X : Cx} {a b c : Expr} {ta tb tc : TE} {pos : Pos}
theorem op_mulB : OpR X (binaryOp .Mult) (rI (fun i j => IntMulOk i j) fun i j => .int (i * j)) := opI fun _ _ _ _ _ _ _ hc q => mul_int q hc

noncomputable def RvR (X : Cx) (r : V → Hp → VK → Prop) : Prop :=
  ∀ (pins : List (Addr × Obj)) (s : Shared) (σ : St) (H : Hp) (x : V) (v vk : Value) (sl : Addr) (Q : VK), Inv X pins σ H s → RelV x v → s.heap.IsSliceOf sl .none .none vk → IsPart vk (some (-1)) → r x H Q →
    ∃ T id, typeLookup (.type T) "__getitem__" = pure (some (.builtin id)) ∧ s.TypeIs v T ∧ wpAny (model X.prog X.w) X.A (getItem v (.ref sl)) (EP X pins σ Q) X.xe s
noncomputable def tRv (r : V → Hp → VK → Prop) (te : TE) : TE := fun σ H Q => te σ H fun x H1 => r x H1 Q
theorem pe_rev {e : Expr} {te : TE} {p1 p2 p3 : Pos} {k : Nat} {r : V → Hp → VK → Prop} (hr : RvR X r) (he : PE X e te) : PE X (.Subscript e (.Slice none none (some (.UnaryOp .USub (.Constant (.int 1) k p1) p2)) p3) pos) (tRv r te) := by
  intro pins s σ H Q I h
  refine Subscript_ (thn (he pins s σ H _ I h) fun v s1 ⟨x, H1, I1, r1, q1⟩ => ?_)
  refine wpAny_Slice ?_
  rw [evalPart_none]
  refine wpAny_pure ?_
  refine wpAny_pure ?_
  rw [evalPart_some]
  refine UnaryOp_ (wpAny_Constant_int (neg_int ?_))
  have I4 : ∀ (tk : Nat) (u : Tok), Inv X pins σ H1 { s1 with heap := s1.heap.push { cls := .type "slice", data := .fields #[.none, .none, .int (-1) u] }, toks := tk } := fun tk u => I1.kept fun b ob q => Heap.get?_push_of_some _ q
  obtain ⟨T, id, hT, ht, hg⟩ := hr pins _ σ H1 x v _ s1.heap.objs.size Q (I4 _ _) r1 (Heap.IsSliceOf.new ..) (IsPart.int (-1) _) q1
  exact tail_any (ops := [v, .ref s1.heap.objs.size]) ht hT hg (by with_unfolding_all rfl)
theorem ze_rev {e : Expr} {te : TE} {p1 p2 p3 : Pos} {k : Nat} {r : V → Hp → VK → Prop} (hr : RvR X r) (he : ZE X e te) : ZE X (.Subscript e (.Slice none none (some (.UnaryOp .USub (.Constant (.int 1) k p1) p2)) p3) pos) (tRv r te) := by with_unfolding_all exact pe_rev hr he
noncomputable def rRvL (K : PySem.W.Frag) : V → Hp → VK → Prop := fun x H Q => ∃ a xs, x = .ref a ∧ SqL K H a xs ∧ ∀ p, H p = none → Q (.ref p) (upd H p (.lst xs.reverse))
theorem rv_list : RvR X (rRvL X.K) := by
  intro pins s σ H x v vk sl Q I rx hs pk h
  obtain ⟨a, xs, rfl, hx, q⟩ := h
  cases rx
  obtain ⟨its, r, ht, hz⟩ := I.list hx
  have hlen := r.length
  refine ⟨"list", _, slot_list_getitem.lookup, ht.isList.typeIs, ?_⟩
  refine wpAny_getItem_list_slice ht.isList hs .none .none pk (by decide) ?_ (by rw [List.size_toArray] <;> omega)
  rw [PySem.W.krv_pick]
  refine ⟨.ref s.heap.objs.size, _, I.laid (t' := s.toks) (o := .lst xs.reverse) (fun b ob q => Heap.get?_push_of_some _ q) (Nat.le_refl _) ?_, rfl, q _ (I.hok.fresh (Nat.le_refl _))⟩
  exact ⟨by rw [List.length_reverse]; exact hz, its.reverse, 0, r.reverse, Heap.get?_push_size _ rfl⟩

end
end L2
set_option Elab.async false
set_option linter.all false
set_option maxRecDepth 100000
set_option maxHeartbeats 4000000
namespace L2
open PySem PySem.Spec PyProof.Rows
section
variable {prog : Program} {w : World} {A : Around} {E : Value → Shared → Prop} {s : Shared}
theorem getItem_tuple_whole {t sl : Addr} {items : Array Value} {vl vu : Value} {lo hi : Option Int} {Q : Value → Shared → Prop} (ht : IsTup s.heap t items) (hs : s.heap.IsSliceOf sl vl vu .none) (pl : IsPart vl lo) (pu : IsPart vu hi)
    (hw : HT.sIx items.size 0 lo = 0 ∧ HT.sIx items.size items.size hi = items.size)
    (h : Q (.ref t) s) : wpAny (model prog w) A (getItem (.ref t) (.ref sl)) Q E s := by
  obtain ⟨os, hos, hcs, hds⟩ := id hs
  have hTs : s.TypeIs (.ref sl) "slice" := ⟨os, hos, hcs⟩
  unfold getItem
  try with_reducible refine wpAny_holding ?_
  first | refine wpAny_bind (wpAny_pure ?_) | skip
  refine wpAny_bind (wpAny_sequenceKey ht.typeIs (by decide) ?_)
  refine wpAny_bind (wpAny_callSpecial?_slot (name := Str.ofString "__getitem__") ht.typeIs PyProof.Rows.slot_tuple_getitem
    (wpAny_call_entry PyProof.Rows.slot_tuple_getitem ht.typeIs entry_tuple_getitem ?_ (args_tuple_getitem _ _)))
  show wpAny _ _ (Builtin.Tuple.tupleItemsOf (.ref t) >>= _) _ _ s
  refine wpAny_bind (tupleItemsOf_ ht ?_)
  refine wpAny_bind (wpAny_typeOf hTs ?_)
  rw [if_pos (by decide)]
  refine wpAny_bind (HT.sliceApplied_gen hs pl pu ?_)
  have hyes : ((((HT.sIx items.size 0 lo : Nat) : Int) == 0 && (1 : Int) == 1 && (HT.sIx items.size items.size hi - HT.sIx items.size 0 lo) == items.size) = true) := by
    rw [hw.1, hw.2]
    simp
  show wpAny _ _ (if (((HT.sIx items.size 0 lo : Nat) : Int) == 0 && (1 : Int) == 1 && (HT.sIx items.size items.size hi - HT.sIx items.size 0 lo) == items.size) = true then _ else _) _ _ s
  rw [if_pos hyes]
  refine wpAny_bind (m := Builtin.Tuple.tupleIsExact _) ?_
  unfold Builtin.Tuple.tupleIsExact
  refine wpAny_bind (wpAny_typeOf ht.typeIs (wpAny_pure ?_))
  rw [if_pos (by decide)]
  exact wpAny_bind (wpAny_rule (wpAny_pure ⟨_, rfl, wpAny_pure h⟩))
theorem filterMap_eq {α β : Type} {f g : α → Option β} : ∀ {l : List α}, (∀ a ∈ l, f a = g a) → l.filterMap f = l.filterMap g
  | [], _ => rfl
  | a :: r, h => by
    rw [List.filterMap_cons, List.filterMap_cons, h a List.mem_cons_self, filterMap_eq fun b hb => h b (List.mem_cons_of_mem _ hb)]
theorem rev_pick (xs : Array Value) : ((List.range xs.size).filterMap fun (m : Nat) => xs[(((xs.size : Int) - 1) + (m : Int) * (-1)).toNat]?).toArray = xs.toList.reverse.toArray := by
  have h := PySem.W.krv_pick xs
  unfold slicePick at h
  rw [PySem.W.krv_bounds] at h
  have h' : ((sliceRange ((xs.size : Int) - 1) (-1) (-1)).filterMap (xs[·]?)).toArray = xs.toList.reverse.toArray := h
  rw [PySem.W.krv_sliceRange, List.filterMap_map] at h'
  rw [← h']
  congr 1
  refine filterMap_eq fun m hm => ?_
  have := List.mem_range.mp hm
  show xs[_]? = xs[xs.size - 1 - m]?
  congr 1
  omega
theorem sliceApplied_rev {sl : Addr} {vk : Value} {n : Nat} {Q : Int × Int × Nat → Shared → Prop} (hs : s.heap.IsSliceOf sl .none .none vk) (pk : IsPart vk (some (-1)))
    (h : Q ((n : Int) - 1, -1, n) s) : wpAny (model prog w) A (Builtin.Slice.sliceApplied (.ref sl) (pure (n : Int))) Q E s := by
  obtain ⟨os, hos, hcs, hds⟩ := id hs
  unfold Builtin.Slice.sliceApplied Builtin.Slice.sliceFields
  refine wpAny_bind (wpAny_bind (wpAny_field hos hds (x := .none) rfl (wpAny_bind (wpAny_field hos hds (x := .none) rfl (wpAny_bind (wpAny_field hos hds (x := vk) rfl (wpAny_pure ?_)))))))
  refine wpAny_bind (HT.slicePart_ pk ?_)
  show wpAny _ _ (if ((-1 : Int) == 0) = true then _ else _) _ _ s
  rw [if_neg (by decide)]
  refine wpAny_bind (slicePart_none (wpAny_bind (slicePart_none (wpAny_bind (wpAny_pure ?_)))))
  show wpAny _ _ (match Builtin.Slice.sliceAdjust none none (-1) (n : Int) with | (lo, hi) => pure (lo, (-1 : Int), Builtin.Slice.slicePlaces lo hi (-1))) _ _ s
  have e1 : Builtin.Slice.sliceAdjust none none (-1) (n : Int) = ((n : Int) - 1, -1) := by rfl
  rw [e1]
  show wpAny _ _ (pure ((n : Int) - 1, (-1 : Int), Builtin.Slice.slicePlaces ((n : Int) - 1) (-1) (-1))) _ _ s
  have e2 : Builtin.Slice.slicePlaces ((n : Int) - 1) (-1) (-1) = n := by
    unfold Builtin.Slice.slicePlaces
    rw [if_neg (by decide)]
    have e3 : (- -1 : Int) = 1 := by decide
    rw [e3, Int.ediv_one]
    split <;> omega
  rw [e2]
  exact wpAny_pure h
theorem getItem_tuple_rev {t sl : Addr} {items : Array Value} {vk : Value} {Q : Value → Shared → Prop} (ht : IsTup s.heap t items) (hs : s.heap.IsSliceOf sl .none .none vk) (pk : IsPart vk (some (-1)))
    (h : Q (.ref s.heap.objs.size) { s with heap := s.heap.push { cls := .type "tuple", data := .seq items.toList.reverse.toArray } })
    (hsz : items.size ≤ sizeLine) : wpAny (model prog w) A (getItem (.ref t) (.ref sl)) Q E s := by
  have htake : sizeOk (.seq items.toList.reverse.toArray) := by
    show items.toList.reverse.toArray.size ≤ sizeLine
    rw [List.size_toArray, List.length_reverse, Array.length_toList]
    exact hsz
  obtain ⟨os, hos, hcs, hds⟩ := id hs
  have hTs : s.TypeIs (.ref sl) "slice" := ⟨os, hos, hcs⟩
  unfold getItem
  try with_reducible refine wpAny_holding ?_
  first | refine wpAny_bind (wpAny_pure ?_) | skip
  refine wpAny_bind (wpAny_sequenceKey ht.typeIs (by decide) ?_)
  refine wpAny_bind (wpAny_callSpecial?_slot (name := Str.ofString "__getitem__") ht.typeIs PyProof.Rows.slot_tuple_getitem
    (wpAny_call_entry PyProof.Rows.slot_tuple_getitem ht.typeIs entry_tuple_getitem ?_ (args_tuple_getitem _ _)))
  show wpAny _ _ (Builtin.Tuple.tupleItemsOf (.ref t) >>= _) _ _ s
  refine wpAny_bind (tupleItemsOf_ ht ?_)
  refine wpAny_bind (wpAny_typeOf hTs ?_)
  rw [if_pos (by decide)]
  refine wpAny_bind (sliceApplied_rev hs pk ?_)
  have hno : ¬ ((((items.size : Int) - 1) == 0 && (-1 : Int) == 1 && items.size == items.size) = true) := by
    intro q
    rw [Bool.and_eq_true, Bool.and_eq_true] at q
    exact absurd q.1.2 (by decide)
  show wpAny _ _ (if (((items.size : Int) - 1) == 0 && (-1 : Int) == 1 && items.size == items.size) = true then _ else _) _ _ s
  rw [if_neg hno, rev_pick]
  first
    | exact wpAny_bind (m := Builtin.Tuple.tupleExact _) (wpAny_newObj_type (wpAny_pure ⟨_, rfl, wpAny_pure h⟩) htake)
    | exact wpAny_bind (m := Builtin.Tuple.tupleExact _) (wpAny_newObj_type (wpAny_bind (wpAny_pure (wpAny_pure ⟨_, rfl, wpAny_pure h⟩))) htake)
    | exact wpAny_bind (wpAny_bind (m := Builtin.Tuple.tupleExact _) (wpAny_newObj_type (wpAny_pure (wpAny_pure ⟨_, rfl, wpAny_pure h⟩)) htake))
    | exact wpAny_bind (wpAny_bind (m := Builtin.Tuple.tupleExact _) (wpAny_newObj_type (wpAny_pure ⟨_, rfl, wpAny_pure h⟩) htake))
end
section
variable {X : Cx} {a b c : Expr} {ta tb tc : TE} {pos : Pos}
noncomputable def rSlP (K : PySem.W.Frag) : V → Option Int → Option Int → Hp → VK → Prop := fun x lo hi H Q => ∃ a, x = .ref a ∧ ((∃ xs, H a = some (.tup xs) ∧ ∀ r H', Same H H' → H' r = some (.tup (cutV xs lo hi)) → Q (.ref r) H') ∨
  ∃ xs, SqL K H a xs ∧ ∀ p, H p = none → Q (.ref p) (upd H p (.lst (cutV xs lo hi))))
theorem sl_P : SlR X (rSlP X.K) := by
  intro pins s σ H x v vl vu lo hi sl Q I rx hs pl pu h
  obtain ⟨a, rfl, ⟨xs, hx, q⟩ | ⟨xs, hx, q⟩⟩ := h
  · by_cases hw : HT.sIx xs.length 0 lo = 0 ∧ HT.sIx xs.length xs.length hi = xs.length
    · cases rx
      obtain ⟨its, r, ht, hz⟩ := I.tuple (SqT.of hx)
      have hlen : its.toArray.size = xs.length := by rw [List.size_toArray]; exact r.length.symm
      refine ⟨"tuple", _, PyProof.Rows.slot_tuple_getitem.lookup, ht.typeIs, ?_⟩
      refine getItem_tuple_whole ht hs pl pu (by rw [hlen]; exact hw) ⟨.ref a, H, I, rfl, q a H (Same.refl H) ?_⟩
      rw [hx]
      unfold cutV
      rw [hw.1, hw.2, List.drop_zero, Nat.sub_zero, List.take_of_length_le (Nat.le_refl _)]
    · exact sl_tup pins s σ H _ v vl vu lo hi sl Q I rx hs pl pu ⟨a, xs, rfl, SqT.of hx, hw, fun p hp => q p _ (Same.new hp _) upd_same⟩
  · exact sl_list pins s σ H _ v vl vu lo hi sl Q I rx hs pl pu ⟨a, xs, rfl, hx, q⟩
noncomputable def rRvP (K : PySem.W.Frag) : V → Hp → VK → Prop := fun x H Q => ∃ a, x = .ref a ∧ ((∃ xs, H a = some (.tup xs) ∧ ∀ p, H p = none → Q (.ref p) (upd H p (.tup xs.reverse))) ∨ ∃ xs, SqL K H a xs ∧ ∀ p, H p = none → Q (.ref p) (upd H p (.lst xs.reverse)))
theorem rv_P : RvR X (rRvP X.K) := by
  intro pins s σ H x v vk sl Q I rx hs pk h
  obtain ⟨a, rfl, ⟨xs, hx, q⟩ | ⟨xs, hx, q⟩⟩ := h
  · cases rx
    obtain ⟨its, r, ht, hz⟩ := I.tuple (SqT.of hx)
    have hlen := r.length
    refine ⟨"tuple", _, PyProof.Rows.slot_tuple_getitem.lookup, ht.typeIs, ?_⟩
    refine getItem_tuple_rev ht hs pk ?_ (by rw [List.size_toArray, ← hlen]; exact hz)
    refine ⟨.ref s.heap.objs.size, _, I.laid (t' := s.toks) (o := .tup xs.reverse) (fun b ob q => Heap.get?_push_of_some _ q) (Nat.le_refl _) ?_, rfl, q _ (I.hok.fresh (Nat.le_refl _))⟩
    exact ⟨by rw [List.length_reverse]; exact hz, its.reverse, r.reverse, TupD.new _ _⟩
  · exact rv_list pins s σ H _ v vk sl Q I rx hs pk ⟨a, xs, rfl, hx, q⟩

theorem PE.imp {e : Expr} {t t' : TE} (h : PE X e t) (i : ∀ σ H Q, t' σ H Q → t σ H Q) : PE X e t' := fun pins s σ H Q I q => h pins s σ H Q I (i σ H Q q)
theorem OpR.imp {f : Value → Value → Sem Value} {r r' : R2} (h : OpR X f r) (i : ∀ x y H Q, r' x y H Q → r x y H Q) : OpR X f r' := fun pins s σ H x y v u Q I rx ry q => h pins s σ H x y v u Q I rx ry (i x y H Q q)
noncomputable def tV (i : Nat) : TE := fun σ H Q => match σ[i]? with | some (some v) => Q v H | _ => False
theorem tV_var {i : Nat} (σ : St) (H : Hp) (Q : VK) (h : tV i σ H Q) : tVar i σ H Q := by
  unfold tV at h
  split at h
  · exact ⟨_, by assumption, h⟩
  · exact h.elim
theorem pn (i : Nat) {x : Str} {pos : Pos} (hN : X.N[i]? = some x := by rfl) (hv : Vis X.env.scope x := by first | exact Or.inl rfl | exact Or.inr (Or.inl rfl) | exact Or.inr (Or.inr rfl)) (hd : (x == ("__debug__" : Str)) = false := by decide)
    (hcd : (x == ("__classdict__" : Str)) = false := by decide) : PE X (.Name x pos) (tV i) := (pe_var hN hv hd hcd).imp tV_var
theorem zn (i : Nat) {x : Str} {pos : Pos} (hN : X.N[i]? = some x := by rfl) (hv : Vis X.env.scope x := by first | exact Or.inl rfl | exact Or.inr (Or.inl rfl) | exact Or.inr (Or.inr rfl)) (hd : (x == ("__debug__" : Str)) = false := by decide)
    (hcd : (x == ("__classdict__" : Str)) = false := by decide) : ZE X (.Name x pos) (tV i) := by with_unfolding_all exact pn i hN hv hd hcd
noncomputable def rAddP (K : PySem.W.Frag) : R2 := fun x y H Q => match x, y with
  | .int i, .int j => Q (.int (i + j)) H
  | .str i, .str j => i.length + j.length ≤ sizeLine ∧ Q (.str (i ++ j)) H
  | .ref a, .ref b => (∃ xs ys, H a = some (.lst xs) ∧ H b = some (.lst ys) ∧ xs.length + ys.length ≤ sizeLine ∧ ∀ p, H p = none → Q (.ref p) (upd H p (.lst (xs ++ ys)))) ∨
      ∃ xs ys, H a = some (.tup xs) ∧ H b = some (.tup ys) ∧ xs.length + ys.length ≤ sizeLine ∧ ∀ r H', Same H H' → H' r = some (.tup (xs ++ ys)) → Q (.ref r) H'
  | _, _ => False
theorem op_catA' : OpR X (binaryOp .Add) (fun x y H Q => ∃ a b xs ys, x = .ref a ∧ y = .ref b ∧ H a = some (.tup xs) ∧ H b = some (.tup ys) ∧ xs.length + ys.length ≤ sizeLine ∧ ∀ r H', Same H H' → H' r = some (.tup (xs ++ ys)) → Q (.ref r) H') := by
  intro pins s σ H x y v u Q I rx ry h
  obtain ⟨a, b, xs, ys, rfl, rfl, ha, hb, hz, q⟩ := h
  by_cases hx : xs = []
  · subst hx
    cases rx
    cases ry
    obtain ⟨its, r1, p1, _⟩ := I.tuple (SqT.of ha)
    obtain ⟨its2, r2, p2, _⟩ := I.tuple (SqT.of hb)
    cases r1
    obtain ⟨⟨cls, dd, data, sl⟩, ho, hc, n, hd⟩ := id p1
    obtain ⟨⟨cls2, dd2, data2, sl2⟩, ho2, hc2, n2, hd2⟩ := id p2
    simp only at hc hd hc2 hd2
    subst hc hd hc2 hd2
    exact concat_meets ⟨_, ho, rfl⟩ ⟨_, ho2, rfl⟩ noFill_tuple_add seq_tuple_add PySem.F.slot_tuple_add PySem.F.entry_tuple_add (PySem.F.args_tuple_add_2 _ _)
      (tuple_addW0 a b _ _ n n2 dd dd2 sl sl2 (by rfl)) ⟨ho, ho2, ⟨.ref b, H, I, rfl, q b H (Same.refl H) hb⟩⟩
  · refine op_catT pins s σ H _ _ v u Q I rx ry ⟨a, b, xs, ys, rfl, rfl, SqT.of ha, SqT.of hb, hx, hz, fun e => ?_, fun e p hp => ?_⟩
    · subst e
      exact q a H (Same.refl H) (by rw [List.append_nil]; exact ha)
    · exact q p _ (Same.new hp _) upd_same
theorem op_addP : OpR X (binaryOp .Add) (rAddP X.K) := by
  intro pins s σ H x y v u Q I rx ry h
  unfold rAddP at h
  split at h
  · exact op_add pins s σ H _ _ v u Q I rx ry ⟨_, _, rfl, rfl, h⟩
  · exact op_add_str pins s σ H _ _ v u Q I rx ry ⟨_, _, rfl, rfl, h⟩
  · rcases h with ⟨xs, ys, h1, h2, h3, q⟩ | ⟨xs, ys, h1, h2, h3, q⟩
    · exact op_cat pins s σ H _ _ v u Q I rx ry ⟨_, _, xs, ys, rfl, rfl, h1, h2, h3, q⟩
    · exact op_catA' pins s σ H _ _ v u Q I rx ry ⟨_, _, xs, ys, rfl, rfl, h1, h2, h3, q⟩
  · exact h.elim
noncomputable def rP (C : Int → Int → Prop) (g : Int → Int → V) : R2 := fun x y H Q => match x, y with | .int i, .int j => C i j ∧ Q (g i j) H | _, _ => False
noncomputable def rP0 (g : Int → Int → V) : R2 := fun x y H Q => match x, y with | .int i, .int j => Q (g i j) H | _, _ => False
theorem rP_rI {C : Int → Int → Prop} {g : Int → Int → V} (x y : V) (H : Hp) (Q : VK) (h : rP C g x y H Q) : rI C g x y H Q := by
  unfold rP at h
  split at h
  · exact ⟨_, _, rfl, rfl, h⟩
  · exact h.elim
theorem rP0_rI0 {g : Int → Int → V} (x y : V) (H : Hp) (Q : VK) (h : rP0 g x y H Q) : rI0 g x y H Q := by
  unfold rP0 at h
  split at h
  · exact ⟨_, _, rfl, rfl, h⟩
  · exact h.elim
theorem op_subP : OpR X (binaryOp .Sub) (rP0 fun i j => .int (i - j)) := op_sub.imp rP0_rI0
theorem op_modP : OpR X (binaryOp .Mod) (rP (fun _ j => 0 < j) fun i j => .int (i % j)) := op_mod.imp rP_rI
theorem op_fdivP : OpR X (binaryOp .FloorDiv) (rP CDiv fun i j => .int (i / j)) := op_fdiv.imp rP_rI
theorem op_powP : OpR X (binaryOp .Pow) (rP CPow fun i j => .int (i ^ j.toNat)) := op_pow.imp rP_rI
theorem op_ltP : OpR X (compareOp .Lt) (rP0 fun i j => .bl (decide (i < j))) := op_lt.imp rP0_rI0
theorem op_leP : OpR X (compareOp .LtE) (rP0 fun i j => .bl (decide (i ≤ j))) := op_le.imp rP0_rI0
theorem op_gtP : OpR X (compareOp .Gt) (rP0 fun i j => .bl (decide (j < i))) := op_gt.imp rP0_rI0
theorem op_geP : OpR X (compareOp .GtE) (rP0 fun i j => .bl (decide (j ≤ i))) := op_ge.imp rP0_rI0
noncomputable def rIsP (neg : Bool) : R2 := fun x y H Q => match y with
  | .non => Q (.bl (if neg then !decide (x = y) else decide (x = y))) H
  | .bl _ => match x with
    | .flt _ => False
    | .byt _ => False
    | .ty _ => False
    | _ => Q (.bl (if neg then !decide (x = y) else decide (x = y))) H
  | _ => False
end
end L2
set_option Elab.async false
set_option linter.all false
set_option maxRecDepth 100000
set_option maxHeartbeats 4000000
namespace L2
open PySem PySem.Spec PyProof.Rows
mutual
inductive DatV (H : Hp) : V → PyData → Prop where
  | non : DatV H .non .none
  | bl (b : Bool) : DatV H (.bl b) (.bool b)
  | int (i : Int) : DatV H (.int i) (.int i)
  | str (x : Str) : DatV H (.str x) (.str x)
  | lst {a : Addr} {xs : List V} {ds : List PyData} (e : H a = some (.lst xs)) (r : DatAll H xs ds) : DatV H (.ref a) (.list ds)
  | tup {a : Addr} {xs : List V} {ds : List PyData} (e : H a = some (.tup xs)) (r : DatAll H xs ds) : DatV H (.ref a) (.tuple ds)
inductive DatAll (H : Hp) : List V → List PyData → Prop where
  | nil : DatAll H [] []
  | cons {x : V} {d : PyData} {xs : List V} {ds : List PyData} (h : DatV H x d) (r : DatAll H xs ds) : DatAll H (x :: xs) (d :: ds)
end
mutual
theorem DatV.same {H H' : Hp} (s : Same H H') : ∀ {x : V} {d : PyData}, DatV H x d → DatV H' x d
  | _, _, .non => .non
  | _, _, .bl b => .bl b
  | _, _, .int i => .int i
  | _, _, .str x => .str x
  | _, _, .lst e r => .lst (s _ _ e) (DatAll.same s r)
  | _, _, .tup e r => .tup (s _ _ e) (DatAll.same s r)
theorem DatAll.same {H H' : Hp} (s : Same H H') : ∀ {xs : List V} {ds : List PyData}, DatAll H xs ds → DatAll H' xs ds
  | _, _, .nil => .nil
  | _, _, .cons h r => .cons (DatV.same s h) (DatAll.same s r)
end
theorem DatAll.ints {H : Hp} : ∀ ns : List Int, DatAll H (ns.map V.int) (ns.map PyData.int)
  | [] => .nil
  | n :: r => .cons (.int n) (DatAll.ints r)
section
variable {X : Cx} {pins : List (Addr × Obj)} {σ : St} {H : Hp} {s : Shared}
mutual
theorem DatV.reads (I : Inv X pins σ H s) : ∀ {x : V} {d : PyData} {v : Value}, DatV H x d → RelV x v → ∃ as, Reads s.heap v d as
  | _, _, _, .non, r => by cases r; exact ⟨_, .none⟩
  | _, _, _, .bl b, r => by cases r; exact ⟨_, .bool b⟩
  | _, _, _, .int i, r => by obtain ⟨t, rfl⟩ := r; exact ⟨_, .int i t⟩
  | _, _, _, .str x, r => by obtain ⟨t, rfl⟩ := r; exact ⟨_, .str x t⟩
  | _, _, _, .lst e q, r => by
    cases r
    obtain ⟨_, its, n, rv, h⟩ := I.lstM e
    obtain ⟨_, h⟩ := h
    obtain ⟨as, z⟩ := DatAll.reads I q rv
    exact ⟨_, reads_list_at h rfl rfl z⟩
  | _, _, _, .tup e q, r => by
    cases r
    obtain ⟨its, rv, ⟨o, h1, h2, n, h3⟩, _⟩ := I.tuple (SqT.of e)
    obtain ⟨as, z⟩ := DatAll.reads I q rv
    exact ⟨_, reads_tuple_at h1 h2 h3 z⟩
theorem DatAll.reads (I : Inv X pins σ H s) : ∀ {xs : List V} {ds : List PyData} {vs : List Value}, DatAll H xs ds → Vals xs vs → ∃ as, ReadsAll s.heap vs ds as
  | _, _, _, .nil, r => by cases r; exact ⟨_, .nil⟩
  | _, _, _, .cons h q, r => by
    cases r with
    | cons r1 r2 =>
      obtain ⟨as, z⟩ := DatV.reads I h r1
      obtain ⟨bs, y⟩ := DatAll.reads I q r2
      exact ⟨_, .cons z y⟩
end
end
section
variable {X : Cx} {a b c : Expr} {ta tb tc : TE} {pos : Pos}
noncomputable def rEqD (neg : Bool) : R2 := fun x y H Q => match scal x y with
  | true => Q (.bl (if neg then !decide (x = y) else decide (x = y))) H
  | false => ∃ d e, DatV H x d ∧ DatV H y e ∧ SeqAt.shaped d = true ∧ SeqAt.shaped e = true ∧ Q (.bl (if neg then !PyData.eqv d e else PyData.eqv d e)) H
theorem op_eqD (hu : X.A.units + 64 < cLine) : OpR X (compareOp .Eq) (rEqD false) := by
  intro pins s σ H x y v u Q I rx ry h
  unfold rEqD at h
  split at h
  · exact op_eq pins s σ H x y v u Q I rx ry ⟨by assumption, h⟩
  · obtain ⟨d, e, h1, h2, h3, h4, q⟩ := h
    obtain ⟨as, r1⟩ := h1.reads I rx
    obtain ⟨bs, r2⟩ := h2.reads I ry
    exact eq_dataH r1 r2 h3 h4 hu ⟨.bl _, H, I, rfl, q⟩
theorem op_neD (hu : X.A.units + 64 < cLine) : OpR X (compareOp .NotEq) (rEqD true) := by
  intro pins s σ H x y v u Q I rx ry h
  unfold rEqD at h
  split at h
  · exact op_ne pins s σ H x y v u Q I rx ry ⟨by assumption, h⟩
  · obtain ⟨d, e, h1, h2, h3, h4, q⟩ := h
    obtain ⟨as, r1⟩ := h1.reads I rx
    obtain ⟨bs, r2⟩ := h2.reads I ry
    exact ne_dataH r1 r2 h3 h4 hu ⟨.bl _, H, I, rfl, q⟩
theorem op_isP : OpR X (compareOp .Is) (rIsP false) := by
  intro pins s σ H x y v u Q I rx ry h
  unfold rIsP at h
  split at h
  · exact op_isN pins s σ H x _ v u Q I rx ry ⟨rfl, h⟩
  · rename_i k
    cases ry
    split at h
    · exact h.elim
    · exact h.elim
    · exact h.elim
    · rename_i hf hb ht
      cases x with
      | non => cases rx; exact wpAny_is_plain rfl (fin_bl I h (by simp))
      | bl j => cases rx; exact wpAny_is_plain rfl (fin_bl I h (by rw [Bool.eq_iff_iff]; simp))
      | int j => obtain ⟨t, rfl⟩ := rx; exact wpAny_is_plain rfl (fin_bl I h (by simp))
      | str j => obtain ⟨t, rfl⟩ := rx; exact wpAny_is_plain rfl (fin_bl I h (by simp))
      | byt j => exact absurd rfl (hb j)
      | flt j => exact absurd rfl (hf j)
      | ref j => cases rx; exact wpAny_is_plain rfl (fin_bl I h (by simp))
      | ty j => exact absurd rfl (ht j)
  · exact h.elim
theorem op_isntP : OpR X (compareOp .IsNot) (rIsP true) := by
  intro pins s σ H x y v u Q I rx ry h
  unfold rIsP at h
  split at h
  · exact op_notN pins s σ H x _ v u Q I rx ry ⟨rfl, h⟩
  · rename_i k
    cases ry
    split at h
    · exact h.elim
    · exact h.elim
    · exact h.elim
    · rename_i hf hb ht
      cases x with
      | non => cases rx; exact wpAny_isNot_plain rfl (fin_bl I h (by simp))
      | bl j => cases rx; exact wpAny_isNot_plain rfl (fin_bl I h (by rw [Bool.eq_iff_iff]; simp))
      | int j => obtain ⟨t, rfl⟩ := rx; exact wpAny_isNot_plain rfl (fin_bl I h (by simp))
      | str j => obtain ⟨t, rfl⟩ := rx; exact wpAny_isNot_plain rfl (fin_bl I h (by simp))
      | byt j => exact absurd rfl (hb j)
      | flt j => exact absurd rfl (hf j)
      | ref j => cases rx; exact wpAny_isNot_plain rfl (fin_bl I h (by simp))
      | ty j => exact absurd rfl (ht j)
  · exact h.elim

noncomputable def tBlP (t : TE) : TT := fun σ H Q => t σ H fun x H1 => match x with | .bl c => Q c H1 | _ => False
theorem blP {x : V} {P : Bool → Prop} (h : match x with | .bl c => P c | _ => False) : ∃ c, x = .bl c ∧ P c := by
  cases x <;> first | exact ⟨_, rfl, h⟩ | exact h.elim
theorem pt_cmpP {op : CmpOp} {r : R2} (ho : OpR X (compareOp op) r) (ha : PE X a ta) (hb : PE X b tb) (hm : behindInMarks op b = false) : PT X (.Compare a [op] [b] pos) (tBlP (tOp r ta tb)) := by
  intro pins s σ H Q I h
  refine wpAny_isTrue_Compare1 (binT ha hb I h fun v u s2 x y H2 I2 rx ry q => ?_) hm
  refine thn (ho pins s2 σ H2 x y v u _ I2 rx ry q) fun z s3 ⟨w', H3, I3, r3, q3⟩ => ?_
  obtain ⟨k, rfl, q3⟩ := blP q3
  cases r3
  exact wpAny_truthy_bool ⟨H3, I3, q3⟩
theorem zt_cmpP {op : CmpOp} {r : R2} (ho : OpR X (compareOp op) r) (ha : ZE X a ta) (hb : ZE X b tb) (hm : behindInMarks op b = false) : ZT X (.Compare a [op] [b] pos) (tBlP (tOp r ta tb)) := by with_unfolding_all exact pt_cmpP ho ha hb hm
theorem pt_valP {e : Expr} {t : TE} (h : PE X e t) (he : ∀ whole, isTrue e X.env whole = (do let v ← whole; standAt e.pos; holding [v] (truthy v)) := by intro _; rfl) : PT X e (tBlP t) := by
  intro pins s σ H Q I q
  refine isTrue_plain (thn (h pins s σ H _ I q) fun v s1 ⟨x, H1, I1, r1, q1⟩ => ?_) (he _)
  obtain ⟨k, rfl, q1⟩ := blP q1
  cases r1
  exact wpAny_truthy_bool ⟨H1, I1, q1⟩
theorem zt_valP {e : Expr} {t : TE} (h : ZE X e t) (he : ∀ whole, isTrue e X.env whole = (do let v ← whole; standAt e.pos; holding [v] (truthy v)) := by intro _; rfl) : ZT X e (tBlP t) := by with_unfolding_all exact pt_valP h he
noncomputable def tAndP (ta tb : TE) : TE := fun σ H Q => ta σ H fun x H1 => match x with | .bl c => if c = true then tb σ H1 Q else Q (.bl false) H1 | _ => False
noncomputable def tNotP (ta : TE) : TE := fun σ H Q => ta σ H fun x H1 => match x with | .bl c => Q (.bl (!c)) H1 | _ => False
variable {rest : List Expr}
theorem pe_andP (ha : PE X a ta) (hb : PE X (.BoolOp .And (b :: rest) pos) tb) : PE X (.BoolOp .And (a :: b :: rest) pos) (tAndP ta tb) := by
  intro pins s σ H Q I h
  refine BoolOp_and (thn (ha pins s σ H _ I h) fun v s1 ⟨x, H1, I1, r1, q1⟩ => ?_)
  obtain ⟨c, rfl, q1⟩ := blP q1
  cases r1
  refine wpAny_truthy_bool ?_
  cases c with
  | true => exact hb pins s1 σ H1 Q I1 q1
  | false => exact ⟨.bl false, H1, I1, rfl, q1⟩
theorem ze_andP (ha : ZE X a ta) (hb : ZE X (.BoolOp .And (b :: rest) pos) tb) : ZE X (.BoolOp .And (a :: b :: rest) pos) (tAndP ta tb) := by with_unfolding_all exact pe_andP ha hb
theorem pe_notP (ha : PE X a ta) : PE X (.UnaryOp .Not a pos) (tNotP ta) := by
  intro pins s σ H Q I h
  refine UnaryOp_ (thn (ha pins s σ H _ I h) fun v s1 ⟨x, H1, I1, r1, q1⟩ => ?_)
  obtain ⟨c, rfl, q1⟩ := blP q1
  cases r1
  exact not_of (wpAny_truthy_bool ⟨.bl (!c), H1, I1, rfl, q1⟩)
theorem ze_notP (ha : ZE X a ta) : ZE X (.UnaryOp .Not a pos) (tNotP ta) := by with_unfolding_all exact pe_notP ha

noncomputable def rIxP (K : PySem.W.Frag) : R2 := fun x y H Q => match x, y with
  | .ref p, .int i => (∃ xs, (SqL K H p xs ∨ H p = some (.tup xs)) ∧ ∃ v, atI xs i = some v ∧ Q v H)
  | _, _ => False
theorem ix_P : IxR X (rIxP X.K) := by
  intro value slice pins s σ H x y v u Q I rx ry h hs
  unfold rIxP at h
  split at h
  · obtain ⟨xs, h1 | h1, w, e, q⟩ := h
    · exact ix_list value slice pins s σ H _ _ v u Q I rx ry ⟨_, xs, _, w, rfl, rfl, h1, e, q⟩ hs
    · exact ix_tup value slice pins s σ H _ _ v u Q I rx ry ⟨_, xs, _, w, rfl, rfl, SqT.of h1, e, q⟩ hs
  · exact h.elim

theorem CallR.imp {f : Value} {r r' : List V → Hp → VK → Prop} (h : CallR X f r) (i : ∀ xs H Q, r' xs H Q → r xs H Q) : CallR X f r' := fun pins s σ H xs us Q I rs q => h pins s σ H xs us Q I rs (i xs H Q q)
noncomputable def rLenP (K : PySem.W.Frag) : List V → Hp → VK → Prop := fun xs H Q => match xs with
  | [.ref p] => ∃ ys, (SqL K H p ys ∨ H p = some (.tup ys)) ∧ Q (.int ys.length) H
  | _ => False
theorem call_lenP : CallR X (.builtin "len") (rLenP X.K) := call_len_seq.imp fun xs H Q h => by
  unfold rLenP at h
  split at h
  · obtain ⟨ys, h1 | h1, q⟩ := h
    · exact ⟨_, ys, rfl, .inl h1, q⟩
    · exact ⟨_, ys, rfl, .inr (SqT.of h1), q⟩
  · exact h.elim
noncomputable def tyName (H : Hp) : V → Option String
  | .non => some "NoneType"
  | .bl _ => some "bool"
  | .int _ => some "int"
  | .str _ => some "str"
  | .ref a => match H a with
    | some (.lst _) => some "list"
    | some (.tup _) => some "tuple"
    | some (.dK _) => some "dict"
    | _ => none
  | _ => none
noncomputable def subTy (t c : String) : Bool := t == c || (t == "bool" && c == "int")
theorem tyOf_name {K : PySem.W.Frag} {H : Hp} {x : V} {t : String} (h : tyName H x = some t) : TyOf K H x (.type t) := by
  unfold tyName at h
  split at h
  all_goals first | (cases h; constructor) | skip
  · split at h
    all_goals first | (cases h; constructor; assumption) | cases h
  · cases h
noncomputable def rIsiP : List V → Hp → VK → Prop := fun xs H Q => match xs with
  | [x, .ty c] => ∃ t, tyName H x = some t ∧ (c == "int" || c == "bool" || c == "tuple" || c == "str" || c == "list") = true ∧ Q (.bl (subTy t c)) H
  | _ => False
theorem kit_of {K : PySem.W.Frag} {H : Hp} {x : V} {t c : String} (h : tyName H x = some t) (hc : (c == "int" || c == "bool" || c == "tuple" || c == "str" || c == "list") = true) : PySem.W.kitOne K (.type t) (.type c) = some (subTy t c) := by
  have ht : t ∈ ["NoneType", "bool", "int", "str", "list", "tuple", "dict"] := by
    unfold tyName at h
    split at h
    all_goals first | (cases h; decide) | skip
    · split at h
      all_goals first | (cases h; decide) | cases h
    · cases h
  have hc' : c ∈ ["int", "bool", "tuple", "str", "list"] := by
    simp only [Bool.or_eq_true, beq_iff_eq] at hc
    simp only [List.mem_cons, List.not_mem_nil, or_false]
    rcases hc with (((hc | hc) | hc) | hc) | hc <;> simp [hc]
  have all : (["NoneType", "bool", "int", "str", "list", "tuple", "dict"].all fun t => ["int", "bool", "tuple", "str", "list"].all fun c => decide (PySem.W.kitOne [] (.type t) (.type c) = some (subTy t c))) = true := by decide +kernel
  have e : PySem.W.kitOne K (.type t) (.type c) = PySem.W.kitOne [] (.type t) (.type c) := rfl
  rw [e]
  exact of_decide_eq_true (List.all_eq_true.mp (List.all_eq_true.mp all t ht) c hc')
theorem call_isiP : CallR X (.builtin "isinstance") rIsiP := by
  intro pins s σ H xs us Q I r h
  unfold rIsiP at h
  split at h
  · obtain ⟨t, h1, h2, q⟩ := h
    obtain ⟨u, w', rfl, r1, r2⟩ := vals2 r
    cases r2
    exact isinst_ok I r1 (tyOf_name h1) (kit_of h1 h2) fun tk => ⟨.bl _, H, I.tok tk, rfl, q⟩
  · exact h.elim
noncomputable def rTupP (K : PySem.W.Frag) : List V → Hp → VK → Prop := fun xs H Q => match xs with
  | [.ref p] => ∃ ys, (SqL K H p ys ∨ H p = some (.tup ys)) ∧ ∀ r H', Same H H' → H' r = some (.tup ys) → Q (.ref r) H'
  | _ => False
theorem call_tupP : CallR X (.type "tuple") (rTupP X.K) := call_tuple_of.imp fun xs H Q h => by
  unfold rTupP at h
  split at h
  · obtain ⟨ys, h1 | h1, q⟩ := h
    · exact ⟨_, ys, rfl, .inl ⟨h1, fun l hl => q l _ (Same.new hl _) upd_same⟩⟩
    · exact ⟨_, ys, rfl, .inr ⟨SqT.of h1, q _ H (Same.refl H) h1⟩⟩
  · exact h.elim
noncomputable def rIntP : List V → Hp → VK → Prop := fun xs H Q => match xs with
  | [.int i] => Q (.int i) H
  | [.bl k] => Q (.int (if k then 1 else 0)) H
  | _ => False
theorem call_intP : CallR X (.type "int") rIntP := call_int1.imp fun xs H Q h => by
  unfold rIntP at h
  split at h
  · exact .inl ⟨_, rfl, h⟩
  · exact .inr ⟨_, rfl, h⟩
  · exact h.elim
noncomputable def rMinP : List V → Hp → VK → Prop := fun xs H Q => match xs with
  | [.int i, .int j] => Q (.int (if j < i then j else i)) H
  | _ => False
theorem call_minP (hc : X.calm = true) : CallR X (.builtin "min") rMinP := (call_min2 hc).imp fun xs H Q h => by
  unfold rMinP at h
  split at h
  · exact ⟨_, _, rfl, h⟩
  · exact h.elim

structure FnA (P : Program) (w : World) (K : PySem.W.Frag) (mg : Str → Option Value) (base : Heap) (x : Str) (k : Nat) (ps : List Str) (sp : Sp) : Prop where
  ex : ∃ f fd, FnOk P w K mg base CX0 k f fd ps sp ∧ Binds K fd ps [] ∧ PySem.W.keepIn K (.ref f) = true ∧ mg x = some (.ref f)
noncomputable def tFn (sp : Sp) (t : TA) : TE := fun σ H Q => t σ H fun vs H1 => sp vs H1 Q E0
theorem pe_fn {x : Str} {k k' : Nat} {ps : List Str} {sp : Sp} {e : Expr} {es : List Expr} {t : TA} {p : Pos} (F : FnA X.prog X.w X.K X.mg X.base x k ps sp) (hr : Room k' X.A) (hk : k ≤ k') (hg : Gl X x)
    (ha : PA X (e :: es) t) (hdb : (x == ("__debug__" : Str)) = false := by decide) (he : starEach (e :: es) X.env = (false, eval e X.env) :: starEach es X.env := by rfl) (hpl : (backTo pos (starEach es X.env)).any (·.1) = false := by rfl) :
    PE X (.Call (.Name x p) (e :: es) [] pos) (tFn sp t) := by
  obtain ⟨f, fd, F1, b1, k1, m1⟩ := F.ex
  refine (pe_call (F1.mono hk) hr hg m1 k1 b1 .nil pass0 ha hdb he hpl).imp fun σ H Q h => ?_
  have e : (fun (vs : List V) (H1 : Hp) => sp (vs ++ []) H1 Q E0) = fun vs H1 => sp vs H1 Q E0 := by
    funext vs H1
    rw [List.append_nil]
  show t σ H fun vs H1 => sp (vs ++ []) H1 Q E0
  rw [e]
  exact h
theorem ze_fn {x : Str} {k k' : Nat} {ps : List Str} {sp : Sp} {e : Expr} {es : List Expr} {t : TA} {p : Pos} (F : FnA X.prog X.w X.K X.mg X.base x k ps sp) (hr : Room k' X.A) (hk : k ≤ k') (hg : Gl X x)
    (ha : ZA X (e :: es) t) (hdb : (x == ("__debug__" : Str)) = false := by decide) (he : starEach (e :: es) X.env = (false, eval e X.env) :: starEach es X.env := by rfl) (hpl : (backTo pos (starEach es X.env)).any (·.1) = false := by rfl) :
    ZE X (.Call (.Name x p) (e :: es) [] pos) (tFn sp t) := by with_unfolding_all exact pe_fn F hr hk hg ha hdb he hpl
end
end L2
set_option Elab.async false
set_option linter.all false
set_option maxRecDepth 100000
set_option maxHeartbeats 4000000
namespace L2
open PySem PySem.Spec PyProof.Rows
theorem pe_ty {X : Cx} {x : Str} {T : String} {pos : Pos} (hg : Gl X x) (hm : X.mg x = none) (hv : bootBuiltins x = some (.type T)) (hn : x ≠ "__name__" := by decide) (hd : (x == ("__debug__" : Str)) = false := by decide) : PE X (.Name x pos) (tC (.ty T)) :=
  pe_bltn hg hm hv (show RelV (.ty T) (.type T) from rfl) hn hd
theorem iteD {p : Prop} [Decidable p] {A B : Prop} (h1 : p → A) (h2 : ¬ p → B) : if decide p = true then A else B := by
  by_cases h : p
  · rw [decide_eq_true h]; exact iteT (h1 h)
  · rw [decide_eq_false h]; exact iteF (h2 h)
theorem iteB {b : Bool} {A B : Prop} (h1 : b = true → A) (h2 : b = false → B) : if b = true then A else B := by
  cases b with
  | true => exact iteT (h1 rfl)
  | false => exact iteF (h2 rfl)
theorem boot_isinstance : bootBuiltins "isinstance" = some (.builtin "isinstance") := by decide +kernel
theorem boot_sorted' : bootBuiltins "sorted" = some (.builtin "sorted") := by decide +kernel
theorem boot_min' : bootBuiltins "min" = some (.builtin "min") := by decide +kernel
theorem boot_all' : bootBuiltins "all" = some (.builtin "all") := by decide +kernel
theorem boot_int' : bootBuiltins "int" = some (.type "int") := by decide +kernel
theorem boot_bool' : bootBuiltins "bool" = some (.type "bool") := by decide +kernel
theorem boot_tuple' : bootBuiltins "tuple" = some (.type "tuple") := by decide +kernel
end L2
namespace L2
open PySem PySem.Spec PyProof.Rows
noncomputable def rAllP (K : PySem.W.Frag) : List V → Hp → VK → Prop := fun xs H Q => match xs with
  | [.ref p] => ∃ bs : List Bool, SqL K H p (bs.map V.bl) ∧ Q (.bl (bs.all id)) H
  | _ => False
theorem call_allP {X : Cx} (hc : X.calm = true) : CallR X (.builtin "all") (rAllP X.K) := by
  intro pins s σ H xs us Q I r h
  unfold rAllP at h
  split at h
  · rename_i p
    obtain ⟨bs, hq, q⟩ := h
    obtain ⟨u, rfl, rx⟩ := vals1 r
    cases rx
    obtain ⟨its, rv, pl, hz⟩ := I.list hq
    have hlen : its.length = bs.length := by rw [← rv.length, List.length_map]
    have hlt : p < s.heap.objs.size := by
      obtain ⟨_, e, _⟩ := pl.isList
      exact Heap.lt_size e
    refine call_all_walk (wpAny_pyIter_list pl.isList ?_)
    have W : Walks X.prog X.w X.A.in1 s.heap.objs.size [s.heap.objs.size, p] [s.heap.objs.size] its.toArray.size _ _ := Walks.list (show X.A.in1.handled = none from I.ok.hd hc) s.heap.objs.size p (Nat.ne_of_lt hlt) its.toArray
    refine ⟨s.heap.objs.size, _, _, _, _, _, fun i => bs.getD i false, rfl, W, ⟨⟨_, Heap.get?_push_size _ rfl, rfl, rfl⟩, pl.isList.push _⟩, ?_, fun h' tk hk => ?_⟩
    · intro i v s' Q' E' hP hQ
      have hP' : its[i]? = some v := by simpa using hP
      have hi : i < bs.length := by rw [← hlen]; exact (List.getElem?_eq_some_iff.mp hP').1
      obtain ⟨w', e1, e2⟩ := rv.get (i := i) (x := .bl bs[i]) (by rw [List.getElem?_map, List.getElem?_eq_getElem hi]; rfl)
      rw [hP'] at e1
      cases e1
      cases e2
      refine wpAny_truthy_bool ?_
      have e : bs.getD i false = bs[i] := by rw [List.getD_eq_getElem?_getD, List.getElem?_eq_getElem hi]; rfl
      have hQ' : Q' (bs.getD i false) s' := hQ
      rw [e] at hQ'
      exact hQ'
    · have I1 : Inv X pins σ H { s with heap := h', toks := tk } := I.kept fun b o e => hk b o (by simpa using Nat.ne_of_lt (Heap.lt_size e)) (Heap.get?_push_of_some _ e)
      refine ⟨.bl _, H, I1, rfl, ?_⟩
      have e : (List.range its.toArray.size).all (fun i => bs.getD i false) = bs.all id := by
        rw [List.size_toArray, hlen]
        have key : ∀ l : List Bool, (List.range l.length).all (fun i => l.getD i false) = l.all id := by
          intro l
          rw [Bool.eq_iff_iff, List.all_eq_true, List.all_eq_true]
          constructor
          · intro h x hx
            obtain ⟨i, hi, rfl⟩ := List.mem_iff_getElem.mp hx
            have := h i (List.mem_range.mpr hi)
            rw [List.getD_eq_getElem?_getD, List.getElem?_eq_getElem hi] at this
            exact this
          · intro h i hi
            have hi' := List.mem_range.mp hi
            rw [List.getD_eq_getElem?_getD, List.getElem?_eq_getElem hi']
            exact h _ (List.getElem_mem hi')
        exact key bs
      rw [e]
      exact q
  · exact h.elim
noncomputable def tPar3 (i j k : Nat) (ta : TA) : TS := fun D σ H => ta σ H fun vs H1 => match vs with | [v, w, z] => D.nx (((σ.set i (some v)).set j (some w)).set k (some z)) H1 | _ => False
theorem ps_par3 {X : Cx} {pos : Pos} {i j k : Nat} {x y z : Str} {a b c : Expr} {ta : TA} {px py pz pt : Pos} {kt k2 pt2} (hc : X.calm = true) (hN : X.N.Nodup) (hi : X.N[i]? = some x) (hj : X.N[j]? = some y) (hk : X.N[k]? = some z) (hij : i ≠ j) (hik : i ≠ k) (hjk : j ≠ k)
    (hx : X.env.scope.names.lookup x = some .local) (hy : X.env.scope.names.lookup y = some .local) (hz : X.env.scope.names.lookup z = some .local) (ha : PA X [a, b, c] ta)
    (hw : swappedStores [.Tuple [.Name x px, .Name y py, .Name z pz] kt pt] (.Tuple [a, b, c] k2 pt2) X.env = pure (some [x, y, z]))
    (hs : swapsWithSole [.Tuple [.Name x px, .Name y py, .Name z pz] kt pt] (.Tuple [a, b, c] k2 pt2) pos.line X.env = pure false := by rfl) :
    PS X (.Assign [.Tuple [.Name x px, .Name y py, .Name z pz] kt pt] (.Tuple [a, b, c] k2 pt2) pos) (tPar3 i j k ta) := by
  intro pins s σ H D I h
  rw [exec_Assign_arm]
  refine wpAny_bind (wpAny_standAt ?_)
  rw [hs]
  refine wpAny_bind (wpAny_pure ?_)
  rw [if_neg (by decide)]
  refine wpAny_bind (Tuple_ (thn (ha _ pins s σ H _ I h) fun us s1 ⟨vs, H1, I1, r1, q1⟩ => ?_))
  obtain ⟨v, w, t, e1, q1⟩ : ∃ v w t, vs = [v, w, t] ∧ D.nx (((σ.set i (some v)).set j (some w)).set k (some t)) H1 := by
    match vs, q1 with
    | [v, w, t], q1 => exact ⟨v, w, t, rfl, q1⟩
    | [], q1 => exact q1.elim
    | [_], q1 => exact q1.elim
    | [_, _], q1 => exact q1.elim
    | _ :: _ :: _ :: _ :: _, q1 => exact q1.elim
  subst e1
  obtain ⟨u1, u2, u3, rfl, rv, rw', rz⟩ : ∃ u1 u2 u3, us = [u1, u2, u3] ∧ RelV v u1 ∧ RelV w u2 ∧ RelV t u3 := by
    cases r1 with
    | cons p q =>
      cases q with
      | cons p' q' =>
        cases q' with
        | cons p2 q2 =>
          cases q2
          exact ⟨_, _, _, rfl, p, p', p2⟩
  refine wpAny_newObj_type ?_ (by show 3 ≤ sizeLine; decide)
  have I2 : Inv X pins σ H1 { s1 with heap := s1.heap.push { cls := .type "tuple", data := .seq [u1, u2, u3].toArray } } := I1.kept (t' := s1.toks) fun b o e => Heap.get?_push_of_some _ e
  rw [hw]
  refine wpAny_bind (wpAny_pure ?_)
  show wpAny (model X.prog X.w) X.A (do rule "assign.swapped-stores"; let items ← unpackItems (.ref s1.heap.objs.size) 3 none; assignInOrder [fun v => bindName X.env z v, fun v => bindName X.env y v, fun v => bindName X.env x v] items.reverse; pure Flow.next) _ _ _
  refine wpAny_bind (wpAny_rule (wpAny_bind (unpackItems_tuple (items := #[u1, u2, u3]) (I.ok.hd hc) (IsTup.new s1.heap _) fun h' hx' => ?_)))
  have I3 := I2.kept (h' := h') (t' := s1.toks) fun b o e => hx' b o (Nat.ne_of_lt (Heap.lt_size e)) e
  show wpAny _ _ (assignInOrder [fun v => bindName X.env z v, fun v => bindName X.env y v, fun v => bindName X.env x v] [u3, u2, u1] >>= fun _ => pure Flow.next) _ _ _
  refine wpAny_bind (assignInOrder_cons (wpAny_bindName (store_ok I3 hN hk (.inl hz) rz (fun s2 I4 => ?_) (.inr hz))))
  refine assignInOrder_cons (wpAny_bindName (store_ok I4 hN hj (.inl hy) rw' (fun s3 I5 => ?_) (.inr hy)))
  refine assignInOrder_cons (wpAny_bindName (store_ok I5 hN hi (.inl hx) rv (fun s4 I6 => assignInOrder_nil (wpAny_pure ?_)) (.inr hx)))
  have e : ((σ.set k (some t)).set j (some w)).set i (some v) = ((σ.set i (some v)).set j (some w)).set k (some t) := by
    rw [List.set_comm _ _ (Ne.symm hij), List.set_comm _ _ (Ne.symm hik), List.set_comm _ _ (Ne.symm hjk)]
  rw [e] at I6
  exact ⟨_, H1, I6, q1⟩
theorem zs_par3 {X : Cx} {pos : Pos} {i j k : Nat} {x y z : Str} {a b c : Expr} {ta : TA} {px py pz pt : Pos} {kt k2 pt2} (hc : X.calm = true) (hN : X.N.Nodup) (hi : X.N[i]? = some x) (hj : X.N[j]? = some y) (hk : X.N[k]? = some z) (hij : i ≠ j) (hik : i ≠ k) (hjk : j ≠ k)
    (hx : X.env.scope.names.lookup x = some .local) (hy : X.env.scope.names.lookup y = some .local) (hz : X.env.scope.names.lookup z = some .local) (ha : ZA X [a, b, c] ta)
    (hw : swappedStores [.Tuple [.Name x px, .Name y py, .Name z pz] kt pt] (.Tuple [a, b, c] k2 pt2) X.env = pure (some [x, y, z]))
    (hs : swapsWithSole [.Tuple [.Name x px, .Name y py, .Name z pz] kt pt] (.Tuple [a, b, c] k2 pt2) pos.line X.env = pure false := by rfl) :
    ZS X (.Assign [.Tuple [.Name x px, .Name y py, .Name z pz] kt pt] (.Tuple [a, b, c] k2 pt2) pos) (tPar3 i j k ta) := by with_unfolding_all exact ps_par3 hc hN hi hj hk hij hik hjk hx hy hz ha hw hs
end L2
namespace L2
open PySem PySem.Spec PyProof.Rows
section
variable {X : Cx} {e : Expr} {es : List Expr} {t : TA} {p pos : Pos}
theorem pcb_len (hg : Gl X "len") (hm : X.mg "len" = none) (ha : PA X (e :: es) t) (he : starEach (e :: es) X.env = (false, eval e X.env) :: starEach es X.env) (hpl : (backTo pos (starEach es X.env)).any (·.1) = false) :
    PE X (.Call (.Name "len" p) (e :: es) [] pos) (tCB (rLenP X.K) t) := pe_callB call_lenP hg hm PySem.boot_len ha (by decide) (by decide) he hpl
theorem zcb_len (hg : Gl X "len") (hm : X.mg "len" = none) (ha : ZA X (e :: es) t) (he : starEach (e :: es) X.env = (false, eval e X.env) :: starEach es X.env) (hpl : (backTo pos (starEach es X.env)).any (·.1) = false) :
    ZE X (.Call (.Name "len" p) (e :: es) [] pos) (tCB (rLenP X.K) t) := by with_unfolding_all exact pcb_len hg hm ha he hpl
theorem pcb_isinstance (hg : Gl X "isinstance") (hm : X.mg "isinstance" = none) (ha : PA X (e :: es) t) (he : starEach (e :: es) X.env = (false, eval e X.env) :: starEach es X.env) (hpl : (backTo pos (starEach es X.env)).any (·.1) = false) :
    PE X (.Call (.Name "isinstance" p) (e :: es) [] pos) (tCB rIsiP t) := pe_callB call_isiP hg hm boot_isinstance ha (by decide) (by decide) he hpl
theorem zcb_isinstance (hg : Gl X "isinstance") (hm : X.mg "isinstance" = none) (ha : ZA X (e :: es) t) (he : starEach (e :: es) X.env = (false, eval e X.env) :: starEach es X.env) (hpl : (backTo pos (starEach es X.env)).any (·.1) = false) :
    ZE X (.Call (.Name "isinstance" p) (e :: es) [] pos) (tCB rIsiP t) := by with_unfolding_all exact pcb_isinstance hg hm ha he hpl
theorem pcb_min (hc : X.calm = true) (hg : Gl X "min") (hm : X.mg "min" = none) (ha : PA X (e :: es) t) (he : starEach (e :: es) X.env = (false, eval e X.env) :: starEach es X.env) (hpl : (backTo pos (starEach es X.env)).any (·.1) = false) :
    PE X (.Call (.Name "min" p) (e :: es) [] pos) (tCB rMinP t) := pe_callB (call_minP hc) hg hm boot_min' ha (by decide) (by decide) he hpl
theorem zcb_min (hc : X.calm = true) (hg : Gl X "min") (hm : X.mg "min" = none) (ha : ZA X (e :: es) t) (he : starEach (e :: es) X.env = (false, eval e X.env) :: starEach es X.env) (hpl : (backTo pos (starEach es X.env)).any (·.1) = false) :
    ZE X (.Call (.Name "min" p) (e :: es) [] pos) (tCB rMinP t) := by with_unfolding_all exact pcb_min hc hg hm ha he hpl
theorem pcb_all (hc : X.calm = true) (hg : Gl X "all") (hm : X.mg "all" = none) (ha : PA X (e :: es) t) (he : starEach (e :: es) X.env = (false, eval e X.env) :: starEach es X.env) (hpl : (backTo pos (starEach es X.env)).any (·.1) = false) :
    PE X (.Call (.Name "all" p) (e :: es) [] pos) (tCB (rAllP X.K) t) := pe_callB (call_allP hc) hg hm boot_all' ha (by decide) (by decide) he hpl
theorem zcb_all (hc : X.calm = true) (hg : Gl X "all") (hm : X.mg "all" = none) (ha : ZA X (e :: es) t) (he : starEach (e :: es) X.env = (false, eval e X.env) :: starEach es X.env) (hpl : (backTo pos (starEach es X.env)).any (·.1) = false) :
    ZE X (.Call (.Name "all" p) (e :: es) [] pos) (tCB (rAllP X.K) t) := by with_unfolding_all exact pcb_all hc hg hm ha he hpl
theorem pcb_int (hg : Gl X "int") (hm : X.mg "int" = none) (ha : PA X (e :: es) t) (he : starEach (e :: es) X.env = (false, eval e X.env) :: starEach es X.env) (hpl : (backTo pos (starEach es X.env)).any (·.1) = false) :
    PE X (.Call (.Name "int" p) (e :: es) [] pos) (tCB rIntP t) := pe_callTy call_intP hg hm boot_int' ha (by decide) (by decide) he hpl
theorem zcb_int (hg : Gl X "int") (hm : X.mg "int" = none) (ha : ZA X (e :: es) t) (he : starEach (e :: es) X.env = (false, eval e X.env) :: starEach es X.env) (hpl : (backTo pos (starEach es X.env)).any (·.1) = false) :
    ZE X (.Call (.Name "int" p) (e :: es) [] pos) (tCB rIntP t) := by with_unfolding_all exact pcb_int hg hm ha he hpl
theorem pcb_tuple (hg : Gl X "tuple") (hm : X.mg "tuple" = none) (ha : PA X (e :: es) t) (he : starEach (e :: es) X.env = (false, eval e X.env) :: starEach es X.env) (hpl : (backTo pos (starEach es X.env)).any (·.1) = false) :
    PE X (.Call (.Name "tuple" p) (e :: es) [] pos) (tCB (rTupP X.K) t) := pe_callTy call_tupP hg hm boot_tuple' ha (by decide) (by decide) he hpl
theorem zcb_tuple (hg : Gl X "tuple") (hm : X.mg "tuple" = none) (ha : ZA X (e :: es) t) (he : starEach (e :: es) X.env = (false, eval e X.env) :: starEach es X.env) (hpl : (backTo pos (starEach es X.env)).any (·.1) = false) :
    ZE X (.Call (.Name "tuple" p) (e :: es) [] pos) (tCB (rTupP X.K) t) := by with_unfolding_all exact pcb_tuple hg hm ha he hpl
theorem pty_int (hg : Gl X "int") (hm : X.mg "int" = none) : PE X (.Name "int" pos) (tC (.ty "int")) := pe_ty hg hm boot_int' (by decide) (by decide)
theorem zty_int (hg : Gl X "int") (hm : X.mg "int" = none) : ZE X (.Name "int" pos) (tC (.ty "int")) := by with_unfolding_all exact pty_int hg hm
theorem pty_bool (hg : Gl X "bool") (hm : X.mg "bool" = none) : PE X (.Name "bool" pos) (tC (.ty "bool")) := pe_ty hg hm boot_bool' (by decide) (by decide)
theorem zty_bool (hg : Gl X "bool") (hm : X.mg "bool" = none) : ZE X (.Name "bool" pos) (tC (.ty "bool")) := by with_unfolding_all exact pty_bool hg hm
theorem pty_tuple (hg : Gl X "tuple") (hm : X.mg "tuple" = none) : PE X (.Name "tuple" pos) (tC (.ty "tuple")) := pe_ty hg hm boot_tuple' (by decide) (by decide)
theorem zty_tuple (hg : Gl X "tuple") (hm : X.mg "tuple" = none) : ZE X (.Name "tuple" pos) (tC (.ty "tuple")) := by with_unfolding_all exact pty_tuple hg hm
end
end L2
set_option Elab.async false
set_option linter.all false
set_option maxRecDepth 100000
set_option maxHeartbeats 4000000
namespace L2
open PySem PySem.Spec PyProof.Rows
end L2
set_option Elab.async false
set_option linter.all false
set_option maxRecDepth 100000
set_option maxHeartbeats 4000000
namespace L2
open PySem PySem.Spec PyProof.Rows
section
variable {X : Cx}
theorem Inv.moved {wr : List Addr} {pins : List (Addr × Obj)} {σ : St} {H : Hp} {s s' : Shared} {h2 : Heap} {t2 : Nat} (I : Inv X pins σ H s) (m : Moved wr (fun a b => b = a) { s with heap := h2, toks := t2 } s') (hk : ∀ b o, s.heap.get? b = some o → b ∉ wr ∧ h2.get? b = some o) : Inv X pins σ H s' := by
  have e : s' = { s with heap := s'.heap, toks := s'.toks } := by
    obtain ⟨_, h2, h3, h4, _⟩ := m
    cases s'
    simp only at h2 h3 h4
    subst h2 h3 h4
    rfl
  rw [e]
  exact I.kept fun b o q => m.heap b o (hk b o q).1 (hk b o q).2
noncomputable def rSumP (K : PySem.W.Frag) : List V → Hp → VK → Prop := fun xs H Q => match xs with
  | [.ref p] => ∃ ns : List Int, (SqL K H p (ns.map V.int) ∨ H p = some (.tup (ns.map V.int))) ∧ Q (.int ns.sum) H
  | _ => False
theorem preSum_ext {f g : Nat → Int} : ∀ n, (∀ i, i < n → f i = g i) → preSum f n = preSum g n
  | 0, _ => rfl
  | n + 1, h => by
    show preSum f n + f n = preSum g n + g n
    rw [preSum_ext n fun i hi => h i (by omega), h n (by omega)]
theorem preSum_succ (f : Nat → Int) : ∀ n, preSum f (n + 1) = f 0 + preSum (fun i => f (i + 1)) n
  | 0 => by show (0 : Int) + f 0 = f 0 + 0; omega
  | n + 1 => by
    show preSum f (n + 1) + f (n + 1) = f 0 + (preSum (fun i => f (i + 1)) n + f (n + 1))
    rw [preSum_succ f n]; omega
theorem preSum_list : ∀ ns : List Int, preSum (fun i => ns.getD i 0) ns.length = ns.sum
  | [] => rfl
  | n :: r => by
    rw [List.length_cons, preSum_succ, List.sum_cons]
    have e : preSum (fun i => (n :: r).getD (i + 1) 0) r.length = preSum (fun i => r.getD i 0) r.length := preSum_ext _ fun i _ => by simp
    rw [e, preSum_list r]
    rfl
theorem ints_at {ns : List Int} {its : List Value} (rv : Vals (ns.map V.int) its) {i : Nat} {v : Value} (h : its.toArray[i]? = some v) : ∃ t, v = .int (ns.getD i 0) t := by
  have h' : its[i]? = some v := by simpa using h
  have hl : its.length = ns.length := by rw [← rv.length, List.length_map]
  have hi : i < ns.length := by rw [← hl]; exact (List.getElem?_eq_some_iff.mp h').1
  obtain ⟨w', e1, t, e2⟩ := rv.get (i := i) (x := .int ns[i]) (by rw [List.getElem?_map, List.getElem?_eq_getElem hi]; rfl)
  rw [h'] at e1
  cases e1
  refine ⟨t, ?_⟩
  rw [e2, List.getD_eq_getElem?_getD, List.getElem?_eq_getElem hi]
  rfl
theorem call_sumP (hc : X.calm = true) : CallR X (.builtin "sum") (rSumP X.K) := by
  intro pins s σ H xs us Q I r h
  unfold rSumP at h
  split at h
  · rename_i p
    obtain ⟨ns, hq, q⟩ := h
    obtain ⟨u, rfl, rx⟩ := vals1 r
    cases rx
    have hh : X.A.in1.handled = none := I.ok.hd hc
    rcases hq with hq | hq
    · obtain ⟨its, rv, pl, hz⟩ := I.list hq
      have hlt : p < s.heap.objs.size := by
        obtain ⟨_, e, _⟩ := pl.isList
        exact Heap.lt_size e
      refine call_sum_walkAnyS (wpAny_pyIter_list pl.isList ?_)
      refine ⟨s.heap.objs.size, _, _, _, _, _, _, fun i => ns.getD i 0, rfl, (Walks.list hh s.heap.objs.size p (Nat.ne_of_lt hlt) its.toArray).toS, ⟨⟨_, Heap.get?_push_size _ rfl, rfl, rfl⟩, pl.isList.push _⟩, ?_, fun i v hv => ints_at rv hv, fun s' t' m => ?_⟩
      · intro b hb
        rw [Heap.size_push]
        rcases List.mem_cons.mp hb with rfl | hb
        · exact Nat.lt_succ_self _
        · rcases List.mem_cons.mp hb with rfl | hb
          · exact Nat.lt_succ_of_lt hlt
          · cases hb
      · have I1 : Inv X pins σ H s' := I.moved m fun b o e => ⟨by simpa using Nat.ne_of_lt (Heap.lt_size e), Heap.get?_push_of_some _ e⟩
        refine ⟨.int _, H, I1, ⟨t', rfl⟩, ?_⟩
        rw [List.size_toArray, ← rv.length, List.length_map, preSum_list]
        exact q
    · obtain ⟨its, rv, pl, hz⟩ := I.tuple (SqT.of hq)
      have hlt : p < s.heap.objs.size := pl.lt
      refine call_sum_walkAnyS (wpAny_pyIter_tuple (show s.heap.IsTuple p its.toArray from pl) ?_)
      refine ⟨s.heap.objs.size, _, _, _, _, _, _, fun i => ns.getD i 0, rfl, (Walks.tuple hh s.heap.objs.size p (Nat.ne_of_lt hlt) its.toArray).toS, ⟨⟨_, Heap.get?_push_size _ rfl, rfl, rfl⟩, ?_⟩, ?_, fun i v hv => ints_at rv hv, fun s' t' m => ?_⟩
      · exact IsTup.keeps pl fun b o e => Heap.get?_push_of_some _ e
      · intro b hb
        rw [Heap.size_push]
        rcases List.mem_cons.mp hb with rfl | hb
        · exact Nat.lt_succ_self _
        · rcases List.mem_cons.mp hb with rfl | hb
          · exact Nat.lt_succ_of_lt hlt
          · cases hb
      · have I1 : Inv X pins σ H s' := I.moved m fun b o e => ⟨by simpa using Nat.ne_of_lt (Heap.lt_size e), Heap.get?_push_of_some _ e⟩
        refine ⟨.int _, H, I1, ⟨t', rfl⟩, ?_⟩
        rw [List.size_toArray, ← rv.length, List.length_map, preSum_list]
        exact q
  · exact h.elim
noncomputable def rMax1P (K : PySem.W.Frag) : List V → Hp → VK → Prop := fun xs H Q => match xs with
  | [.int i, .int j] => Q (.int (if j > i then j else i)) H
  | [.ref p] => ∃ ns : List Int, (SqL K H p (ns.map V.int) ∨ H p = some (.tup (ns.map V.int))) ∧ ns ≠ [] ∧ ∀ M, M ∈ ns → (∀ n ∈ ns, n ≤ M) → Q (.int M) H
  | _ => False
theorem best_is {ns : List Int} (h : ns ≠ []) : ns.getD (argBest (fun i j => decide (ns.getD i 0 > ns.getD j 0)) (ns.length - 1)) 0 ∈ ns ∧ ∀ n ∈ ns, n ≤ ns.getD (argBest (fun i j => decide (ns.getD i 0 > ns.getD j 0)) (ns.length - 1)) 0 := by
  have hp : 0 < ns.length := List.length_pos_iff.mpr h
  obtain ⟨h1, h2⟩ := argBest_gt (fun i => ns.getD i 0) (ns.length - 1)
  have hlt : argBest (fun i j => decide (ns.getD i 0 > ns.getD j 0)) (ns.length - 1) < ns.length := by omega
  refine ⟨?_, fun n hn => ?_⟩
  · rw [List.getD_eq_getElem?_getD, List.getElem?_eq_getElem hlt]
    exact List.getElem_mem hlt
  · obtain ⟨i, hi, rfl⟩ := List.mem_iff_getElem.mp hn
    have := h2 i (by omega)
    have e : ns.getD i 0 = ns[i] := by rw [List.getD_eq_getElem?_getD, List.getElem?_eq_getElem hi]; rfl
    rw [e] at this
    exact this
theorem call_maxP (hc : X.calm = true) : CallR X (.builtin "max") (rMax1P X.K) := by
  intro pins s σ H xs us Q I r h
  unfold rMax1P at h
  split at h
  · exact call_max2 hc pins s σ H _ us Q I r ⟨_, _, rfl, h⟩
  · rename_i p
    obtain ⟨ns, hq, hne, q⟩ := h
    obtain ⟨u, rfl, rx⟩ := vals1 r
    cases rx
    have hh : X.A.in1.handled = none := I.ok.hd hc
    have hb := best_is hne
    rcases hq with hq | hq
    · obtain ⟨its, rv, pl, hz⟩ := I.list hq
      have hlen : its.length = ns.length := by rw [← rv.length, List.length_map]
      have hlt : p < s.heap.objs.size := by
        obtain ⟨_, e, _⟩ := pl.isList
        exact Heap.lt_size e
      refine call_max_walk (wpAny_pyIter_list pl.isList ?_)
      refine ⟨s.heap.objs.size, _, _, _, _, _, _, rfl, Walks.list hh s.heap.objs.size p (Nat.ne_of_lt hlt) its.toArray, ⟨⟨_, Heap.get?_push_size _ rfl, rfl, rfl⟩, pl.isList.push _⟩, ?_, ?_, CmpOf.ints_gt (fun i => ns.getD i 0) (fun i v hv => ints_at rv hv), fun v h' tk hv hk => ?_⟩
      · intro b hb
        rw [Heap.size_push]
        rcases List.mem_cons.mp hb with rfl | hb
        · exact Nat.lt_succ_self _
        · rcases List.mem_cons.mp hb with rfl | hb
          · exact Nat.lt_succ_of_lt hlt
          · cases hb
      · rw [List.size_toArray, hlen]; exact List.length_pos_iff.mpr hne
      · obtain ⟨t, rfl⟩ := ints_at rv hv
        refine ⟨.int _, H, I.kept fun b o e => hk b o (by simpa using Nat.ne_of_lt (Heap.lt_size e)) (Heap.get?_push_of_some _ e), ⟨t, rfl⟩, ?_⟩
        rw [List.size_toArray, hlen]
        exact q _ hb.1 hb.2
    · obtain ⟨its, rv, pl, hz⟩ := I.tuple (SqT.of hq)
      have hlen : its.length = ns.length := by rw [← rv.length, List.length_map]
      have hlt : p < s.heap.objs.size := pl.lt
      refine call_max_walk (wpAny_pyIter_tuple (show s.heap.IsTuple p its.toArray from pl) ?_)
      refine ⟨s.heap.objs.size, _, _, _, _, _, _, rfl, Walks.tuple hh s.heap.objs.size p (Nat.ne_of_lt hlt) its.toArray, ⟨⟨_, Heap.get?_push_size _ rfl, rfl, rfl⟩, IsTup.keeps pl fun b o e => Heap.get?_push_of_some _ e⟩, ?_, ?_, CmpOf.ints_gt (fun i => ns.getD i 0) (fun i v hv => ints_at rv hv), fun v h' tk hv hk => ?_⟩
      · intro b hb
        rw [Heap.size_push]
        rcases List.mem_cons.mp hb with rfl | hb
        · exact Nat.lt_succ_self _
        · rcases List.mem_cons.mp hb with rfl | hb
          · exact Nat.lt_succ_of_lt hlt
          · cases hb
      · rw [List.size_toArray, hlen]; exact List.length_pos_iff.mpr hne
      · obtain ⟨t, rfl⟩ := ints_at rv hv
        refine ⟨.int _, H, I.kept fun b o e => hk b o (by simpa using Nat.ne_of_lt (Heap.lt_size e)) (Heap.get?_push_of_some _ e), ⟨t, rfl⟩, ?_⟩
        rw [List.size_toArray, hlen]
        exact q _ hb.1 hb.2
  · exact h.elim
theorem noFill_tuple_mul : fillsNumberSlot (.type "tuple") "mul" = pure false :=
  PySem.fillsNumberSlot_seq (id := "tuple.__mul__") (r := some (.builtin "tuple.__rmul__")) F.slot_tuple_mul.lookup (by decide +kernel) F.slot_tuple_rmul.lookup (by decide +kernel)
theorem repeat_tuple : seqRepeat? (.type "tuple") = pure (some (.builtin "tuple.__mul__")) := by
  unfold seqRepeat?
  rw [PySem.seqSlot_of (T := "tuple") (name := "__mul__") (id := "tuple.__mul__") F.slot_tuple_mul.lookup (by decide +kernel), PySem.seqSlot_of (T := "tuple") (name := "__rmul__") (id := "tuple.__rmul__") F.slot_tuple_rmul.lookup (by decide +kernel)]
  rfl

theorem int_rmul_tuple (a : Int) (t : Tok) (l : Addr) (items : Array Value) (n : Nat) :
    Meets (Builtin.«int.__rmul__» ⟨[.int a t, .ref l], []⟩) (fun _ R s => s.heap.get? l = some { cls := .type "tuple", dict := none, data := .seq items n, slots := #[] } ∧ R (.ok (.ret Value.notImplemented)) s) :=
  .of_wp fun prog w A R s h => by obtain ⟨hp, g, d, tk, os⟩ := s; obtain ⟨hl, h⟩ := h; wp_walk; exact ⟨_, rfl, h⟩
theorem tuple_mul_same (l : Addr) (items : Array Value) (n : Nat) (x : Int) (u : Tok) (h1 : (decide (x < -(2 ^ 63)) || decide (x ≥ 2 ^ 63)) = false) (h2 : (items.isEmpty || x == 1) = true) :
    Meets (Builtin.«tuple.__mul__» ⟨[.ref l, .int x u], []⟩) (fun _ R s => s.heap.get? l = some { cls := .type "tuple", dict := none, data := .seq items n, slots := #[] } ∧ R (.ok (.ret (.ref l))) s) :=
  .of_wp fun prog w A R s h => by
    obtain ⟨hp, g, d, tk, os⟩ := s; obtain ⟨hl, h⟩ := h
    wp_walk; refine wpAny_ite_false (by rw [h1]; rfl) ?_; wp_walk; exact ⟨_, rfl, h⟩
theorem tuple_mul_none (l : Addr) (items : Array Value) (n : Nat) (x : Int) (u : Tok) (h1 : (decide (x < -(2 ^ 63)) || decide (x ≥ 2 ^ 63)) = false) (h2 : (items.isEmpty || x == 1) = false) (h3 : (decide (x ≤ 0) || items.isEmpty) = true) :
    Meets (Builtin.«tuple.__mul__» ⟨[.ref l, .int x u], []⟩) (fun _ R s => s.heap.get? l = some { cls := .type "tuple", dict := none, data := .seq items n, slots := #[] } ∧ R (.ok (.ret (.ref s.heap.objs.size))) { s with heap := s.heap.push { cls := .type "tuple", data := .seq #[] } }) :=
  .of_wp fun prog w A R s h => by
    obtain ⟨hp, g, d, tk, os⟩ := s; obtain ⟨hl, h⟩ := h
    wp_walk; refine wpAny_ite_false (by rw [h1]; rfl) ?_; wp_walk; exact ⟨_, rfl, h⟩
theorem tuple_mul_many (l : Addr) (items : Array Value) (n : Nat) (x : Int) (u : Tok) (h1 : (decide (x < -(2 ^ 63)) || decide (x ≥ 2 ^ 63)) = false) (h2 : (items.isEmpty || x == 1) = false) (h3 : (decide (x ≤ 0) || items.isEmpty) = false) (h4 : decide ((items.size : Int) * x > (2 ^ 63 - 1) / 8) = false) (h5 : Builtin.Tuple.tupleTooMany ((items.size : Int) * x) = false) (hz : ((List.replicate x.toNat items).foldl (· ++ ·) #[]).size ≤ sizeLine) :
    Meets (Builtin.«tuple.__mul__» ⟨[.ref l, .int x u], []⟩) (fun _ R s => s.heap.get? l = some { cls := .type "tuple", dict := none, data := .seq items n, slots := #[] } ∧ R (.ok (.ret (.ref s.heap.objs.size))) { s with heap := s.heap.push { cls := .type "tuple", data := .seq ((List.replicate x.toNat items).foldl (· ++ ·) #[]) } }) :=
  .of_wp fun prog w A R s h => by
    obtain ⟨hp, g, d, tk, os⟩ := s; obtain ⟨hl, h⟩ := h
    wp_walk; refine wpAny_ite_false (by rw [h1]; rfl) ?_; wp_walk; refine wpAny_ite_false h4 ?_; wp_walk; exact ⟨_, rfl, h⟩
end
end L2
set_option Elab.async false
set_option linter.all false
set_option maxRecDepth 100000
set_option maxHeartbeats 4000000
namespace L2
open PySem PySem.Spec PyProof.Rows
section
variable {X : Cx}
noncomputable def rMulQ : R2 := fun x y H Q => match x, y with
  | .int i, .int j => IntMulOk i j ∧ Q (.int (i * j)) H
  | .ref a, .int k => (-(2 ^ 63) ≤ k ∧ k < 2 ^ 63) ∧ ((∃ xs, H a = some (.lst xs) ∧ xs.length * k.toNat ≤ sizeLine ∧ ∀ p, H p = none → Q (.ref p) (upd H p (.lst (List.replicate k.toNat xs).flatten))) ∨
      ∃ xs, H a = some (.tup xs) ∧ xs.length * k.toNat ≤ sizeLine ∧ ∀ r H', Same H H' → H' r = some (.tup (List.replicate k.toNat xs).flatten) → Q (.ref r) H')
  | _, _ => False
theorem op_mulQ : OpR X (binaryOp .Mult) rMulQ := by
  intro pins s σ H x y v u Q I rx ry h
  unfold rMulQ at h
  split at h
  · exact op_mulB pins s σ H _ _ v u Q I rx ry ⟨_, _, rfl, rfl, h⟩
  · obtain ⟨⟨hk1, hk2⟩, ⟨xs, h1, h4, q⟩ | ⟨xs, hH, hz, q⟩⟩ := h
    · exact op_rep pins s σ H _ _ v u Q I rx ry ⟨_, _, xs, rfl, rfl, h1, hk1, hk2, h4, q⟩
    rename_i l k
    cases rx
    obtain ⟨t, rfl⟩ := ry
    obtain ⟨z, its, r, n, e⟩ := I.hok l _ hH
    have hl : its.length = xs.length := r.length.symm
    have hemp : its.toArray.isEmpty = xs.isEmpty := by
      cases r <;> rfl
    have g1 : (decide (k < -(2 ^ 63)) || decide (k ≥ 2 ^ 63)) = false := by
      rw [Bool.or_eq_false_iff]
      exact ⟨decide_eq_false (by omega), decide_eq_false (by omega)⟩
    refine wpAny_binaryOp_repeat_ref (T := "tuple") (U := "int") (by decide) ⟨_, e, rfl⟩ (fun s' => typeIs_int s' k t) noFill_tuple_mul F.fills_int_mul F.slot_int_rmul repeat_tuple F.slot_int_index.lookup
      (call_meets F.slot_int_rmul (typeIs_int s k t) F.entry_int_rmul (F.args_int_rmul_2 _ _) (int_rmul_tuple k t l its.toArray n) ⟨e, rfl, ⟨_, e, rfl⟩, ?_⟩)
    by_cases c1 : (its.toArray.isEmpty || k == 1) = true
    · refine call_meets F.slot_tuple_mul ⟨_, e, rfl⟩ F.entry_tuple_mul (F.args_tuple_mul_2 _ _) (tuple_mul_same l its.toArray n k t g1 c1) ⟨e, ?_⟩
      refine ⟨.ref l, H, I, rfl, q l H (Same.refl H) ?_⟩
      rw [hH]
      rw [Bool.or_eq_true] at c1
      rcases c1 with c1 | c1
      · rw [hemp, List.isEmpty_iff] at c1
        subst c1
        have : (List.replicate k.toNat ([] : List V)).flatten = [] := by
          induction k.toNat with
          | zero => rfl
          | succ m ih => rw [List.replicate_succ, List.flatten_cons, ih]; rfl
        rw [this]
      · have : k = 1 := by simpa using c1
        subst this
        show some (HO.tup xs) = some (.tup (List.replicate 1 xs).flatten)
        simp
    · have c1' : (its.toArray.isEmpty || k == 1) = false := by simpa using c1
      have he : its.toArray.isEmpty = false := (Bool.or_eq_false_iff.mp c1').1
      by_cases c2 : k ≤ 0
      · refine call_meets F.slot_tuple_mul ⟨_, e, rfl⟩ F.entry_tuple_mul (F.args_tuple_mul_2 _ _) (tuple_mul_none l its.toArray n k t g1 c1' (by rw [decide_eq_true c2]; rfl)) ⟨e, ?_⟩
        have e0 : (List.replicate k.toNat xs).flatten = [] := by
          have : k.toNat = 0 := by omega
          rw [this]; rfl
        have I2 : Inv X pins σ (upd H s.heap.objs.size (.tup [])) { s with heap := s.heap.push { cls := .type "tuple", data := .seq #[] } } :=
          I.laid (t' := s.toks) (o := .tup []) (fun b ob q => Heap.get?_push_of_some _ q) (Nat.le_refl _) ⟨Nat.zero_le _, [], .nil, TupD.new _ _⟩
        exact ⟨.ref s.heap.objs.size, _, I2, rfl, q _ _ (Same.new (I.hok.fresh (Nat.le_refl _)) _) (by rw [e0]; exact upd_same)⟩
      · have hcast : (its.toArray.size : Int) * k = ((xs.length * k.toNat : Nat) : Int) := by
          rw [List.size_toArray, hl]
          have : k = (k.toNat : Int) := by omega
          conv => lhs; rw [this]
          norm_cast
        have hb : (sizeLine : Nat) ≤ (2 ^ 63 - 1) / 8 := by decide
        have g4 : decide ((its.toArray.size : Int) * k > (2 ^ 63 - 1) / 8) = false := by
          refine decide_eq_false ?_
          rw [hcast]
          omega
        have g5 : Builtin.Tuple.tupleTooMany ((its.toArray.size : Int) * k) = false := by
          unfold Builtin.Tuple.tupleTooMany
          rw [hcast]
          exact decide_eq_false (by omega)
        have f0 : List.foldl (fun x1 x2 => x1 ++ x2) #[] (List.replicate k.toNat its.toArray) = (List.replicate k.toNat its).flatten.toArray := by
          have := foldl_rep its k.toNat []
          rw [List.nil_append] at this
          exact this
        refine call_meets F.slot_tuple_mul ⟨_, e, rfl⟩ F.entry_tuple_mul (F.args_tuple_mul_2 _ _) (tuple_mul_many l its.toArray n k t g1 c1' (by rw [decide_eq_false c2, he]; rfl) g4 g5 (by rw [f0, List.size_toArray, len_rep, hl, Nat.mul_comm]; exact hz)) ⟨e, ?_⟩
        rw [f0]
        have I2 : Inv X pins σ (upd H s.heap.objs.size (.tup (List.replicate k.toNat xs).flatten)) { s with heap := s.heap.push { cls := .type "tuple", data := .seq (List.replicate k.toNat its).flatten.toArray } } :=
          I.laid (t' := s.toks) (o := .tup (List.replicate k.toNat xs).flatten) (fun b ob q => Heap.get?_push_of_some _ q) (Nat.le_refl _) ⟨by rw [len_rep, Nat.mul_comm]; exact hz, _, r.rep k.toNat, TupD.new _ _⟩
        exact ⟨.ref s.heap.objs.size, _, I2, rfl, q _ _ (Same.new (I.hok.fresh (Nat.le_refl _)) _) upd_same⟩
  · exact h.elim
end
section
variable {X : Cx} {e : Expr} {es : List Expr} {t : TA} {p pos : Pos}
theorem boot_sum' : bootBuiltins "sum" = some (.builtin "sum") := by decide +kernel
theorem boot_max' : bootBuiltins "max" = some (.builtin "max") := by decide +kernel
theorem boot_abs' : bootBuiltins "abs" = some (.builtin "abs") := by decide +kernel
theorem pcb_sum (hc : X.calm = true) (hg : Gl X "sum") (hm : X.mg "sum" = none) (ha : PA X (e :: es) t) (he : starEach (e :: es) X.env = (false, eval e X.env) :: starEach es X.env) (hpl : (backTo pos (starEach es X.env)).any (·.1) = false) :
    PE X (.Call (.Name "sum" p) (e :: es) [] pos) (tCB (rSumP X.K) t) := pe_callB (call_sumP hc) hg hm boot_sum' ha (by decide) (by decide) he hpl
theorem zcb_sum (hc : X.calm = true) (hg : Gl X "sum") (hm : X.mg "sum" = none) (ha : ZA X (e :: es) t) (he : starEach (e :: es) X.env = (false, eval e X.env) :: starEach es X.env) (hpl : (backTo pos (starEach es X.env)).any (·.1) = false) :
    ZE X (.Call (.Name "sum" p) (e :: es) [] pos) (tCB (rSumP X.K) t) := by with_unfolding_all exact pcb_sum hc hg hm ha he hpl
theorem pcb_max (hc : X.calm = true) (hg : Gl X "max") (hm : X.mg "max" = none) (ha : PA X (e :: es) t) (he : starEach (e :: es) X.env = (false, eval e X.env) :: starEach es X.env) (hpl : (backTo pos (starEach es X.env)).any (·.1) = false) :
    PE X (.Call (.Name "max" p) (e :: es) [] pos) (tCB (rMax1P X.K) t) := pe_callB (call_maxP hc) hg hm boot_max' ha (by decide) (by decide) he hpl
theorem zcb_max (hc : X.calm = true) (hg : Gl X "max") (hm : X.mg "max" = none) (ha : ZA X (e :: es) t) (he : starEach (e :: es) X.env = (false, eval e X.env) :: starEach es X.env) (hpl : (backTo pos (starEach es X.env)).any (·.1) = false) :
    ZE X (.Call (.Name "max" p) (e :: es) [] pos) (tCB (rMax1P X.K) t) := by with_unfolding_all exact pcb_max hc hg hm ha he hpl
noncomputable def rAbsP : List V → Hp → VK → Prop := fun xs H Q => match xs with
  | [.int i] => Q (.int (if i < 0 then -i else i)) H
  | _ => False
theorem call_absP : CallR X (.builtin "abs") rAbsP := call_abs.imp fun xs H Q h => by
  unfold rAbsP at h
  split at h
  · exact ⟨_, rfl, h⟩
  · exact h.elim
theorem pcb_abs (hg : Gl X "abs") (hm : X.mg "abs" = none) (ha : PA X (e :: es) t) (he : starEach (e :: es) X.env = (false, eval e X.env) :: starEach es X.env) (hpl : (backTo pos (starEach es X.env)).any (·.1) = false) :
    PE X (.Call (.Name "abs" p) (e :: es) [] pos) (tCB rAbsP t) := pe_callB call_absP hg hm boot_abs' ha (by decide) (by decide) he hpl
theorem zcb_abs (hg : Gl X "abs") (hm : X.mg "abs" = none) (ha : ZA X (e :: es) t) (he : starEach (e :: es) X.env = (false, eval e X.env) :: starEach es X.env) (hpl : (backTo pos (starEach es X.env)).any (·.1) = false) :
    ZE X (.Call (.Name "abs" p) (e :: es) [] pos) (tCB rAbsP t) := by with_unfolding_all exact pcb_abs hg hm ha he hpl
noncomputable def rAppP : V → List V → Hp → VK → Prop := fun x vs H Q => match x, vs with
  | .ref l, [y] => ∃ xs, H l = some (.lst xs) ∧ xs.length < sizeLine ∧ Q .non (upd H l (.lst (xs ++ [y])))
  | _, _ => False
theorem mt_appP : MtM X "list.append" rAppP := fun pins s σ H x vs v us Q I rx rv h => by
  unfold rAppP at h
  split at h
  · obtain ⟨xs, h1, h2, q⟩ := h
    exact mt_append pins s σ H _ _ v us Q I rx rv ⟨_, xs, _, rfl, rfl, h1, h2, q⟩
  · exact h.elim
variable {o : Expr} {to : TE} {apos cpos : Pos}
theorem pm_append (ho : PE X o to) (ha : PA X (e :: es) t) (hbase : attributeBase o "append" X.env (eval o X.env) = eval o X.env := by rfl)
    (hfew : ((backTo cpos (starEach (e :: es) X.env)).all (fun x => !x.1) && (backToKw cpos (keywordEach [] X.env)).all (fun x => x.1.isSome)
      && decide ((e :: es).length + ([] : List Keyword).length + (if ([] : List Keyword).isEmpty then 0 else 1) < 30)) = true := by rfl)
    (hline : (apos.endLine == cpos.line) = true := by rfl) (hs : starEach (e :: es) X.env = (false, eval e X.env) :: starEach es X.env := by rfl) (hplain : (backTo cpos (starEach es X.env)).any (·.1) = false := by rfl) :
    PE X (.Call (.Attribute o "append" apos) (e :: es) [] cpos) (fun σ H Q => to σ H fun x H1 => tyV X.K "list" x H1 ∧ t σ H1 fun xs H2 => rAppP x xs H2 Q) :=
  pe_bm PySem.F.plainAttrs_list PySem.F.slot_list_append PySem.F.type_list_append mt_appP ho ha hbase hfew hline hs hplain
theorem zm_append (ho : ZE X o to) (ha : ZA X (e :: es) t) (hbase : attributeBase o "append" X.env (eval o X.env) = eval o X.env := by rfl)
    (hfew : ((backTo cpos (starEach (e :: es) X.env)).all (fun x => !x.1) && (backToKw cpos (keywordEach [] X.env)).all (fun x => x.1.isSome)
      && decide ((e :: es).length + ([] : List Keyword).length + (if ([] : List Keyword).isEmpty then 0 else 1) < 30)) = true := by rfl)
    (hline : (apos.endLine == cpos.line) = true := by rfl) (hs : starEach (e :: es) X.env = (false, eval e X.env) :: starEach es X.env := by rfl) (hplain : (backTo cpos (starEach es X.env)).any (·.1) = false := by rfl) :
    ZE X (.Call (.Attribute o "append" apos) (e :: es) [] cpos) (fun σ H Q => to σ H fun x H1 => tyV X.K "list" x H1 ∧ t σ H1 fun xs H2 => rAppP x xs H2 Q) := by with_unfolding_all exact pm_append ho ha hbase hfew hline hs hplain
theorem tyL {K : PySem.W.Frag} {H : Hp} {l : Addr} {xs : List V} (h : H l = some (.lst xs)) : tyV K "list" (.ref l) H := .inl ⟨rfl, xs, SqL.of h⟩
end
end L2
set_option Elab.async false
set_option linter.all false
set_option maxRecDepth 100000
set_option maxHeartbeats 4000000
namespace L2
open PySem PySem.Spec PyProof.Rows
theorem DatV.ints {H : Hp} {a : Addr} {ns : List Int} (e : H a = some (.tup (ns.map V.int))) : DatV H (.ref a) (.tuple (ns.map PyData.int)) := .tup e (DatAll.ints ns)
noncomputable def PrAt (H : Hp) (v : V) (p : Int × Int) : Prop := ∃ b, v = .ref b ∧ H b = some (.tup [.int p.1, .int p.2])
inductive Prs (H : Hp) : List V → List (Int × Int) → Prop where
  | nil : Prs H [] []
  | cons {v p vs ps} : PrAt H v p → Prs H vs ps → Prs H (v :: vs) (p :: ps)
theorem Prs.same {H H' : Hp} (y : Same H H') : ∀ {vs ps}, Prs H vs ps → Prs H' vs ps
  | _, _, .nil => .nil
  | _, _, .cons ⟨b, e, h⟩ r => .cons ⟨b, e, y _ _ h⟩ (Prs.same y r)
theorem Prs.length {H : Hp} : ∀ {vs ps}, Prs H vs ps → vs.length = ps.length
  | _, _, .nil => rfl
  | _, _, .cons _ r => by rw [List.length_cons, List.length_cons, Prs.length r]
theorem Prs.get {H : Hp} : ∀ {vs ps} {i : Nat} {v : V}, Prs H vs ps → vs[i]? = some v → ∃ p, ps[i]? = some p ∧ PrAt H v p
  | _, _, _, _, .nil, h => by simp at h
  | _, _, 0, _, .cons h _, e => by simp at e; subst e; exact ⟨_, rfl, h⟩
  | _, _, i + 1, _, .cons _ r, e => by
    obtain ⟨p, h1, h2⟩ := Prs.get (i := i) r (by simpa using e)
    exact ⟨p, by simpa using h1, h2⟩
theorem Prs.snoc {H : Hp} {v : V} {p : Int × Int} (h : PrAt H v p) : ∀ {vs ps}, Prs H vs ps → Prs H (vs ++ [v]) (ps ++ [p])
  | _, _, .nil => .cons h .nil
  | _, _, .cons q r => .cons q (Prs.snoc h r)
theorem Same.updN {H H' : Hp} {t : Addr} {o : HO} (y : Same H H') (h : H t = none) : Same H (upd H' t o) := fun b u e => by
  rw [upd_ne (ne_of_none e h)]
  exact y b u e
theorem Prs.updL {H : Hp} {t : Addr} {xs ys : List V} (h : H t = some (.lst xs)) : ∀ {us ps}, Prs H us ps → Prs (upd H t (.lst ys)) us ps
  | _, _, .nil => .nil
  | _, _, .cons ⟨b, e, hb⟩ r => .cons ⟨b, e, by rw [upd_ne (ne_of hb h (by intro z; cases z))]; exact hb⟩ (Prs.updL h r)
end L2
namespace L2
open PySem PySem.Spec PyProof.Rows
theorem canInts : ∀ ns : List Int, PyData.canLayAll0 (ns.map PyData.int) = true ∧ PyData.depthAll (ns.map PyData.int) ≤ 1
  | [] => ⟨by simp [PyData.canLayAll0], by simp [PyData.depthAll]⟩
  | n :: r => by
    obtain ⟨h1, h2⟩ := canInts r
    refine ⟨by simp only [List.map_cons, PyData.canLayAll0, PyData.canLay0, h1, Bool.and_self], ?_⟩
    simp only [List.map_cons, PyData.depthAll, PyData.depth]
    omega
theorem shaped_ints (ns : List Int) : SeqAt.shaped (.tuple (ns.map PyData.int)) = true := by
  obtain ⟨h1, h2⟩ := canInts ns
  unfold SeqAt.shaped
  rw [Bool.and_eq_true]
  exact ⟨by simp only [PyData.canLay0]; exact h1, decide_eq_true (by simp only [PyData.depth]; omega)⟩
theorem shaped_list_ints (ns : List Int) : SeqAt.shaped (.list (ns.map PyData.int)) = true := by
  obtain ⟨h1, h2⟩ := canInts ns
  unfold SeqAt.shaped
  rw [Bool.and_eq_true]
  exact ⟨by simp only [PyData.canLay0]; exact h1, decide_eq_true (by simp only [PyData.depth]; omega)⟩
theorem eqv_self {d : PyData} (h : SeqAt.shaped d = true) : PyData.eqv d d = true := SeqAt.eqv_refl d (SeqAt.canLay_of_shaped h)
end L2
namespace L2
open PySem PySem.Spec PyProof.Rows
theorem SqL.same {K : PySem.W.Frag} {H H' : Hp} {a : Addr} {xs : List V} (e : Same H H') (h : SqL K H a xs) : SqL K H' a xs := by
  rcases h with (h | ⟨o, h⟩) | h
  · exact .inl (.inl (e _ _ h))
  · exact .inl (.inr ⟨o, e _ _ h⟩)
  · exact .inr h
end L2
namespace L2
open PySem PySem.Spec PyProof.Rows
theorem while_by2 {c : TT} {tb : TS} {D : Ends} {σ : St} {H : Hp} (Pv : Nat → St → Hp → Prop) (m0 : Nat) (h0 : Pv m0 σ H)
    (hs : ∀ m σ H, Pv m σ H → c σ H fun b H1 => if b = true then ∃ N : St → Hp → Prop, (∀ σ' H', N σ' H' → ∃ m', m' < m ∧ Pv m' σ' H') ∧ tb { D with nx := N, ct := N, bk := D.nx } σ H1 else D.nx σ H1) : tWhile c tb D σ H := ⟨Pv, ⟨m0, h0⟩, hs⟩
end L2
set_option Elab.async false
set_option linter.all false
set_option maxRecDepth 100000
set_option maxHeartbeats 4000000
namespace L2
open PySem PySem.Spec PyProof.Rows
section
variable {X : Cx}
noncomputable def ipP (f : Int → Int → Int) : TIp := fun x y H Q => match x, y with
  | .int i, .int j => Q (.int (f i j)) H
  | _, _ => False
theorem ipP_I {f : Int → Int → Int} {x y : V} {H : Hp} {Q : VK} (h : ipP f x y H Q) : ipI f x y H Q := by
  unfold ipP at h
  split at h
  · exact ⟨_, _, rfl, rfl, h⟩
  · exact h.elim
theorem ip_addP : PIp X .Add (ipP fun i j => i + j) := fun pins s σ H x y v u Q I r1 r2 h => ip_add pins s σ H x y v u Q I r1 r2 (ipP_I h)
end
section
variable {X : Cx} {e : Expr} {es : List Expr} {t : TA} {o : Expr} {to : TE} {apos cpos : Pos}
end
end L2
namespace L2
open PySem PySem.Spec PyProof.Rows
inductive Tps (H : Hp) : List V → List (List Int) → Prop where
  | nil : Tps H [] []
  | cons {b : Addr} {ls : List Int} {vs lss} : H b = some (.tup (ls.map V.int)) → Tps H vs lss → Tps H (.ref b :: vs) (ls :: lss)
theorem Tps.same {H H' : Hp} (y : Same H H') : ∀ {vs ps}, Tps H vs ps → Tps H' vs ps
  | _, _, .nil => .nil
  | _, _, .cons h r => .cons (y _ _ h) (Tps.same y r)
theorem Tps.length {H : Hp} : ∀ {vs ps}, Tps H vs ps → vs.length = ps.length
  | _, _, .nil => rfl
  | _, _, .cons _ r => by rw [List.length_cons, List.length_cons, Tps.length r]
theorem Tps.get {H : Hp} : ∀ {vs ps} {i : Nat} {v : V}, Tps H vs ps → vs[i]? = some v → ∃ ls b, ps[i]? = some ls ∧ v = .ref b ∧ H b = some (.tup (ls.map V.int))
  | _, _, _, _, .nil, h => by simp at h
  | _, _, 0, _, .cons h _, e => by simp at e; exact ⟨_, _, rfl, e.symm, h⟩
  | _, _, i + 1, _, .cons _ r, e => by
    obtain ⟨ls, b, h1, h2⟩ := Tps.get (i := i) r (by simpa using e)
    exact ⟨ls, b, by simpa using h1, h2⟩
theorem Tps.snoc {H : Hp} {b : Addr} {ls : List Int} (h : H b = some (.tup (ls.map V.int))) : ∀ {vs ps}, Tps H vs ps → Tps H (vs ++ [.ref b]) (ps ++ [ls])
  | _, _, .nil => .cons h .nil
  | _, _, .cons q r => .cons q (Tps.snoc h r)
end L2
namespace L2
open PySem PySem.Spec PyProof.Rows
section
variable {X : Cx} {e : Expr} {es : List Expr} {t : TA} {p pos : Pos} {K : PySem.W.Frag} {o : Expr} {to : TE} {apos cpos : Pos}
theorem pcb_len' (hg : Gl X "len") (hm : X.mg "len" = none) (ha : PA X (e :: es) t) (he : starEach (e :: es) X.env = (false, eval e X.env) :: starEach es X.env) (hpl : (backTo pos (starEach es X.env)).any (·.1) = false) (hK : X.K = K) :
    PE X (.Call (.Name "len" p) (e :: es) [] pos) (tCB (rLenP K) t) := by subst hK; exact pcb_len hg hm ha he hpl
theorem zcb_len' (hg : Gl X "len") (hm : X.mg "len" = none) (ha : ZA X (e :: es) t) (he : starEach (e :: es) X.env = (false, eval e X.env) :: starEach es X.env) (hpl : (backTo pos (starEach es X.env)).any (·.1) = false) (hK : X.K = K) :
    ZE X (.Call (.Name "len" p) (e :: es) [] pos) (tCB (rLenP K) t) := by with_unfolding_all exact pcb_len' hg hm ha he hpl hK
theorem pcb_sum' (hc : X.calm = true) (hg : Gl X "sum") (hm : X.mg "sum" = none) (ha : PA X (e :: es) t) (he : starEach (e :: es) X.env = (false, eval e X.env) :: starEach es X.env) (hpl : (backTo pos (starEach es X.env)).any (·.1) = false) (hK : X.K = K) :
    PE X (.Call (.Name "sum" p) (e :: es) [] pos) (tCB (rSumP K) t) := by subst hK; exact pcb_sum hc hg hm ha he hpl
theorem zcb_sum' (hc : X.calm = true) (hg : Gl X "sum") (hm : X.mg "sum" = none) (ha : ZA X (e :: es) t) (he : starEach (e :: es) X.env = (false, eval e X.env) :: starEach es X.env) (hpl : (backTo pos (starEach es X.env)).any (·.1) = false) (hK : X.K = K) :
    ZE X (.Call (.Name "sum" p) (e :: es) [] pos) (tCB (rSumP K) t) := by with_unfolding_all exact pcb_sum' hc hg hm ha he hpl hK
end
end L2
namespace L2
open PySem
noncomputable def forBody : Stmt → List Stmt
  | .For _ _ b _ _ => b
  | .While _ b _ _ => b
  | _ => []
end L2
set_option Elab.async false
set_option linter.all false
set_option maxRecDepth 100000
set_option maxHeartbeats 4000000
namespace L2
open PySem PySem.Spec PyProof.Rows
section
variable {X : Cx} {pins : List (Addr × Obj)} {σ : St} {H : Hp} {s : Shared}
end
section
variable {X : Cx}
end
end L2
set_option Elab.async false
set_option linter.all false
set_option maxRecDepth 100000
set_option maxHeartbeats 4000000
namespace L2
open PySem PySem.Spec PyProof.Rows
section
variable {M : Model} {A : Around} {E : Value → Shared → Prop} {s : Shared}
end
section
variable {X : Cx} {x : Str} {nv : List Str} {ix : List (Str × Nat)} {scope : Scope} {pins : List (Addr × Obj)} {σ : St} {H : Hp} {s : Shared}
end
section
variable {X : Cx} {x : Str} {nv : List Str} {ix : List (Str × Nat)} {scope : Scope} {pins : List (Addr × Obj)} {σ : St} {H : Hp} {s : Shared} {elt tg iter : Expr} {ifs : List Expr} {pos : Pos}
end
end L2
namespace L2
open PySem PySem.Spec PyProof.Rows
section
variable {X : Cx} {K : PySem.W.Frag}
end
end L2
set_option Elab.async false
set_option linter.all false
set_option maxRecDepth 100000
set_option maxHeartbeats 4000000
namespace L2
open PySem PySem.Spec PyProof.Rows
section
variable {prog : Program} {w : World} {A : Around} {E : Value → Shared → Prop} {s : Shared}
theorem nextOf_tup_item {it t : Addr} {i : Nat} {items : Array Value} {x : Value} {Q : Value → Shared → Prop} (hit : s.heap.IsTupleIter it t i) (ht : s.heap.IsTuple t items) (hx : items[i]? = some x)
    (hQ : ∀ h', h'.IsTupleIter it t (i + 1) → Heap.SameBut it s.heap h' → Q x { s with heap := h' }) : wpAny (model prog w) A (Builtin.SmallTypes.nextOf (.ref it)) Q E s := by
  obtain ⟨ot, h1, c1, d1⟩ := id hit
  obtain ⟨og, h2, c2, n2, d2⟩ := ht
  unfold Builtin.SmallTypes.nextOf
  refine wpAny_bind (wpAny_callSpecial?_slot hit.typeIs F.slot_tuple_iterator_next (wpAny_call_entry F.slot_tuple_iterator_next hit.typeIs F.entry_tuple_iterator_next ?_ (F.args_tuple_iterator_next_1 _)))
  refine wpAny_bind (m := field (.ref it) 0) (wpAny_field h1 d1 (x := .ref t) rfl ?_)
  have hnn : ¬ ((Value.ref t == Value.none) = true) := fun z => Bool.false_ne_true z
  show wpAny _ _ (if (Value.ref t == Value.none) = true then _ else _) _ _ _
  rw [if_neg hnn]
  refine wpAny_bind (m := field (.ref it) 1) (wpAny_field h1 d1 (x := .int i 0) rfl (wpAny_bind (m := seqItems? (.ref t)) (wpAny_seqItems h2 d2 ?_)))
  simp only [Int.toNat_natCast, hx]
  refine wpAny_bind (wpAny_setField h1 d1 (by simp) (wpAny_pure ⟨_, rfl, wpAny_pure (hQ _ ⟨_, Heap.get?_update_self _ h1 (Obj.isFreed_of_fields (Obj.data_mapFields d1 _)), (Obj.cls_mapFields ..).trans c1, ?_⟩ (Heap.SameBut.update ..))⟩))
  rw [Obj.data_mapFields d1]
  simp [rawInt]
theorem nextOf_tup_end {it t : Addr} {i : Nat} {items : Array Value} {Q : Value → Shared → Prop} (hh : A.handled = none) (hit : s.heap.IsTupleIter it t i) (ht : s.heap.IsTuple t items) (hx : items[i]? = none)
    (hE : ∀ h' e, Heap.ExtBut it s.heap h' → (∃ o, h'.get? e = some o ∧ o.cls = .type "StopIteration") → E (.ref e) { s with heap := h' }) : wpAny (model prog w) A (Builtin.SmallTypes.nextOf (.ref it)) Q E s := by
  obtain ⟨ot, h1, c1, d1⟩ := id hit
  obtain ⟨og, h2, c2, n2, d2⟩ := ht
  unfold Builtin.SmallTypes.nextOf
  refine wpAny_bind (wpAny_callSpecial?_slot hit.typeIs F.slot_tuple_iterator_next (wpAny_call_entry F.slot_tuple_iterator_next hit.typeIs F.entry_tuple_iterator_next ?_ (F.args_tuple_iterator_next_1 _)))
  refine wpAny_bind (m := field (.ref it) 0) (wpAny_field h1 d1 (x := .ref t) rfl ?_)
  have hnn : ¬ ((Value.ref t == Value.none) = true) := fun z => Bool.false_ne_true z
  show wpAny _ _ (if (Value.ref t == Value.none) = true then _ else _) _ _ _
  rw [if_neg hnn]
  refine wpAny_bind (m := field (.ref it) 1) (wpAny_field h1 d1 (x := .int i 0) rfl (wpAny_bind (m := seqItems? (.ref t)) (wpAny_seqItems h2 d2 ?_)))
  simp only [Int.toNat_natCast, hx]
  refine wpAny_bind (wpAny_rule (wpAny_bind (wpAny_setField h1 d1 (by simp) (wpAny_bind (m := newExc (.type "StopIteration") []) ?_))))
  simp only [newExc, newTuple, raiseNew]
  refine wpAny_bind (wpAny_newObj_type (wpAny_bind (m := firstArgMember _ _) (wpAny_of_eq (a := Value.none) (by first | rfl | (simp only [firstArgMember]; rfl)) (wpAny_newObj_type (wpAny_bind (wpAny_handled ?_)) (by size_fits)))) (by size_fits))
  first | rw [show A.in1.handled = none from hh] | rw [hh]
  exact wpAny_bind (wpAny_pure (wpAny_throw (hE _ _ (((Heap.SameBut.update ..).extBut.push _).push _) ⟨_, Heap.get?_push_size _ rfl, rfl⟩)))
end
section
variable {X : Cx} {pins : List (Addr × Obj)} {σ : St} {H : Hp} {s : Shared}
theorem Inv.turned2 {h' : Heap} {t' : Nat} {e it : Addr} (I : Inv X pins σ H s) (hk : ∀ b o, b ≠ e → b ≠ it → s.heap.get? b = some o → h'.get? b = some o) (fe : FpOk X pins H e) (fi : FpOk X pins H it) : Inv X pins σ H { s with heap := h', toks := t' } := by
  have ne : ∀ {b}, b ∉ [e, it] → b ≠ e ∧ b ≠ it := fun {b} hb => ⟨fun z => hb (by simp [z]), fun z => hb (by simp [z])⟩
  refine I.step (g' := s.gens) (d' := s.drawn) (ch := [e, it]) (fun b hb => ?_) (fun b o _ _ hb q _ => hk b o (ne hb).1 (ne hb).2 q) (fun b o _ _ hb q _ => ⟨o.slots, hk b o (ne hb).1 (ne hb).2 q⟩) (fun b o _ _ n => n) (fun b o hb q => ⟨o, hk b o (ne hb).1 (ne hb).2 q⟩)
    (fun _ _ q => q) (fun _ _ _ q => q) (fun b ps q => ⟨#[], by rw [q]; simp⟩) (fun m hm => ?_) (fun b u q => ?_) I.bare
  · rcases List.mem_cons.mp hb with rfl | hb
    · exact ⟨fe.2.2.2.1, fe.2.1, fe.2.2.2.2.1, fe.2.2.2.2.2⟩
    · have : b = it := by simpa using hb
      subst this
      exact ⟨fi.2.2.2.1, fi.2.1, fi.2.2.2.2.1, fi.2.2.2.2.2⟩
  · obtain ⟨o, es, ep, ho, r⟩ := hm
    exact ⟨o, es, ep, hk _ o (Ne.symm fe.2.1) (Ne.symm fi.2.1) ho, r⟩
  · refine (I.hok b u q).stay (fun c v hc r => ?_) (fun c r => r) fun c xs r => r
    have nn : ∀ x, FpOk X pins H x → c ≠ x := fun x fx z => by
      subst z
      rcases hc with rfl | hc
      · rw [fx.1] at q; cases q
      · rw [fx.1] at hc; cases hc
    exact hk c v (nn e fe) (nn it fi) r
theorem Inv.trackT {D : Addr} {ys : List V} {its : List Value} (I : Inv X pins σ H s) (rv : Vals ys its) (hz : ys.length ≤ sizeLine) (e : TupD s.heap D its.toArray) (hd : FpOk X pins H D) : Inv X pins σ (upd H D (.tup ys)) s := by
  obtain ⟨h1, h2, h3, h4, h5, h6⟩ := hd
  have nD : ∀ b u, H b = some u → b ≠ D := fun b u q z => by rw [z, h1] at q; cases q
  refine I.step (s := s) (h' := s.heap) (g' := s.gens) (t' := s.toks) (d' := s.drawn) (ch := [D]) (fun b hb => ?_) (fun b o _ _ _ q _ => q) (fun b o _ _ _ q _ => ⟨o.slots, q⟩) (fun b o hb _ q => ?_) (fun b o _ q => ⟨o, q⟩)
    (fun b xs q => (upd_ne (nD b _ q)).trans q) (fun b o u q => (upd_ne (nD b _ q)).trans q) (fun b ps q => ⟨#[], by rw [upd_ne (nD b _ q), q]; simp⟩) (fun m hm => hm) (fun b u q => ?_) I.bare
  · have : b = D := by simpa using hb
    subst this
    exact ⟨h4, h2, h5, h6⟩
  · rw [upd_ne (fun z => hb (by simp [z]))]; exact q
  · by_cases hb : b = D
    · subst hb
      rw [upd_same] at q
      cases q
      exact ⟨hz, its, rv, e⟩
    · rw [upd_ne hb] at q
      exact (I.hok b u q).stay (fun c v _ r => r) (fun c r => (upd_ne (nD c _ r)).trans r) fun c xs r => (upd_ne (nD c _ r)).trans r
theorem boot_enumerate' : bootBuiltins "enumerate" = some (.type "enumerate") := by decide +kernel
variable {e : Expr} {es : List Expr} {t : TA} {p pos : Pos}
end
end L2
set_option Elab.async false
set_option linter.all false
set_option maxRecDepth 100000
set_option maxHeartbeats 4000000
namespace L2
open PySem PySem.Spec PyProof.Rows
noncomputable def Itq (h : Heap) (i l : Addr) (k : Nat) (xs : Array Value) : Prop := (h.IsListIter i l k ∧ h.IsList l xs) ∨ (h.IsTupleIter i l k ∧ h.IsTuple l xs)
theorem Itq.at {h h' : Heap} {i l : Addr} {k : Nat} {xs : Array Value} (x : Itq h i l k xs) (hi : ∀ o, h.get? i = some o → h'.get? i = some o) (hl : ∀ o, h.get? l = some o → h'.get? l = some o) : Itq h' i l k xs :=
  x.elim (fun a => .inl ⟨a.1.at hi, a.2.at hl⟩) fun a => .inr ⟨a.1.at hi, a.2.at hl⟩
theorem Itq.but {h h' : Heap} {i l z : Addr} {k : Nat} {xs : Array Value} (x : Itq h i l k xs) (e : Heap.ExtBut z h h') (n1 : i ≠ z) (n2 : l ≠ z) : Itq h' i l k xs := x.at (fun o q => e _ _ n1 q) fun o q => e _ _ n2 q
section
variable {prog : Program} {w : World} {A : Around} {E : Value → Shared → Prop} {s : Shared}
theorem Itq.item {i l : Addr} {k : Nat} {xs : Array Value} {v : Value} {Q : Value → Shared → Prop} (x : Itq s.heap i l k xs) (hne : l ≠ i) (hx : xs[k]? = some v)
    (hQ : ∀ h', Itq h' i l (k + 1) xs → Heap.SameBut i s.heap h' → Q v { s with heap := h' }) : wpAny (model prog w) A (Builtin.SmallTypes.nextOf (.ref i)) Q E s := by
  rcases x with ⟨x1, x2⟩ | ⟨x1, x2⟩
  · exact wpAny_nextOf_list_item x1 x2 hx fun h' a b => hQ h' (.inl ⟨a, x2.extBut b.extBut hne⟩) b
  · exact nextOf_tup_item x1 x2 hx fun h' a b => hQ h' (.inr ⟨a, x2.extBut b.extBut hne⟩) b
theorem Itq.fin {i l : Addr} {k : Nat} {xs : Array Value} {Q : Value → Shared → Prop} (hh : A.handled = none) (x : Itq s.heap i l k xs) (hx : xs[k]? = none)
    (hE : ∀ h' e, Heap.ExtBut i s.heap h' → (∃ o, h'.get? e = some o ∧ o.cls = .type "StopIteration") → E (.ref e) { s with heap := h' }) : wpAny (model prog w) A (Builtin.SmallTypes.nextOf (.ref i)) Q E s := by
  rcases x with ⟨x1, x2⟩ | ⟨x1, x2⟩
  · exact wpAny_nextOf_list_end hh x1 x2 hx hE
  · exact nextOf_tup_end hh x1 x2 hx hE
theorem zq_item {z TI TO i1 i2 l1 l2 : Addr} {k1 k2 : Nat} {xs ys : Array Value} {x y a b : Value} {Q : Value → Shared → Prop} (D : ZipApart z TI TO i1 i2 l1 l2) (n12 : l1 ≠ TI) (n22 : l2 ≠ TI)
    (hz : IsZip s.heap z TI TO .none) (hTI : IsPair s.heap TI (.ref i1) (.ref i2)) (hTO : IsPair s.heap TO a b) (h1 : Itq s.heap i1 l1 k1 xs) (h2 : Itq s.heap i2 l2 k2 ys) (hx : xs[k1]? = some x) (hy : ys[k2]? = some y)
    (hQ : ∀ h', IsZip h' z TI TO (rawInt s.heap.objs.size) → IsPair h' TO x y → Itq h' i1 l1 (k1 + 1) xs → Itq h' i2 l2 (k2 + 1) ys → IsPair h' s.heap.objs.size x y → h'.objs.size = s.heap.objs.size + 1 →
      (∀ c o, c ≠ z → c ≠ TO → c ≠ i1 → c ≠ i2 → s.heap.get? c = some o → h'.get? c = some o) → Q (.ref s.heap.objs.size) { s with heap := h' }) :
    wpAny (model prog w) A (Builtin.«zip.__next__» ⟨[.ref z], []⟩) (fun fin s' => ∃ v, fin = .done (.ret v) ∧ Q v s') E s := by
  show wpAny _ _ (field (.ref z) 2 >>= _) _ _ _; refine wpAny_bind (wpAny_field hz rfl (x := .bool false) rfl ?_)
  show wpAny _ _ (field (.ref z) 3 >>= _) _ _ _; refine wpAny_bind (wpAny_field hz rfl (x := .ref TI) rfl ?_)
  refine wpAny_bind (wpAny_seqItems hTI rfl ?_); show wpAny _ _ (Builtin.SmallTypes.ownedTupleIsFree (.ref z) >>= _) _ _ _
  refine wpAny_bind ?_; unfold Builtin.SmallTypes.ownedTupleIsFree
  refine wpAny_bind (wpAny_field hz rfl (x := .none) rfl (wpAny_pure ?_)); simp only [if_true]
  refine wpAny_bind (wpAny_rule ?_); refine wpAny_bind (wpAny_field hz rfl (x := .ref TO) rfl ?_)
  refine wpAny_bind (wpAny_setField_rec hz (by simp) fun g1 hz1 e1 => ?_)
  replace hz1 : IsZip g1 z TI TO .ellipsis := hz1
  refine wpAny_bind ?_; simp only [List.zipIdx_cons, List.zipIdx_nil, List.forIn_cons, List.forIn_nil]
  refine wpAny_bind (wpAny_bind (wpAny_onRaise ?_)); show wpAny _ _ (Builtin.SmallTypes.nextOf (.ref i1) >>= _) _ _ _
  have h1a : Itq g1 i1 l1 k1 xs := h1.but e1.extBut D.i1z D.l1z
  have h2a : Itq g1 i2 l2 k2 ys := h2.but e1.extBut D.i2z D.l2z
  refine wpAny_bind (Itq.item (s := { s with heap := g1 }) h1a D.l1i1 hx fun g2 h1b e2 => wpAny_pure ?_)
  have hTO2 : IsPair g2 TO a b := e2.extBut _ _ D.TOi1 (e1.extBut _ _ D.TOz hTO)
  have h2b : Itq g2 i2 l2 k2 ys := h2a.but e2.extBut (Ne.symm D.i12) D.l2i1
  refine wpAny_bind (wpAny_seqItems hTO2 rfl ?_); refine wpAny_bind (wpAny_updateSeq_pair hTO2 fun g3 hTO3 e3 => ?_)
  replace hTO3 : IsPair g3 TO x b := hTO3
  have h1c : Itq g3 i1 l1 (k1 + 1) xs := h1b.but e3.extBut (Ne.symm D.TOi1) D.l1TO
  have h2c : Itq g3 i2 l2 k2 ys := h2b.but e3.extBut (Ne.symm D.TOi2) D.l2TO
  refine wpAny_bind (wpAny_letGo (wpAny_pure ?_)); refine wpAny_bind (wpAny_bind (wpAny_onRaise ?_))
  show wpAny _ _ (Builtin.SmallTypes.nextOf (.ref i2) >>= _) _ _ _
  refine wpAny_bind (Itq.item (s := { s with heap := g3 }) h2c D.l2i2 hy fun g4 h2d e4 => wpAny_pure ?_)
  have hTO4 : IsPair g4 TO x b := e4.extBut _ _ D.TOi2 hTO3
  have h1d : Itq g4 i1 l1 (k1 + 1) xs := h1c.but e4.extBut D.i12 D.l1i2
  refine wpAny_bind (wpAny_seqItems hTO4 rfl ?_); refine wpAny_bind (wpAny_updateSeq_pair hTO4 fun g5 hTO5 e5 => ?_)
  replace hTO5 : IsPair g5 TO x y := hTO5
  have h1e : Itq g5 i1 l1 (k1 + 1) xs := h1d.but e5.extBut (Ne.symm D.TOi1) D.l1TO
  have h2e : Itq g5 i2 l2 (k2 + 1) ys := h2d.but e5.extBut (Ne.symm D.TOi2) D.l2TO
  refine wpAny_bind (wpAny_letGo (wpAny_pure (wpAny_pure ?_))); refine wpAny_bind (wpAny_seqItems hTO5 rfl ?_); refine wpAny_bind (wpAny_newTuple ?_)
  have hsz : g5.objs.size = s.heap.objs.size := by rw [e5.1, e4.1, e3.1, e2.1, e1.1]
  have hz5 : IsZip g5 z TI TO .ellipsis := e5.extBut _ _ (Ne.symm D.TOz) (e4.extBut _ _ (Ne.symm D.i2z) (e3.extBut _ _ (Ne.symm D.TOz) (e2.extBut _ _ (Ne.symm D.i1z) hz1)))
  have k5 : ∀ c o, c ≠ z → c ≠ TO → c ≠ i1 → c ≠ i2 → s.heap.get? c = some o → g5.get? c = some o := fun c o c1 c2 c3 c4 q => e5.extBut _ _ c2 (e4.extBut _ _ c4 (e3.extBut _ _ c2 (e2.extBut _ _ c3 (e1.extBut _ _ c1 q))))
  have zlt : z < g5.objs.size := Heap.lt_size hz5
  show wpAny _ _ (Builtin.SmallTypes.ownedTupleHandOut (.ref z) (.ref g5.objs.size) >>= _) _ _ _
  refine wpAny_bind ?_; unfold Builtin.SmallTypes.ownedTupleHandOut
  have hz6 : IsZip (g5.push { cls := .type "tuple", data := .seq #[x, y] }) z TI TO .ellipsis := Heap.get?_push_of_some _ hz5
  refine wpAny_bind (wpAny_setField_rec hz6 (by simp) fun g7 hz7 e7 => ?_)
  replace hz7 : IsZip g7 z TI TO (rawInt g5.objs.size) := hz7
  refine wpAny_setField_rec hz7 (by simp) fun g8 hz8 e8 => ?_
  replace hz8 : IsZip g8 z TI TO (rawInt g5.objs.size) := hz8
  have up : ∀ c o, c ≠ z → g5.get? c = some o → g8.get? c = some o := fun c o c1 q => e8.extBut _ _ c1 (e7.extBut _ _ c1 (Heap.get?_push_of_some _ q))
  have hT8 : IsPair g8 g5.objs.size x y := e8.extBut _ _ (Nat.ne_of_gt zlt) (e7.extBut _ _ (Nat.ne_of_gt zlt) (Heap.get?_push_size _ rfl))
  have hs8 : g8.objs.size = g5.objs.size + 1 := by rw [e8.1, e7.1, Heap.size_push]
  rw [hsz] at hz8 hT8 hs8
  refine wpAny_pure ⟨_, rfl, ?_⟩; show Q (.ref g5.objs.size) _; rw [hsz]
  exact hQ g8 hz8 (up _ _ D.TOz hTO5) (h1e.at (fun o q => up _ o D.i1z q) fun o q => up _ o D.l1z q) (h2e.at (fun o q => up _ o D.i2z q) fun o q => up _ o D.l2z q) hT8 hs8 fun c o c1 c2 c3 c4 q => up c o c1 (k5 c o c1 c2 c3 c4 q)
theorem zq_end {z TI TO i1 i2 l1 l2 : Addr} {k1 k2 : Nat} {xs ys : Array Value} {a b : Value} {Q : PySem.Fin → Shared → Prop} (hh : A.handled = none) (D : ZipApart z TI TO i1 i2 l1 l2)
    (hz : IsZip s.heap z TI TO .none) (hTI : IsPair s.heap TI (.ref i1) (.ref i2)) (hTO : IsPair s.heap TO a b) (h1 : Itq s.heap i1 l1 k1 xs) (h2 : Itq s.heap i2 l2 k2 ys) (hend : xs[k1]? = none ∨ ys[k2]? = none)
    (hE : ∀ h' e, (∀ c o, c ≠ z → c ≠ TO → c ≠ i1 → c ≠ i2 → s.heap.get? c = some o → h'.get? c = some o) → (∃ o, h'.get? e = some o ∧ o.cls = .type "StopIteration") → E (.ref e) { s with heap := h' }) : wpAny (model prog w) A (Builtin.«zip.__next__» ⟨[.ref z], []⟩) Q E s := by
  show wpAny _ _ (field (.ref z) 2 >>= _) _ _ _; refine wpAny_bind (wpAny_field hz rfl (x := .bool false) rfl ?_)
  show wpAny _ _ (field (.ref z) 3 >>= _) _ _ _; refine wpAny_bind (wpAny_field hz rfl (x := .ref TI) rfl ?_)
  refine wpAny_bind (wpAny_seqItems hTI rfl ?_); show wpAny _ _ (Builtin.SmallTypes.ownedTupleIsFree (.ref z) >>= _) _ _ _
  refine wpAny_bind ?_; unfold Builtin.SmallTypes.ownedTupleIsFree
  refine wpAny_bind (wpAny_field hz rfl (x := .none) rfl (wpAny_pure ?_)); simp only [if_true]
  refine wpAny_bind (wpAny_rule ?_); refine wpAny_bind (wpAny_field hz rfl (x := .ref TO) rfl ?_)
  refine wpAny_bind (wpAny_setField_rec hz (by simp) fun g1 hz1 e1 => ?_)
  replace hz1 : IsZip g1 z TI TO .ellipsis := hz1
  refine wpAny_bind ?_; simp only [List.zipIdx_cons, List.zipIdx_nil, List.forIn_cons, List.forIn_nil]
  refine wpAny_bind (wpAny_bind (wpAny_onRaise ?_)); show wpAny _ _ (Builtin.SmallTypes.nextOf (.ref i1) >>= _) _ _ _
  have h1a : Itq g1 i1 l1 k1 xs := h1.but e1.extBut D.i1z D.l1z
  have h2a : Itq g1 i2 l2 k2 ys := h2.but e1.extBut D.i2z D.l2z
  cases hx : xs[k1]? with
  | none =>
    refine wpAny_bind (Itq.fin (s := { s with heap := g1 }) hh h1a hx fun g2 e e2 he => ?_)
    obtain ⟨oe, hoe, hce⟩ := he
    have hz2 : IsZip g2 z TI TO .ellipsis := e2 _ _ (Ne.symm D.i1z) hz1
    have hez : e ≠ z := fun q => by subst q; rw [hz2] at hoe; cases hoe; simp at hce
    exact wpAny_setField_rec hz2 (by simp) fun g3 _ e3 => hE g3 e (fun c o c1 _ c3 _ q => e3.extBut _ _ c1 (e2 _ _ c3 (e1.extBut _ _ c1 q))) ⟨oe, e3.extBut _ _ hez hoe, hce⟩
  | some x =>
    have hy : ys[k2]? = none := by
      rcases hend with h | h
      · rw [hx] at h; cases h
      · exact h
    refine wpAny_bind (Itq.item (s := { s with heap := g1 }) h1a D.l1i1 hx fun g2 h1b e2 => wpAny_pure ?_)
    have hTO2 : IsPair g2 TO a b := e2.extBut _ _ D.TOi1 (e1.extBut _ _ D.TOz hTO)
    have h2b : Itq g2 i2 l2 k2 ys := h2a.but e2.extBut (Ne.symm D.i12) D.l2i1
    refine wpAny_bind (wpAny_seqItems hTO2 rfl ?_); refine wpAny_bind (wpAny_updateSeq_pair hTO2 fun g3 hTO3 e3 => ?_)
    have h2c : Itq g3 i2 l2 k2 ys := h2b.but e3.extBut (Ne.symm D.TOi2) D.l2TO
    refine wpAny_bind (wpAny_letGo (wpAny_pure ?_)); refine wpAny_bind (wpAny_bind (wpAny_onRaise ?_))
    show wpAny _ _ (Builtin.SmallTypes.nextOf (.ref i2) >>= _) _ _ _
    refine wpAny_bind (Itq.fin (s := { s with heap := g3 }) hh h2c hy fun g4 e e4 he => ?_)
    obtain ⟨oe, hoe, hce⟩ := he
    have hz4 : IsZip g4 z TI TO .ellipsis := e4 _ _ (Ne.symm D.i2z) (e3.extBut _ _ (Ne.symm D.TOz) (e2.extBut _ _ (Ne.symm D.i1z) hz1))
    have hez : e ≠ z := fun q => by subst q; rw [hz4] at hoe; cases hoe; simp at hce
    exact wpAny_setField_rec hz4 (by simp) fun g5 _ e5 => hE g5 e (fun c o c1 c2 c3 c4 q => e5.extBut _ _ c1 (e4 _ _ c4 (e3.extBut _ _ c2 (e2.extBut _ _ c3 (e1.extBut _ _ c1 q))))) ⟨oe, e5.extBut _ _ hez hoe, hce⟩
noncomputable def itCls (b : Bool) : String := if b then "tuple_iterator" else "list_iterator"
noncomputable def IsSq (h : Heap) (b : Bool) (l : Addr) (xs : Array Value) : Prop := if b = true then h.IsTuple l xs else h.IsList l xs
noncomputable abbrev zqI (b : Bool) (l : Addr) : Obj := { cls := .type (itCls b), data := .fields #[.ref l, .int 0 0] }
theorem IsSq.push {h : Heap} {b : Bool} {l : Addr} {xs : Array Value} (x : IsSq h b l xs) (o : Obj) : IsSq (h.push o) b l xs := by
  cases b with
  | true => exact (show h.IsTuple l xs from x).at fun u q => Heap.get?_push_of_some _ q
  | false => exact (show h.IsList l xs from x).push o
theorem iter_sq {b : Bool} {l : Addr} {xs : Array Value} {Q : Value → Shared → Prop} (x : IsSq s.heap b l xs) (h : Q (.ref s.heap.objs.size) { s with heap := s.heap.push (zqI b l) }) : wpAny (model prog w) A (pyIter (.ref l)) Q E s := by
  cases b with
  | true => exact wpAny_pyIter_tuple (show s.heap.IsTuple l xs from x) h
  | false => exact wpAny_pyIter_list (show s.heap.IsList l xs from x) h
end
noncomputable abbrev zq1 (h : Heap) (b : Bool) (l : Addr) : Heap := h.push (zqI b l)
noncomputable abbrev zq2 (h : Heap) (b c : Bool) (l m : Addr) : Heap := (zq1 h b l).push (zqI c m)
noncomputable abbrev zq3 (h : Heap) (b c : Bool) (l m : Addr) : Heap := (zq2 h b c l m).push { cls := .type "tuple", data := .seq #[.ref h.objs.size, .ref (zq1 h b l).objs.size] }
noncomputable abbrev zq4 (h : Heap) (b c : Bool) (l m : Addr) : Heap := (zq3 h b c l m).push { cls := .type "tuple", data := .seq #[.none, .none] }
noncomputable abbrev zq5 (h : Heap) (b c : Bool) (l m : Addr) : Heap := (zq4 h b c l m).push { cls := .type "zip", data := .fields #[.none, .bool false, .bool false, .ref (zq2 h b c l m).objs.size, .ref (zq3 h b c l m).objs.size] }
theorem meets_zq (b c : Bool) (l m : Addr) (xs ys : Array Value) : Meets (Builtin.«zip.__new__» ⟨[.type "zip", .ref l, .ref m], []⟩) (fun _ R s => IsSq s.heap b l xs ∧ IsSq s.heap c m ys ∧ R (.ok (.ret (.ref (zq4 s.heap b c l m).objs.size))) { s with heap := zq5 s.heap b c l m }) :=
  .of_wp fun prog w A R s h => by
    obtain ⟨hp, g, d, tk, os⟩ := s; obtain ⟨q1, q2, h⟩ := h
    have hsub := sub_zip
    have r1 : IsSq (Shared.heap ⟨hp, g, d, tk, os⟩) b l xs := q1
    have r2 : IsSq (Shared.heap ⟨hp.push (zqI b l), g, d, tk, os⟩) c m ys := IsSq.push q2 _
    wp_walk using iter_sq r1, iter_sq r2
    exact ⟨_, rfl, h⟩
section
variable {prog : Program} {w : World} {A : Around} {E : Value → Shared → Prop} {s : Shared}
theorem call_zq {b c : Bool} {l m : Addr} {xs ys : Array Value} {Q : Value → Shared → Prop} (q1 : IsSq s.heap b l xs) (q2 : IsSq s.heap c m ys)
    (h : ∀ h', IsZip h' (s.heap.objs.size + 4) (s.heap.objs.size + 2) (s.heap.objs.size + 3) .none → IsPair h' (s.heap.objs.size + 2) (.ref s.heap.objs.size) (.ref (s.heap.objs.size + 1)) →
      IsPair h' (s.heap.objs.size + 3) .none .none → Itq h' s.heap.objs.size l 0 xs → Itq h' (s.heap.objs.size + 1) m 0 ys → (∀ c o, s.heap.get? c = some o → h'.get? c = some o) → Q (.ref (s.heap.objs.size + 4)) { s with heap := h' }) :
    wpAny (model prog w) A (call (.type "zip") [.ref l, .ref m]) Q E s := by
  refine callType_new F.called_zip (by decide) (F.typeCall_zip_2 _ _) (F.newCall_zip_2 _ _) (fun obj => F.args_object_init_3 obj _ _) F.entry_zip_new (meets_zq b c l m xs ys) ⟨q1, q2, ?_⟩
  have z1 : (zq1 s.heap b l).objs.size = s.heap.objs.size + 1 := Heap.size_push ..
  have z2 : (zq2 s.heap b c l m).objs.size = s.heap.objs.size + 2 := by rw [Heap.size_push, z1]
  have z3 : (zq3 s.heap b c l m).objs.size = s.heap.objs.size + 3 := by rw [Heap.size_push, z2]
  have z4 : (zq4 s.heap b c l m).objs.size = s.heap.objs.size + 4 := by rw [Heap.size_push, z3]
  have g5 : (zq5 s.heap b c l m).get? (zq4 s.heap b c l m).objs.size = some _ := Heap.get?_push_size _ rfl
  have g4 : (zq5 s.heap b c l m).get? (zq3 s.heap b c l m).objs.size = some _ := Heap.get?_push_of_some _ (Heap.get?_push_size _ rfl)
  have g3 : (zq5 s.heap b c l m).get? (zq2 s.heap b c l m).objs.size = some _ := Heap.get?_push_of_some _ (Heap.get?_push_of_some _ (Heap.get?_push_size _ rfl))
  have g2 : (zq5 s.heap b c l m).get? (zq1 s.heap b l).objs.size = some (zqI c m) := Heap.get?_push_of_some _ (Heap.get?_push_of_some _ (Heap.get?_push_of_some _ (Heap.get?_push_size _ rfl)))
  have g1 : (zq5 s.heap b c l m).get? s.heap.objs.size = some (zqI b l) := Heap.get?_push_of_some _ (Heap.get?_push_of_some _ (Heap.get?_push_of_some _ (Heap.get?_push_of_some _ (Heap.get?_push_size _ rfl))))
  have kp : ∀ c' o, s.heap.get? c' = some o → (zq5 s.heap b c l m).get? c' = some o := fun c' o q => Heap.get?_push_of_some _ (Heap.get?_push_of_some _ (Heap.get?_push_of_some _ (Heap.get?_push_of_some _ (Heap.get?_push_of_some _ q))))
  show _ ∧ _
  rw [z2, z3, z4] at g5
  rw [z1, z2] at g3
  rw [z3] at g4
  rw [z1] at g2
  rw [z4]
  have j1 : Itq (zq5 s.heap b c l m) s.heap.objs.size l 0 xs := by
    cases b with
    | true => exact .inr ⟨⟨_, g1, rfl, rfl⟩, (show s.heap.IsTuple l xs from q1).at fun o q => kp _ o q⟩
    | false => exact .inl ⟨⟨_, g1, rfl, rfl⟩, (show s.heap.IsList l xs from q1).at fun o q => kp _ o q⟩
  have j2 : Itq (zq5 s.heap b c l m) (s.heap.objs.size + 1) m 0 ys := by
    cases c with
    | true => exact .inr ⟨⟨_, g2, rfl, rfl⟩, (show s.heap.IsTuple m ys from q2).at fun o q => kp _ o q⟩
    | false => exact .inl ⟨⟨_, g2, rfl, rfl⟩, (show s.heap.IsList m ys from q2).at fun o q => kp _ o q⟩
  exact ⟨⟨_, g5, rfl⟩, h _ g5 g3 g4 j1 j2 kp⟩
end
section
variable {X : Cx} {pins : List (Addr × Obj)} {σ : St} {H : Hp} {s : Shared}
theorem Inv.turnedL {h' : Heap} {t' : Nat} {ch : List Addr} (I : Inv X pins σ H s) (hk : ∀ b o, b ∉ ch → s.heap.get? b = some o → h'.get? b = some o) (fc : ∀ e ∈ ch, FpOk X pins H e) : Inv X pins σ H { s with heap := h', toks := t' } := by
  refine I.step (g' := s.gens) (d' := s.drawn) (ch := ch) (fun b hb => ?_) (fun b o _ _ hb q _ => hk b o hb q) (fun b o _ _ hb q _ => ⟨o.slots, hk b o hb q⟩) (fun b o _ _ n => n) (fun b o hb q => ⟨o, hk b o hb q⟩)
    (fun _ _ q => q) (fun _ _ _ q => q) (fun b ps q => ⟨#[], by rw [q]; simp⟩) (fun m hm => ?_) (fun b u q => ?_) I.bare
  · have f := fc b hb
    exact ⟨f.2.2.2.1, f.2.1, f.2.2.2.2.1, f.2.2.2.2.2⟩
  · obtain ⟨o, es, ep, ho, r⟩ := hm
    exact ⟨o, es, ep, hk _ o (fun z => (fc _ z).2.1 rfl) ho, r⟩
  · refine (I.hok b u q).stay (fun c v hc r => hk c v (fun z => ?_) r) (fun c r => r) fun c xs r => r
    have f := fc c z
    rcases hc with rfl | hc
    · rw [f.1] at q; cases q
    · rw [f.1] at hc; cases hc
noncomputable def SqK (H : Hp) (c : Bool) (a : Addr) (xs : List V) : Prop := H a = some (if c = true then HO.tup xs else HO.lst xs)
theorem SqK.inj {c : Bool} {a : Addr} {xs ys : List V} (h : SqK H c a xs) (h' : SqK H c a ys) : xs = ys := by
  unfold SqK at h h'
  rw [h] at h'
  cases c <;> (injection h' with h'; injection h')
theorem SqK.ne {c : Bool} {a b : Addr} {xs : List V} (h : SqK H c a xs) (hb : H b = none) : a ≠ b := fun z => by
  subst z
  unfold SqK at h
  rw [hb] at h; cases h
theorem SqK.same {H' : Hp} {c : Bool} {a : Addr} {xs : List V} (h : SqK H c a xs) (y : Same H H') : SqK H' c a xs := y _ _ h
theorem SqK.tup {a : Addr} {xs : List V} (h : H a = some (.tup xs)) : SqK H true a xs := h
theorem Inv.sqK {c : Bool} {a : Addr} {xs : List V} (I : Inv X pins σ H s) (h : SqK H c a xs) : ∃ its : List Value, Vals xs its ∧ IsSq s.heap c a its.toArray := by
  cases c with
  | true =>
    obtain ⟨its, r, p, _⟩ := I.tuple (SqT.of h)
    exact ⟨its, r, (show s.heap.IsTuple a its.toArray from p)⟩
  | false =>
    obtain ⟨its, r, p, _⟩ := I.list (SqL.of h)
    exact ⟨its, r, p.isList⟩
noncomputable def Itz (c d : Bool) (a b : Addr) : It := ⟨fun i H => ∃ xs ys x y, SqK H c a xs ∧ SqK H d b ys ∧ xs[i]? = some x ∧ ys[i]? = some y,
  fun i H v H' => ∃ p, H p = none ∧ v = .ref p ∧ ∀ xs ys, SqK H c a xs → SqK H d b ys → ∃ x y, xs[i]? = some x ∧ ys[i]? = some y ∧ H' = upd H p (.tup [x, y]),
  fun i H => ∃ xs ys, SqK H c a xs ∧ SqK H d b ys ∧ (xs[i]? = none ∨ ys[i]? = none)⟩
noncomputable def Itk (h : Heap) (c : Bool) (i l : Addr) (k : Nat) : Prop := if c = true then h.IsTupleIter i l k else h.IsListIter i l k
theorem Itk.at {h h' : Heap} {c : Bool} {i l : Addr} {k : Nat} (x : Itk h c i l k) (hi : ∀ o, h.get? i = some o → h'.get? i = some o) : Itk h' c i l k := by
  cases c with
  | true => exact (show h.IsTupleIter i l k from x).at hi
  | false => exact (show h.IsListIter i l k from x).at hi
theorem Itk.obj {h : Heap} {c : Bool} {i l : Addr} {k : Nat} (x : Itk h c i l k) : ∃ o, h.get? i = some o ∧ ∀ v, o.data ≠ .cell v := by
  cases c with
  | true => obtain ⟨o, e, _, d⟩ := (show h.IsTupleIter i l k from x); exact ⟨o, e, fun v z => by rw [d] at z; cases z⟩
  | false => obtain ⟨o, e, _, d⟩ := (show h.IsListIter i l k from x); exact ⟨o, e, fun v z => by rw [d] at z; cases z⟩
theorem Itk.q {h : Heap} {c : Bool} {i l : Addr} {k : Nat} {xs : Array Value} (x : Itk h c i l k) (q : IsSq h c l xs) : Itq h i l k xs := by
  cases c with
  | true => exact .inr ⟨x, q⟩
  | false => exact .inl ⟨x, q⟩
theorem two_cls {h : Heap} {l : Addr} {xs ys : Array Value} (p : h.IsTuple l xs) (q : h.IsList l ys) : False := by
  obtain ⟨o, e, c1, _⟩ := p
  obtain ⟨o', e', c2, _⟩ := q
  rw [e] at e'; cases e'
  rw [c1] at c2
  injection c2 with c2
  exact absurd c2 (by decide)
theorem Itq.k {h : Heap} {c : Bool} {i l : Addr} {k : Nat} {xs : Array Value} (x : Itq h i l k xs) (q : IsSq h c l xs) : Itk h c i l k := by
  rcases x with ⟨x1, x2⟩ | ⟨x1, x2⟩
  · cases c with
    | false => exact x1
    | true => exact (two_cls (show h.IsTuple l xs from q) x2).elim
  · cases c with
    | true => exact x1
    | false => exact (two_cls x2 (show h.IsList l xs from q)).elim
theorem IsSq.at {h h' : Heap} {c : Bool} {l : Addr} {xs : Array Value} (x : IsSq h c l xs) (hl : ∀ o, h.get? l = some o → h'.get? l = some o) : IsSq h' c l xs := by
  cases c with
  | true => exact (show h.IsTuple l xs from x).at hl
  | false => exact (show h.IsList l xs from x).at hl
noncomputable def ZTn (c d : Bool) (z TI TO i1 i2 a b : Addr) (i : Nat) (h : Heap) : Prop := IsZip h z TI TO .none ∧ IsPair h TI (.ref i1) (.ref i2) ∧ (∃ u v, IsPair h TO u v) ∧ Itk h c i1 a i ∧ Itk h d i2 b i
structure ZAp (z TI TO i1 i2 : Addr) : Prop where
  h1 : TI ≠ z
  h2 : TO ≠ z
  h3 : i1 ≠ z
  h4 : i2 ≠ z
  h5 : TI ≠ TO
  h6 : TI ≠ i1
  h7 : TI ≠ i2
  h8 : TO ≠ i1
  h9 : TO ≠ i2
  h10 : i1 ≠ i2
theorem ZAp.apart {z TI TO i1 i2 a b : Addr} (p : ZAp z TI TO i1 i2) (ha : ∀ e ∈ [z, TI, TO, i1, i2], a ≠ e) (hb : ∀ e ∈ [z, TI, TO, i1, i2], b ≠ e) : ZipApart z TI TO i1 i2 a b :=
  ⟨p.h1, p.h2, p.h3, p.h4, p.h5, p.h6, p.h7, p.h8, p.h9, p.h10, ha _ (by simp), ha _ (by simp), ha _ (by simp), ha _ (by simp), hb _ (by simp), hb _ (by simp), hb _ (by simp), hb _ (by simp)⟩
theorem turn_zip {P : Program} {w : World} {K : PySem.W.Frag} {elts : List Expr} {k : Nat} {pos : Pos} {c d : Bool} {z TI TO i1 i2 a b : Addr} (ap : ZAp z TI TO i1 i2) :
    Turn P w K (.Tuple elts k pos) (Itz c d a b) [z, TI, TO, i1, i2] z (ZTn c d z TI TO i1 i2 a b) where
  mem := List.mem_cons_self ..
  obj := fun i h st e he => by
    obtain ⟨hz, hTI, ⟨u, v, hTO⟩, k1, k2⟩ := st
    simp only [List.mem_cons, List.not_mem_nil, or_false] at he
    rcases he with rfl | rfl | rfl | rfl | rfl
    · exact ⟨_, hz, fun v q => by cases q⟩
    · exact ⟨_, hTI, fun v q => by cases q⟩
    · exact ⟨_, hTO, fun v q => by cases q⟩
    · exact k1.obj
    · exact k2.obj
  keep := fun i h h' st kp => by
    obtain ⟨hz, hTI, ⟨u, v, hTO⟩, k1, k2⟩ := st
    exact ⟨kp z (by simp) _ hz, kp TI (by simp) _ hTI, ⟨u, v, kp TO (by simp) _ hTO⟩, k1.at fun o q => kp i1 (by simp) o q, k2.at fun o q => kp i2 (by simp) o q⟩
  item := by
    intro X hP hw hK hc i pins s σ H E I hf st hg
    subst hP hw hK
    obtain ⟨xs, ys, x, y, ha, hb, hx, hy⟩ := hg
    obtain ⟨hz, hTI, ⟨u, v, hTO⟩, k1, k2⟩ := st
    obtain ⟨its, rv, q1⟩ := I.sqK ha
    obtain ⟨jts, rw', q2⟩ := I.sqK hb
    obtain ⟨u1, hu1, ru1⟩ := rv.get hx
    obtain ⟨u2, hu2, ru2⟩ := rw'.get hy
    have na : ∀ e ∈ [z, TI, TO, i1, i2], a ≠ e := fun e he => ha.ne (hf e he).1
    have nb : ∀ e ∈ [z, TI, TO, i1, i2], b ≠ e := fun e he => hb.ne (hf e he).1
    have D := ap.apart na nb
    have hT : s.TypeIs (.ref z) "zip" := ⟨_, hz, rfl⟩
    have step : wpAny (model X.prog X.w) X.A (pyNext (.ref z)) (fun r s1 => ∃ h', r = some (.ref s.heap.objs.size) ∧ s1 = { s with heap := h' } ∧ IsZip h' z TI TO (rawInt s.heap.objs.size) ∧ IsPair h' TO u1 u2 ∧ Itq h' i1 a (i + 1) its.toArray ∧ Itq h' i2 b (i + 1) jts.toArray ∧ IsPair h' s.heap.objs.size u1 u2 ∧ ∀ c o, c ≠ z → c ≠ TO → c ≠ i1 → c ≠ i2 → s.heap.get? c = some o → h'.get? c = some o) E s := by
      unfold pyNext
      exact wpAny_bind (wpAny_attempt (wpAny_callSpecial?_slot (name := Str.ofString "__next__") hT F.slot_zip_next (wpAny_call_entry F.slot_zip_next hT F.entry_zip_next (zq_item D (na _ (by simp)) (nb _ (by simp)) hz hTI hTO (k1.q q1) (k2.q q2) (by simpa using hu1) (by simpa using hu2) fun h' a1 a2 a3 a4 a5 a6 a7 => wpAny_pure ⟨h', rfl, rfl, a1, a2, a3, a4, a5, a7⟩) (F.args_zip_next_1 _))))
    refine thn step fun r s1 ⟨h', e1, e2, a1, a2, a3, a4, a5, a7⟩ => ?_
    subst e1 e2
    refine ⟨_, rfl, wpAny_letOwnedTupleGo_zip a1 fun h2 b1 b2 => ?_⟩
    have hn : H s.heap.objs.size = none := I.hok.fresh (Nat.le_refl _)
    have zlt : z < s.heap.objs.size := Heap.lt_size hz
    have up : ∀ c o, c ∉ [z, TO, i1, i2] → s.heap.get? c = some o → h2.get? c = some o := fun c o hc' q => by
      simp only [List.mem_cons, List.not_mem_nil, or_false, not_or] at hc'
      exact b2.extBut _ _ hc'.1 (a7 c o hc'.1 hc'.2.1 hc'.2.2.1 hc'.2.2.2 q)
    have I1 : Inv X pins σ H { s with heap := h2, toks := s.toks } := I.turnedL (ch := [z, TO, i1, i2]) up fun e he => hf e (by
      simp only [List.mem_cons, List.not_mem_nil, or_false] at he ⊢
      rcases he with rfl | rfl | rfl | rfl <;> simp)
    have hTd : TupD h2 s.heap.objs.size [u1, u2].toArray := ⟨0, b2.extBut _ _ (Nat.ne_of_gt zlt) a5⟩
    have I2 := I1.trackT (ys := [x, y]) (.cons ru1 (.cons ru2 .nil)) (by show 2 ≤ sizeLine; decide) hTd (I.fpOk (Nat.le_refl _) hn)
    have q1' : IsSq h' c a its.toArray := q1.at fun o q => a7 _ o (na _ (by simp)) (na _ (by simp)) (na _ (by simp)) (na _ (by simp)) q
    have q2' : IsSq h' d b jts.toArray := q2.at fun o q => a7 _ o (nb _ (by simp)) (nb _ (by simp)) (nb _ (by simp)) (nb _ (by simp)) q
    refine ⟨.ref s.heap.objs.size, _, I2, rfl, ⟨_, hn, rfl, fun xs' ys' ha' hb' => ?_⟩, ⟨b1, b2.extBut _ _ ap.h1 (a7 _ _ ap.h1 ap.h5 ap.h6 ap.h7 hTI), ⟨_, _, b2.extBut _ _ ap.h2 a2⟩, (a3.k q1').at fun o q => b2.extBut _ _ ap.h3 q, (a4.k q2').at fun o q => b2.extBut _ _ ap.h4 q⟩, fun e he => ?_⟩
    · cases ha.inj ha'
      cases hb.inj hb'
      exact ⟨x, y, hx, hy, rfl⟩
    · have le : e < s.heap.objs.size := by
        obtain ⟨o, q, _⟩ : ∃ o, s.heap.get? e = some o ∧ True := by
          simp only [List.mem_cons, List.not_mem_nil, or_false] at he
          rcases he with rfl | rfl | rfl | rfl | rfl
          · exact ⟨_, hz, trivial⟩
          · exact ⟨_, hTI, trivial⟩
          · exact ⟨_, hTO, trivial⟩
          · obtain ⟨o, q, _⟩ := k1.obj; exact ⟨o, q, trivial⟩
          · obtain ⟨o, q, _⟩ := k2.obj; exact ⟨o, q, trivial⟩
        exact Heap.lt_size q
      rw [upd_ne (Nat.ne_of_lt le)]
      exact (hf e he).1
  done := by
    intro X hP hw hK hc i pins s σ H E I hf st hg
    subst hP hw hK
    obtain ⟨xs, ys, ha, hb, hend⟩ := hg
    obtain ⟨hz, hTI, ⟨u, v, hTO⟩, k1, k2⟩ := st
    obtain ⟨its, rv, q1⟩ := I.sqK ha
    obtain ⟨jts, rw', q2⟩ := I.sqK hb
    have na : ∀ e ∈ [z, TI, TO, i1, i2], a ≠ e := fun e he => ha.ne (hf e he).1
    have nb : ∀ e ∈ [z, TI, TO, i1, i2], b ≠ e := fun e he => hb.ne (hf e he).1
    have D := ap.apart na nb
    have hT : s.TypeIs (.ref z) "zip" := ⟨_, hz, rfl⟩
    have e1 : its.toArray[i]? = none ∨ jts.toArray[i]? = none := by
      have l1 := rv.length
      have l2 := rw'.length
      rcases hend with h | h
      · left
        rw [List.getElem?_eq_none_iff] at h
        simp; omega
      · right
        rw [List.getElem?_eq_none_iff] at h
        simp; omega
    unfold pyNext
    refine wpAny_bind (wpAny_attempt (wpAny_callSpecial?_slot (name := Str.ofString "__next__") hT F.slot_zip_next (wpAny_call_entry F.slot_zip_next hT F.entry_zip_next (zq_end (I.ok.hd hc) D hz hTI hTO (k1.q q1) (k2.q q2) e1 fun h' e hk he => ?_) (F.args_zip_next_1 _))))
    obtain ⟨o, ho, hcl⟩ := he
    refine wpAny_bind (wpAny_isInstance (T := "StopIteration") (b := true) ⟨o, ho, hcl⟩ isSubtype_stop (wpAny_pure ⟨rfl, ?_⟩))
    refine I.turnedL (t' := s.toks) (ch := [z, TO, i1, i2]) (fun c o hc' q => ?_) fun e he => hf e (by
      simp only [List.mem_cons, List.not_mem_nil, or_false] at he ⊢
      rcases he with rfl | rfl | rfl | rfl <;> simp)
    simp only [List.mem_cons, List.not_mem_nil, or_false, not_or] at hc'
    exact hk c o hc'.1 hc'.2.1 hc'.2.2.1 hc'.2.2.2 q
  self := fun A i s Q E st h => wpAny_pyIter_zip st.1 h
theorem boot_zip' : bootBuiltins "zip" = some (.type "zip") := by decide +kernel
noncomputable def iZip (ta : TA) : TI := fun σ H R => ta σ H fun vs H1 => match vs with
  | [.ref a, .ref b] => ∃ c d xs ys, SqK H1 c a xs ∧ SqK H1 d b ys ∧ R (Itz c d a b) H1
  | _ => False
theorem pi_zip {l m : Expr} {ta : TA} {elts : List Expr} {k : Nat} {tp p pos : Pos} (hg : Gl X "zip") (hm : X.mg "zip" = none) (ha : PA X [l, m] ta) (hs : starEach [l, m] X.env = [(false, eval l X.env), (false, eval m X.env)] := by rfl) (hs2 : starEach [m] X.env = [(false, eval m X.env)] := by rfl) :
    PI X (.Tuple elts k tp) (.Call (.Name "zip" p) [l, m] [] pos) (iZip ta) := by
  intro pins s σ H R I h
  refine Call_ (ld_blt I hg hm boot_zip' (PyProof.Rows.callWith_type1 (thn (ha pos pins s σ H _ I h) fun us s1 ⟨vs, H1, I1, r1, q1⟩ => ?_) (by rw [hs, hs2]) (by rw [hs2]; rfl)))
  dsimp only at q1
  split at q1
  · rename_i a b
    obtain ⟨c, d, xs, ys, ka, kb, q⟩ := q1
    obtain ⟨u, u', rfl, rx, ry⟩ := vals2 r1
    cases rx
    cases ry
    obtain ⟨its, rv, p1⟩ := I1.sqK ka
    obtain ⟨jts, rv', p2⟩ := I1.sqK kb
    refine call_zq p1 p2 fun h' hz hTI hTO j1 j2 hk => ?_
    have I2 : Inv X pins σ H1 { s1 with heap := h' } := I1.kept (t' := s1.toks) hk
    have ap : ZAp (s1.heap.objs.size + 4) (s1.heap.objs.size + 2) (s1.heap.objs.size + 3) s1.heap.objs.size (s1.heap.objs.size + 1) := by
      have e : ∀ n m : Nat, n ≠ m → s1.heap.objs.size + n ≠ s1.heap.objs.size + m := fun n m h z => h (Nat.add_left_cancel z)
      exact ⟨e 2 4 (by decide), e 3 4 (by decide), e 0 4 (by decide), e 1 4 (by decide), e 2 3 (by decide), e 2 0 (by decide), e 2 1 (by decide), e 3 0 (by decide), e 3 1 (by decide), e 0 1 (by decide)⟩
    refine wpAny_pyIter_zip (s := { s1 with heap := h' }) hz ⟨s1.heap.objs.size + 4, _, _, _, H1, rfl, I2, turn_zip ap, ⟨hz, hTI, ⟨_, _, hTO⟩, j1.k (p1.at fun o q => hk _ o q), j2.k (p2.at fun o q => hk _ o q)⟩, fun e he => ?_, q⟩
    have hb' : s1.heap.objs.size ≤ e := by
      simp only [List.mem_cons, List.not_mem_nil, or_false] at he
      rcases he with rfl | rfl | rfl | rfl | rfl
      · exact Nat.le_add_right _ 4
      · exact Nat.le_add_right _ 2
      · exact Nat.le_add_right _ 3
      · exact Nat.le_refl _
      · exact Nat.le_add_right _ 1
    exact I1.fpOk hb' (I1.hok.fresh hb')
  · exact q1.elim
theorem zi_zip {l m : Expr} {ta : TA} {elts : List Expr} {k : Nat} {tp p pos : Pos} (hg : Gl X "zip") (hm : X.mg "zip" = none) (ha : ZA X [l, m] ta) (hs : starEach [l, m] X.env = [(false, eval l X.env), (false, eval m X.env)] := by rfl) (hs2 : starEach [m] X.env = [(false, eval m X.env)] := by rfl) :
    ZI X (.Tuple elts k tp) (.Call (.Name "zip" p) [l, m] [] pos) (iZip ta) := by with_unfolding_all exact pi_zip hg hm ha hs hs2
theorem cmp_zip {nv : List Str} {ix : List (Str × Nat)} {σ : St} {g : TG} {ti : TT} {te : TE} {Fin : List V → Hp → Prop} {c d : Bool} {a b : Addr} {xs ys : List V} (Pv : Nat → List V → Hp → Prop) (h0 : Pv 0 [] H) (hl : ∀ i zs H, i ≤ min xs.length ys.length → Pv i zs H → SqK H c a xs ∧ SqK H d b ys)
    (hn : ∀ i zs H, i < min xs.length ys.length → Pv i zs H → zs.length < sizeLine)
    (hs : ∀ i x y zs H p, xs[i]? = some x → ys[i]? = some y → Pv i zs H → H p = none → g (.ref p) (st0 nv ix σ) (upd H p (.tup [x, y])) fun σ2 H2 => ti σ2 H2 fun b H3 => if b = true then te σ2 H3 fun y H4 => Pv (i + 1) (zs ++ [y]) H4 else Pv (i + 1) zs H3)
    (hd : ∀ zs H, Pv (min xs.length ys.length) zs H → Fin zs H) : CmpW nv ix g ti te σ (Itz c d a b) Fin H := by
  refine ⟨fun i m zs H => m = min xs.length ys.length - i ∧ i ≤ min xs.length ys.length ∧ Pv i zs H, ⟨_, rfl, Nat.zero_le _, h0⟩, ?_⟩
  rintro i m zs H ⟨rfl, hi, p⟩
  obtain ⟨q1, q2⟩ := hl i zs H hi p
  by_cases hlt : i < min xs.length ys.length
  · have l1 : i < xs.length := by omega
    have l2 : i < ys.length := by omega
    refine .inr ⟨⟨xs, ys, xs[i], ys[i], q1, q2, by simp [l1], by simp [l2]⟩, hn i zs H hlt p, Pv (i + 1), fun σ' H' p' => ⟨_, by omega, rfl, hlt, p'⟩, fun x H' y => ?_⟩
    obtain ⟨pp, hn', rfl, hy⟩ := y
    obtain ⟨x1, y1, e1, e2, rfl⟩ := hy xs ys q1 q2
    exact hs i x1 y1 zs H pp e1 e2 p hn'
  · have e : i = min xs.length ys.length := by omega
    refine .inl ⟨⟨xs, ys, q1, q2, ?_⟩, hd zs H (e ▸ p)⟩
    by_cases l1 : i < xs.length
    · right; rw [List.getElem?_eq_none_iff]; omega
    · left; rw [List.getElem?_eq_none_iff]; omega
theorem kpg_two {K : PySem.W.Frag} {x y : Str} : KpG [x, y] (gTup K 2 (gCons (gName 0) (gCons (gName 1) gNil))) := fun fr v H Q h => by
  obtain ⟨a, xs, e, hq, hl, v1, r1, e1, v2, r2, e2, e3, q⟩ := h
  refine ⟨a, xs, e, hq, hl, v1, r1, e1, v2, r2, e2, e3, ⟨by simp, fun i w e => ?_⟩, q⟩
  match i, e with
  | 0, e => cases e
  | 1, e => cases e
  | i + 2, e => exact e
theorem drawsK {prog : Program} {w : World} {A : Around} (hh : A.handled = none) (c : Bool) (it l : Addr) (hne : l ≠ it) (items : Array Value) :
    Draws prog w A it [it, l] items.size (fun i v => items[i]? = some v) (fun i h => Itk h c it l i ∧ IsSq h c l items) where
  live := fun _ _ st => let ⟨o, ho, _⟩ := st.1.obj; ⟨o, ho⟩
  frame := fun _ _ _ st k => ⟨st.1.at fun o e => k it (List.mem_cons_self ..) o e, st.2.at fun o e => k l (by simp) o e⟩
  item := fun i s Q E hi st hQ => Itq.item (v := items[i]) (st.1.q st.2) hne (by simp [hi]) fun h' a b => hQ items[i] h' s.toks (by simp [hi]) ⟨a.k (st.2.at fun o e => b.extBut _ _ hne e), st.2.at fun o e => b.extBut _ _ hne e⟩ b
  done := fun s Q E st hE => Itq.fin hh (st.1.q st.2) (by simp) hE
theorem meets_enumK (c : Bool) (l : Addr) (items : Array Value) :
    Meets (Builtin.«enumerate.__new__» ⟨[.type "enumerate", .ref l], []⟩) (fun _ R s => IsSq s.heap c l items ∧
      R (.ok (.ret (.ref (s.heap.push (zqI c l)).objs.size))) { s with heap := (s.heap.push (zqI c l)).push { cls := .type "enumerate", data := .fields #[.none, .bool false, .ref s.heap.objs.size, rawInt 0, .none, .none] } }) :=
  .of_wp fun prog w A R s h => by
    obtain ⟨hp, g, d, tk, os⟩ := s
    obtain ⟨hl, h⟩ := h
    have hsub := sub_enumerate
    have hS : IsSq (Shared.heap ⟨hp, g, d, tk, os⟩) c l items := hl
    obtain ⟨o, ho, _⟩ : ∃ o, hp.get? l = some o ∧ True := by
      cases c with
      | true => obtain ⟨o, e, _⟩ := (show hp.IsTuple l items from hl); exact ⟨o, e, trivial⟩
      | false => obtain ⟨o, e, _⟩ := (show hp.IsList l items from hl); exact ⟨o, e, trivial⟩
    wp_walk using AutoSeq1.wpAny_loadPart' ho
    refine wpAny_stack_any fun st => wpAny_pure ?_
    split
    · rename_i c' _ _ _ _ _
      cases (c' == Value.type "enumerate") <;> (wp_walk using AutoSeq1.wpAny_loadPart' ho, iter_sq hS) <;> exact ⟨_, rfl, h⟩
    · wp_walk using AutoSeq1.wpAny_loadPart' ho, iter_sq hS
      exact ⟨_, rfl, h⟩
noncomputable def ItE (c : Bool) (a : Addr) : It := ⟨fun i H => ∃ xs x, SqK H c a xs ∧ xs[i]? = some x, fun i H v H' => ∃ p, H p = none ∧ v = .ref p ∧ ∀ xs, SqK H c a xs → ∃ y, xs[i]? = some y ∧ H' = upd H p (.tup [.int i, y]), fun i H => ∃ xs, SqK H c a xs ∧ xs.length = i⟩
theorem turn_enumK {P : Program} {w : World} {K : PySem.W.Frag} {elts : List Expr} {k : Nat} {pos : Pos} {c : Bool} {e it a : Addr} (hei : e ≠ it) :
    Turn P w K (.Tuple elts k pos) (ItE c a) [e, it] e (fun i h => (∃ old, IsEnum h e it i old) ∧ Itk h c it a i) where
  mem := List.mem_cons_self ..
  obj := fun i h st b hb => by
    obtain ⟨⟨old, he⟩, kt⟩ := st
    rcases List.mem_cons.mp hb with rfl | hb
    · exact ⟨_, he, fun v z => by cases z⟩
    · have : b = it := by simpa using hb
      subst this
      exact kt.obj
  keep := fun i h h' st k => ⟨let ⟨old, he⟩ := st.1; ⟨old, k e (by simp) _ he⟩, st.2.at fun o q => k it (by simp) o q⟩
  item := by
    intro X hP hw hK hc i pins s σ H E I hf st hg
    subst hP hw hK
    obtain ⟨xs, x, hq, hx⟩ := hg
    obtain ⟨⟨old, he⟩, hit⟩ := st
    obtain ⟨its, rv, p⟩ := I.sqK hq
    obtain ⟨u, hu, ru⟩ := rv.get hx
    have fe := hf e (by simp)
    have fi := hf it (by simp)
    have hae : a ≠ e := hq.ne fe.1
    have hai : a ≠ it := hq.ne fi.1
    have hlt : i < its.toArray.size := by rw [List.size_toArray]; exact (List.getElem?_eq_some_iff.mp hu).1
    refine wpAny_pyNext_enum_itemD (drawsK (A := X.A.in1) (I.ok.hd hc) c it a hai its.toArray) he ⟨hit, p⟩ hlt hei (by simp [hei, Ne.symm hae]) fun x' h' tk hPx ho hst' hTup hsz hk => ?_
    have ex : x' = u := by
      have : its[i]? = some x' := by simpa using hPx
      rw [hu] at this
      exact (Option.some.inj this).symm
    subst ex
    refine ⟨_, rfl, wpAny_letOwnedTupleGo_enum ho fun h2 he2 hs2 => ?_⟩
    have hel : e < s.heap.objs.size := Heap.lt_size he
    have I1 : Inv X pins σ H { s with heap := h2, toks := tk + 1 } := I.turned2 (fun b o n1 n2 q => (hs2.2 b n1).trans (hk b o n1 n2 q)) fe fi
    have hTd : TupD h2 s.heap.objs.size [.int i tk, x'].toArray := ⟨0, (hs2.2 _ (Nat.ne_of_gt hel)).trans hTup⟩
    have hn : H s.heap.objs.size = none := I.hok.fresh (Nat.le_refl _)
    have I2 := I1.trackT (ys := [.int i, x]) (.cons ⟨tk, rfl⟩ (.cons ru .nil)) (by show 2 ≤ sizeLine; decide) hTd (I.fpOk (Nat.le_refl _) hn)
    have hil : it < s.heap.objs.size := by obtain ⟨o, q, _⟩ := hit.obj; exact Heap.lt_size q
    refine ⟨.ref s.heap.objs.size, _, I2, rfl, ⟨_, hn, rfl, fun ys hy => ?_⟩, ⟨⟨x', by simpa using he2⟩, hst'.1.at fun o q => (hs2.2 it (Ne.symm hei)).trans q⟩, fun b hb => ?_⟩
    · cases hq.inj hy
      exact ⟨x, hx, rfl⟩
    · rcases List.mem_cons.mp hb with rfl | hb
      · rw [upd_ne (Nat.ne_of_lt hel)]; exact fe.1
      · have : b = it := by simpa using hb
        subst this
        rw [upd_ne (Nat.ne_of_lt hil)]; exact fi.1
  done := by
    intro X hP hw hK hc i pins s σ H E I hf st hg
    subst hP hw hK
    obtain ⟨xs, hq, hx⟩ := hg
    obtain ⟨⟨old, he⟩, hit⟩ := st
    obtain ⟨its, rv, p⟩ := I.sqK hq
    have fi := hf it (by simp)
    have hai : a ≠ it := hq.ne fi.1
    have hn : its.toArray.size = i := by rw [List.size_toArray, ← rv.length]; exact hx
    refine wpAny_pyNext_enum_endD (drawsK (A := X.A.in1) (I.ok.hd hc) c it a hai its.toArray) he ⟨by rw [hn]; exact hit, p⟩ fun h' hb => ⟨rfl, I.turned (t' := s.toks) (it := it) (fun b o n q => hb b o n q) fi.1 fi.2.1 fi.2.2.2.1 fi.2.2.2.2.1 fi.2.2.2.2.2⟩
  self := fun A i s Q E st h => let ⟨⟨_, he⟩, _⟩ := st; wpAny_pyIter_enum he h
theorem call_enumK {prog : Program} {w : World} {A : Around} {E : Value → Shared → Prop} {s : Shared} {c : Bool} {l : Addr} {items : Array Value} {Q : Value → Shared → Prop} (hL : IsSq s.heap c l items)
    (h : ∀ h', IsEnum h' (s.heap.objs.size + 1) s.heap.objs.size 0 .none → Itk h' c s.heap.objs.size l 0 → (∀ b o, s.heap.get? b = some o → h'.get? b = some o) → Q (.ref (s.heap.objs.size + 1)) { s with heap := h' }) :
    wpAny (model prog w) A (call (.type "enumerate") [.ref l]) Q E s := by
  have hz : (s.heap.push (zqI c l)).objs.size = s.heap.objs.size + 1 := Heap.size_push ..
  refine callType_new F.called_enumerate (by decide) (F.typeCall_enumerate_1 _) (F.newCall_enumerate_1 _) (fun obj => F.args_object_init_2 obj _) F.entry_enumerate_new (meets_enumK c l items) ⟨hL, ?_⟩
  have g := Heap.get?_push_size (s.heap.push (zqI c l)) (o := { cls := .type "enumerate", data := .fields #[.none, .bool false, .ref s.heap.objs.size, rawInt 0, .none, .none] }) rfl
  rw [hz] at g
  show _ ∧ _
  rw [hz]
  refine ⟨⟨_, g, rfl⟩, h _ g ?_ fun b o q => Heap.get?_push_of_some _ (Heap.get?_push_of_some _ q)⟩
  have e := Heap.get?_push_of_some { cls := .type "enumerate", data := .fields #[.none, .bool false, .ref s.heap.objs.size, rawInt 0, .none, .none] } (Heap.get?_push_size s.heap (o := zqI c l) rfl)
  cases c with
  | true => exact ⟨_, e, rfl, rfl⟩
  | false => exact ⟨_, e, rfl, rfl⟩
noncomputable def iEnumK (ta : TA) : TI := fun σ H R => ta σ H fun vs H1 => match vs with
  | [.ref a] => ∃ c xs, SqK H1 c a xs ∧ R (ItE c a) H1
  | _ => False
theorem pi_enumK {l : Expr} {ta : TA} {elts : List Expr} {k : Nat} {tp p pos : Pos} (hg : Gl X "enumerate") (hm : X.mg "enumerate" = none) (ha : PA X [l] ta) (hs : starEach [l] X.env = [(false, eval l X.env)] := by rfl) :
    PI X (.Tuple elts k tp) (.Call (.Name "enumerate" p) [l] [] pos) (iEnumK ta) := by
  intro pins s σ H R I h
  refine Call_ (ld_blt I hg hm boot_enumerate' (PyProof.Rows.callWith_type1 (thn (ha pos pins s σ H _ I h) fun us s1 ⟨vs, H1, I1, r1, q1⟩ => ?_) hs rfl))
  dsimp only at q1
  split at q1
  · rename_i a
    obtain ⟨c, xs, hx, q⟩ := q1
    obtain ⟨u, rfl, rx⟩ := vals1 r1
    cases rx
    obtain ⟨its, rv, pt⟩ := I1.sqK hx
    refine call_enumK pt fun h' he hit hk => ?_
    have I2 : Inv X pins σ H1 { s1 with heap := h' } := I1.kept (t' := s1.toks) hk
    refine wpAny_pyIter_enum (s := { s1 with heap := h' }) he ⟨s1.heap.objs.size + 1, [s1.heap.objs.size + 1, s1.heap.objs.size], _, _, H1, rfl, I2, turn_enumK (Nat.succ_ne_self _), ⟨⟨_, he⟩, hit⟩, fun b hb => ?_, q⟩
    have hb' : s1.heap.objs.size ≤ b := by
      rcases List.mem_cons.mp hb with rfl | hb
      · exact Nat.le_succ _
      · have : b = s1.heap.objs.size := by simpa using hb
        exact Nat.le_of_eq this.symm
    exact I1.fpOk hb' (I1.hok.fresh hb')
  · exact q1.elim
theorem zi_enumK {l : Expr} {ta : TA} {elts : List Expr} {k : Nat} {tp p pos : Pos} (hg : Gl X "enumerate") (hm : X.mg "enumerate" = none) (ha : ZA X [l] ta) (hs : starEach [l] X.env = [(false, eval l X.env)] := by rfl) :
    ZI X (.Tuple elts k tp) (.Call (.Name "enumerate" p) [l] [] pos) (iEnumK ta) := by with_unfolding_all exact pi_enumK hg hm ha hs
theorem cmp_enumK {nv : List Str} {ix : List (Str × Nat)} {σ : St} {g : TG} {ti : TT} {te : TE} {Fin : List V → Hp → Prop} {c : Bool} {a : Addr} {xs : List V} (Pv : Nat → List V → Hp → Prop) (h0 : Pv 0 [] H) (hl : ∀ i zs H, i ≤ xs.length → Pv i zs H → SqK H c a xs)
    (hn : ∀ i zs H, i < xs.length → Pv i zs H → zs.length < sizeLine)
    (hs : ∀ i x zs H p, xs[i]? = some x → Pv i zs H → H p = none → g (.ref p) (st0 nv ix σ) (upd H p (.tup [.int i, x])) fun σ2 H2 => ti σ2 H2 fun b H3 => if b = true then te σ2 H3 fun y H4 => Pv (i + 1) (zs ++ [y]) H4 else Pv (i + 1) zs H3)
    (hd : ∀ zs H, Pv xs.length zs H → Fin zs H) : CmpW nv ix g ti te σ (ItE c a) Fin H := by
  refine ⟨fun i m zs H => m = xs.length - i ∧ i ≤ xs.length ∧ Pv i zs H, ⟨_, rfl, Nat.zero_le _, h0⟩, ?_⟩
  rintro i m zs H ⟨rfl, hi, p⟩
  have q := hl i zs H hi p
  by_cases hlt : i < xs.length
  · refine .inr ⟨⟨xs, xs[i], q, by simp [hlt]⟩, hn i zs H hlt p, Pv (i + 1), fun σ' H' p' => ⟨_, by omega, rfl, hlt, p'⟩, fun x H' y => ?_⟩
    obtain ⟨pp, hn', rfl, hy⟩ := y
    obtain ⟨z, hz, rfl⟩ := hy xs q
    exact hs i z zs H pp hz p hn'
  · have e : i = xs.length := by omega
    subst e
    exact .inl ⟨⟨xs, q, rfl⟩, hd zs H p⟩
end
end L2
set_option Elab.async false
set_option linter.all false
set_option maxRecDepth 100000
set_option maxHeartbeats 4000000
namespace SRV
open PySem
open PyProof.Rows hiding K SortedTo K_bubble K_mirror K_congr K_mirror_equal
class KV where
  sh : Shared
  kind : SortKind
  kv : Keyed → Int
  good : Keyed → Prop
  lt : ∀ {prog : Program} {w : World} {A : Around} {E : Value → Shared → Prop} {st : SortSt} {x y : Keyed} {Q : Option Bool → SortSt → Prop}, kindOf st = kind → good x → good y → Q (some (decide (kv x < kv y))) st → wpS (model prog w) A E sh (lt' x y) Q st
variable [KV]
noncomputable def kv (p : Keyed) : Int := KV.kv p
noncomputable def IsI (p : Keyed) : Prop := KV.good p
noncomputable def AllI (xs : Array Keyed) : Prop := ∀ p ∈ xs.toList, IsI p
noncomputable def K (xs : Array Keyed) (i : Nat) : Int := match xs[i]? with
  | some p => kv p
  | none => 0
noncomputable def SortedTo (xs : Array Keyed) (k : Nat) : Prop := ∀ i j, i ≤ j → j < k → K xs i ≤ K xs j
theorem K_congr {xs ys : Array Keyed} {i j : Nat} (h : xs[i]? = ys[j]?) : K xs i = K ys j := by unfold K; rw [h]
theorem K_bubble {xs : Array Keyed} {src d : Nat} (hs : src < xs.size) (hd : d ≤ src) (k : Nat) :
    K (bubble xs src d) k = if k = src - d then K xs src else if src - d < k ∧ k ≤ src then K xs (k - 1) else K xs k := by
  have e := getElem?_bubble hs d hd k
  by_cases h1 : k = src - d
  · rw [if_pos h1] at e ⊢; exact K_congr e
  · rw [if_neg h1] at e ⊢
    by_cases h2 : src - d < k ∧ k ≤ src
    · rw [if_pos h2] at e ⊢; exact K_congr e
    · rw [if_neg h2] at e ⊢; exact K_congr e
theorem K_mirror {xs : Array Keyed} {i j : Nat} (hj : j ≤ xs.size) (k : Nat) :
    K (mirror xs i j ((j - i) / 2)) k = if i ≤ k ∧ k < j then K xs (i + j - 1 - k) else K xs k := by
  have e := getElem?_mirror_all (i := i) hj k
  by_cases h1 : i ≤ k ∧ k < j
  · rw [if_pos h1] at e ⊢; exact K_congr e
  · rw [if_neg h1] at e ⊢; exact K_congr e
theorem K_mirror_equal {xs : Array Keyed} {i j : Nat} (hj : j ≤ xs.size) (heq : ∀ k, i ≤ k → k < j → K xs k = K xs (j - 1)) (k : Nat) :
    K (mirror xs i j ((j - i) / 2)) k = K xs k := by
  rw [K_mirror hj]
  split
  · rename_i h
    rw [heq k h.1 h.2, heq (i + j - 1 - k) (by omega) (by omega)]
  · rfl
section
variable {prog : Program} {w : World} {A : Around} {E : Value → Shared → Prop}
theorem s_lt {st : SortSt} {x y : Keyed} {Q : Option Bool → SortSt → Prop} (hk : kindOf st = KV.kind) (hx : IsI x) (hy : IsI y) (h : Q (some (decide (kv x < kv y))) st) : wpS (model prog w) A E KV.sh (lt' x y) Q st := KV.lt hk hx hy h
theorem s_elem {st : SortSt} {xs : Array Keyed} {i : Nat} {p : Keyed} {Q : Keyed → SortSt → Prop} (e : xs[i]? = some p) (h : Q p st) : wpS (model prog w) A E KV.sh (elem' xs i) Q st := by
  rw [elem'_eq, e]; exact wpS_pure h
noncomputable def gal : Bool → Keyed → Array Keyed → Nat → Nat → Nat → StateT SortSt Sem (Option Nat) := sortPriv% PySem.Builtin.gallop
theorem gal_eq (lf : Bool) (ky : Keyed) (ar : Array Keyed) (bs n ht : Nat) : gal lf ky ar bs n ht = (do
  let byd (i : Nat) : StateT SortSt Sem (Option Bool) := do
    let x ← elem' ar (bs + i)
    if lf then lt' x ky else return (← lt' ky x).map (!·)
  let mut la := 0
  let mut os := 1
  let mut lo := 0
  let mut hi := 0
  let some rt ← byd ht | return none
  if rt then
    let mo := n - ht
    for _ in [0:n] do
      if os ≥ mo then break
      let some mr ← byd (ht + os) | return none
      if !mr then break
      la := os
      os := 2 * os + 1
    lo := ht + la + 1
    hi := ht + min os mo
  else
    let mo := ht + 1
    for _ in [0:n] do
      if os ≥ mo then break
      let some fd ← byd (ht - os) | return none
      if fd then break
      la := os
      os := 2 * os + 1
    lo := ht + 1 - min os mo
    hi := ht - la
  for _ in [0:n] do
    if lo ≥ hi then break
    let m := lo + (hi - lo) / 2
    let some mr ← byd m | return none
    if mr then lo := m + 1 else hi := m
  return some hi) := rfl
noncomputable def Byd (lf : Bool) (ky : Keyed) (ar : Array Keyed) (bs i : Nat) : Bool := if lf then decide (K ar (bs + i) < kv ky) else !decide (kv ky < K ar (bs + i))
theorem K_of {ar : Array Keyed} {i : Nat} {p : Keyed} (e : ar[i]? = some p) : K ar i = kv p := by unfold K; rw [e]
theorem at_of {ar : Array Keyed} {i : Nat} (h : i < ar.size) (hI : AllI ar) : ∃ p, ar[i]? = some p ∧ IsI p := ⟨ar[i], getElem?_pos ar i h, hI _ (by simp)⟩
theorem s_byd {st : SortSt} {lf : Bool} {ky : Keyed} {ar : Array Keyed} {bs i : Nat} {Q : Option Bool → SortSt → Prop} (hk : kindOf st = KV.kind) (hI : AllI ar) (hy : IsI ky) (hi : bs + i < ar.size) (h : Q (some (Byd lf ky ar bs i)) st) :
    wpS (model prog w) A E KV.sh (do let x ← elem' ar (bs + i); if lf then lt' x ky else return (← lt' ky x).map (!·)) Q st := by
  obtain ⟨p, e, hp⟩ := at_of hi hI
  have hK := K_of e
  unfold Byd at h
  refine wpS_bind (s_elem e ?_)
  cases lf with
  | true =>
    simp only [if_true] at h ⊢
    rw [hK] at h
    exact s_lt hk hp hy h
  | false =>
    simp only [Bool.false_eq_true, if_false] at h ⊢
    rw [hK] at h
    exact wpS_bind (s_lt hk hy hp (wpS_pure h))
theorem s_gal {st : SortSt} {lf : Bool} {ky : Keyed} {ar : Array Keyed} {bs n ht c : Nat} {Q : Option Nat → SortSt → Prop} (hk : kindOf st = KV.kind) (hI : AllI ar) (hy : IsI ky) (hn : bs + n ≤ ar.size) (hh : ht < n) (hc : c ≤ n)
    (cut : ∀ i, i < n → Byd lf ky ar bs i = decide (i < c)) (h : Q (some c) st) : wpS (model prog w) A E KV.sh (gal lf ky ar bs n ht) Q st := by
  have byd : ∀ {i : Nat} {R : Option Bool → SortSt → Prop}, i < n → R (some (decide (i < c))) st → wpS (model prog w) A E KV.sh (do let x ← elem' ar (bs + i); if lf then lt' x ky else return (← lt' ky x).map (!·)) R st := fun {i R} hi hR =>
    s_byd hk hI hy (by omega) (by rw [cut i hi]; exact hR)
  rw [gal_eq]
  dsimp only
  refine wpS_bind (byd hh ?_)
  by_cases hr : ht < c
  · simp only [hr, decide_true, if_true]
    refine wpS_bind (wpS_mono (wpS_forRange (I := fun x r st' => st = st' ∧ ∃ l o, r = (none, l, o) ∧ ht + l < c ∧ l < o ∧ x + 1 ≤ o) (Q := fun r st' => st = st' ∧ ∃ l o, r = (none, l, o) ∧ ht + l < c ∧ l < o ∧ c ≤ ht + min o (n - ht)) ?_ ?_ ⟨rfl, 0, 1, rfl, by omega, by omega, by omega⟩) ?_)
    · rintro x r st' _ hx ⟨rfl, l, o, rfl, g1, g2, g3⟩
      dsimp only
      by_cases hge : o ≥ n - ht
      · rw [if_pos hge]
        exact wpS_pure ⟨rfl, l, o, rfl, g1, g2, by omega⟩
      · rw [if_neg hge]
        refine wpS_bind (byd (by omega) ?_)
        by_cases hm : ht + o < c
        · simp only [hm, decide_true, Bool.not_true, Bool.false_eq_true, if_false]
          exact wpS_pure ⟨rfl, _, _, rfl, hm, by omega, by omega⟩
        · simp only [hm, decide_false, Bool.not_false, if_true]
          exact wpS_pure ⟨rfl, l, o, rfl, g1, g2, by omega⟩
    · rintro r st' ⟨rfl, l, o, rfl, g1, g2, g3⟩
      exact ⟨rfl, l, o, rfl, g1, g2, by omega⟩
    · rintro r st' ⟨rfl, l, o, rfl, g1, g2, g3⟩
      dsimp only
      refine wpS_bind (wpS_mono (wpS_forRange (I := fun x r st' => st = st' ∧ ∃ l u, r = (none, l, u) ∧ l ≤ c ∧ c ≤ u ∧ u ≤ n ∧ u - l ≤ n - x) (Q := fun r st' => st = st' ∧ ∃ l, r = (none, l, c)) ?_ ?_ ⟨rfl, (ht + l + 1), (ht + min o (n - ht)), rfl, (by omega), g3, (by omega), by omega⟩) ?_)
      · rintro x r st' _ hx ⟨rfl, l, u, rfl, g1, g2, g3, g4⟩
        dsimp only
        by_cases hge : l ≥ u
        · rw [if_pos hge]
          have : u = c := by omega
          subst this
          exact wpS_pure ⟨rfl, l, rfl⟩
        · rw [if_neg hge]
          refine wpS_bind (byd (by omega) ?_)
          by_cases hm : l + (u - l) / 2 < c
          · simp only [hm, decide_true, if_true]
            exact wpS_pure ⟨rfl, _, _, rfl, by omega, g2, g3, by omega⟩
          · simp only [hm, decide_false, Bool.false_eq_true, if_false]
            exact wpS_pure ⟨rfl, _, _, rfl, g1, by omega, by omega, by omega⟩
      · rintro r st' ⟨rfl, l, u, rfl, g1, g2, g3, g4⟩
        have : u = c := by
          have : max 0 n = n := by omega
          omega
        subst this
        exact ⟨rfl, l, rfl⟩
      · rintro r st' ⟨rfl, l, rfl⟩
        exact wpS_pure h
  · simp only [hr, decide_false, Bool.false_eq_true, if_false]
    refine wpS_bind (wpS_mono (wpS_forRange (I := fun x r st' => st = st' ∧ ∃ l o, r = (none, l, o) ∧ c ≤ ht - l ∧ l ≤ ht ∧ l < o ∧ x + 1 ≤ o) (Q := fun r st' => st = st' ∧ ∃ l o, r = (none, l, o) ∧ c ≤ ht - l ∧ l ≤ ht ∧ l < o ∧ ht + 1 - min o (ht + 1) ≤ c) ?_ ?_ ⟨rfl, 0, 1, rfl, by omega, by omega, by omega, by omega⟩) ?_)
    · rintro x r st' _ hx ⟨rfl, l, o, rfl, g1, g0, g2, g3⟩
      dsimp only
      by_cases hge : o ≥ ht + 1
      · rw [if_pos hge]
        exact wpS_pure ⟨rfl, l, o, rfl, g1, g0, g2, by omega⟩
      · rw [if_neg hge]
        refine wpS_bind (byd (by omega) ?_)
        by_cases hm : ht - o < c
        · simp only [hm, decide_true, if_true]
          exact wpS_pure ⟨rfl, l, o, rfl, g1, g0, g2, by omega⟩
        · simp only [hm, decide_false, Bool.false_eq_true, if_false]
          exact wpS_pure ⟨rfl, _, _, rfl, by omega, by omega, by omega, by omega⟩
    · rintro r st' ⟨rfl, l, o, rfl, g1, g0, g2, g3⟩
      exact ⟨rfl, l, o, rfl, g1, g0, g2, by omega⟩
    · rintro r st' ⟨rfl, l, o, rfl, g1, g0, g2, g3⟩
      dsimp only
      refine wpS_bind (wpS_mono (wpS_forRange (I := fun x r st' => st = st' ∧ ∃ l u, r = (none, l, u) ∧ l ≤ c ∧ c ≤ u ∧ u ≤ n ∧ u - l ≤ n - x) (Q := fun r st' => st = st' ∧ ∃ l, r = (none, l, c)) ?_ ?_ ⟨rfl, (ht + 1 - min o (ht + 1)), (ht - l), rfl, g3, g1, (by omega), by omega⟩) ?_)
      · rintro x r st' _ hx ⟨rfl, l, u, rfl, g1, g2, g3, g4⟩
        dsimp only
        by_cases hge : l ≥ u
        · rw [if_pos hge]
          have : u = c := by omega
          subst this
          exact wpS_pure ⟨rfl, l, rfl⟩
        · rw [if_neg hge]
          refine wpS_bind (byd (by omega) ?_)
          by_cases hm : l + (u - l) / 2 < c
          · simp only [hm, decide_true, if_true]
            exact wpS_pure ⟨rfl, _, _, rfl, by omega, g2, g3, by omega⟩
          · simp only [hm, decide_false, Bool.false_eq_true, if_false]
            exact wpS_pure ⟨rfl, _, _, rfl, g1, by omega, by omega, by omega⟩
      · rintro r st' ⟨rfl, l, u, rfl, g1, g2, g3, g4⟩
        have : u = c := by
          have : max 0 n = n := by omega
          omega
        subst this
        exact ⟨rfl, l, rfl⟩
      · rintro r st' ⟨rfl, l, rfl⟩
        exact wpS_pure h
end
end SRV
set_option Elab.async false
set_option linter.all false
set_option maxRecDepth 100000
set_option maxHeartbeats 4000000
namespace SRV
open PySem
open PyProof.Rows hiding K SortedTo K_bubble K_mirror K_congr K_mirror_equal
variable [KV]
noncomputable def Le (x y : Keyed) : Prop := kv x ≤ kv y
structure MI (A B : List Keyed) (o : List Keyed) (ia ib : Nat) : Prop where
  perm : o.Perm (A.take ia ++ B.take ib)
  srt : o.Pairwise Le
  lea : ∀ x ∈ o, ∀ y ∈ A.drop ia, kv x ≤ kv y
  leb : ∀ x ∈ o, ∀ y ∈ B.drop ib, kv x ≤ kv y
structure Mer (A B : List Keyed) (o : List Keyed) : Prop where
  perm : o.Perm (A ++ B)
  srt : o.Pairwise Le
theorem pw_drop {l : List Keyed} (h : l.Pairwise Le) {i : Nat} (hi : i < l.length) : ∀ y ∈ l.drop (i + 1), kv l[i] ≤ kv y := by
  have e : l.drop i = l[i] :: l.drop (i + 1) := List.drop_eq_getElem_cons hi
  have h2 : (l.drop i).Pairwise Le := h.sublist (List.drop_sublist i l)
  rw [e] at h2
  exact (List.pairwise_cons.mp h2).1
theorem mem_drop_succ {l : List Keyed} {i : Nat} {y : Keyed} (h : y ∈ l.drop (i + 1)) : y ∈ l.drop i := by
  rw [← List.drop_drop] at h
  exact List.mem_of_mem_drop h
theorem MI.pushB {A B o : List Keyed} {ia ib : Nat} (m : MI A B o ia ib) (hB : B.Pairwise Le) (hi : ib < B.length) (h : ∀ z ∈ A.drop ia, kv B[ib] ≤ kv z) : MI A B (o ++ [B[ib]]) ia (ib + 1) := by
  have hm : B[ib] ∈ B.drop ib := by rw [List.drop_eq_getElem_cons hi]; exact List.mem_cons_self
  refine ⟨?_, ?_, fun x hx y hy => ?_, fun x hx y hy => ?_⟩
  · have e : B.take (ib + 1) = B.take ib ++ [B[ib]] := by rw [List.take_succ, List.getElem?_eq_getElem hi]; rfl
    rw [e, ← List.append_assoc]
    exact m.perm.append_right _
  · refine List.pairwise_append.mpr ⟨m.srt, List.pairwise_singleton _ _, fun x hx y hy => ?_⟩
    rw [List.mem_singleton.mp hy]
    exact m.leb x hx _ hm
  · rcases List.mem_append.mp hx with hx | hx
    · exact m.lea x hx y hy
    · rw [List.mem_singleton.mp hx]; exact h y hy
  · rcases List.mem_append.mp hx with hx | hx
    · exact m.leb x hx y (mem_drop_succ hy)
    · rw [List.mem_singleton.mp hx]; exact pw_drop hB hi y hy
theorem MI.pushA {A B o : List Keyed} {ia ib : Nat} (m : MI A B o ia ib) (hA : A.Pairwise Le) (hi : ia < A.length) (h : ∀ z ∈ B.drop ib, kv A[ia] ≤ kv z) : MI A B (o ++ [A[ia]]) (ia + 1) ib := by
  have hm : A[ia] ∈ A.drop ia := by rw [List.drop_eq_getElem_cons hi]; exact List.mem_cons_self
  refine ⟨?_, ?_, fun x hx y hy => ?_, fun x hx y hy => ?_⟩
  · have e : A.take (ia + 1) = A.take ia ++ [A[ia]] := by rw [List.take_succ, List.getElem?_eq_getElem hi]; rfl
    rw [e, List.append_assoc]
    refine (m.perm.append_right _).trans ?_
    rw [List.append_assoc]
    exact List.Perm.append_left _ List.perm_append_comm
  · refine List.pairwise_append.mpr ⟨m.srt, List.pairwise_singleton _ _, fun x hx y hy => ?_⟩
    rw [List.mem_singleton.mp hy]
    exact m.lea x hx _ hm
  · rcases List.mem_append.mp hx with hx | hx
    · exact m.lea x hx y (mem_drop_succ hy)
    · rw [List.mem_singleton.mp hx]; exact pw_drop hA hi y hy
  · rcases List.mem_append.mp hx with hx | hx
    · exact m.leb x hx y hy
    · rw [List.mem_singleton.mp hx]; exact h y hy
theorem MI.extA {A B o : List Keyed} {ia ib : Nat} (m : MI A B o ia ib) (hA : A.Pairwise Le) : ∀ (k : Nat), ia + k ≤ A.length → (∀ i (hi : ia + i < A.length), i < k → ∀ z ∈ B.drop ib, kv A[ia + i] ≤ kv z) → MI A B (o ++ (A.drop ia).take k) (ia + k) ib
  | 0, _, _ => by rw [List.take_zero, List.append_nil]; exact m
  | k + 1, hk, h => by
    have ih := MI.extA m hA k (by omega) fun i hi hik => h i hi (by omega)
    have hi : ia + k < A.length := by omega
    have e : (A.drop ia).take (k + 1) = (A.drop ia).take k ++ [A[ia + k]] := by rw [List.take_succ, List.getElem?_drop, List.getElem?_eq_getElem hi]; rfl
    rw [e, ← List.append_assoc]
    exact ih.pushA hA hi (h k hi (by omega))
theorem MI.extB {A B o : List Keyed} {ia ib : Nat} (m : MI A B o ia ib) (hB : B.Pairwise Le) : ∀ (k : Nat), ib + k ≤ B.length → (∀ i (hi : ib + i < B.length), i < k → ∀ z ∈ A.drop ia, kv B[ib + i] ≤ kv z) → MI A B (o ++ (B.drop ib).take k) ia (ib + k)
  | 0, _, _ => by rw [List.take_zero, List.append_nil]; exact m
  | k + 1, hk, h => by
    have ih := MI.extB m hB k (by omega) fun i hi hik => h i hi (by omega)
    have hi : ib + k < B.length := by omega
    have e : (B.drop ib).take (k + 1) = (B.drop ib).take k ++ [B[ib + k]] := by rw [List.take_succ, List.getElem?_drop, List.getElem?_eq_getElem hi]; rfl
    rw [e, ← List.append_assoc]
    exact ih.pushB hB hi (h k hi (by omega))
theorem perm_mid (a b c d : List Keyed) : (a ++ b ++ (c ++ d)).Perm (a ++ c ++ (b ++ d)) := by
  rw [List.append_assoc, List.append_assoc]
  refine List.Perm.append_left a ?_
  rw [← List.append_assoc, ← List.append_assoc]
  exact List.Perm.append_right d List.perm_append_comm
theorem MI.finAB {A B o : List Keyed} {ia ib : Nat} (m : MI A B o ia ib) (hA : A.Pairwise Le) (hB : B.Pairwise Le) (h : ∀ x ∈ A.drop ia, ∀ y ∈ B.drop ib, kv x ≤ kv y) : Mer A B (o ++ A.drop ia ++ B.drop ib) := by
  refine ⟨?_, ?_⟩
  · have e := (m.perm.append_right (A.drop ia ++ B.drop ib)).trans (perm_mid (A.take ia) (B.take ib) (A.drop ia) (B.drop ib))
    rw [List.take_append_drop, List.take_append_drop] at e
    rw [List.append_assoc]; exact e
  · refine List.pairwise_append.mpr ⟨List.pairwise_append.mpr ⟨m.srt, hA.sublist (List.drop_sublist _ _), fun x hx y hy => m.lea x hx y hy⟩, hB.sublist (List.drop_sublist _ _), fun x hx y hy => ?_⟩
    rcases List.mem_append.mp hx with hx | hx
    · exact m.leb x hx y hy
    · exact h x hx y hy
theorem MI.finBA {A B o : List Keyed} {ia ib : Nat} (m : MI A B o ia ib) (hA : A.Pairwise Le) (hB : B.Pairwise Le) (h : ∀ x ∈ A.drop ia, ∀ y ∈ B.drop ib, kv y ≤ kv x) : Mer A B (o ++ B.drop ib ++ A.drop ia) := by
  refine ⟨?_, ?_⟩
  · have e := (m.perm.append_right (A.drop ia ++ B.drop ib)).trans (perm_mid (A.take ia) (B.take ib) (A.drop ia) (B.drop ib))
    rw [List.take_append_drop, List.take_append_drop] at e
    rw [List.append_assoc]
    exact (List.Perm.append_left o List.perm_append_comm).trans e
  · refine List.pairwise_append.mpr ⟨List.pairwise_append.mpr ⟨m.srt, hB.sublist (List.drop_sublist _ _), fun x hx y hy => m.leb x hx y hy⟩, hA.sublist (List.drop_sublist _ _), fun x hx y hy => ?_⟩
    rcases List.mem_append.mp hx with hx | hx
    · exact m.lea x hx y hy
    · exact h y hy x hx
noncomputable def mlo : Array Keyed → Array Keyed → StateT SortSt Sem (Array Keyed) := sortPriv% PySem.Builtin.mergeLo
noncomputable def setG : Nat → StateT SortSt Sem Unit := sortPriv% PySem.Builtin.setMinGallop
theorem setG_eq (g : Nat) : setG g = modify fun z => SortSt.mk' (kindOf z) (arrOf z) (pendingOf z) g (failedOf z) := rfl
theorem mlo_eq (xa xb : Array Keyed) : mlo xa xb = (do
  rule "list.sort.merge-lo"
  let tot := xa.size + xb.size
  let dn (ou : Array Keyed) (i j : Nat) := ou ++ xa.extract i xa.size ++ xb.extract j xb.size
  let la (ou : Array Keyed) (i j : Nat) := ou ++ xb.extract j xb.size ++ xa.extract i xa.size
  let mut ou : Array Keyed := #[← elem' xb 0]
  let mut i := 0
  let mut j := 1
  if j == xb.size then return dn ou i j
  if i + 1 == xa.size then return la ou i j
  let mut mg := gallopOf (← get)
  for _ in [0:tot] do
    let mut ac := 0
    let mut bc := 0
    for _ in [0:tot] do
      let some bw ← lt' (← elem' xb j) (← elem' xa i) | return dn ou i j
      if bw then
        ou := ou.push (← elem' xb j); j := j + 1; bc := bc + 1; ac := 0
        if j == xb.size then return dn ou i j
        if bc ≥ mg then break
      else
        ou := ou.push (← elem' xa i); i := i + 1; ac := ac + 1; bc := 0
        if i + 1 == xa.size then return la ou i j
        if ac ≥ mg then break
    rule "list.sort.gallop"
    mg := mg + 1
    for _ in [0:tot] do
      if mg > 1 then mg := mg - 1
      setG mg
      let some k ← gal false (← elem' xb j) xa i (xa.size - i) 0 | return dn ou i j
      ac := k
      if k > 0 then
        ou := ou ++ xa.extract i (i + k); i := i + k
        if i + 1 == xa.size then return la ou i j
        if i == xa.size then return dn ou i j
      ou := ou.push (← elem' xb j); j := j + 1
      if j == xb.size then return dn ou i j
      let some k ← gal true (← elem' xa i) xb j (xb.size - j) 0 | return dn ou i j
      bc := k
      if k > 0 then
        ou := ou ++ xb.extract j (j + k); j := j + k
        if j == xb.size then return dn ou i j
      ou := ou.push (← elem' xa i); i := i + 1
      if i + 1 == xa.size then return la ou i j
      if ac < 7 && bc < 7 then break
    mg := mg + 1
    setG mg
  unsupported "internal:list.sort.merge-bound") := rfl
end SRV
set_option Elab.async false
set_option linter.all false
set_option maxRecDepth 100000
set_option maxHeartbeats 4000000
namespace SRV
open PySem
open PyProof.Rows hiding K SortedTo K_bubble K_mirror K_congr K_mirror_equal
variable [KV]
structure SameSt (a b : SortSt) : Prop where
  kind : kindOf b = kindOf a
  arr : arrOf b = arrOf a
  pend : pendingOf b = pendingOf a
  fail : failedOf b = failedOf a
theorem SameSt.refl (a : SortSt) : SameSt a a := ⟨rfl, rfl, rfl, rfl⟩
theorem SameSt.setG {a b : SortSt} (h : SameSt a b) (g : Nat) : SameSt a (SortSt.mk' (kindOf b) (arrOf b) (pendingOf b) g (failedOf b)) := ⟨h.kind, h.arr, h.pend, h.fail⟩
theorem toL_end (o x y : Array Keyed) (i j : Nat) : (o ++ x.extract i x.size ++ y.extract j y.size).toList = o.toList ++ x.toList.drop i ++ y.toList.drop j := by
  have e : ∀ (z : Array Keyed) (k : Nat), (z.extract k z.size).toList = z.toList.drop k := fun z k => by
    rw [Array.toList_extract, List.extract_eq_drop_take, List.take_of_length_le]
    rw [List.length_drop, Array.length_toList]
    exact Nat.le_refl _
  rw [Array.toList_append, Array.toList_append, e, e]
theorem toL_ext (o x : Array Keyed) (i k : Nat) : (o ++ x.extract i (i + k)).toList = o.toList ++ (x.toList.drop i).take k := by
  rw [Array.toList_append, Array.toList_extract, List.extract_eq_drop_take, Nat.add_sub_cancel_left]
section
variable {A B : List Keyed} {o : List Keyed} {ia ib : Nat}
theorem drop_len {l : List Keyed} {i : Nat} (h : i = l.length) : l.drop i = [] := List.drop_of_length_le (by omega)
theorem one_left {l : List Keyed} {i : Nat} (h : i + 1 = l.length) : ∀ x ∈ l.drop i, kv x = kv (l[l.length - 1]'(by omega)) := fun x hx => by
  have e : l.drop i = l[i] :: l.drop (i + 1) := List.drop_eq_getElem_cons (by omega)
  rw [e, drop_len h] at hx
  have : x = l[i] := by simpa using hx
  subst this
  congr 2
  omega
end
section
variable {prog : Program} {w : World} {A : Around} {E : Value → Shared → Prop}
theorem s_elemL {st : SortSt} {xs : Array Keyed} {i : Nat} {Q : Keyed → SortSt → Prop} (hi : i < xs.toList.length) (h : Q xs.toList[i] st) : wpS (model prog w) A E KV.sh (elem' xs i) Q st :=
  s_elem (by rw [← Array.getElem?_toList, List.getElem?_eq_getElem hi]) h
theorem s_setG {st : SortSt} {g : Nat} {Q : Unit → SortSt → Prop} (h : Q () (SortSt.mk' (kindOf st) (arrOf st) (pendingOf st) g (failedOf st))) : wpS (model prog w) A E KV.sh (setG g) Q st := by
  rw [setG_eq]; exact wpS_modify h
theorem cut_of {xs : Array Keyed} (hs : xs.toList.Pairwise Le) (ky : Keyed) (lf : Bool) (bs n : Nat) (hn : bs + n ≤ xs.size) : ∃ c, c ≤ n ∧ ∀ i, i < n → Byd lf ky xs bs i = decide (i < c) := by
  have mono : ∀ i j, i ≤ j → bs + j < xs.size → K xs (bs + i) ≤ K xs (bs + j) := fun i j hij hj => by
    have e1 : xs[bs + i]? = some (xs.toList[bs + i]'(by rw [Array.length_toList]; omega)) := by rw [← Array.getElem?_toList, List.getElem?_eq_getElem]
    have e2 : xs[bs + j]? = some (xs.toList[bs + j]'(by rw [Array.length_toList]; omega)) := by rw [← Array.getElem?_toList, List.getElem?_eq_getElem]
    rw [K_of e1, K_of e2]
    by_cases h : i = j
    · subst h; exact Int.le_refl _
    · exact List.pairwise_iff_getElem.mp hs _ _ _ _ (by omega)
  have down : ∀ i j, i ≤ j → j < n → Byd lf ky xs bs j = true → Byd lf ky xs bs i = true := fun i j hij hj h => by
    have := mono i j hij (by omega)
    unfold Byd at h ⊢
    cases lf with
    | true => simp only [if_true, decide_eq_true_eq] at h ⊢; omega
    | false => simp only [Bool.false_eq_true, if_false, Bool.not_eq_true', decide_eq_false_iff_not] at h ⊢; omega
  induction n with
  | zero => exact ⟨0, Nat.le_refl _, fun i hi => absurd hi (Nat.not_lt_zero _)⟩
  | succ n ih =>
    obtain ⟨c, hc, hd⟩ := ih (by omega) (fun i j hij hj h => down i j hij (by omega) h)
    by_cases hb : Byd lf ky xs bs n = true
    · refine ⟨n + 1, Nat.le_refl _, fun i hi => ?_⟩
      rw [decide_eq_true hi]
      exact down i n (by omega) (by omega) hb
    · refine ⟨c, by omega, fun i hi => ?_⟩
      by_cases h : i = n
      · subst h
        rw [decide_eq_false (by omega)]
        exact Bool.not_eq_true _ ▸ (by simpa using hb)
      · exact hd i (by omega)
theorem K_at {xs : Array Keyed} {i : Nat} (hi : i < xs.toList.length) : K xs i = kv xs.toList[i] := K_of (by rw [← Array.getElem?_toList, List.getElem?_eq_getElem hi])
end
end SRV
set_option Elab.async false
set_option linter.all false
set_option maxRecDepth 100000
set_option maxHeartbeats 4000000
namespace SRV
open PySem
open PyProof.Rows hiding K SortedTo K_bubble K_mirror K_congr K_mirror_equal
variable [KV]
theorem mem_dropE {l : List Keyed} {k : Nat} {z : Keyed} (h : z ∈ l.drop k) : ∃ u, ∃ h : k + u < l.length, z = l[k + u] := by
  obtain ⟨u, hu, rfl⟩ := List.mem_iff_getElem.mp h
  rw [List.length_drop] at hu
  exact ⟨u, by omega, by rw [List.getElem_drop]⟩
theorem head_le {l : List Keyed} (h : l.Pairwise Le) {i : Nat} (hi : i < l.length) : ∀ z ∈ l.drop i, kv l[i] ≤ kv z := fun z hz => by
  rw [List.drop_eq_getElem_cons hi] at hz
  rcases List.mem_cons.mp hz with rfl | hz
  · exact Int.le_refl _
  · exact pw_drop h hi z hz
theorem gfalse {xs : Array Keyed} {ky : Keyed} {bs n c : Nat} (hn : bs + n = xs.toList.length) (cut : ∀ i, i < n → Byd false ky xs bs i = decide (i < c)) :
    (∀ t (h : bs + t < xs.toList.length), t < c → kv xs.toList[bs + t] ≤ kv ky) ∧ (∀ z ∈ xs.toList.drop (bs + c), kv ky < kv z) := by
  constructor
  · intro t h ht
    have := cut t (by omega)
    rw [decide_eq_true ht] at this
    unfold Byd at this
    rw [K_at h] at this
    simp only [Bool.false_eq_true, if_false, Bool.not_eq_true', decide_eq_false_iff_not] at this
    omega
  · intro z hz
    obtain ⟨u, hu, rfl⟩ := mem_dropE hz
    have := cut (c + u) (by omega)
    rw [decide_eq_false (by omega)] at this
    unfold Byd at this
    have e : bs + (c + u) = bs + c + u := by omega
    rw [e, K_at hu] at this
    simpa using this
theorem gtrue {xs : Array Keyed} {ky : Keyed} {bs n c : Nat} (hn : bs + n = xs.toList.length) (cut : ∀ i, i < n → Byd true ky xs bs i = decide (i < c)) :
    (∀ t (h : bs + t < xs.toList.length), t < c → kv xs.toList[bs + t] < kv ky) ∧ (∀ z ∈ xs.toList.drop (bs + c), kv ky ≤ kv z) := by
  constructor
  · intro t h ht
    have := cut t (by omega)
    rw [decide_eq_true ht] at this
    unfold Byd at this
    rw [K_at h] at this
    simpa using this
  · intro z hz
    obtain ⟨u, hu, rfl⟩ := mem_dropE hz
    have := cut (c + u) (by omega)
    rw [decide_eq_false (by omega)] at this
    unfold Byd at this
    have e : bs + (c + u) = bs + c + u := by omega
    rw [e, K_at hu] at this
    simpa using this
theorem MI.start {A B : List Keyed} (hB : B.Pairwise Le) (hb : 0 < B.length) (h0 : ∀ z ∈ A, kv B[0] ≤ kv z) : MI A B [B[0]] 0 1 := by
  have m : MI A B [] 0 0 := ⟨by simp, List.Pairwise.nil, fun x hx => (nomatch hx), fun x hx => (nomatch hx)⟩
  exact m.pushB hB hb fun z hz => h0 z (by simpa using hz)
theorem MI.doneB {xa xb ou : Array Keyed} {i j : Nat} (m : MI xa.toList xb.toList ou.toList i j) (hA : xa.toList.Pairwise Le) (hB : xb.toList.Pairwise Le) (h : j = xb.toList.length) : Mer xa.toList xb.toList (ou ++ xa.extract i xa.size ++ xb.extract j xb.size).toList := by
  rw [toL_end]
  exact m.finAB hA hB fun x _ y hy => by rw [drop_len h] at hy; cases hy
theorem MI.doneA {xa xb ou : Array Keyed} {i j : Nat} (m : MI xa.toList xb.toList ou.toList i j) (hA : xa.toList.Pairwise Le) (hB : xb.toList.Pairwise Le) (h : i = xa.toList.length) : Mer xa.toList xb.toList (ou ++ xa.extract i xa.size ++ xb.extract j xb.size).toList := by
  rw [toL_end]
  exact m.finAB hA hB fun x hx y _ => by rw [drop_len h] at hx; cases hx
theorem MI.last {xa xb ou : Array Keyed} {i j : Nat} (m : MI xa.toList xb.toList ou.toList i j) (hA : xa.toList.Pairwise Le) (hB : xb.toList.Pairwise Le) (h : i + 1 = xa.toList.length) (hl : ∀ z ∈ xb.toList, kv z ≤ kv (xa.toList[xa.toList.length - 1]'(by omega))) : Mer xa.toList xb.toList (ou ++ xb.extract j xb.size ++ xa.extract i xa.size).toList := by
  rw [toL_end]
  exact m.finBA hA hB fun x hx y hy => by rw [one_left h x hx]; exact hl y (List.mem_of_mem_drop hy)
section
variable {prog : Program} {w : World} {A : Around} {E : Value → Shared → Prop}
theorem s_mlo {st : SortSt} {xa xb : Array Keyed} {Q : Array Keyed → SortSt → Prop} (hk : kindOf st = KV.kind) (hIa : AllI xa) (hIb : AllI xb) (hA : xa.toList.Pairwise Le) (hB : xb.toList.Pairwise Le) (ha : 0 < xa.toList.length) (hb : 0 < xb.toList.length)
    (h0 : ∀ z ∈ xa.toList, kv (xb.toList[0]) ≤ kv z) (hl : ∀ z ∈ xb.toList, kv z ≤ kv (xa.toList[xa.toList.length - 1]'(by omega)))
    (h : ∀ o st', SameSt st st' → Mer xa.toList xb.toList o.toList → Q o st') : wpS (model prog w) A E KV.sh (mlo xa xb) Q st := by
  have hsa : xa.size = xa.toList.length := (Array.length_toList ..).symm
  have hsb : xb.size = xb.toList.length := (Array.length_toList ..).symm
  rw [mlo_eq]
  refine wpS_bind (wpS_lift (wpAny_rule ⟨rfl, ?_⟩))
  dsimp only
  refine wpS_bind (s_elemL hb ?_)
  have m0 : MI xa.toList xb.toList (#[xb.toList[0]] : Array Keyed).toList 0 1 := MI.start hB hb h0
  by_cases c1 : 1 = xb.size
  · rw [if_pos (by simpa using c1)]
    exact wpS_pure (h _ _ (SameSt.refl _) (m0.doneB hA hB (by omega)))
  rw [if_neg (by simpa using c1)]
  by_cases c2 : 0 + 1 = xa.size
  · rw [if_pos (by simpa using c2)]
    exact wpS_pure (h _ _ (SameSt.refl _) (m0.last hA hB (by omega) hl))
  rw [if_neg (by simpa using c2)]
  refine wpS_bind (wpS_get ?_)
  refine wpS_bind (wpS_mono (wpS_forRange (I := fun x c st' => SameSt st st' ∧ ∃ ou i j mg, c = (none, ou, i, j, mg) ∧ MI xa.toList xb.toList ou.toList i j ∧ i + 1 < xa.size ∧ j < xb.toList.length ∧ x + 1 ≤ i + j) (Q := fun c st' => SameSt st st' ∧ ∃ res rest, c = (some res, rest) ∧ Mer xa.toList xb.toList res.toList) ?step ?fin ⟨SameSt.refl _, _, _, _, _, rfl, m0, by omega, by omega, by omega⟩) ?post)
  case post =>
    rintro c st' ⟨sm, res, rest, rfl, me⟩
    exact wpS_pure (h _ _ sm me)
  case fin =>
    rintro c st' ⟨sm, ou, i, j, mg, rfl, m, hi, hj, hx⟩
    exfalso
    omega
  case step =>
    rintro x c st1 _ hx ⟨sm, ou, i, j, mg, rfl, m, hi, hj, hx2⟩
    dsimp only
    refine wpS_bind (wpS_mono (wpS_forRange (I := fun y c st' => SameSt st st' ∧ ∃ ou i j ac bc, c = (none, ou, i, j, ac, bc) ∧ MI xa.toList xb.toList ou.toList i j ∧ i + 1 < xa.size ∧ j < xb.toList.length ∧ x + 1 + min y 1 ≤ i + j)
      (Q := fun c st' => SameSt st st' ∧ ((∃ res rest, c = (some res, rest) ∧ Mer xa.toList xb.toList res.toList) ∨ ∃ ou i j ac bc, c = (none, ou, i, j, ac, bc) ∧ MI xa.toList xb.toList ou.toList i j ∧ i + 1 < xa.size ∧ j < xb.toList.length ∧ x + 2 ≤ i + j)) ?s1 ?f1 ⟨sm, _, _, _, _, _, rfl, m, hi, hj, by omega⟩) ?p1)
    case f1 =>
      rintro c st2 ⟨sm2, ou, i, j, ac, bc, rfl, m, hi, hj, hx3⟩
      exact ⟨sm2, .inr ⟨_, _, _, _, _, rfl, m, hi, hj, by omega⟩⟩
    case s1 =>
      rintro y c st2 _ hy ⟨sm2, ou, i, j, ac, bc, rfl, m, hi, hj, hx3⟩
      dsimp only
      refine wpS_bind (s_elemL hj (wpS_bind (s_elemL (i := i) (by omega) ?_)))
      refine wpS_bind (s_lt (sm2.kind.trans hk) (hIb _ (List.getElem_mem _)) (hIa _ (List.getElem_mem _)) ?_)
      by_cases bw : kv xb.toList[j] < kv (xa.toList[i]'(by omega))
      · simp only [bw, decide_true, if_true]
        refine wpS_bind (s_elemL hj ?_)
        have m2 : MI xa.toList xb.toList (ou.push xb.toList[j]).toList i (j + 1) := by
          rw [Array.toList_push]
          exact m.pushB hB hj fun z hz => Int.le_trans (Int.le_of_lt bw) (head_le hA (by omega) z hz)
        by_cases e1 : j + 1 = xb.size
        · rw [if_pos (by simpa using e1)]
          exact wpS_pure ⟨sm2, .inl ⟨_, _, rfl, m2.doneB hA hB (by omega)⟩⟩
        · rw [if_neg (by simpa using e1)]
          split
          · exact wpS_pure ⟨sm2, .inr ⟨_, _, _, _, _, rfl, m2, hi, by omega, by omega⟩⟩
          · exact wpS_pure ⟨sm2, _, _, _, _, _, rfl, m2, hi, by omega, by omega⟩
      · simp only [bw, decide_false, Bool.false_eq_true, if_false]
        refine wpS_bind (s_elemL (i := i) (by omega) ?_)
        have m2 : MI xa.toList xb.toList (ou.push (xa.toList[i]'(by omega))).toList (i + 1) j := by
          rw [Array.toList_push]
          exact m.pushA hA (by omega) fun z hz => Int.le_trans (Int.not_lt.mp bw) (head_le hB hj z hz)
        by_cases e1 : i + 1 + 1 = xa.size
        · rw [if_pos (by simpa using e1)]
          exact wpS_pure ⟨sm2, .inl ⟨_, _, rfl, m2.last hA hB (by omega) hl⟩⟩
        · rw [if_neg (by simpa using e1)]
          split
          · exact wpS_pure ⟨sm2, .inr ⟨_, _, _, _, _, rfl, m2, by omega, hj, by omega⟩⟩
          · exact wpS_pure ⟨sm2, _, _, _, _, _, rfl, m2, by omega, hj, by omega⟩
    case p1 =>
      rintro c st2 ⟨sm2, ⟨res, rest, rfl, me⟩ | ⟨ou, i, j, ac, bc, rfl, m, hi, hj, hx3⟩⟩
      · exact wpS_pure ⟨sm2, _, _, rfl, me⟩
      dsimp only
      refine wpS_bind (wpS_lift (wpAny_rule ⟨rfl, ?_⟩))
      refine wpS_bind (wpS_mono (wpS_forRange (I := fun y c st' => SameSt st st' ∧ ∃ ou i j mg ac bc, c = (none, ou, i, j, mg, ac, bc) ∧ MI xa.toList xb.toList ou.toList i j ∧ i + 1 < xa.size ∧ j < xb.toList.length ∧ x + 2 ≤ i + j)
        (Q := fun c st' => SameSt st st' ∧ ((∃ res rest, c = (some res, rest) ∧ Mer xa.toList xb.toList res.toList) ∨ ∃ ou i j mg ac bc, c = (none, ou, i, j, mg, ac, bc) ∧ MI xa.toList xb.toList ou.toList i j ∧ i + 1 < xa.size ∧ j < xb.toList.length ∧ x + 2 ≤ i + j)) ?s2 ?f2 ⟨sm2, _, _, _, _, _, _, rfl, m, hi, hj, hx3⟩) ?p2)
      case f2 =>
        rintro c st3 ⟨sm3, ou, i, j, mg, ac, bc, rfl, m, hi, hj, hx4⟩
        exact ⟨sm3, .inr ⟨_, _, _, _, _, _, rfl, m, hi, hj, hx4⟩⟩
      case p2 =>
        rintro c st3 ⟨sm3, ⟨res, rest, rfl, me⟩ | ⟨ou, i, j, mg, ac, bc, rfl, m, hi, hj, hx4⟩⟩
        · exact wpS_pure ⟨sm3, _, _, rfl, me⟩
        · dsimp only
          refine wpS_bind (s_setG ?_)
          exact wpS_pure ⟨sm3.setG _, _, _, _, _, rfl, m, hi, hj, by omega⟩
      case s2 =>
        rintro y c st3 _ hy ⟨sm3', ou, i, j, mg, ac, bc, rfl, m, hi, hj, hx4⟩
        dsimp only
        have sm3 := fun g => sm3'.setG g
        obtain ⟨c1, hc1, cut1⟩ := cut_of hA xb.toList[j] false i (xa.size - i) (by omega)
        obtain ⟨le1, gt1⟩ := gfalse (by omega) cut1
        have m1 : MI xa.toList xb.toList (ou ++ xa.extract i (i + c1)).toList (i + c1) j := by
          rw [toL_ext]
          exact m.extA hA c1 (by omega) fun t ht htc z hz => Int.le_trans (le1 t ht htc) (head_le hB hj z hz)
        by_cases hmg : mg > 1
        · rw [if_pos hmg]
          refine wpS_bind (s_setG (wpS_bind (s_elemL hj ?_)))
          refine wpS_bind (s_gal (c := c1) ((sm3 _).kind.trans hk) hIa (hIb _ (List.getElem_mem _)) (by omega) (by omega) hc1 cut1 ?_)
          dsimp only
          by_cases k0 : c1 > 0
          · rw [if_pos k0]
            by_cases e1 : i + c1 + 1 = xa.size
            · rw [if_pos (by simpa using e1)]
              exact wpS_pure ⟨sm3 _, .inl ⟨_, _, rfl, m1.last hA hB (by omega) hl⟩⟩
            · rw [if_neg (by simpa using e1)]
              by_cases e2 : i + c1 = xa.size
              · rw [if_pos (by simpa using e2)]
                exact wpS_pure ⟨sm3 _, .inl ⟨_, _, rfl, m1.doneA hA hB (by omega)⟩⟩
              · rw [if_neg (by simpa using e2)]
                refine wpS_bind (s_elemL hj ?_)
                have M2 : MI xa.toList xb.toList (Array.push (ou ++ xa.extract i (i + c1)) xb.toList[j]).toList (i + c1) (j + 1) := by rw [Array.toList_push]; exact MI.pushB m1 hB hj (fun z hz => Int.le_of_lt (gt1 z hz))
                by_cases e3 : j + 1 = xb.size
                · rw [if_pos (by simpa using e3)]
                  exact wpS_pure ⟨sm3 _, .inl ⟨_, _, rfl, M2.doneB hA hB (by omega)⟩⟩
                · rw [if_neg (by simpa using e3)]
                  refine wpS_bind (s_elemL (i := (i + c1)) (by omega) ?_)
                  obtain ⟨c2, hc2, cut2⟩ := cut_of hB (xa.toList[(i + c1)]'(by omega)) true (j + 1) (xb.size - (j + 1)) (by omega)
                  obtain ⟨lt2, ge2⟩ := gtrue (by omega) cut2
                  refine wpS_bind (s_gal (c := c2) ((sm3 _).kind.trans hk) hIb (hIa _ (List.getElem_mem _)) (by omega) (by omega) hc2 cut2 ?_)
                  dsimp only
                  by_cases k1 : c2 > 0
                  · rw [if_pos k1]
                    have M3 : MI xa.toList xb.toList (Array.push (ou ++ xa.extract i (i + c1)) xb.toList[j] ++ xb.extract (j + 1) (j + 1 + c2)).toList (i + c1) (j + 1 + c2) := by
                      rw [toL_ext]
                      exact M2.extB hB c2 (by omega) fun t ht htc z hz => Int.le_trans (Int.le_of_lt (lt2 t ht htc)) (head_le hA (by omega) z hz)
                    by_cases e4 : j + 1 + c2 = xb.size
                    · rw [if_pos (by simpa using e4)]
                      exact wpS_pure ⟨sm3 _, .inl ⟨_, _, rfl, M3.doneB hA hB (by omega)⟩⟩
                    · rw [if_neg (by simpa using e4)]
                      refine wpS_bind (s_elemL (i := (i + c1)) (by omega) ?_)
                      have M4 : MI xa.toList xb.toList (Array.push (Array.push (ou ++ xa.extract i (i + c1)) xb.toList[j] ++ xb.extract (j + 1) (j + 1 + c2)) (xa.toList[(i + c1)]'(by omega))).toList ((i + c1) + 1) (j + 1 + c2) := by rw [Array.toList_push]; exact MI.pushA M3 hA (by omega) ge2
                      by_cases e5 : (i + c1) + 1 + 1 = xa.size
                      · rw [if_pos (by simpa using e5)]
                        exact wpS_pure ⟨sm3 _, .inl ⟨_, _, rfl, M4.last hA hB (by omega) hl⟩⟩
                      · rw [if_neg (by simpa using e5)]
                        split
                        · exact wpS_pure ⟨sm3 _, .inr ⟨_, _, _, _, _, _, rfl, M4, by omega, by omega, by omega⟩⟩
                        · exact wpS_pure ⟨sm3 _, _, _, _, _, _, _, rfl, M4, by omega, by omega, by omega⟩
                  · rw [if_neg k1]
                    have c20 : c2 = 0 := by omega
                    refine wpS_bind (s_elemL (i := (i + c1)) (by omega) ?_)
                    have M4 : MI xa.toList xb.toList (Array.push (Array.push (ou ++ xa.extract i (i + c1)) xb.toList[j]) (xa.toList[(i + c1)]'(by omega))).toList ((i + c1) + 1) (j + 1) := by rw [Array.toList_push]; exact MI.pushA M2 hA (by omega) (fun z hz => ge2 z (by rw [c20, Nat.add_zero]; exact hz))
                    by_cases e5 : (i + c1) + 1 + 1 = xa.size
                    · rw [if_pos (by simpa using e5)]
                      exact wpS_pure ⟨sm3 _, .inl ⟨_, _, rfl, M4.last hA hB (by omega) hl⟩⟩
                    · rw [if_neg (by simpa using e5)]
                      split
                      · exact wpS_pure ⟨sm3 _, .inr ⟨_, _, _, _, _, _, rfl, M4, by omega, by omega, by omega⟩⟩
                      · exact wpS_pure ⟨sm3 _, _, _, _, _, _, _, rfl, M4, by omega, by omega, by omega⟩
          · rw [if_neg k0]
            have c10 : c1 = 0 := by omega
            refine wpS_bind (s_elemL hj ?_)
            have M2 : MI xa.toList xb.toList (Array.push ou xb.toList[j]).toList i (j + 1) := by rw [Array.toList_push]; exact MI.pushB m hB hj (fun z hz => Int.le_of_lt (gt1 z (by rw [c10, Nat.add_zero]; exact hz)))
            by_cases e3 : j + 1 = xb.size
            · rw [if_pos (by simpa using e3)]
              exact wpS_pure ⟨sm3 _, .inl ⟨_, _, rfl, M2.doneB hA hB (by omega)⟩⟩
            · rw [if_neg (by simpa using e3)]
              refine wpS_bind (s_elemL (i := i) (by omega) ?_)
              obtain ⟨c2, hc2, cut2⟩ := cut_of hB (xa.toList[i]'(by omega)) true (j + 1) (xb.size - (j + 1)) (by omega)
              obtain ⟨lt2, ge2⟩ := gtrue (by omega) cut2
              refine wpS_bind (s_gal (c := c2) ((sm3 _).kind.trans hk) hIb (hIa _ (List.getElem_mem _)) (by omega) (by omega) hc2 cut2 ?_)
              dsimp only
              by_cases k1 : c2 > 0
              · rw [if_pos k1]
                have M3 : MI xa.toList xb.toList (Array.push ou xb.toList[j] ++ xb.extract (j + 1) (j + 1 + c2)).toList i (j + 1 + c2) := by
                  rw [toL_ext]
                  exact M2.extB hB c2 (by omega) fun t ht htc z hz => Int.le_trans (Int.le_of_lt (lt2 t ht htc)) (head_le hA (by omega) z hz)
                by_cases e4 : j + 1 + c2 = xb.size
                · rw [if_pos (by simpa using e4)]
                  exact wpS_pure ⟨sm3 _, .inl ⟨_, _, rfl, M3.doneB hA hB (by omega)⟩⟩
                · rw [if_neg (by simpa using e4)]
                  refine wpS_bind (s_elemL (i := i) (by omega) ?_)
                  have M4 : MI xa.toList xb.toList (Array.push (Array.push ou xb.toList[j] ++ xb.extract (j + 1) (j + 1 + c2)) (xa.toList[i]'(by omega))).toList (i + 1) (j + 1 + c2) := by rw [Array.toList_push]; exact MI.pushA M3 hA (by omega) ge2
                  by_cases e5 : i + 1 + 1 = xa.size
                  · rw [if_pos (by simpa using e5)]
                    exact wpS_pure ⟨sm3 _, .inl ⟨_, _, rfl, M4.last hA hB (by omega) hl⟩⟩
                  · rw [if_neg (by simpa using e5)]
                    split
                    · exact wpS_pure ⟨sm3 _, .inr ⟨_, _, _, _, _, _, rfl, M4, by omega, by omega, by omega⟩⟩
                    · exact wpS_pure ⟨sm3 _, _, _, _, _, _, _, rfl, M4, by omega, by omega, by omega⟩
              · rw [if_neg k1]
                have c20 : c2 = 0 := by omega
                refine wpS_bind (s_elemL (i := i) (by omega) ?_)
                have M4 : MI xa.toList xb.toList (Array.push (Array.push ou xb.toList[j]) (xa.toList[i]'(by omega))).toList (i + 1) (j + 1) := by rw [Array.toList_push]; exact MI.pushA M2 hA (by omega) (fun z hz => ge2 z (by rw [c20, Nat.add_zero]; exact hz))
                by_cases e5 : i + 1 + 1 = xa.size
                · rw [if_pos (by simpa using e5)]
                  exact wpS_pure ⟨sm3 _, .inl ⟨_, _, rfl, M4.last hA hB (by omega) hl⟩⟩
                · rw [if_neg (by simpa using e5)]
                  split
                  · exact wpS_pure ⟨sm3 _, .inr ⟨_, _, _, _, _, _, rfl, M4, by omega, by omega, by omega⟩⟩
                  · exact wpS_pure ⟨sm3 _, _, _, _, _, _, _, rfl, M4, by omega, by omega, by omega⟩
        · rw [if_neg hmg]
          refine wpS_bind (s_setG (wpS_bind (s_elemL hj ?_)))
          refine wpS_bind (s_gal (c := c1) ((sm3 _).kind.trans hk) hIa (hIb _ (List.getElem_mem _)) (by omega) (by omega) hc1 cut1 ?_)
          dsimp only
          by_cases k0 : c1 > 0
          · rw [if_pos k0]
            by_cases e1 : i + c1 + 1 = xa.size
            · rw [if_pos (by simpa using e1)]
              exact wpS_pure ⟨sm3 _, .inl ⟨_, _, rfl, m1.last hA hB (by omega) hl⟩⟩
            · rw [if_neg (by simpa using e1)]
              by_cases e2 : i + c1 = xa.size
              · rw [if_pos (by simpa using e2)]
                exact wpS_pure ⟨sm3 _, .inl ⟨_, _, rfl, m1.doneA hA hB (by omega)⟩⟩
              · rw [if_neg (by simpa using e2)]
                refine wpS_bind (s_elemL hj ?_)
                have M2 : MI xa.toList xb.toList (Array.push (ou ++ xa.extract i (i + c1)) xb.toList[j]).toList (i + c1) (j + 1) := by rw [Array.toList_push]; exact MI.pushB m1 hB hj (fun z hz => Int.le_of_lt (gt1 z hz))
                by_cases e3 : j + 1 = xb.size
                · rw [if_pos (by simpa using e3)]
                  exact wpS_pure ⟨sm3 _, .inl ⟨_, _, rfl, M2.doneB hA hB (by omega)⟩⟩
                · rw [if_neg (by simpa using e3)]
                  refine wpS_bind (s_elemL (i := (i + c1)) (by omega) ?_)
                  obtain ⟨c2, hc2, cut2⟩ := cut_of hB (xa.toList[(i + c1)]'(by omega)) true (j + 1) (xb.size - (j + 1)) (by omega)
                  obtain ⟨lt2, ge2⟩ := gtrue (by omega) cut2
                  refine wpS_bind (s_gal (c := c2) ((sm3 _).kind.trans hk) hIb (hIa _ (List.getElem_mem _)) (by omega) (by omega) hc2 cut2 ?_)
                  dsimp only
                  by_cases k1 : c2 > 0
                  · rw [if_pos k1]
                    have M3 : MI xa.toList xb.toList (Array.push (ou ++ xa.extract i (i + c1)) xb.toList[j] ++ xb.extract (j + 1) (j + 1 + c2)).toList (i + c1) (j + 1 + c2) := by
                      rw [toL_ext]
                      exact M2.extB hB c2 (by omega) fun t ht htc z hz => Int.le_trans (Int.le_of_lt (lt2 t ht htc)) (head_le hA (by omega) z hz)
                    by_cases e4 : j + 1 + c2 = xb.size
                    · rw [if_pos (by simpa using e4)]
                      exact wpS_pure ⟨sm3 _, .inl ⟨_, _, rfl, M3.doneB hA hB (by omega)⟩⟩
                    · rw [if_neg (by simpa using e4)]
                      refine wpS_bind (s_elemL (i := (i + c1)) (by omega) ?_)
                      have M4 : MI xa.toList xb.toList (Array.push (Array.push (ou ++ xa.extract i (i + c1)) xb.toList[j] ++ xb.extract (j + 1) (j + 1 + c2)) (xa.toList[(i + c1)]'(by omega))).toList ((i + c1) + 1) (j + 1 + c2) := by rw [Array.toList_push]; exact MI.pushA M3 hA (by omega) ge2
                      by_cases e5 : (i + c1) + 1 + 1 = xa.size
                      · rw [if_pos (by simpa using e5)]
                        exact wpS_pure ⟨sm3 _, .inl ⟨_, _, rfl, M4.last hA hB (by omega) hl⟩⟩
                      · rw [if_neg (by simpa using e5)]
                        split
                        · exact wpS_pure ⟨sm3 _, .inr ⟨_, _, _, _, _, _, rfl, M4, by omega, by omega, by omega⟩⟩
                        · exact wpS_pure ⟨sm3 _, _, _, _, _, _, _, rfl, M4, by omega, by omega, by omega⟩
                  · rw [if_neg k1]
                    have c20 : c2 = 0 := by omega
                    refine wpS_bind (s_elemL (i := (i + c1)) (by omega) ?_)
                    have M4 : MI xa.toList xb.toList (Array.push (Array.push (ou ++ xa.extract i (i + c1)) xb.toList[j]) (xa.toList[(i + c1)]'(by omega))).toList ((i + c1) + 1) (j + 1) := by rw [Array.toList_push]; exact MI.pushA M2 hA (by omega) (fun z hz => ge2 z (by rw [c20, Nat.add_zero]; exact hz))
                    by_cases e5 : (i + c1) + 1 + 1 = xa.size
                    · rw [if_pos (by simpa using e5)]
                      exact wpS_pure ⟨sm3 _, .inl ⟨_, _, rfl, M4.last hA hB (by omega) hl⟩⟩
                    · rw [if_neg (by simpa using e5)]
                      split
                      · exact wpS_pure ⟨sm3 _, .inr ⟨_, _, _, _, _, _, rfl, M4, by omega, by omega, by omega⟩⟩
                      · exact wpS_pure ⟨sm3 _, _, _, _, _, _, _, rfl, M4, by omega, by omega, by omega⟩
          · rw [if_neg k0]
            have c10 : c1 = 0 := by omega
            refine wpS_bind (s_elemL hj ?_)
            have M2 : MI xa.toList xb.toList (Array.push ou xb.toList[j]).toList i (j + 1) := by rw [Array.toList_push]; exact MI.pushB m hB hj (fun z hz => Int.le_of_lt (gt1 z (by rw [c10, Nat.add_zero]; exact hz)))
            by_cases e3 : j + 1 = xb.size
            · rw [if_pos (by simpa using e3)]
              exact wpS_pure ⟨sm3 _, .inl ⟨_, _, rfl, M2.doneB hA hB (by omega)⟩⟩
            · rw [if_neg (by simpa using e3)]
              refine wpS_bind (s_elemL (i := i) (by omega) ?_)
              obtain ⟨c2, hc2, cut2⟩ := cut_of hB (xa.toList[i]'(by omega)) true (j + 1) (xb.size - (j + 1)) (by omega)
              obtain ⟨lt2, ge2⟩ := gtrue (by omega) cut2
              refine wpS_bind (s_gal (c := c2) ((sm3 _).kind.trans hk) hIb (hIa _ (List.getElem_mem _)) (by omega) (by omega) hc2 cut2 ?_)
              dsimp only
              by_cases k1 : c2 > 0
              · rw [if_pos k1]
                have M3 : MI xa.toList xb.toList (Array.push ou xb.toList[j] ++ xb.extract (j + 1) (j + 1 + c2)).toList i (j + 1 + c2) := by
                  rw [toL_ext]
                  exact M2.extB hB c2 (by omega) fun t ht htc z hz => Int.le_trans (Int.le_of_lt (lt2 t ht htc)) (head_le hA (by omega) z hz)
                by_cases e4 : j + 1 + c2 = xb.size
                · rw [if_pos (by simpa using e4)]
                  exact wpS_pure ⟨sm3 _, .inl ⟨_, _, rfl, M3.doneB hA hB (by omega)⟩⟩
                · rw [if_neg (by simpa using e4)]
                  refine wpS_bind (s_elemL (i := i) (by omega) ?_)
                  have M4 : MI xa.toList xb.toList (Array.push (Array.push ou xb.toList[j] ++ xb.extract (j + 1) (j + 1 + c2)) (xa.toList[i]'(by omega))).toList (i + 1) (j + 1 + c2) := by rw [Array.toList_push]; exact MI.pushA M3 hA (by omega) ge2
                  by_cases e5 : i + 1 + 1 = xa.size
                  · rw [if_pos (by simpa using e5)]
                    exact wpS_pure ⟨sm3 _, .inl ⟨_, _, rfl, M4.last hA hB (by omega) hl⟩⟩
                  · rw [if_neg (by simpa using e5)]
                    split
                    · exact wpS_pure ⟨sm3 _, .inr ⟨_, _, _, _, _, _, rfl, M4, by omega, by omega, by omega⟩⟩
                    · exact wpS_pure ⟨sm3 _, _, _, _, _, _, _, rfl, M4, by omega, by omega, by omega⟩
              · rw [if_neg k1]
                have c20 : c2 = 0 := by omega
                refine wpS_bind (s_elemL (i := i) (by omega) ?_)
                have M4 : MI xa.toList xb.toList (Array.push (Array.push ou xb.toList[j]) (xa.toList[i]'(by omega))).toList (i + 1) (j + 1) := by rw [Array.toList_push]; exact MI.pushA M2 hA (by omega) (fun z hz => ge2 z (by rw [c20, Nat.add_zero]; exact hz))
                by_cases e5 : i + 1 + 1 = xa.size
                · rw [if_pos (by simpa using e5)]
                  exact wpS_pure ⟨sm3 _, .inl ⟨_, _, rfl, M4.last hA hB (by omega) hl⟩⟩
                · rw [if_neg (by simpa using e5)]
                  split
                  · exact wpS_pure ⟨sm3 _, .inr ⟨_, _, _, _, _, _, rfl, M4, by omega, by omega, by omega⟩⟩
                  · exact wpS_pure ⟨sm3 _, _, _, _, _, _, _, rfl, M4, by omega, by omega, by omega⟩
end
end SRV
set_option Elab.async false
set_option linter.all false
set_option maxRecDepth 100000
set_option maxHeartbeats 4000000
namespace SRV
open PySem
open PyProof.Rows hiding K SortedTo K_bubble K_mirror K_congr K_mirror_equal
variable [KV]
structure MH (A B : List Keyed) (o : List Keyed) (na nb : Nat) : Prop where
  perm : o.Perm (A.drop na ++ B.drop nb)
  srt : o.Pairwise Le
  lea : ∀ x ∈ o, ∀ y ∈ A.take na, kv y ≤ kv x
  leb : ∀ x ∈ o, ∀ y ∈ B.take nb, kv y ≤ kv x
theorem pw_take {l : List Keyed} (h : l.Pairwise Le) {i : Nat} (hi : i < l.length) : ∀ y ∈ l.take i, kv y ≤ kv l[i] := fun y hy => by
  obtain ⟨u, hu, rfl⟩ := List.mem_iff_getElem.mp hy
  rw [List.length_take] at hu
  rw [List.getElem_take]
  exact List.pairwise_iff_getElem.mp h _ _ _ _ (by omega)
theorem mem_take_succ {l : List Keyed} {i : Nat} {y : Keyed} (h : y ∈ l.take i) : y ∈ l.take (i + 1) := (List.take_sublist_take_left (Nat.le_succ i)).mem h
theorem mem_take_at {l : List Keyed} {i : Nat} (hi : i < l.length) : l[i] ∈ l.take (i + 1) := by
  rw [List.take_succ, List.getElem?_eq_getElem hi]
  exact List.mem_append_right _ (List.mem_singleton.mpr rfl)
theorem MH.pushA {A B o : List Keyed} {na nb : Nat} (m : MH A B o (na + 1) nb) (hA : A.Pairwise Le) (hi : na < A.length) (h : ∀ z ∈ B.take nb, kv z ≤ kv A[na]) : MH A B (A[na] :: o) na nb := by
  refine ⟨?_, ?_, fun x hx y hy => ?_, fun x hx y hy => ?_⟩
  · rw [List.drop_eq_getElem_cons hi, List.cons_append]
    exact List.Perm.cons _ m.perm
  · exact List.pairwise_cons.mpr ⟨fun x hx => m.lea x hx _ (mem_take_at hi), m.srt⟩
  · rcases List.mem_cons.mp hx with rfl | hx
    · exact pw_take hA hi y hy
    · exact m.lea x hx y (mem_take_succ hy)
  · rcases List.mem_cons.mp hx with rfl | hx
    · exact h y hy
    · exact m.leb x hx y hy
theorem MH.pushB {A B o : List Keyed} {na nb : Nat} (m : MH A B o na (nb + 1)) (hB : B.Pairwise Le) (hi : nb < B.length) (h : ∀ z ∈ A.take na, kv z ≤ kv B[nb]) : MH A B (B[nb] :: o) na nb := by
  refine ⟨?_, ?_, fun x hx y hy => ?_, fun x hx y hy => ?_⟩
  · rw [List.drop_eq_getElem_cons hi]
    exact (List.Perm.cons _ m.perm).trans List.perm_middle.symm
  · exact List.pairwise_cons.mpr ⟨fun x hx => m.leb x hx _ (mem_take_at hi), m.srt⟩
  · rcases List.mem_cons.mp hx with rfl | hx
    · exact h y hy
    · exact m.lea x hx y hy
  · rcases List.mem_cons.mp hx with rfl | hx
    · exact pw_take hB hi y hy
    · exact m.leb x hx y (mem_take_succ hy)
theorem MH.extA {A B o : List Keyed} {nb : Nat} (hA : A.Pairwise Le) : ∀ (k c : Nat), MH A B o (c + k) nb → c + k ≤ A.length → (∀ i (hi : i < A.length), c ≤ i → i < c + k → ∀ z ∈ B.take nb, kv z ≤ kv A[i]) → MH A B ((A.drop c).take k ++ o) c nb
  | 0, c, m, _, _ => by rw [List.take_zero]; exact m
  | k + 1, c, m, hk, h => by
    have m' : MH A B o (c + 1 + k) nb := by rw [show c + 1 + k = c + (k + 1) by omega]; exact m
    have ih := MH.extA hA k (c + 1) m' (by omega) fun i hi h1 h2 => h i hi (by omega) (by omega)
    have hi : c < A.length := by omega
    rw [List.drop_eq_getElem_cons hi, List.take_succ_cons, List.cons_append]
    exact ih.pushA hA hi (h c hi (Nat.le_refl _) (by omega))
theorem MH.extB {A B o : List Keyed} {na : Nat} (hB : B.Pairwise Le) : ∀ (k c : Nat), MH A B o na (c + k) → c + k ≤ B.length → (∀ i (hi : i < B.length), c ≤ i → i < c + k → ∀ z ∈ A.take na, kv z ≤ kv B[i]) → MH A B ((B.drop c).take k ++ o) na c
  | 0, c, m, _, _ => by rw [List.take_zero]; exact m
  | k + 1, c, m, hk, h => by
    have m' : MH A B o na (c + 1 + k) := by rw [show c + 1 + k = c + (k + 1) by omega]; exact m
    have ih := MH.extB hB k (c + 1) m' (by omega) fun i hi h1 h2 => h i hi (by omega) (by omega)
    have hi : c < B.length := by omega
    rw [List.drop_eq_getElem_cons hi, List.take_succ_cons, List.cons_append]
    exact ih.pushB hB hi (h c hi (Nat.le_refl _) (by omega))
theorem MH.finAB {A B o : List Keyed} {na nb : Nat} (m : MH A B o na nb) (hA : A.Pairwise Le) (hB : B.Pairwise Le) (h : ∀ x ∈ A.take na, ∀ y ∈ B.take nb, kv x ≤ kv y) : Mer A B (A.take na ++ B.take nb ++ o) := by
  refine ⟨?_, ?_⟩
  · have e := (List.Perm.append_left (A.take na ++ B.take nb) m.perm).trans (perm_mid (A.take na) (B.take nb) (A.drop na) (B.drop nb))
    rw [List.take_append_drop, List.take_append_drop] at e
    exact e
  · refine List.pairwise_append.mpr ⟨List.pairwise_append.mpr ⟨hA.sublist (List.take_sublist _ _), hB.sublist (List.take_sublist _ _), fun x hx y hy => h x hx y hy⟩, m.srt, fun x hx y hy => ?_⟩
    rcases List.mem_append.mp hx with hx | hx
    · exact m.lea y hy x hx
    · exact m.leb y hy x hx
theorem MH.finBA {A B o : List Keyed} {na nb : Nat} (m : MH A B o na nb) (hA : A.Pairwise Le) (hB : B.Pairwise Le) (h : ∀ x ∈ A.take na, ∀ y ∈ B.take nb, kv y ≤ kv x) : Mer A B (B.take nb ++ A.take na ++ o) := by
  refine ⟨?_, ?_⟩
  · have e := (List.Perm.append_left (A.take na ++ B.take nb) m.perm).trans (perm_mid (A.take na) (B.take nb) (A.drop na) (B.drop nb))
    rw [List.take_append_drop, List.take_append_drop] at e
    exact (List.Perm.append_right o List.perm_append_comm).trans e
  · refine List.pairwise_append.mpr ⟨List.pairwise_append.mpr ⟨hB.sublist (List.take_sublist _ _), hA.sublist (List.take_sublist _ _), fun x hx y hy => h y hy x hx⟩, m.srt, fun x hx y hy => ?_⟩
    rcases List.mem_append.mp hx with hx | hx
    · exact m.leb y hy x hx
    · exact m.lea y hy x hx
theorem toL_front (o x y : Array Keyed) (i j : Nat) : (x.extract 0 i ++ y.extract 0 j ++ o.reverse).toList = x.toList.take i ++ y.toList.take j ++ o.toList.reverse := by
  have e : ∀ (z : Array Keyed) (k : Nat), (z.extract 0 k).toList = z.toList.take k := fun z k => by
    rw [Array.toList_extract, List.extract_eq_drop_take, List.drop_zero, Nat.sub_zero]
  rw [Array.toList_append, Array.toList_append, e, e, Array.toList_reverse]
theorem toL_pushR (o : Array Keyed) (z : Keyed) : (o.push z).toList.reverse = z :: o.toList.reverse := by
  rw [Array.toList_push, List.reverse_append]; rfl
theorem toL_extR (o x : Array Keyed) (c n : Nat) : (o ++ (x.extract c n).reverse).toList.reverse = (x.toList.drop c).take (n - c) ++ o.toList.reverse := by
  rw [Array.toList_append, List.reverse_append, Array.toList_reverse, List.reverse_reverse, Array.toList_extract, List.extract_eq_drop_take]
noncomputable def MHa (xa xb ou : Array Keyed) (na nb : Nat) : Prop := MH xa.toList xb.toList ou.toList.reverse na nb
section
variable {xa xb ou : Array Keyed} {na nb : Nat}
theorem MHa.done0 (m : MHa xa xb ou na nb) (hA : xa.toList.Pairwise Le) (hB : xb.toList.Pairwise Le) (h : na = 0 ∨ nb = 0) : Mer xa.toList xb.toList (xa.extract 0 na ++ xb.extract 0 nb ++ ou.reverse).toList := by
  rw [toL_front]
  refine MH.finAB m hA hB fun x hx y hy => ?_
  rcases h with h | h
  · rw [h] at hx; simp at hx
  · rw [h] at hy; simp at hy
theorem MHa.first (m : MHa xa xb ou na nb) (hA : xa.toList.Pairwise Le) (hB : xb.toList.Pairwise Le) (hb : 0 < xb.toList.length) (h : nb = 1) (h0 : ∀ z ∈ xa.toList, kv xb.toList[0] ≤ kv z) : Mer xa.toList xb.toList (xb.extract 0 nb ++ xa.extract 0 na ++ ou.reverse).toList := by
  rw [toL_front]
  refine MH.finBA m hA hB fun x hx y hy => ?_
  rw [h, List.take_succ, List.getElem?_eq_getElem hb] at hy
  have : y = xb.toList[0] := by simpa using hy
  rw [this]
  exact h0 x (List.mem_of_mem_take hx)
theorem MHa.pushA (m : MHa xa xb ou (na + 1) nb) (hA : xa.toList.Pairwise Le) (hi : na < xa.toList.length) (h : ∀ z ∈ xb.toList.take nb, kv z ≤ kv xa.toList[na]) : MHa xa xb (ou.push xa.toList[na]) na nb := by
  unfold MHa; rw [toL_pushR]; exact MH.pushA m hA hi h
theorem MHa.pushB (m : MHa xa xb ou na (nb + 1)) (hB : xb.toList.Pairwise Le) (hi : nb < xb.toList.length) (h : ∀ z ∈ xa.toList.take na, kv z ≤ kv xb.toList[nb]) : MHa xa xb (ou.push xb.toList[nb]) na nb := by
  unfold MHa; rw [toL_pushR]; exact MH.pushB m hB hi h
theorem MHa.extA {c : Nat} (m : MHa xa xb ou na nb) (hA : xa.toList.Pairwise Le) (hc : c ≤ na) (hn : na ≤ xa.toList.length) (h : ∀ i (hi : i < xa.toList.length), c ≤ i → i < na → ∀ z ∈ xb.toList.take nb, kv z ≤ kv xa.toList[i]) : MHa xa xb (ou ++ (xa.extract c na).reverse) c nb := by
  unfold MHa; rw [toL_extR]
  exact MH.extA hA (na - c) c (by rw [show c + (na - c) = na by omega]; exact m) (by omega) fun i hi h1 h2 => h i hi h1 (by omega)
theorem MHa.extB {c : Nat} (m : MHa xa xb ou na nb) (hB : xb.toList.Pairwise Le) (hc : c ≤ nb) (hn : nb ≤ xb.toList.length) (h : ∀ i (hi : i < xb.toList.length), c ≤ i → i < nb → ∀ z ∈ xa.toList.take na, kv z ≤ kv xb.toList[i]) : MHa xa xb (ou ++ (xb.extract c nb).reverse) na c := by
  unfold MHa; rw [toL_extR]
  exact MH.extB hB (nb - c) c (by rw [show c + (nb - c) = nb by omega]; exact m) (by omega) fun i hi h1 h2 => h i hi h1 (by omega)
end
theorem ffalse {xs : Array Keyed} {ky : Keyed} {n c : Nat} (hn : n ≤ xs.toList.length) (hc : c ≤ n) (cut : ∀ i, i < n → Byd false ky xs 0 i = decide (i < c)) :
    (∀ z ∈ xs.toList.take c, kv z ≤ kv ky) ∧ (∀ i (h : i < xs.toList.length), c ≤ i → i < n → kv ky < kv xs.toList[i]) := by
  have key : ∀ i (h : i < xs.toList.length), i < n → (!decide (kv ky < kv xs.toList[i])) = decide (i < c) := fun i h hi => by
    have := cut i hi
    unfold Byd at this
    rw [Nat.zero_add, K_at h] at this
    simpa using this
  constructor
  · intro z hz
    obtain ⟨u, hu, rfl⟩ := List.mem_iff_getElem.mp hz
    rw [List.length_take] at hu
    have := key u (by omega) (by omega)
    rw [List.getElem_take]
    rw [decide_eq_true (show u < c by omega)] at this
    simpa using this
  · intro i h h1 h2
    have := key i h h2
    rw [decide_eq_false (show ¬ i < c by omega)] at this
    simpa using this
theorem ftrue {xs : Array Keyed} {ky : Keyed} {n c : Nat} (hn : n ≤ xs.toList.length) (hc : c ≤ n) (cut : ∀ i, i < n → Byd true ky xs 0 i = decide (i < c)) :
    (∀ z ∈ xs.toList.take c, kv z < kv ky) ∧ (∀ i (h : i < xs.toList.length), c ≤ i → i < n → kv ky ≤ kv xs.toList[i]) := by
  have key : ∀ i (h : i < xs.toList.length), i < n → decide (kv xs.toList[i] < kv ky) = decide (i < c) := fun i h hi => by
    have := cut i hi
    unfold Byd at this
    rw [Nat.zero_add, K_at h] at this
    simpa using this
  constructor
  · intro z hz
    obtain ⟨u, hu, rfl⟩ := List.mem_iff_getElem.mp hz
    rw [List.length_take] at hu
    have := key u (by omega) (by omega)
    rw [List.getElem_take]
    rw [decide_eq_true (show u < c by omega)] at this
    simpa using this
  · intro i h h1 h2
    have := key i h h2
    rw [decide_eq_false (show ¬ i < c by omega)] at this
    simpa using this
theorem take_le {l : List Keyed} (h : l.Pairwise Le) {n : Nat} (hn : n < l.length) : ∀ z ∈ l.take (n + 1), kv z ≤ kv l[n] := fun z hz => by
  rw [List.take_succ, List.getElem?_eq_getElem hn] at hz
  rcases List.mem_append.mp hz with hz | hz
  · exact pw_take h hn z hz
  · have : z = l[n] := by simpa using hz
    rw [this]; exact Int.le_refl _
noncomputable def mhi : Array Keyed → Array Keyed → StateT SortSt Sem (Array Keyed) := sortPriv% PySem.Builtin.mergeHi
theorem mhi_eq (xa xb : Array Keyed) : mhi xa xb = (do
  rule "list.sort.merge-hi"
  let tot := xa.size + xb.size
  let dn (ou : Array Keyed) (i j : Nat) := xa.extract 0 i ++ xb.extract 0 j ++ ou.reverse
  let fb (ou : Array Keyed) (i j : Nat) := xb.extract 0 j ++ xa.extract 0 i ++ ou.reverse
  let mut i := xa.size - 1
  let mut j := xb.size
  let mut ou : Array Keyed := #[← elem' xa i]
  if i == 0 then return dn ou i j
  if j == 1 then return fb ou i j
  let mut mg := gallopOf (← get)
  for _ in [0:tot] do
    let mut ac := 0
    let mut bc := 0
    for _ in [0:tot] do
      let some aw ← lt' (← elem' xb (j - 1)) (← elem' xa (i - 1)) | return dn ou i j
      if aw then
        i := i - 1; ou := ou.push (← elem' xa i); ac := ac + 1; bc := 0
        if i == 0 then return dn ou i j
        if ac ≥ mg then break
      else
        j := j - 1; ou := ou.push (← elem' xb j); bc := bc + 1; ac := 0
        if j == 1 then return fb ou i j
        if bc ≥ mg then break
    rule "list.sort.gallop"
    mg := mg + 1
    for _ in [0:tot] do
      if mg > 1 then mg := mg - 1
      setG mg
      let some t ← gal false (← elem' xb (j - 1)) xa 0 i (i - 1) | return dn ou i j
      let k := i - t
      ac := k
      if k > 0 then
        ou := ou ++ (xa.extract t i).reverse; i := t
        if i == 0 then return dn ou i j
      j := j - 1; ou := ou.push (← elem' xb j)
      if j == 1 then return fb ou i j
      let some t ← gal true (← elem' xa (i - 1)) xb 0 j (j - 1) | return dn ou i j
      let k := j - t
      bc := k
      if k > 0 then
        ou := ou ++ (xb.extract t j).reverse; j := t
        if j == 1 then return fb ou i j
        if j == 0 then return dn ou i j
      i := i - 1; ou := ou.push (← elem' xa i)
      if i == 0 then return dn ou i j
      if ac < 7 && bc < 7 then break
    mg := mg + 1
    setG mg
  unsupported "internal:list.sort.merge-bound") := rfl
end SRV
set_option Elab.async false
set_option linter.all false
set_option maxRecDepth 100000
set_option maxHeartbeats 4000000
namespace SRV
open PySem
open PyProof.Rows hiding K SortedTo K_bubble K_mirror K_congr K_mirror_equal
variable [KV]
section
variable {prog : Program} {w : World} {A : Around} {E : Value → Shared → Prop}
theorem s_mhi {st : SortSt} {xa xb : Array Keyed} {Q : Array Keyed → SortSt → Prop} (hk : kindOf st = KV.kind) (hIa : AllI xa) (hIb : AllI xb) (hA : xa.toList.Pairwise Le) (hB : xb.toList.Pairwise Le) (ha : 0 < xa.toList.length) (hb : 0 < xb.toList.length)
    (h0 : ∀ z ∈ xa.toList, kv (xb.toList[0]) ≤ kv z) (hl : ∀ z ∈ xb.toList, kv z ≤ kv (xa.toList[xa.toList.length - 1]'(by omega)))
    (h : ∀ o st', SameSt st st' → Mer xa.toList xb.toList o.toList → Q o st') : wpS (model prog w) A E KV.sh (mhi xa xb) Q st := by
  have hsa : xa.size = xa.toList.length := (Array.length_toList ..).symm
  have hsb : xb.size = xb.toList.length := (Array.length_toList ..).symm
  rw [mhi_eq]
  refine wpS_bind (wpS_lift (wpAny_rule ⟨rfl, ?_⟩))
  dsimp only
  refine wpS_bind (s_elemL (i := xa.size - 1) (by omega) ?_)
  have m0 : MHa xa xb #[xa.toList[xa.size - 1]'(by omega)] (xa.size - 1) xb.size := by
    have mm : MHa xa xb #[] (xa.size - 1 + 1) xb.size := by
      refine ⟨?_, List.Pairwise.nil, fun x hx => (nomatch hx), fun x hx => (nomatch hx)⟩
      rw [drop_len (show xa.size - 1 + 1 = xa.toList.length by omega), drop_len hsb]
      exact List.Perm.refl _
    refine mm.pushA hA (by omega) fun z hz => ?_
    have := hl z (List.mem_of_mem_take hz)
    have e : xa.toList[xa.toList.length - 1]'(by omega) = xa.toList[xa.size - 1]'(by omega) := by congr 1
    rw [← e]; exact this
  by_cases c1 : xa.size - 1 = 0
  · rw [if_pos (by simpa using c1)]
    exact wpS_pure (h _ _ (SameSt.refl _) (m0.done0 hA hB (.inl c1)))
  rw [if_neg (by simpa using c1)]
  by_cases c2 : xb.size = 1
  · rw [if_pos (by simpa using c2)]
    exact wpS_pure (h _ _ (SameSt.refl _) (m0.first hA hB hb c2 h0))
  rw [if_neg (by simpa using c2)]
  refine wpS_bind (wpS_get ?_)
  refine wpS_bind (wpS_mono (wpS_forRange (I := fun x c st' => SameSt st st' ∧ ∃ i j ou mg, c = (none, i, j, ou, mg) ∧ MHa xa xb ou i j ∧ 0 < i ∧ i < xa.size ∧ 1 < j ∧ j ≤ xb.size ∧ i + j + x + 1 ≤ xa.size + xb.size) (Q := fun c st' => SameSt st st' ∧ ∃ res rest, c = (some res, rest) ∧ Mer xa.toList xb.toList res.toList) ?step ?fin ⟨SameSt.refl _, _, _, _, _, rfl, m0, by omega, by omega, by omega, by omega, by omega⟩) ?post)
  case post =>
    rintro c st' ⟨sm, res, rest, rfl, me⟩
    exact wpS_pure (h _ _ sm me)
  case fin =>
    rintro c st' ⟨sm, i, j, ou, mg, rfl, m, hi, hi2, hj, hj2, hx⟩
    exfalso
    omega
  case step =>
    rintro x c st1 _ hx ⟨sm, i, j, ou, mg, rfl, m, hi, hi2, hj, hj2, hx2⟩
    dsimp only
    refine wpS_bind (wpS_mono (wpS_forRange (I := fun y c st' => SameSt st st' ∧ ∃ i j ou ac bc, c = (none, i, j, ou, ac, bc) ∧ MHa xa xb ou i j ∧ 0 < i ∧ i < xa.size ∧ 1 < j ∧ j ≤ xb.size ∧ i + j + x + 1 + min y 1 ≤ xa.size + xb.size)
      (Q := fun c st' => SameSt st st' ∧ ((∃ res rest, c = (some res, rest) ∧ Mer xa.toList xb.toList res.toList) ∨ ∃ i j ou ac bc, c = (none, i, j, ou, ac, bc) ∧ MHa xa xb ou i j ∧ 0 < i ∧ i < xa.size ∧ 1 < j ∧ j ≤ xb.size ∧ i + j + x + 2 ≤ xa.size + xb.size)) ?s1 ?f1 ⟨sm, _, _, _, _, _, rfl, m, hi, hi2, hj, hj2, by omega⟩) ?p1)
    case f1 =>
      rintro c st2 ⟨sm2, i, j, ou, ac, bc, rfl, m, hi, hi2, hj, hj2, hx3⟩
      exact ⟨sm2, .inr ⟨_, _, _, _, _, rfl, m, hi, hi2, hj, hj2, by omega⟩⟩
    case s1 =>
      rintro y c st2 _ hy ⟨sm2, i, j, ou, ac, bc, rfl, m, hi, hi2, hj, hj2, hx3⟩
      dsimp only
      refine wpS_bind (s_elemL (i := j - 1) (by omega) (wpS_bind (s_elemL (i := i - 1) (by omega) ?_)))
      refine wpS_bind (s_lt (sm2.kind.trans hk) (hIb _ (List.getElem_mem _)) (hIa _ (List.getElem_mem _)) ?_)
      by_cases aw : kv (xb.toList[j - 1]'(by omega)) < kv (xa.toList[i - 1]'(by omega))
      · simp only [aw, decide_true, if_true]
        refine wpS_bind (s_elemL (i := i - 1) (by omega) ?_)
        have m2 : MHa xa xb (ou.push (xa.toList[i - 1]'(by omega))) (i - 1) j := MHa.pushA (by rw [show i - 1 + 1 = i by omega]; exact m) hA (by omega) fun z hz => by
          refine Int.le_trans ?_ (Int.le_of_lt aw)
          exact take_le hB (n := j - 1) (by omega) z (by rw [show j - 1 + 1 = j by omega]; exact hz)
        by_cases e1 : i - 1 = 0
        · rw [if_pos (by simpa using e1)]
          exact wpS_pure ⟨sm2, .inl ⟨_, _, rfl, m2.done0 hA hB (.inl e1)⟩⟩
        · rw [if_neg (by simpa using e1)]
          split
          · exact wpS_pure ⟨sm2, .inr ⟨_, _, _, _, _, rfl, m2, by omega, by omega, hj, hj2, by omega⟩⟩
          · exact wpS_pure ⟨sm2, _, _, _, _, _, rfl, m2, by omega, by omega, hj, hj2, by omega⟩
      · simp only [aw, decide_false, Bool.false_eq_true, if_false]
        refine wpS_bind (s_elemL (i := j - 1) (by omega) ?_)
        have m2 : MHa xa xb (ou.push (xb.toList[j - 1]'(by omega))) i (j - 1) := MHa.pushB (by rw [show j - 1 + 1 = j by omega]; exact m) hB (by omega) fun z hz => by
          refine Int.le_trans ?_ (Int.not_lt.mp aw)
          exact take_le hA (n := i - 1) (by omega) z (by rw [show i - 1 + 1 = i by omega]; exact hz)
        by_cases e1 : j - 1 = 1
        · rw [if_pos (by simpa using e1)]
          exact wpS_pure ⟨sm2, .inl ⟨_, _, rfl, m2.first hA hB hb e1 h0⟩⟩
        · rw [if_neg (by simpa using e1)]
          split
          · exact wpS_pure ⟨sm2, .inr ⟨_, _, _, _, _, rfl, m2, hi, hi2, by omega, by omega, by omega⟩⟩
          · exact wpS_pure ⟨sm2, _, _, _, _, _, rfl, m2, hi, hi2, by omega, by omega, by omega⟩
    case p1 =>
      rintro c st2 ⟨sm2, ⟨res, rest, rfl, me⟩ | ⟨i, j, ou, ac, bc, rfl, m, hi, hi2, hj, hj2, hx3⟩⟩
      · exact wpS_pure ⟨sm2, _, _, rfl, me⟩
      dsimp only
      refine wpS_bind (wpS_lift (wpAny_rule ⟨rfl, ?_⟩))
      refine wpS_bind (wpS_mono (wpS_forRange (I := fun y c st' => SameSt st st' ∧ ∃ i j ou mg ac bc, c = (none, i, j, ou, mg, ac, bc) ∧ MHa xa xb ou i j ∧ 0 < i ∧ i < xa.size ∧ 1 < j ∧ j ≤ xb.size ∧ i + j + x + 2 ≤ xa.size + xb.size)
        (Q := fun c st' => SameSt st st' ∧ ((∃ res rest, c = (some res, rest) ∧ Mer xa.toList xb.toList res.toList) ∨ ∃ i j ou mg ac bc, c = (none, i, j, ou, mg, ac, bc) ∧ MHa xa xb ou i j ∧ 0 < i ∧ i < xa.size ∧ 1 < j ∧ j ≤ xb.size ∧ i + j + x + 2 ≤ xa.size + xb.size)) ?s2 ?f2 ⟨sm2, _, _, _, _, _, _, rfl, m, hi, hi2, hj, hj2, hx3⟩) ?p2)
      case f2 =>
        rintro c st3 ⟨sm3, i, j, ou, mg, ac, bc, rfl, m, hi, hi2, hj, hj2, hx4⟩
        exact ⟨sm3, .inr ⟨_, _, _, _, _, _, rfl, m, hi, hi2, hj, hj2, hx4⟩⟩
      case p2 =>
        rintro c st3 ⟨sm3, ⟨res, rest, rfl, me⟩ | ⟨i, j, ou, mg, ac, bc, rfl, m, hi, hi2, hj, hj2, hx4⟩⟩
        · exact wpS_pure ⟨sm3, _, _, rfl, me⟩
        · dsimp only
          refine wpS_bind (s_setG ?_)
          exact wpS_pure ⟨sm3.setG _, _, _, _, _, rfl, m, hi, hi2, hj, hj2, by omega⟩
      case s2 =>
        rintro y c st3 _ hy ⟨sm3', i, j, ou, mg, ac, bc, rfl, m, hi, hi2, hj, hj2, hx4⟩
        dsimp only
        have sm3 := fun g => sm3'.setG g
        obtain ⟨c1, hc1, cut1⟩ := cut_of hA (xb.toList[j - 1]'(by omega)) false 0 i (by omega)
        obtain ⟨le1, gt1⟩ := ffalse (by omega) hc1 cut1
        have m1 : MHa xa xb (ou ++ (xa.extract c1 i).reverse) c1 j := m.extA hA hc1 (by omega) fun t ht h1 h2 z hz => by
          refine Int.le_trans ?_ (Int.le_of_lt (gt1 t ht h1 h2))
          exact take_le hB (n := j - 1) (by omega) z (by rw [show j - 1 + 1 = j by omega]; exact hz)
        by_cases hmg : mg > 1
        · rw [if_pos hmg]
          refine wpS_bind (s_setG (wpS_bind (s_elemL (i := j - 1) (by omega) ?_)))
          refine wpS_bind (s_gal (c := c1) ((sm3 _).kind.trans hk) hIa (hIb _ (List.getElem_mem _)) (by omega) (by omega) hc1 cut1 ?_)
          dsimp only
          by_cases k0 : i - c1 > 0
          · rw [if_pos k0]
            by_cases e1 : c1 = 0
            · rw [if_pos (by simpa using e1)]
              exact wpS_pure ⟨sm3 _, .inl ⟨_, _, rfl, m1.done0 hA hB (.inl e1)⟩⟩
            · rw [if_neg (by simpa using e1)]
              refine wpS_bind (s_elemL (i := j - 1) (by omega) ?_)
              have M2 : MHa xa xb (Array.push (ou ++ (xa.extract c1 i).reverse) (xb.toList[j - 1]'(by omega))) c1 (j - 1) := MHa.pushB (by rw [show j - 1 + 1 = j by omega]; exact m1) hB (by omega) (fun z hz => le1 z hz)
              by_cases e3 : j - 1 = 1
              · rw [if_pos (by simpa using e3)]
                exact wpS_pure ⟨sm3 _, .inl ⟨_, _, rfl, M2.first hA hB hb e3 h0⟩⟩
              · rw [if_neg (by simpa using e3)]
                refine wpS_bind (s_elemL (i := c1 - 1) (by omega) ?_)
                obtain ⟨c2, hc2, cut2⟩ := cut_of hB (xa.toList[c1 - 1]'(by omega)) true 0 (j - 1) (by omega)
                obtain ⟨lt2, ge2⟩ := ftrue (by omega) hc2 cut2
                refine wpS_bind (s_gal (c := c2) ((sm3 _).kind.trans hk) hIb (hIa _ (List.getElem_mem _)) (by omega) (by omega) hc2 cut2 ?_)
                dsimp only
                by_cases k1 : j - 1 - c2 > 0
                · rw [if_pos k1]
                  have M3 : MHa xa xb (Array.push (ou ++ (xa.extract c1 i).reverse) (xb.toList[j - 1]'(by omega)) ++ (xb.extract c2 (j - 1)).reverse) c1 c2 := M2.extB hB hc2 (by omega) fun t ht h1 h2 z hz => by
                    refine Int.le_trans ?_ (ge2 t ht h1 h2)
                    exact take_le hA (n := c1 - 1) (by omega) z (by rw [show c1 - 1 + 1 = c1 by omega]; exact hz)
                  by_cases e4 : c2 = 1
                  · rw [if_pos (by simpa using e4)]
                    exact wpS_pure ⟨sm3 _, .inl ⟨_, _, rfl, M3.first hA hB hb e4 h0⟩⟩
                  · rw [if_neg (by simpa using e4)]
                    by_cases e6 : c2 = 0
                    · rw [if_pos (by simpa using e6)]
                      exact wpS_pure ⟨sm3 _, .inl ⟨_, _, rfl, M3.done0 hA hB (.inr e6)⟩⟩
                    · rw [if_neg (by simpa using e6)]
                      refine wpS_bind (s_elemL (i := c1 - 1) (by omega) ?_)
                      have M4 : MHa xa xb (Array.push (Array.push (ou ++ (xa.extract c1 i).reverse) (xb.toList[j - 1]'(by omega)) ++ (xb.extract c2 (j - 1)).reverse) (xa.toList[c1 - 1]'(by omega))) (c1 - 1) c2 := MHa.pushA (by rw [show c1 - 1 + 1 = c1 by omega]; exact M3) hA (by omega) (fun z hz => Int.le_of_lt (lt2 z hz))
                      by_cases e5 : c1 - 1 = 0
                      · rw [if_pos (by simpa using e5)]
                        exact wpS_pure ⟨sm3 _, .inl ⟨_, _, rfl, M4.done0 hA hB (.inl e5)⟩⟩
                      · rw [if_neg (by simpa using e5)]
                        split
                        · exact wpS_pure ⟨sm3 _, .inr ⟨_, _, _, _, _, _, rfl, M4, by omega, by omega, by omega, by omega, by omega⟩⟩
                        · exact wpS_pure ⟨sm3 _, _, _, _, _, _, _, rfl, M4, by omega, by omega, by omega, by omega, by omega⟩
                · rw [if_neg k1]
                  have c20 : c2 = j - 1 := by omega
                  refine wpS_bind (s_elemL (i := c1 - 1) (by omega) ?_)
                  have M4 : MHa xa xb (Array.push (Array.push (ou ++ (xa.extract c1 i).reverse) (xb.toList[j - 1]'(by omega))) (xa.toList[c1 - 1]'(by omega))) (c1 - 1) (j - 1) := MHa.pushA (by rw [show c1 - 1 + 1 = c1 by omega]; exact M2) hA (by omega) (fun z hz => Int.le_of_lt (lt2 z (by rw [c20]; exact hz)))
                  by_cases e5 : c1 - 1 = 0
                  · rw [if_pos (by simpa using e5)]
                    exact wpS_pure ⟨sm3 _, .inl ⟨_, _, rfl, M4.done0 hA hB (.inl e5)⟩⟩
                  · rw [if_neg (by simpa using e5)]
                    split
                    · exact wpS_pure ⟨sm3 _, .inr ⟨_, _, _, _, _, _, rfl, M4, by omega, by omega, by omega, by omega, by omega⟩⟩
                    · exact wpS_pure ⟨sm3 _, _, _, _, _, _, _, rfl, M4, by omega, by omega, by omega, by omega, by omega⟩
          · rw [if_neg k0]
            have c10 : c1 = i := by omega
            refine wpS_bind (s_elemL (i := j - 1) (by omega) ?_)
            have M2 : MHa xa xb (Array.push ou (xb.toList[j - 1]'(by omega))) i (j - 1) := MHa.pushB (by rw [show j - 1 + 1 = j by omega]; exact m) hB (by omega) (fun z hz => le1 z (by rw [c10]; exact hz))
            by_cases e3 : j - 1 = 1
            · rw [if_pos (by simpa using e3)]
              exact wpS_pure ⟨sm3 _, .inl ⟨_, _, rfl, M2.first hA hB hb e3 h0⟩⟩
            · rw [if_neg (by simpa using e3)]
              refine wpS_bind (s_elemL (i := i - 1) (by omega) ?_)
              obtain ⟨c2, hc2, cut2⟩ := cut_of hB (xa.toList[i - 1]'(by omega)) true 0 (j - 1) (by omega)
              obtain ⟨lt2, ge2⟩ := ftrue (by omega) hc2 cut2
              refine wpS_bind (s_gal (c := c2) ((sm3 _).kind.trans hk) hIb (hIa _ (List.getElem_mem _)) (by omega) (by omega) hc2 cut2 ?_)
              dsimp only
              by_cases k1 : j - 1 - c2 > 0
              · rw [if_pos k1]
                have M3 : MHa xa xb (Array.push ou (xb.toList[j - 1]'(by omega)) ++ (xb.extract c2 (j - 1)).reverse) i c2 := M2.extB hB hc2 (by omega) fun t ht h1 h2 z hz => by
                  refine Int.le_trans ?_ (ge2 t ht h1 h2)
                  exact take_le hA (n := i - 1) (by omega) z (by rw [show i - 1 + 1 = i by omega]; exact hz)
                by_cases e4 : c2 = 1
                · rw [if_pos (by simpa using e4)]
                  exact wpS_pure ⟨sm3 _, .inl ⟨_, _, rfl, M3.first hA hB hb e4 h0⟩⟩
                · rw [if_neg (by simpa using e4)]
                  by_cases e6 : c2 = 0
                  · rw [if_pos (by simpa using e6)]
                    exact wpS_pure ⟨sm3 _, .inl ⟨_, _, rfl, M3.done0 hA hB (.inr e6)⟩⟩
                  · rw [if_neg (by simpa using e6)]
                    refine wpS_bind (s_elemL (i := i - 1) (by omega) ?_)
                    have M4 : MHa xa xb (Array.push (Array.push ou (xb.toList[j - 1]'(by omega)) ++ (xb.extract c2 (j - 1)).reverse) (xa.toList[i - 1]'(by omega))) (i - 1) c2 := MHa.pushA (by rw [show i - 1 + 1 = i by omega]; exact M3) hA (by omega) (fun z hz => Int.le_of_lt (lt2 z hz))
                    by_cases e5 : i - 1 = 0
                    · rw [if_pos (by simpa using e5)]
                      exact wpS_pure ⟨sm3 _, .inl ⟨_, _, rfl, M4.done0 hA hB (.inl e5)⟩⟩
                    · rw [if_neg (by simpa using e5)]
                      split
                      · exact wpS_pure ⟨sm3 _, .inr ⟨_, _, _, _, _, _, rfl, M4, by omega, by omega, by omega, by omega, by omega⟩⟩
                      · exact wpS_pure ⟨sm3 _, _, _, _, _, _, _, rfl, M4, by omega, by omega, by omega, by omega, by omega⟩
              · rw [if_neg k1]
                have c20 : c2 = j - 1 := by omega
                refine wpS_bind (s_elemL (i := i - 1) (by omega) ?_)
                have M4 : MHa xa xb (Array.push (Array.push ou (xb.toList[j - 1]'(by omega))) (xa.toList[i - 1]'(by omega))) (i - 1) (j - 1) := MHa.pushA (by rw [show i - 1 + 1 = i by omega]; exact M2) hA (by omega) (fun z hz => Int.le_of_lt (lt2 z (by rw [c20]; exact hz)))
                by_cases e5 : i - 1 = 0
                · rw [if_pos (by simpa using e5)]
                  exact wpS_pure ⟨sm3 _, .inl ⟨_, _, rfl, M4.done0 hA hB (.inl e5)⟩⟩
                · rw [if_neg (by simpa using e5)]
                  split
                  · exact wpS_pure ⟨sm3 _, .inr ⟨_, _, _, _, _, _, rfl, M4, by omega, by omega, by omega, by omega, by omega⟩⟩
                  · exact wpS_pure ⟨sm3 _, _, _, _, _, _, _, rfl, M4, by omega, by omega, by omega, by omega, by omega⟩
        · rw [if_neg hmg]
          refine wpS_bind (s_setG (wpS_bind (s_elemL (i := j - 1) (by omega) ?_)))
          refine wpS_bind (s_gal (c := c1) ((sm3 _).kind.trans hk) hIa (hIb _ (List.getElem_mem _)) (by omega) (by omega) hc1 cut1 ?_)
          dsimp only
          by_cases k0 : i - c1 > 0
          · rw [if_pos k0]
            by_cases e1 : c1 = 0
            · rw [if_pos (by simpa using e1)]
              exact wpS_pure ⟨sm3 _, .inl ⟨_, _, rfl, m1.done0 hA hB (.inl e1)⟩⟩
            · rw [if_neg (by simpa using e1)]
              refine wpS_bind (s_elemL (i := j - 1) (by omega) ?_)
              have M2 : MHa xa xb (Array.push (ou ++ (xa.extract c1 i).reverse) (xb.toList[j - 1]'(by omega))) c1 (j - 1) := MHa.pushB (by rw [show j - 1 + 1 = j by omega]; exact m1) hB (by omega) (fun z hz => le1 z hz)
              by_cases e3 : j - 1 = 1
              · rw [if_pos (by simpa using e3)]
                exact wpS_pure ⟨sm3 _, .inl ⟨_, _, rfl, M2.first hA hB hb e3 h0⟩⟩
              · rw [if_neg (by simpa using e3)]
                refine wpS_bind (s_elemL (i := c1 - 1) (by omega) ?_)
                obtain ⟨c2, hc2, cut2⟩ := cut_of hB (xa.toList[c1 - 1]'(by omega)) true 0 (j - 1) (by omega)
                obtain ⟨lt2, ge2⟩ := ftrue (by omega) hc2 cut2
                refine wpS_bind (s_gal (c := c2) ((sm3 _).kind.trans hk) hIb (hIa _ (List.getElem_mem _)) (by omega) (by omega) hc2 cut2 ?_)
                dsimp only
                by_cases k1 : j - 1 - c2 > 0
                · rw [if_pos k1]
                  have M3 : MHa xa xb (Array.push (ou ++ (xa.extract c1 i).reverse) (xb.toList[j - 1]'(by omega)) ++ (xb.extract c2 (j - 1)).reverse) c1 c2 := M2.extB hB hc2 (by omega) fun t ht h1 h2 z hz => by
                    refine Int.le_trans ?_ (ge2 t ht h1 h2)
                    exact take_le hA (n := c1 - 1) (by omega) z (by rw [show c1 - 1 + 1 = c1 by omega]; exact hz)
                  by_cases e4 : c2 = 1
                  · rw [if_pos (by simpa using e4)]
                    exact wpS_pure ⟨sm3 _, .inl ⟨_, _, rfl, M3.first hA hB hb e4 h0⟩⟩
                  · rw [if_neg (by simpa using e4)]
                    by_cases e6 : c2 = 0
                    · rw [if_pos (by simpa using e6)]
                      exact wpS_pure ⟨sm3 _, .inl ⟨_, _, rfl, M3.done0 hA hB (.inr e6)⟩⟩
                    · rw [if_neg (by simpa using e6)]
                      refine wpS_bind (s_elemL (i := c1 - 1) (by omega) ?_)
                      have M4 : MHa xa xb (Array.push (Array.push (ou ++ (xa.extract c1 i).reverse) (xb.toList[j - 1]'(by omega)) ++ (xb.extract c2 (j - 1)).reverse) (xa.toList[c1 - 1]'(by omega))) (c1 - 1) c2 := MHa.pushA (by rw [show c1 - 1 + 1 = c1 by omega]; exact M3) hA (by omega) (fun z hz => Int.le_of_lt (lt2 z hz))
                      by_cases e5 : c1 - 1 = 0
                      · rw [if_pos (by simpa using e5)]
                        exact wpS_pure ⟨sm3 _, .inl ⟨_, _, rfl, M4.done0 hA hB (.inl e5)⟩⟩
                      · rw [if_neg (by simpa using e5)]
                        split
                        · exact wpS_pure ⟨sm3 _, .inr ⟨_, _, _, _, _, _, rfl, M4, by omega, by omega, by omega, by omega, by omega⟩⟩
                        · exact wpS_pure ⟨sm3 _, _, _, _, _, _, _, rfl, M4, by omega, by omega, by omega, by omega, by omega⟩
                · rw [if_neg k1]
                  have c20 : c2 = j - 1 := by omega
                  refine wpS_bind (s_elemL (i := c1 - 1) (by omega) ?_)
                  have M4 : MHa xa xb (Array.push (Array.push (ou ++ (xa.extract c1 i).reverse) (xb.toList[j - 1]'(by omega))) (xa.toList[c1 - 1]'(by omega))) (c1 - 1) (j - 1) := MHa.pushA (by rw [show c1 - 1 + 1 = c1 by omega]; exact M2) hA (by omega) (fun z hz => Int.le_of_lt (lt2 z (by rw [c20]; exact hz)))
                  by_cases e5 : c1 - 1 = 0
                  · rw [if_pos (by simpa using e5)]
                    exact wpS_pure ⟨sm3 _, .inl ⟨_, _, rfl, M4.done0 hA hB (.inl e5)⟩⟩
                  · rw [if_neg (by simpa using e5)]
                    split
                    · exact wpS_pure ⟨sm3 _, .inr ⟨_, _, _, _, _, _, rfl, M4, by omega, by omega, by omega, by omega, by omega⟩⟩
                    · exact wpS_pure ⟨sm3 _, _, _, _, _, _, _, rfl, M4, by omega, by omega, by omega, by omega, by omega⟩
          · rw [if_neg k0]
            have c10 : c1 = i := by omega
            refine wpS_bind (s_elemL (i := j - 1) (by omega) ?_)
            have M2 : MHa xa xb (Array.push ou (xb.toList[j - 1]'(by omega))) i (j - 1) := MHa.pushB (by rw [show j - 1 + 1 = j by omega]; exact m) hB (by omega) (fun z hz => le1 z (by rw [c10]; exact hz))
            by_cases e3 : j - 1 = 1
            · rw [if_pos (by simpa using e3)]
              exact wpS_pure ⟨sm3 _, .inl ⟨_, _, rfl, M2.first hA hB hb e3 h0⟩⟩
            · rw [if_neg (by simpa using e3)]
              refine wpS_bind (s_elemL (i := i - 1) (by omega) ?_)
              obtain ⟨c2, hc2, cut2⟩ := cut_of hB (xa.toList[i - 1]'(by omega)) true 0 (j - 1) (by omega)
              obtain ⟨lt2, ge2⟩ := ftrue (by omega) hc2 cut2
              refine wpS_bind (s_gal (c := c2) ((sm3 _).kind.trans hk) hIb (hIa _ (List.getElem_mem _)) (by omega) (by omega) hc2 cut2 ?_)
              dsimp only
              by_cases k1 : j - 1 - c2 > 0
              · rw [if_pos k1]
                have M3 : MHa xa xb (Array.push ou (xb.toList[j - 1]'(by omega)) ++ (xb.extract c2 (j - 1)).reverse) i c2 := M2.extB hB hc2 (by omega) fun t ht h1 h2 z hz => by
                  refine Int.le_trans ?_ (ge2 t ht h1 h2)
                  exact take_le hA (n := i - 1) (by omega) z (by rw [show i - 1 + 1 = i by omega]; exact hz)
                by_cases e4 : c2 = 1
                · rw [if_pos (by simpa using e4)]
                  exact wpS_pure ⟨sm3 _, .inl ⟨_, _, rfl, M3.first hA hB hb e4 h0⟩⟩
                · rw [if_neg (by simpa using e4)]
                  by_cases e6 : c2 = 0
                  · rw [if_pos (by simpa using e6)]
                    exact wpS_pure ⟨sm3 _, .inl ⟨_, _, rfl, M3.done0 hA hB (.inr e6)⟩⟩
                  · rw [if_neg (by simpa using e6)]
                    refine wpS_bind (s_elemL (i := i - 1) (by omega) ?_)
                    have M4 : MHa xa xb (Array.push (Array.push ou (xb.toList[j - 1]'(by omega)) ++ (xb.extract c2 (j - 1)).reverse) (xa.toList[i - 1]'(by omega))) (i - 1) c2 := MHa.pushA (by rw [show i - 1 + 1 = i by omega]; exact M3) hA (by omega) (fun z hz => Int.le_of_lt (lt2 z hz))
                    by_cases e5 : i - 1 = 0
                    · rw [if_pos (by simpa using e5)]
                      exact wpS_pure ⟨sm3 _, .inl ⟨_, _, rfl, M4.done0 hA hB (.inl e5)⟩⟩
                    · rw [if_neg (by simpa using e5)]
                      split
                      · exact wpS_pure ⟨sm3 _, .inr ⟨_, _, _, _, _, _, rfl, M4, by omega, by omega, by omega, by omega, by omega⟩⟩
                      · exact wpS_pure ⟨sm3 _, _, _, _, _, _, _, rfl, M4, by omega, by omega, by omega, by omega, by omega⟩
              · rw [if_neg k1]
                have c20 : c2 = j - 1 := by omega
                refine wpS_bind (s_elemL (i := i - 1) (by omega) ?_)
                have M4 : MHa xa xb (Array.push (Array.push ou (xb.toList[j - 1]'(by omega))) (xa.toList[i - 1]'(by omega))) (i - 1) (j - 1) := MHa.pushA (by rw [show i - 1 + 1 = i by omega]; exact M2) hA (by omega) (fun z hz => Int.le_of_lt (lt2 z (by rw [c20]; exact hz)))
                by_cases e5 : i - 1 = 0
                · rw [if_pos (by simpa using e5)]
                  exact wpS_pure ⟨sm3 _, .inl ⟨_, _, rfl, M4.done0 hA hB (.inl e5)⟩⟩
                · rw [if_neg (by simpa using e5)]
                  split
                  · exact wpS_pure ⟨sm3 _, .inr ⟨_, _, _, _, _, _, rfl, M4, by omega, by omega, by omega, by omega, by omega⟩⟩
                  · exact wpS_pure ⟨sm3 _, _, _, _, _, _, _, rfl, M4, by omega, by omega, by omega, by omega, by omega⟩
end
end SRV
set_option Elab.async false
set_option linter.all false
set_option maxRecDepth 100000
set_option maxHeartbeats 4000000
namespace SRV
open PySem
open PyProof.Rows hiding K SortedTo K_bubble K_mirror K_congr K_mirror_equal
variable [KV]
noncomputable def PM : List (Nat × Nat × Nat) → List (List Keyed) → Nat → Prop
  | [], [], _ => True
  | p :: r, l :: ls, lo => p.1 = lo ∧ p.2.1 = l.length ∧ PM r ls (lo + l.length)
  | _, _, _ => False
theorem PM.len : ∀ {ps : List (Nat × Nat × Nat)} {ls : List (List Keyed)} {lo : Nat}, PM ps ls lo → ps.length = ls.length
  | [], [], _, _ => rfl
  | _ :: r, _ :: ls, lo, h => by rw [List.length_cons, List.length_cons, PM.len h.2.2]
  | [], _ :: _, _, h => h.elim
  | _ :: _, [], _, h => h.elim
theorem PM.at : ∀ {ps : List (Nat × Nat × Nat)} {a : List (List Keyed)} {l : List Keyed} {b : List (List Keyed)} {lo : Nat}, PM ps (a ++ l :: b) lo → ∃ pw, ps[a.length]? = some (lo + a.flatten.length, l.length, pw)
  | (s, n, p) :: r, [], l, b, lo, h => ⟨p, by have h1 := h.1; have h2 := h.2.1; simp only at h1 h2; subst h1 h2; rfl⟩
  | p :: r, x :: a, l, b, lo, h => by
    obtain ⟨pw, e⟩ := PM.at (a := a) h.2.2
    refine ⟨pw, ?_⟩
    rw [List.length_cons, List.getElem?_cons_succ, e, List.flatten_cons, List.length_append, Nat.add_assoc]
  | [], [], _, _, _, h => h.elim
  | [], _ :: _, _, _, _, h => h.elim
theorem PM.merge : ∀ {ps : List (Nat × Nat × Nat)} {a : List (List Keyed)} {l m : List Keyed} {b : List (List Keyed)} {lo : Nat} {x : List Keyed} {pw : Nat}, PM ps (a ++ l :: m :: b) lo → x.length = l.length + m.length →
    PM ((ps.set a.length (lo + a.flatten.length, l.length + m.length, pw)).eraseIdx (a.length + 1)) (a ++ x :: b) lo
  | p :: q :: r, [], l, m, b, lo, x, pw, h, hx => by
    obtain ⟨h1, h2, h3, h4, h5⟩ := h
    show PM ((lo + 0, l.length + m.length, pw) :: r) (x :: b) lo
    refine ⟨rfl, hx.symm, ?_⟩
    rw [hx, ← Nat.add_assoc]
    exact h5
  | p :: r, y :: a, l, m, b, lo, x, pw, h, hx => by
    obtain ⟨h1, h2, h3⟩ := h
    have ih := PM.merge (pw := pw) h3 hx
    show PM (p :: ((r.set a.length _).eraseIdx (a.length + 1))) (y :: (a ++ x :: b)) lo
    refine ⟨h1, h2, ?_⟩
    rw [List.flatten_cons, List.length_append, ← Nat.add_assoc]
    exact ih
  | [], [], _, _, _, _, _, _, h, _ => h.elim
  | [_], [], _, _, _, _, _, _, h, _ => h.2.2.elim
  | [], _ :: _, _, _, _, _, _, _, h, _ => h.elim
theorem seg_at {xs : Array Keyed} {pre R post : List Keyed} (e : xs.toList = pre ++ R ++ post) {t : Nat} (ht : t < R.length) : xs[pre.length + t]? = some R[t] := by
  rw [← Array.getElem?_toList, e, List.append_assoc, List.getElem?_append_right (by omega), Nat.add_sub_cancel_left, List.getElem?_append_left ht, List.getElem?_eq_getElem ht]
theorem cut_seg {xs : Array Keyed} {R : List Keyed} (hs : R.Pairwise Le) (ky : Keyed) (lf : Bool) (bs : Nat) (hK : ∀ t (h : t < R.length), K xs (bs + t) = kv R[t]) : ∃ c, c ≤ R.length ∧ ∀ i, i < R.length → Byd lf ky xs bs i = decide (i < c) := by
  have down : ∀ i j, i ≤ j → j < R.length → Byd lf ky xs bs j = true → Byd lf ky xs bs i = true := fun i j hij hj h => by
    have hm : kv (R[i]'(by omega)) ≤ kv R[j] := by
      by_cases e : i = j
      · subst e; exact Int.le_refl _
      · exact List.pairwise_iff_getElem.mp hs _ _ _ _ (by omega)
    unfold Byd at h ⊢
    rw [hK j hj] at h
    rw [hK i (by omega)]
    cases lf with
    | true => simp only [if_true, decide_eq_true_eq] at h ⊢; omega
    | false => simp only [Bool.false_eq_true, if_false, Bool.not_eq_true', decide_eq_false_iff_not] at h ⊢; omega
  have main : ∀ n, n ≤ R.length → ∃ c, c ≤ n ∧ ∀ i, i < n → Byd lf ky xs bs i = decide (i < c) := by
    intro n
    induction n with
    | zero => exact fun _ => ⟨0, Nat.le_refl _, fun i hi => absurd hi (Nat.not_lt_zero _)⟩
    | succ n ih =>
      intro hn
      obtain ⟨c, hc, hd⟩ := ih (by omega)
      by_cases hb : Byd lf ky xs bs n = true
      · refine ⟨n + 1, Nat.le_refl _, fun i hi => ?_⟩
        rw [decide_eq_true hi]
        exact down i n (by omega) (by omega) hb
      · refine ⟨c, by omega, fun i hi => ?_⟩
        by_cases h : i = n
        · subst h
          rw [decide_eq_false (by omega)]
          exact Bool.not_eq_true _ ▸ (by simpa using hb)
        · exact hd i (by omega)
  exact main _ (Nat.le_refl _)
theorem write_back : ∀ (l : List Keyed) (k off : Nat) (xs : Array Keyed), off + k + l.length ≤ xs.size → ((l.zipIdx k).foldl (fun a (x : Keyed × Nat) => a.setIfInBounds (off + x.2) x.1) xs).toList = xs.toList.take (off + k) ++ l ++ xs.toList.drop (off + k + l.length)
  | [], k, off, xs, _ => by simp
  | p :: l, k, off, xs, h => by
    rw [List.zipIdx_cons, List.foldl_cons]
    rw [List.length_cons] at h
    rw [write_back l (k + 1) off _ (by rw [Array.size_setIfInBounds]; omega)]
    rw [Array.toList_setIfInBounds]
    have hlen : off + k < xs.toList.length := by rw [Array.length_toList]; omega
    rw [List.drop_set_of_lt (by omega), List.length_cons]
    have e1 : (xs.toList.set (off + k) p).take (off + (k + 1)) = xs.toList.take (off + k) ++ [p] := by
      rw [← Nat.add_assoc, List.take_succ, List.take_set_of_le (by omega), List.getElem?_set_self hlen]
      rfl
    have e2 : off + (k + 1) + l.length = off + k + (l.length + 1) := by omega
    rw [e1, e2]
    simp
theorem pw3 {a b c : List Keyed} (ha : a.Pairwise Le) (hb : b.Pairwise Le) (hc : c.Pairwise Le) (hab : ∀ x ∈ a, ∀ y ∈ b, kv x ≤ kv y) (hac : ∀ x ∈ a, ∀ y ∈ c, kv x ≤ kv y) (hbc : ∀ x ∈ b, ∀ y ∈ c, kv x ≤ kv y) : (a ++ b ++ c).Pairwise Le := by
  refine List.pairwise_append.mpr ⟨List.pairwise_append.mpr ⟨ha, hb, hab⟩, hc, fun x hx y hy => ?_⟩
  rcases List.mem_append.mp hx with hx | hx
  · exact hac x hx y hy
  · exact hbc x hx y hy
noncomputable def mat : Nat → StateT SortSt Sem Bool := sortPriv% PySem.Builtin.mergeAt
theorem mat_is : mergeAt' = mat := rfl
theorem mat_eq (i : Nat) : mat i = (do
  let z ← get
  let (some (p, n, pw), some (q, m, _)) := ((pendingOf z)[i]?, (pendingOf z)[i + 1]?) | unsupported "internal:list.sort.pending"
  set (setPending z (((pendingOf z).setIfInBounds i (p, n + m, pw)).eraseIdxIfInBounds (i + 1)))
  let some k ← gal false (← elem' (arrOf z) q) (arrOf z) p n 0 | return false
  let (p, n) := (p + k, n - k)
  if n == 0 then return true
  let some m ← gal true (← elem' (arrOf z) (p + n - 1)) (arrOf z) q m (m - 1) | return false
  if m == 0 then return true
  let x := (arrOf z).extract p q
  let y := (arrOf z).extract q (q + m)
  let mg ← if n ≤ m then mlo x y else mhi x y
  modify fun v => setArr v (mg.toList.zipIdx.foldl (fun a (u, j) => a.setIfInBounds (p + j) u) (arrOf v))
  return (failedOf (← get)).isNone) := rfl
end SRV
set_option Elab.async false
set_option linter.all false
set_option maxRecDepth 100000
set_option maxHeartbeats 4000000
namespace SRV
open PySem
open PyProof.Rows hiding K SortedTo K_bubble K_mirror K_congr K_mirror_equal
variable [KV]
theorem s_set {prog : Program} {w : World} {A : Around} {E : Value → Shared → Prop} {st v : SortSt} {Q : PUnit → SortSt → Prop} (h : Q ⟨⟩ v) : wpS (model prog w) A E KV.sh (set v : StateT SortSt Sem PUnit) Q st := by
  unfold wpS
  rw [StateT.run_set]
  exact wpAny_pure ⟨rfl, h⟩
theorem drop_pre : ∀ (p z : List Keyed) (c : Nat), (p ++ z).drop (p.length + c) = z.drop c
  | [], z, c => by simp
  | x :: p, z, c => by
    rw [List.length_cons, show p.length + 1 + c = p.length + c + 1 by omega, List.cons_append, List.drop_succ_cons]
    exact drop_pre p z c
theorem ext_seg {xs : Array Keyed} {pre R post : List Keyed} (e : xs.toList = pre ++ R ++ post) (c d : Nat) (hd : d ≤ R.length) (hc : c ≤ d) : (xs.extract (pre.length + c) (pre.length + d)).toList = (R.drop c).take (d - c) := by
  rw [Array.toList_extract, List.extract_eq_drop_take, e, List.append_assoc, drop_pre]
  have : (R ++ post).drop c = R.drop c ++ post := List.drop_append_of_le_length (by omega)
  rw [this, show pre.length + d - (pre.length + c) = d - c by omega, List.take_append_of_le_length (by rw [List.length_drop]; omega)]
theorem AllI.sub {xs ys : Array Keyed} (h : AllI xs) (hs : ∀ p ∈ ys.toList, p ∈ xs.toList) : AllI ys := fun p hp => h p (hs p hp)
section
variable {prog : Program} {w : World} {A : Around} {E : Value → Shared → Prop}
structure Kept (a b : SortSt) : Prop where
  kind : kindOf b = kindOf a
  fail : failedOf b = failedOf a
theorem s_mat {st : SortSt} {L1 L2 : List (List Keyed)} {R1 R2 rest : List Keyed} {Q : Bool → SortSt → Prop} (hk : kindOf st = KV.kind) (hf : failedOf st = none) (hI : AllI (arrOf st))
    (ha : (arrOf st).toList = (L1 ++ R1 :: R2 :: L2).flatten ++ rest) (pm : PM (pendingOf st).toList (L1 ++ R1 :: R2 :: L2) 0) (n1 : R1 ≠ []) (n2 : R2 ≠ []) (s1 : R1.Pairwise Le) (s2 : R2.Pairwise Le)
    (h : ∀ st' R, Kept st st' → R.Perm (R1 ++ R2) → R.Pairwise Le → (arrOf st').toList = (L1 ++ R :: L2).flatten ++ rest → PM (pendingOf st').toList (L1 ++ R :: L2) 0 → Q true st') : wpS (model prog w) A E KV.sh (mat L1.length) Q st := by
  have p1 : 0 < R1.length := List.length_pos_iff.mpr n1
  have p2 : 0 < R2.length := List.length_pos_iff.mpr n2
  obtain ⟨pw, e1⟩ := pm.at
  have e2' := (show PM (pendingOf st).toList ((L1 ++ [R1]) ++ R2 :: L2) 0 by rw [List.append_assoc]; exact pm).at
  obtain ⟨pw2, e2⟩ := e2'
  rw [List.length_append, List.length_singleton, List.flatten_append, List.flatten_cons, List.flatten_nil, List.append_nil, List.length_append] at e2
  rw [Array.getElem?_toList] at e1 e2
  have ea : (arrOf st).toList = L1.flatten ++ R1 ++ (R2 ++ L2.flatten ++ rest) := by rw [ha]; simp
  have eb : (arrOf st).toList = (L1.flatten ++ R1) ++ R2 ++ (L2.flatten ++ rest) := by rw [ha]; simp
  have hsz : (arrOf st).size = L1.flatten.length + R1.length + R2.length + L2.flatten.length + rest.length := by
    rw [← Array.length_toList, ha]
    simp only [List.flatten_append, List.flatten_cons, List.length_append]
    omega
  have pmR : ∀ R : List Keyed, R.length = R1.length + R2.length → PM (((pendingOf st).setIfInBounds L1.length (0 + L1.flatten.length, R1.length + R2.length, pw)).eraseIdxIfInBounds (L1.length + 1)).toList (L1 ++ R :: L2) 0 := fun R hR => by
    have := PM.merge (pw := pw) pm hR
    rw [Array.toList_eraseIdxIfInBounds, Array.toList_setIfInBounds]
    exact this
  have join : (L1 ++ (R1 ++ R2) :: L2).flatten ++ rest = (arrOf st).toList := by rw [ha]; simp
  rw [mat_eq]
  refine wpS_bind (wpS_get ?_)
  rw [e1, e2]
  dsimp only
  refine wpS_bind (s_set ?_)
  have g2 : (arrOf st)[0 + (L1.flatten.length + R1.length)]? = some R2[0] := by
    have := seg_at eb p2
    rw [List.length_append, Nat.add_zero] at this
    rw [Nat.zero_add]; exact this
  refine wpS_bind (s_elem g2 ?_)
  have hK1 : ∀ t (ht : t < R1.length), K (arrOf st) (0 + L1.flatten.length + t) = kv R1[t] := fun t ht => by
    rw [Nat.zero_add]; exact K_of (seg_at ea ht)
  have hK2 : ∀ t (ht : t < R2.length), K (arrOf st) (0 + (L1.flatten.length + R1.length) + t) = kv R2[t] := fun t ht => by
    have := K_of (seg_at eb ht)
    rw [List.length_append] at this
    rw [Nat.zero_add]; exact this
  have hI2 : IsI R2[0] := hI _ (by rw [eb]; exact List.mem_append_left _ (List.mem_append_right _ (List.getElem_mem _)))
  obtain ⟨c, hc, cut⟩ := cut_seg s1 R2[0] false (0 + L1.flatten.length) hK1
  have lo : ∀ t (ht : t < R1.length), t < c → kv R1[t] ≤ kv R2[0] := fun t ht htc => by
    have := cut t ht
    unfold Byd at this
    rw [hK1 t ht, decide_eq_true htc] at this
    simp only [Bool.false_eq_true, if_false, Bool.not_eq_true', decide_eq_false_iff_not] at this
    omega
  have up : ∀ t (ht : t < R1.length), c ≤ t → kv R2[0] < kv R1[t] := fun t ht htc => by
    have := cut t ht
    unfold Byd at this
    rw [hK1 t ht, decide_eq_false (show ¬ t < c by omega)] at this
    simpa using this
  refine wpS_bind (s_gal (st := setPending st _) (c := c) hk hI hI2 (by omega) p1 hc cut ?_)
  dsimp only
  have b0 : ∀ y ∈ R2, kv R2[0] ≤ kv y := fun y hy => head_le s2 p2 y (by simpa using hy)
  by_cases c1 : R1.length - c = 0
  · rw [if_pos (by simpa using c1)]
    refine wpS_pure (h _ (R1 ++ R2) ⟨rfl, rfl⟩ (List.Perm.refl _) ?_ join.symm (pmR _ (by rw [List.length_append])))
    refine List.pairwise_append.mpr ⟨s1, s2, fun x hx y hy => ?_⟩
    obtain ⟨t, ht, rfl⟩ := List.mem_iff_getElem.mp hx
    exact Int.le_trans (lo t ht (by omega)) (b0 y hy)
  rw [if_neg (by simpa using c1)]
  have gl : (arrOf st)[0 + L1.flatten.length + c + (R1.length - c) - 1]? = some (R1[R1.length - 1]'(by omega)) := by
    have := seg_at ea (t := R1.length - 1) (by omega)
    rw [show 0 + L1.flatten.length + c + (R1.length - c) - 1 = L1.flatten.length + (R1.length - 1) by omega]; exact this
  refine wpS_bind (s_elem gl ?_)
  have hI1 : IsI (R1[R1.length - 1]'(by omega)) := hI _ (by rw [ea]; exact List.mem_append_left _ (List.mem_append_right _ (List.getElem_mem _)))
  obtain ⟨d, hd, cut2⟩ := cut_seg s2 (R1[R1.length - 1]'(by omega)) true (0 + (L1.flatten.length + R1.length)) hK2
  have lo2 : ∀ t (ht : t < R2.length), t < d → kv R2[t] < kv (R1[R1.length - 1]'(by omega)) := fun t ht htc => by
    have := cut2 t ht
    unfold Byd at this
    rw [hK2 t ht, decide_eq_true htc] at this
    simpa using this
  have up2 : ∀ t (ht : t < R2.length), d ≤ t → kv (R1[R1.length - 1]'(by omega)) ≤ kv R2[t] := fun t ht htc => by
    have := cut2 t ht
    unfold Byd at this
    rw [hK2 t ht, decide_eq_false (show ¬ t < d by omega)] at this
    simpa using this
  refine wpS_bind (s_gal (st := setPending st _) (c := d) hk hI hI1 (by omega) (by omega) hd cut2 ?_)
  dsimp only
  have lastA : ∀ x ∈ R1, kv x ≤ kv (R1[R1.length - 1]'(by omega)) := fun x hx => by
    refine take_le s1 (n := R1.length - 1) (by omega) x ?_
    rw [List.take_of_length_le (by omega)]; exact hx
  by_cases c2 : d = 0
  · rw [if_pos (by simpa using c2)]
    refine wpS_pure (h _ (R1 ++ R2) ⟨rfl, rfl⟩ (List.Perm.refl _) ?_ join.symm (pmR _ (by rw [List.length_append])))
    refine List.pairwise_append.mpr ⟨s1, s2, fun x hx y hy => ?_⟩
    exact Int.le_trans (lastA x hx) (Int.le_trans (up2 0 p2 (by omega)) (b0 y hy))
  rw [if_neg (by simpa using c2)]
  have ex : ((arrOf st).extract (0 + L1.flatten.length + c) (0 + (L1.flatten.length + R1.length))).toList = R1.drop c := by
    have := ext_seg ea c R1.length (Nat.le_refl _) hc
    rw [Nat.zero_add, Nat.zero_add, this, List.take_of_length_le (by rw [List.length_drop]; exact Nat.le_refl _)]
  have ey : ((arrOf st).extract (0 + (L1.flatten.length + R1.length)) (0 + (L1.flatten.length + R1.length) + d)).toList = R2.take d := by
    have := ext_seg eb 0 d hd (Nat.zero_le _)
    rw [List.length_append, Nat.add_zero, List.drop_zero, Nat.sub_zero] at this
    rw [Nat.zero_add]; exact this
  generalize hx : (arrOf st).extract (0 + L1.flatten.length + c) (0 + (L1.flatten.length + R1.length)) = xx at ex ⊢
  generalize hy : (arrOf st).extract (0 + (L1.flatten.length + R1.length)) (0 + (L1.flatten.length + R1.length) + d) = yy at ey ⊢
  have Ix : AllI xx := hI.sub fun p hp => by rw [ex] at hp; rw [ea]; exact List.mem_append_left _ (List.mem_append_right _ (List.mem_of_mem_drop hp))
  have Iy : AllI yy := hI.sub fun p hp => by rw [ey] at hp; rw [eb]; exact List.mem_append_left _ (List.mem_append_right _ (List.mem_of_mem_take hp))
  have Sx : xx.toList.Pairwise Le := by rw [ex]; exact s1.sublist (List.drop_sublist _ _)
  have Sy : yy.toList.Pairwise Le := by rw [ey]; exact s2.sublist (List.take_sublist _ _)
  have lx : xx.toList.length = R1.length - c := by rw [ex, List.length_drop]
  have ly : yy.toList.length = d := by rw [ey, List.length_take]; omega
  have y0 : yy.toList[0]'(by omega) = R2[0] := by simp only [ey, List.getElem_take]
  have xl : xx.toList[xx.toList.length - 1]'(by omega) = R1[R1.length - 1]'(by omega) := by
    simp only [ex, List.getElem_drop, List.length_drop]
    congr 1
    omega
  have h0 : ∀ z ∈ xx.toList, kv (yy.toList[0]'(by omega)) ≤ kv z := fun z hz => by
    rw [y0]
    rw [ex] at hz
    obtain ⟨u, hu, rfl⟩ := mem_dropE hz
    exact Int.le_of_lt (up _ hu (by omega))
  have hl : ∀ z ∈ yy.toList, kv z ≤ kv (xx.toList[xx.toList.length - 1]'(by omega)) := fun z hz => by
    rw [xl]
    rw [ey] at hz
    obtain ⟨u, hu, rfl⟩ := List.mem_iff_getElem.mp hz
    rw [List.length_take] at hu
    rw [List.getElem_take]
    exact Int.le_of_lt (lo2 u (by omega) (by omega))
  have fin : ∀ (o : Array Keyed) (st2 : SortSt), SameSt (setPending st (((pendingOf st).setIfInBounds L1.length (0 + L1.flatten.length, R1.length + R2.length, pw)).eraseIdxIfInBounds (L1.length + 1))) st2 → Mer xx.toList yy.toList o.toList →
      wpS (model prog w) A E KV.sh (do modify fun v => setArr v (o.toList.zipIdx.foldl (fun a (u, j) => a.setIfInBounds (0 + L1.flatten.length + c + j) u) (arrOf v)); return (failedOf (← get)).isNone) Q st2 := by
    intro o st2 sm me
    refine wpS_bind (wpS_modify (wpS_bind (wpS_get ?_)))
    have hf2 : failedOf st2 = none := sm.fail.trans hf
    show wpS _ _ _ _ (pure (failedOf st2).isNone) Q _
    rw [hf2]
    have harr : arrOf st2 = arrOf st := sm.arr
    have lo' : o.toList.length = R1.length - c + d := by rw [me.perm.length_eq, List.length_append, lx, ly]
    have hwb := write_back o.toList 0 (0 + L1.flatten.length + c) (arrOf st) (by rw [lo']; omega)
    refine wpS_pure (h _ (R1.take c ++ o.toList ++ R2.drop d) ⟨sm.kind, sm.fail⟩ ?_ ?_ ?_ ?_)
    · have e := me.perm
      rw [ex, ey] at e
      have e3 : (R1.take c ++ o.toList ++ R2.drop d).Perm (R1.take c ++ (R1.drop c ++ R2.take d) ++ R2.drop d) := List.Perm.append_right _ (List.Perm.append_left _ e)
      have e4 : R1.take c ++ (R1.drop c ++ R2.take d) ++ R2.drop d = R1 ++ R2 := by
        rw [← List.append_assoc, List.take_append_drop, List.append_assoc, List.take_append_drop]
      rw [e4] at e3
      exact e3
    · have om : ∀ z ∈ o.toList, z ∈ R1.drop c ∨ z ∈ R2.take d := fun z hz => by
        have := me.perm.mem_iff.mp hz
        rw [ex, ey] at this
        exact List.mem_append.mp this
      have ta : ∀ x ∈ R1.take c, kv x ≤ kv R2[0] := fun x hx => by
        obtain ⟨u, hu, rfl⟩ := List.mem_iff_getElem.mp hx
        rw [List.length_take] at hu
        rw [List.getElem_take]
        exact lo u (by omega) (by omega)
      have td : ∀ y ∈ R2.drop d, kv (R1[R1.length - 1]'(by omega)) ≤ kv y := fun y hy => by
        obtain ⟨u, hu, rfl⟩ := mem_dropE hy
        exact up2 _ hu (by omega)
      refine pw3 (s1.sublist (List.take_sublist _ _)) me.srt (s2.sublist (List.drop_sublist _ _)) (fun x hx y hy => ?_) (fun x hx y hy => ?_) (fun x hx y hy => ?_)
      · rcases om y hy with hy | hy
        · obtain ⟨u, hu, rfl⟩ := mem_dropE hy
          exact Int.le_trans (ta x hx) (Int.le_of_lt (up _ hu (by omega)))
        · exact Int.le_trans (ta x hx) (b0 y (List.mem_of_mem_take hy))
      · exact Int.le_trans (ta x hx) (b0 y (List.mem_of_mem_drop hy))
      · rcases om x hx with hx | hx
        · exact Int.le_trans (lastA x (List.mem_of_mem_drop hx)) (td y hy)
        · obtain ⟨u, hu, rfl⟩ := List.mem_iff_getElem.mp hx
          rw [List.length_take] at hu
          rw [List.getElem_take]
          exact Int.le_trans (Int.le_of_lt (lo2 u (by omega) (by omega))) (td y hy)
    · show (o.toList.zipIdx.foldl (fun a (x : Keyed × Nat) => a.setIfInBounds (0 + L1.flatten.length + c + x.2) x.1) (arrOf st2)).toList = _
      rw [harr]
      refine hwb.trans ?_
      rw [Nat.add_zero, lo']
      have t1 : (arrOf st).toList.take (0 + L1.flatten.length + c) = L1.flatten ++ R1.take c := by
        rw [ea, List.append_assoc, Nat.zero_add, List.take_append, List.take_of_length_le (by omega), Nat.add_sub_cancel_left, List.take_append_of_le_length (by omega)]
      have t2 : (arrOf st).toList.drop (0 + L1.flatten.length + c + (R1.length - c + d)) = R2.drop d ++ (L2.flatten ++ rest) := by
        rw [eb, List.append_assoc, show 0 + L1.flatten.length + c + (R1.length - c + d) = (L1.flatten ++ R1).length + d by rw [List.length_append]; omega, drop_pre, List.drop_append_of_le_length (by omega)]
      rw [t1, t2]
      simp only [List.flatten_append, List.flatten_cons, List.append_assoc]
    · show PM (pendingOf st2).toList _ _
      rw [sm.pend]
      refine pmR _ ?_
      rw [List.length_append, List.length_append, List.length_take, List.length_drop, lo']
      omega
  by_cases c3 : R1.length - c ≤ d
  · rw [if_pos c3]
    exact wpS_bind (s_mlo hk Ix Iy Sx Sy (by omega) (by omega) h0 hl fun o st2 sm me => fin o st2 sm me)
  · rw [if_neg c3]
    exact wpS_bind (s_mhi hk Ix Iy Sx Sy (by omega) (by omega) h0 hl fun o st2 sm me => fin o st2 sm me)
end
end SRV
set_option Elab.async false
set_option linter.all false
set_option maxRecDepth 100000
set_option maxHeartbeats 4000000
namespace SRV
open PySem
open PyProof.Rows hiding K SortedTo K_bubble K_mirror K_congr K_mirror_equal
variable [KV]
structure SX (a₀ : Array Keyed) (lo : Nat) (st₀ st : SortSt) : Prop where
  perm : (arrOf st).Perm a₀
  kind : kindOf st = KV.kind
  fail : failedOf st = none
  pend : pendingOf st = pendingOf st₀
  pre : ∀ k, k < lo → (arrOf st)[k]? = a₀[k]?
theorem SX.size {a₀ : Array Keyed} {lo : Nat} {st₀ st : SortSt} (h : SX a₀ lo st₀ st) : (arrOf st).size = a₀.size := h.perm.size_eq
theorem SX.setA {a₀ : Array Keyed} {lo : Nat} {st₀ st : SortSt} (h : SX a₀ lo st₀ st) {xs : Array Keyed} (hp : xs.Perm (arrOf st)) (he : ∀ k, k < lo → xs[k]? = (arrOf st)[k]?) : SX a₀ lo st₀ (setArr st xs) :=
  ⟨hp.trans h.perm, h.kind, h.fail, h.pend, fun k hk => (he k hk).trans (h.pre k hk)⟩
noncomputable def SrtL (xs : Array Keyed) (lo n : Nat) : Prop := ∀ i j, i ≤ j → j < n → K xs (lo + i) ≤ K xs (lo + j)
noncomputable def NonL (xs : Array Keyed) (lo n : Nat) : Prop := ∀ i j, i ≤ j → j < n → K xs (lo + j) ≤ K xs (lo + i)
section
variable {prog : Program} {w : World} {A : Around} {E : Value → Shared → Prop} {a₀ : Array Keyed} {lo : Nat} {st₀ : SortSt}
theorem sx_lt {st : SortSt} {i j : Nat} {Q : Option Bool → SortSt → Prop} (hX : SX a₀ lo st₀ st) (h0 : AllI a₀) (hi : i < a₀.size) (hj : j < a₀.size) (h : Q (some (decide (K (arrOf st) i < K (arrOf st) j))) st) : wpS (model prog w) A E KV.sh (ltAt' i j) Q st := by
  have get : ∀ k, k < a₀.size → ∃ p, (arrOf st)[k]? = some p ∧ IsI p := fun k hk => by
    have hk' : k < (arrOf st).size := by rw [hX.size]; exact hk
    have hm : (arrOf st)[k] ∈ a₀.toList := (Array.perm_iff_toList_perm.mp hX.perm).mem_iff.mp (by simp)
    exact ⟨_, getElem?_pos (arrOf st) k hk', h0 _ hm⟩
  obtain ⟨p, e1, g1⟩ := get i hi
  obtain ⟨q, e2, g2⟩ := get j hj
  rw [K_of e1, K_of e2] at h
  rw [ltAt'_eq]
  exact wpS_bind (wpS_get (wpS_bind (s_elem e1 (wpS_bind (s_elem e2 (s_lt hX.kind g1 g2 h))))))
theorem sx_mirror {st : SortSt} {i j : Nat} (hX : SX a₀ lo st₀ st) (hi : lo ≤ i) (hj : j ≤ a₀.size) : SX a₀ lo st₀ (setArr st (mirror (arrOf st) i j ((j - i) / 2))) :=
  hX.setA (mirror_perm _ _ _ _) fun k hk => by
    rw [getElem?_mirror_all (by rw [hX.size]; exact hj), if_neg (by omega)]
theorem s_bin {st : SortSt} {n ok : Nat} {Q : Bool → SortSt → Prop} (h0 : AllI a₀) (hn : lo + n ≤ a₀.size) (hok : ok ≤ n) (hX : SX a₀ lo st₀ st) (hs : SrtL (arrOf st) lo ok)
    (h : ∀ st', SX a₀ lo st₀ st' → SrtL (arrOf st') lo n → Q true st') : wpS (model prog w) A E KV.sh (binarySort' lo n ok) Q st := by
  rw [binarySort'_eq]
  refine wpS_bind (wpS_mono (wpS_forRange (I := fun k c z => c = (none, ()) ∧ SX a₀ lo st₀ z ∧ SrtL (arrOf z) lo (min k n)) (Q := fun c z => c = (none, ()) ∧ SX a₀ lo st₀ z ∧ SrtL (arrOf z) lo n) ?st1 ?fi1 ?in1) ?po1)
  case po1 => rintro c z ⟨rfl, zX, zs⟩; exact wpS_pure (h z zX zs)
  case in1 =>
    refine ⟨rfl, hX, fun i j hij hj => ?_⟩
    by_cases h1 : ok = 0
    · have : i = j := by omega
      subst this; exact Int.le_refl _
    · exact hs i j hij (by omega)
  case fi1 =>
    rintro c z ⟨hc, zX, zs⟩
    refine ⟨hc, zX, ?_⟩
    rwa [show min (max (max ok 1) n) n = n by omega] at zs
  case st1 =>
    rintro k c z hak hkn ⟨rfl, zX, zs⟩
    rw [show min k n = k by omega] at zs
    refine wpS_bind (wpS_mono (wpS_forRange (I := fun x c v => z = v ∧ ∃ l r, c = (none, l, r) ∧ l ≤ r ∧ r ≤ k ∧ r - l ≤ k - x ∧ (∀ i, i < l → K (arrOf z) (lo + i) ≤ K (arrOf z) (lo + k)) ∧ (∀ i, r ≤ i → i < k → K (arrOf z) (lo + k) < K (arrOf z) (lo + i)))
      (Q := fun c v => z = v ∧ ∃ l r, c = (none, l, r) ∧ l ≤ k ∧ (∀ i, i < l → K (arrOf z) (lo + i) ≤ K (arrOf z) (lo + k)) ∧ (∀ i, l ≤ i → i < k → K (arrOf z) (lo + k) < K (arrOf z) (lo + i))) ?ist ?ifi ⟨rfl, 0, k, rfl, by omega, by omega, by omega, fun i hi => by omega, fun i g1 g2 => by omega⟩) ?ipo)
    case ifi =>
      rintro c v ⟨rfl, l, r, rfl, hlr, hrk, hm, hlo, hhi⟩
      have : l = r := by omega
      subst this
      exact ⟨rfl, l, l, rfl, hrk, hlo, hhi⟩
    case ist =>
      rintro x c v _ hxk ⟨rfl, l, r, rfl, hlr, hrk, hm, hlo, hhi⟩
      dsimp only
      by_cases hge : l ≥ r
      · rw [if_pos hge]
        have : l = r := by omega
        subst this
        exact wpS_pure ⟨rfl, l, l, rfl, hrk, hlo, hhi⟩
      · rw [if_neg hge]
        refine wpS_bind (sx_lt zX h0 (by omega) (by omega) ?_)
        by_cases hz : K (arrOf z) (lo + k) < K (arrOf z) (lo + (l + r) / 2)
        · simp only [hz, decide_true, if_true]
          exact wpS_pure ⟨rfl, l, (l + r) / 2, rfl, by omega, by omega, by omega, hlo, fun i g1 g2 => Int.lt_of_lt_of_le hz (zs _ _ g1 g2)⟩
        · simp only [hz, decide_false, Bool.false_eq_true, if_false]
          exact wpS_pure ⟨rfl, (l + r) / 2 + 1, r, rfl, by omega, by omega, by omega, fun i g1 => Int.le_trans (zs i ((l + r) / 2) (by omega) (by omega)) (Int.not_lt.mp hz), hhi⟩
    case ipo =>
      rintro c v ⟨rfl, l, r, rfl, hlk, hlo, hhi⟩
      show wpS _ _ _ _ (do moveDown' (lo + k) (lo + l); pure (ForInStep.yield (none, ()))) _ _
      rw [moveDown'_eq]
      have hks : lo + k < (arrOf z).size := by rw [zX.size]; omega
      have hd : lo + k - (lo + k - (lo + l)) = lo + l := by omega
      refine wpS_bind (wpS_modify (wpS_pure ⟨rfl, zX.setA (bubble_perm _ _ _) fun q hq => ?_, ?_⟩))
      · rw [getElem?_bubble hks _ (by omega), hd, if_neg (by omega), if_neg (by omega)]
      · rw [show min (k + 1) n = k + 1 by omega]
        intro i j hij hj
        show K (bubble (arrOf z) (lo + k) (lo + k - (lo + l))) (lo + i) ≤ K (bubble (arrOf z) (lo + k) (lo + k - (lo + l))) (lo + j)
        rw [K_bubble hks (by omega), K_bubble hks (by omega), hd]
        have back : ∀ q, 0 < q → lo + q - 1 = lo + (q - 1) := fun q hq => by omega
        repeat' split
        all_goals first
          | (exfalso; omega)
          | exact Int.le_refl _
          | exact hlo _ (by omega)
          | (rw [back j (by omega)]; exact Int.le_of_lt (hhi _ (by omega) (by omega)))
          | exact Int.le_of_lt (hhi _ (by omega) (by omega))
          | (rw [back i (by omega), back j (by omega)]; exact zs _ _ (by omega) (by omega))
          | (rw [back i (by omega)]; exact zs _ _ (by omega) (by omega))
          | (rw [back j (by omega)]; exact zs _ _ (by omega) (by omega))
          | exact zs _ _ (by omega) (by omega)
end
end SRV
set_option Elab.async false
set_option linter.all false
set_option maxRecDepth 100000
set_option maxHeartbeats 4000000
namespace SRV
open PySem
open PyProof.Rows hiding K SortedTo K_bubble K_mirror K_congr K_mirror_equal
variable [KV]
noncomputable def upL (lo a m : Nat) : StateT SortSt Sem (Option (Option Nat) × Nat) :=
  forIn [a:m] ((none, a) : Option (Option Nat) × Nat) fun _ c => do
    let t ← ltAt' (lo + c.snd) (lo + c.snd - 1)
    match t with
    | some b => if b = true then pure (.done (none, c.snd)) else pure (.yield (none, c.snd + 1))
    | _ => pure (.done (some none, c.snd))
noncomputable def dnL (lo a m : Nat) : StateT SortSt Sem (Option (Option Nat) × Nat × Nat) :=
  forIn [a:m] ((none, a, 0) : Option (Option Nat) × Nat × Nat) fun _ c => do
    let t ← ltAt' (lo + c.snd.fst) (lo + c.snd.fst - 1)
    match t with
    | some b =>
      if b = true then
        if c.snd.snd > 0 then do
          reverseSlice' (lo + c.snd.fst - (c.snd.snd + 1)) (lo + c.snd.fst)
          pure (.yield (none, c.snd.fst + 1, 0))
        else pure (.yield (none, c.snd.fst + 1, 0))
      else do
        let u ← ltAt' (lo + c.snd.fst - 1) (lo + c.snd.fst)
        match u with
        | some d => if d = true then pure (.done (none, c.snd.fst, c.snd.snd)) else pure (.yield (none, c.snd.fst + 1, c.snd.snd + 1))
        | _ => pure (.done (some none, c.snd.fst, c.snd.snd))
    | _ => pure (.done (some none, c.snd.fst, c.snd.snd))
noncomputable def enL (lo a m : Nat) : StateT SortSt Sem (Option Nat) := do
  reverseSlice' lo (lo + a)
  let c ← upL lo a m
  match c.fst with
  | some r => pure r
  | none => pure (some c.snd)
noncomputable def faL (lo a m : Nat) : StateT SortSt Sem (Option Nat) := do
  liftM (rule "list.sort.descending-run")
  let c ← dnL lo (a + 1) m
  match c.fst with
  | some r => pure r
  | none =>
    if c.snd.snd > 0 then do
      reverseSlice' (lo + c.snd.fst - (c.snd.snd + 1)) (lo + c.snd.fst)
      enL lo c.snd.fst m
    else enL lo c.snd.fst m
theorem run_eq (lo m : Nat) : countRun' lo m = (do
    let c ← upL lo 1 m
    match c.fst with
    | some r => pure r
    | none =>
      if (c.snd == m) = true then pure (some c.snd)
      else if c.snd > 1 then do
        let t ← ltAt' lo (lo + c.snd - 1)
        match t with
        | some b => if b = true then pure (some c.snd) else do
            reverseSlice' lo (lo + c.snd)
            faL lo c.snd m
        | _ => pure none
      else faL lo c.snd m) := by
  rw [countRun'_eq]
  dsimp only
  unfold faL enL dnL upL
  congr 1
  funext c
  obtain ⟨r, k⟩ := c
  cases r with
  | some r => rfl
  | none =>
    dsimp only
    split
    · rfl
    · split
      · congr 1
        funext t
        cases t with
        | none => rfl
        | some b =>
          dsimp only
          split
          · rfl
          · congr 1
            funext _y
            congr 1
            funext _x
            congr 1
            congr 1
            funext y
            obtain ⟨r, k, q⟩ := y
            cases r with
            | some r => rfl
            | none =>
              dsimp only
              split
              · congr 1
                funext _z
                congr 1
                funext _x
                congr 1
                funext y
                obtain ⟨r, k⟩ := y
                cases r <;> rfl
              · congr 1
                funext _x
                congr 1
                funext y
                obtain ⟨r, k⟩ := y
                cases r <;> rfl
      · skip
        congr 1
        funext _x
        congr 1
        congr 1
        funext y
        obtain ⟨r, k, q⟩ := y
        cases r with
        | some r => rfl
        | none =>
          dsimp only
          split
          · congr 1
            funext _z
            congr 1
            funext _x
            congr 1
            funext y
            obtain ⟨r, k⟩ := y
            cases r <;> rfl
          · congr 1
            funext _x
            congr 1
            funext y
            obtain ⟨r, k⟩ := y
            cases r <;> rfl
section
variable {prog : Program} {w : World} {A : Around} {E : Value → Shared → Prop} {a₀ : Array Keyed} {lo : Nat} {st₀ : SortSt}
theorem s_rev {st : SortSt} {i j : Nat} {Q : Unit → SortSt → Prop} (h : Q () (setArr st (mirror (arrOf st) i j ((j - i) / 2)))) : wpS (model prog w) A E KV.sh (reverseSlice' i j) Q st := by
  rw [reverseSlice'_eq]
  exact wpS_modify h
theorem back1 {lo x : Nat} (h : 1 ≤ x) : lo + x - 1 = lo + (x - 1) := by omega
theorem s_up {st : SortSt} {a m : Nat} {Q : Option (Option Nat) × Nat → SortSt → Prop} (h0 : AllI a₀) (hm : lo + m ≤ a₀.size) (ha : 1 ≤ a) (ham : a ≤ m) (hX : SX a₀ lo st₀ st)
    (hs : SrtL (arrOf st) lo a)
    (h : ∀ n, a ≤ n → n ≤ m → SrtL (arrOf st) lo n → (n = m ∨ K (arrOf st) (lo + n) < K (arrOf st) (lo + (n - 1))) → Q (none, n) st) : wpS (model prog w) A E KV.sh (upL lo a m) Q st := by
  unfold upL
  refine wpS_forRange (I := fun x c v => st = v ∧ c = (none, x) ∧ SrtL (arrOf st) lo x) ?s1 ?f1 ⟨rfl, rfl, hs⟩
  case f1 =>
    rintro c v ⟨rfl, rfl, g⟩
    rw [show max a m = m by omega] at g ⊢
    exact h m ham (Nat.le_refl _) g (.inl rfl)
  case s1 =>
    rintro x c v hax hxm ⟨rfl, rfl, g⟩
    dsimp only
    rw [back1 (by omega)]
    refine wpS_bind (sx_lt hX h0 (by omega) (by omega) ?_)
    by_cases hl : K (arrOf st) (lo + x) < K (arrOf st) (lo + (x - 1))
    · simp only [hl, decide_true, if_true]
      exact wpS_pure (h x hax (by omega) g (.inr hl))
    · simp only [hl, decide_false, Bool.false_eq_true, if_false]
      refine wpS_pure ⟨rfl, rfl, fun i j hij hj => ?_⟩
      rcases Nat.lt_or_ge j x with q | q
      · exact g i j hij q
      · obtain rfl : j = x := by omega
        rcases Nat.eq_or_lt_of_le hij with rfl | q2
        · exact Int.le_refl _
        · exact Int.le_trans (g i (j - 1) (by omega) (by omega)) (Int.not_lt.mp hl)
theorem s_en {st : SortSt} {a m : Nat} {Q : Option Nat → SortSt → Prop} (h0 : AllI a₀) (hm : lo + m ≤ a₀.size) (ha : 1 ≤ a) (ham : a ≤ m) (hX : SX a₀ lo st₀ st)
    (hs : NonL (arrOf st) lo a) (h : ∀ n v, SX a₀ lo st₀ v → 1 ≤ n → n ≤ m → SrtL (arrOf v) lo n → Q (some n) v) : wpS (model prog w) A E KV.sh (enL lo a m) Q st := by
  unfold enL
  have hz : lo + a ≤ (arrOf st).size := by rw [hX.size]; omega
  refine wpS_bind (s_rev ?_)
  have hX' := sx_mirror (i := lo) (j := lo + a) hX (Nat.le_refl _) (by omega)
  refine wpS_bind (s_up h0 hm ha ham hX' ?_ fun n g1 g2 g3 _ => wpS_pure (h n _ hX' (by omega) g2 g3))
  intro i j hij hj
  show K (mirror (arrOf st) lo (lo + a) ((lo + a - lo) / 2)) _ ≤ K (mirror (arrOf st) lo (lo + a) ((lo + a - lo) / 2)) _
  rw [K_mirror hz, K_mirror hz, if_pos (by omega), if_pos (by omega), show lo + (lo + a) - 1 - (lo + i) = lo + (a - 1 - i) by omega, show lo + (lo + a) - 1 - (lo + j) = lo + (a - 1 - j) by omega]
  exact hs _ _ (by omega) (by omega)
noncomputable def Alike (xs : Array Keyed) (lo n q : Nat) : Prop := ∀ i, lo + n - (q + 1) ≤ i → i < lo + n → K xs i = K xs (lo + n - 1)
theorem alike0 {xs : Array Keyed} {n : Nat} (h : 1 ≤ n) : Alike xs lo n 0 := fun i a b => by
  obtain rfl : i = lo + n - 1 := by omega
  rfl
theorem s_dn {st : SortSt} {a m : Nat} {Q : Option (Option Nat) × Nat × Nat → SortSt → Prop} (h0 : AllI a₀) (hm : lo + m ≤ a₀.size) (ha : 1 ≤ a) (ham : a ≤ m) (hX : SX a₀ lo st₀ st)
    (hs : NonL (arrOf st) lo a)
    (h : ∀ n q v, SX a₀ lo st₀ v → a ≤ n → n ≤ m → NonL (arrOf v) lo n → q + 1 ≤ n → Alike (arrOf v) lo n q → Q (none, n, q) v) : wpS (model prog w) A E KV.sh (dnL lo a m) Q st := by
  unfold dnL
  refine wpS_forRange (I := fun x c v => ∃ q, c = (none, x, q) ∧ SX a₀ lo st₀ v ∧ NonL (arrOf v) lo x ∧ q + 1 ≤ x ∧ Alike (arrOf v) lo x q) ?s1 ?f1 ⟨0, rfl, hX, hs, by omega, alike0 ha⟩
  case f1 =>
    rintro c v ⟨q, rfl, vX, vs, vq, va⟩
    rw [show max a m = m by omega] at vs vq va ⊢
    exact h m q v vX ham (Nat.le_refl _) vs vq va
  case s1 =>
    rintro x c v hax hxm ⟨q, rfl, vX, vs, vq, va⟩
    dsimp only
    have hz : lo + x ≤ (arrOf v).size := by rw [vX.size]; omega
    have grow : ∀ xs : Array Keyed, (∀ k, K xs k = K (arrOf v) k) → K (arrOf v) (lo + x) ≤ K (arrOf v) (lo + (x - 1)) → NonL xs lo (x + 1) := by
      intro xs hk hl i j hij hj
      rw [hk, hk]
      rcases Nat.lt_or_ge j x with g | g
      · exact vs i j hij g
      · obtain rfl : j = x := by omega
        rcases Nat.eq_or_lt_of_le hij with rfl | g2
        · exact Int.le_refl _
        · exact Int.le_trans hl (vs i (j - 1) (by omega) (by omega))
    rw [back1 (by omega)]
    refine wpS_bind (sx_lt vX h0 (by omega) (by omega) ?_)
    by_cases hl : K (arrOf v) (lo + x) < K (arrOf v) (lo + (x - 1))
    · simp only [hl, decide_true, if_true]
      by_cases hq : q > 0
      · rw [if_pos hq]
        exact wpS_bind (s_rev (wpS_pure ⟨0, rfl, sx_mirror vX (by omega) (by omega), grow _ (K_mirror_equal hz va) (Int.le_of_lt hl), by omega, alike0 (by omega)⟩))
      · rw [if_neg hq]
        exact wpS_pure ⟨0, rfl, vX, grow _ (fun _ => rfl) (Int.le_of_lt hl), by omega, alike0 (by omega)⟩
    · simp only [hl, decide_false, Bool.false_eq_true, if_false]
      refine wpS_bind (sx_lt vX h0 (by omega) (by omega) ?_)
      by_cases hg : K (arrOf v) (lo + (x - 1)) < K (arrOf v) (lo + x)
      · simp only [hg, decide_true, if_true]
        exact wpS_pure (h x q v vX hax (by omega) vs vq va)
      · simp only [hg, decide_false, Bool.false_eq_true, if_false]
        have he : K (arrOf v) (lo + x) = K (arrOf v) (lo + (x - 1)) := by omega
        refine wpS_pure ⟨q + 1, rfl, vX, grow _ (fun _ => rfl) (by omega), by omega, fun i g1 g2 => ?_⟩
        rw [show lo + (x + 1) - 1 = lo + x by omega]
        by_cases hi : i = lo + x
        · rw [hi]
        · rw [he, ← back1 (by omega)]
          exact va i (by omega) (by omega)
theorem s_fa {st : SortSt} {a m : Nat} {Q : Option Nat → SortSt → Prop} (h0 : AllI a₀) (hm : lo + m ≤ a₀.size) (ham : a + 1 ≤ m) (hX : SX a₀ lo st₀ st)
    (hs : NonL (arrOf st) lo (a + 1)) (h : ∀ n v, SX a₀ lo st₀ v → 1 ≤ n → n ≤ m → SrtL (arrOf v) lo n → Q (some n) v) : wpS (model prog w) A E KV.sh (faL lo a m) Q st := by
  unfold faL
  refine wpS_bind (wpS_lift (wpAny_rule ⟨rfl, ?_⟩))
  refine wpS_bind (s_dn h0 hm (by omega) ham hX hs fun n q v vX g1 g2 vs vq va => ?_)
  dsimp only
  have hz : lo + n ≤ (arrOf v).size := by rw [vX.size]; omega
  by_cases hq : q > 0
  · rw [if_pos hq]
    refine wpS_bind (s_rev (s_en h0 hm (by omega) g2 (sx_mirror vX (by omega) (by omega)) ?_ h))
    intro i j hij hj
    show K (mirror (arrOf v) _ _ _) _ ≤ K (mirror (arrOf v) _ _ _) _
    rw [K_mirror_equal hz va, K_mirror_equal hz va]
    exact vs i j hij hj
  · rw [if_neg hq]
    exact s_en h0 hm (by omega) g2 vX vs h
theorem s_run {st : SortSt} {m : Nat} {Q : Option Nat → SortSt → Prop} (h0 : AllI a₀) (hm : lo + m ≤ a₀.size) (h1 : 1 ≤ m) (hX : SX a₀ lo st₀ st)
    (h : ∀ n v, SX a₀ lo st₀ v → 1 ≤ n → n ≤ m → SrtL (arrOf v) lo n → Q (some n) v) : wpS (model prog w) A E KV.sh (countRun' lo m) Q st := by
  rw [run_eq]
  have one : SrtL (arrOf st) lo 1 := fun i j hij hj => by
    obtain rfl : i = j := by omega
    exact Int.le_refl _
  refine wpS_bind (s_up h0 hm (Nat.le_refl 1) h1 hX one fun n g1 g2 gs go => ?_)
  dsimp only
  by_cases hn : n = m
  · rw [if_pos (by simpa using hn)]
    exact wpS_pure (h n st hX g1 g2 gs)
  · rw [if_neg (by simpa using hn)]
    have hl := go.resolve_left hn
    by_cases hg : n > 1
    · rw [if_pos hg]
      rw [back1 (by omega)]
      refine wpS_bind (sx_lt (i := lo) hX h0 (by omega) (by omega) ?_)
      by_cases hr : K (arrOf st) lo < K (arrOf st) (lo + (n - 1))
      · simp only [hr, decide_true, if_true]
        exact wpS_pure (h n st hX g1 g2 gs)
      · simp only [hr, decide_false, Bool.false_eq_true, if_false]
        have hz : lo + n ≤ (arrOf st).size := by rw [hX.size]; omega
        have al : ∀ k, lo ≤ k → k < lo + n → K (arrOf st) k = K (arrOf st) (lo + n - 1) := by
          intro k k1 k2
          obtain ⟨d, rfl⟩ := Nat.exists_eq_add_of_le k1
          have e1 := gs 0 d (by omega) (by omega)
          have e2 := gs d (n - 1) (by omega) (by omega)
          rw [back1 (by omega)]
          rw [Nat.add_zero] at e1
          omega
        refine wpS_bind (s_rev (s_fa h0 hm (by omega) (sx_mirror hX (Nat.le_refl _) (by omega)) ?_ h))
        intro i j hij hj
        show K (mirror (arrOf st) _ _ _) _ ≤ K (mirror (arrOf st) _ _ _) _
        rw [K_mirror_equal hz al, K_mirror_equal hz al]
        rcases Nat.lt_or_ge j n with q | q
        · rw [al (lo + i) (by omega) (by omega), al (lo + j) (by omega) (by omega)]
          exact Int.le_refl _
        · obtain rfl : j = n := by omega
          rcases Nat.eq_or_lt_of_le hij with rfl | q2
          · exact Int.le_refl _
          · rw [al (lo + i) (by omega) (by omega), back1 (by omega)]
            exact Int.le_of_lt hl
    · rw [if_neg hg]
      obtain rfl : n = 1 := by omega
      refine s_fa h0 hm (by omega) hX ?_ h
      intro i j hij hj
      rcases Nat.eq_or_lt_of_le hij with rfl | q2
      · exact Int.le_refl _
      · obtain rfl : i = 0 := by omega
        obtain rfl : j = 1 := by omega
        exact Int.le_of_lt hl
end
end SRV
set_option Elab.async false
set_option linter.all false
set_option maxRecDepth 100000
set_option maxHeartbeats 4000000
namespace SRV
open PySem
open PyProof.Rows hiding K SortedTo K_bubble K_mirror K_congr K_mirror_equal
variable [KV]
structure RS (a₀ : Array Keyed) (st : SortSt) (Ls : List (List Keyed)) (rest : List Keyed) : Prop where
  kind : kindOf st = KV.kind
  fail : failedOf st = none
  perm : (arrOf st).Perm a₀
  arr : (arrOf st).toList = Ls.flatten ++ rest
  pm : PM (pendingOf st).toList Ls 0
  runs : ∀ R ∈ Ls, R ≠ [] ∧ R.Pairwise Le
theorem AllI.perm {xs ys : Array Keyed} (h : AllI xs) (p : ys.Perm xs) : AllI ys := fun q hq => h q ((Array.perm_iff_toList_perm.mp p).mem_iff.mp hq)
theorem PM.alter : ∀ {ps : List (Nat × Nat × Nat)} {ls : List (List Keyed)} {lo : Nat} (k : Nat) {f : Nat × Nat × Nat → Nat × Nat × Nat}, (∀ p, (f p).1 = p.1 ∧ (f p).2.1 = p.2.1) → PM ps ls lo → PM (ps.modify k f) ls lo
  | [], [], _, k, f, _, _ => by cases k <;> trivial
  | p :: r, l :: ls, lo, 0, f, hf, h => by
    show PM (f p :: r) (l :: ls) lo
    exact ⟨(hf p).1.trans h.1, (hf p).2.trans h.2.1, h.2.2⟩
  | p :: r, l :: ls, lo, k + 1, f, hf, h => by
    show PM (p :: r.modify k f) (l :: ls) lo
    exact ⟨h.1, h.2.1, PM.alter k hf h.2.2⟩
  | [], _ :: _, _, _, _, _, h => h.elim
  | _ :: _, [], _, _, _, _, h => h.elim
theorem PM.snoc : ∀ {ps : List (Nat × Nat × Nat)} {ls : List (List Keyed)} {lo : Nat} {R : List Keyed} {k n : Nat}, PM ps ls lo → k = lo + ls.flatten.length → n = R.length → PM (ps ++ [(k, n, 0)]) (ls ++ [R]) lo
  | [], [], lo, R, k, n, _, e, e2 => ⟨by simpa using e, e2, trivial⟩
  | p :: r, l :: ls, lo, R, k, n, h, e, e2 => by
    refine ⟨h.1, h.2.1, PM.snoc h.2.2 ?_ e2⟩
    rw [e, List.flatten_cons, List.length_append, Nat.add_assoc]
  | [], _ :: _, _, _, _, _, h, _, _ => h.elim
  | _ :: _, [], _, _, _, _, h, _, _ => h.elim
section
variable {prog : Program} {w : World} {A : Around} {E : Value → Shared → Prop} {a₀ : Array Keyed}
theorem s_join {st : SortSt} {Ls : List (List Keyed)} {rest : List Keyed} {i : Nat} {Q : Bool → SortSt → Prop} (h0 : AllI a₀) (r : RS a₀ st Ls rest) (hi : i + 1 < Ls.length)
    (h : ∀ v Ms, RS a₀ v Ms rest → Ms.length + 1 = Ls.length → Ms.flatten.length = Ls.flatten.length → Q true v) : wpS (model prog w) A E KV.sh (mergeAt' i) Q st := by
  obtain ⟨L1, R1, R2, L2, rfl, rfl⟩ : ∃ L1 R1 R2 L2, Ls = L1 ++ R1 :: R2 :: L2 ∧ i = L1.length := by
    refine ⟨Ls.take i, Ls[i], Ls[i + 1], Ls.drop (i + 2), ?_, by rw [List.length_take]; omega⟩
    rw [← List.drop_eq_getElem_cons hi, ← List.drop_eq_getElem_cons (by omega), List.take_append_drop]
  have m1 := r.runs R1 (by simp)
  have m2 := r.runs R2 (by simp)
  rw [mat_is]
  refine s_mat r.kind r.fail (h0.perm r.perm) r.arr r.pm m1.1 m2.1 m1.2 m2.2 fun v R hk hp hs ha hpm => ?_
  have hl := hp.length_eq
  rw [List.length_append] at hl
  refine h v (L1 ++ R :: L2) ⟨hk.kind.trans r.kind, hk.fail.trans r.fail, ?_, ha, hpm, ?_⟩ (by simp; omega) ?_
  · refine Array.Perm.trans ?_ r.perm
    rw [Array.perm_iff_toList_perm, ha, r.arr]
    refine List.Perm.append_right _ ?_
    rw [List.flatten_append, List.flatten_append, List.flatten_cons, List.flatten_cons, List.flatten_cons, ← List.append_assoc R1]
    exact List.Perm.append_left _ (List.Perm.append_right _ hp)
  · intro T hT
    rcases List.mem_append.mp hT with g | g
    · exact r.runs T (by simp [g])
    · rcases List.mem_cons.mp g with rfl | g
      · refine ⟨fun e => ?_, hs⟩
        rw [e] at hl
        have := List.length_pos_iff.mpr m1.1
        simp at hl
        omega
      · exact r.runs T (by simp [g])
  · simp only [List.flatten_append, List.flatten_cons, List.length_append]
    omega
theorem many_runs : ∀ {Ls : List (List Keyed)}, (∀ R ∈ Ls, R ≠ [] ∧ R.Pairwise Le) → Ls.length ≤ Ls.flatten.length
  | [], _ => Nat.le_refl _
  | R :: Ls, h => by
    have := many_runs (Ls := Ls) fun T hT => h T (List.mem_cons_of_mem _ hT)
    have := List.length_pos_iff.mpr (h R (by simp)).1
    rw [List.length_cons, List.flatten_cons, List.length_append]
    omega
theorem RS.psize {st : SortSt} {Ls : List (List Keyed)} {rest : List Keyed} (r : RS a₀ st Ls rest) : (pendingOf st).size = Ls.length := by
  rw [← Array.length_toList]; exact r.pm.len
theorem RS.total {st : SortSt} {Ls : List (List Keyed)} {rest : List Keyed} (r : RS a₀ st Ls rest) : Ls.flatten.length + rest.length = a₀.size := by
  rw [← List.length_append, ← r.arr, Array.length_toList, r.perm.size_eq]
theorem RS.cut {st v : SortSt} {Ls : List (List Keyed)} {rest : List Keyed} {n : Nat} (r : RS a₀ st Ls rest) (x : SX (arrOf st) Ls.flatten.length st v) (hn : Ls.flatten.length + n ≤ a₀.size) (hs : SrtL (arrOf v) Ls.flatten.length n) :
    ∃ R rest', R.length = n ∧ R.Pairwise Le ∧ RS a₀ v Ls (R ++ rest') := by
  have hz : (arrOf v).toList.length = a₀.size := by rw [Array.length_toList, x.size, r.perm.size_eq]
  have ht : (arrOf v).toList.take Ls.flatten.length = Ls.flatten := by
    have e : (arrOf v).toList.take Ls.flatten.length = (arrOf st).toList.take Ls.flatten.length := by
      refine List.ext_getElem? fun k => ?_
      rw [List.getElem?_take, List.getElem?_take]
      split
      · rename_i g
        rw [Array.getElem?_toList, Array.getElem?_toList]
        exact x.pre k g
      · rfl
    rw [e, r.arr, List.take_left]
  refine ⟨((arrOf v).toList.drop Ls.flatten.length).take n, ((arrOf v).toList.drop Ls.flatten.length).drop n, ?_, ?_, x.kind, x.fail, x.perm.trans r.perm, ?_, ?_, r.runs⟩
  · rw [List.length_take, List.length_drop, hz]; omega
  · refine List.pairwise_iff_getElem.mpr fun i j hi hj hij => ?_
    rw [List.length_take, List.length_drop, hz] at hi hj
    have := hs i j (Nat.le_of_lt hij) (by omega)
    rw [K_at (by omega), K_at (by omega)] at this
    rw [List.getElem_take, List.getElem_take, List.getElem_drop, List.getElem_drop]
    exact this
  · rw [List.take_append_drop]
    conv => lhs; rw [← List.take_append_drop Ls.flatten.length (arrOf v).toList, ht]
  · rw [x.pend]; exact r.pm
theorem RS.add {st : SortSt} {Ls : List (List Keyed)} {R rest : List Keyed} {k n : Nat} (r : RS a₀ st Ls (R ++ rest)) (hR : R ≠ []) (hs : R.Pairwise Le) (hk : k = Ls.flatten.length) (hn : n = R.length) :
    RS a₀ (setPending st ((pendingOf st).push (k, n, 0))) (Ls ++ [R]) rest where
  kind := r.kind
  fail := r.fail
  perm := r.perm
  arr := by show (arrOf st).toList = _; rw [r.arr]; simp
  pm := by
    show PM ((pendingOf st).push (k, n, 0)).toList _ 0
    rw [Array.toList_push]
    exact r.pm.snoc (by omega) hn
  runs := fun T hT => by
    rcases List.mem_append.mp hT with g | g
    · exact r.runs T g
    · rw [List.mem_singleton.mp g]; exact ⟨hR, hs⟩
theorem RS.alter {st : SortSt} {Ls : List (List Keyed)} {rest : List Keyed} {k : Nat} {f : Nat × Nat × Nat → Nat × Nat × Nat} (hf : ∀ p, (f p).1 = p.1 ∧ (f p).2.1 = p.2.1) (r : RS a₀ st Ls rest) :
    RS a₀ (setPending st ((pendingOf st).modify k f)) Ls rest where
  kind := r.kind
  fail := r.fail
  perm := r.perm
  arr := r.arr
  pm := by
    show PM ((pendingOf st).modify k f).toList _ 0
    rw [Array.toList_modify]
    exact r.pm.alter k hf
  runs := r.runs
theorem RS.sorted {st : SortSt} {Ls : List (List Keyed)} (r : RS a₀ st Ls []) (h1 : Ls.length ≤ 1) : SortedTo (arrOf st) a₀.size := by
  have hz : (arrOf st).toList.length = a₀.size := by rw [Array.length_toList, r.perm.size_eq]
  have hp : (arrOf st).toList.Pairwise Le := by
    rw [r.arr]
    match Ls, h1, r.runs with
    | [], _, _ => simp
    | [R], _, g => simpa using (g R (by simp)).2
  intro i j hij hj
  rw [K_at (by omega), K_at (by omega)]
  rcases Nat.eq_or_lt_of_le hij with e | e
  · subst e; exact Int.le_refl _
  · exact List.pairwise_iff_getElem.mp hp i j (by omega) (by omega) e
end
end SRV
set_option Elab.async false
set_option linter.all false
set_option maxRecDepth 100000
set_option maxHeartbeats 4000000
namespace SRV
open PySem
open PyProof.Rows hiding K SortedTo K_bubble K_mirror K_congr K_mirror_equal
variable [KV]
section
variable {prog : Program} {w : World} {A : Around} {E : Value → Shared → Prop} {a₀ : Array Keyed}
noncomputable def putRun (sz lo n : Nat) : StateT SortSt Sem (ForInStep (Option Unit × Nat)) := do
  let z ← get
  match (pendingOf z).back? with
  | some (p, k, _) => do
    let c ← forIn [0:sz] ((none, ()) : Option Unit × Unit) fun _ _ => do
      let z ← get
      match if (pendingOf z).size > 1 then (pendingOf z)[(pendingOf z).size - 2]? else none with
      | some (_, _, o) =>
        if o ≤ power' sz (2 * p + k) (2 * p + k + k + n) sz then pure (.done (none, ()))
        else do
          let b ← mergeAt' ((pendingOf z).size - 2)
          if (!b) = true then pure (.done (some (), ())) else pure (.yield (none, ()))
      | _ => pure (.done (none, ()))
    match c.fst with
    | some r => pure (.done (some r, lo))
    | none => do
      modify fun s => setPending s ((pendingOf s).modify ((pendingOf s).size - 1) fun x => (x.fst, x.2.fst, power' sz (2 * p + k) (2 * p + k + k + n) sz))
      modify fun s => setPending s ((pendingOf s).push (lo, n, 0))
      pure (.yield (none, lo + n))
  | _ => do
    modify fun s => setPending s ((pendingOf s).push (lo, n, 0))
    pure (.yield (none, lo + n))
theorem s_put {st : SortSt} {Ls : List (List Keyed)} {R rest : List Keyed} {sz lo n : Nat} {Q : ForInStep (Option Unit × Nat) → SortSt → Prop} (h0 : AllI a₀) (r : RS a₀ st Ls (R ++ rest)) (hlo : lo = Ls.flatten.length) (hn : n = R.length) (hR : R ≠ []) (hs : R.Pairwise Le)
    (h : ∀ v Ms, RS a₀ v Ms rest → Ms.flatten.length = lo + n → Q (.yield (none, lo + n)) v) : wpS (model prog w) A E KV.sh (putRun sz lo n) Q st := by
  unfold putRun
  refine wpS_bind (wpS_get ?_)
  have fin : ∀ {v : SortSt} {Ms : List (List Keyed)}, RS a₀ v Ms (R ++ rest) → Ms.flatten.length = lo → Q (.yield (none, lo + n)) (setPending v ((pendingOf v).push (lo, n, 0))) := fun {v Ms} g e =>
    h _ (Ms ++ [R]) (g.add hR hs e.symm hn) (by rw [List.flatten_append, List.length_append, e, List.flatten_cons, List.flatten_nil, List.append_nil, hn])
  split
  · rename_i p k _ _
    generalize power' sz (2 * p + k) (2 * p + k + k + n) sz = pw
    refine wpS_bind (wpS_mono (wpS_forRange (I := fun x c v => c = (none, ()) ∧ ∃ Ms, RS a₀ v Ms (R ++ rest) ∧ Ms.flatten.length = lo) (Q := fun c v => c = (none, ()) ∧ ∃ Ms, RS a₀ v Ms (R ++ rest) ∧ Ms.flatten.length = lo) ?s2 (fun _ _ g => g) ⟨rfl, Ls, r, hlo.symm⟩) ?p2)
    case p2 =>
      rintro c v ⟨rfl, Ms, g, e⟩
      dsimp only
      refine wpS_bind (wpS_modify (wpS_bind (wpS_modify (wpS_pure ?_))))
      exact fin (g.alter (fun _ => ⟨rfl, rfl⟩)) e
    case s2 =>
      rintro x c v _ _ ⟨rfl, Ms, g, e⟩
      refine wpS_bind (wpS_get ?_)
      rw [g.psize]
      split
      · rename_i o ho
        by_cases h1 : Ms.length > 1
        · by_cases h2 : o ≤ pw
          · rw [if_pos h2]
            exact wpS_pure ⟨rfl, Ms, g, e⟩
          · rw [if_neg h2]
            refine wpS_bind (s_join h0 g (by omega) fun u Ns g2 e1 e2 => ?_)
            simp only [Bool.not_true, Bool.false_eq_true, if_false]
            exact wpS_pure ⟨rfl, Ns, g2, e2.trans e⟩
        · rw [if_neg h1] at ho
          cases ho
      · exact wpS_pure ⟨rfl, Ms, g, e⟩
  · exact wpS_bind (wpS_modify (wpS_pure (fin r hlo.symm)))
theorem pick_lt {c : Bool} {m : Nat} (h : ¬ m ≤ 1) : (if c = true then m - 2 - 1 else m - 2) + 1 < m := by
  split <;> omega
theorem s_all {st : SortSt} {Q : Unit → SortSt → Prop} (h0 : AllI a₀) (hk : kindOf st = KV.kind) (hf : failedOf st = none) (hp : arrOf st = a₀) (he : pendingOf st = #[])
    (h : ∀ v, (arrOf v).Perm a₀ → failedOf v = none → SortedTo (arrOf v) a₀.size → Q () v) : wpS (model prog w) A E KV.sh sortRuns' Q st := by
  rw [sortRuns'_eq]
  refine wpS_bind (wpS_get ?_)
  dsimp only
  rw [hp]
  generalize minRun' a₀.size a₀.size 0 = mr
  have r0 : RS a₀ st [] a₀.toList := ⟨hk, hf, by rw [hp], by rw [hp]; rfl, by rw [he]; trivial, fun R hR => by cases hR⟩
  refine wpS_bind (wpS_mono (wpS_forRange (I := fun x c z => ∃ Ls rest, c = (none, Ls.flatten.length) ∧ RS a₀ z Ls rest ∧ x ≤ Ls.flatten.length)
    (Q := fun c z => ∃ Ls k, c = (none, k) ∧ RS a₀ z Ls []) ?s1 ?f1 ⟨[], _, rfl, r0, Nat.le_refl _⟩) ?p1)
  case f1 =>
    rintro c z ⟨Ls, rest, rfl, r, hx⟩
    have := r.total
    have e : rest = [] := List.length_eq_zero_iff.mp (by omega)
    subst e
    exact ⟨Ls, _, rfl, r⟩
  case p1 =>
    rintro c z ⟨Ls, k, rfl, r⟩
    dsimp only
    refine wpS_bind (wpS_mono (wpS_forRange (I := fun x c v => c = (none, ()) ∧ ∃ Ms, RS a₀ v Ms [] ∧ Ms.length + x ≤ a₀.size) (Q := fun c v => c = (none, ()) ∧ ∃ Ms, RS a₀ v Ms [] ∧ Ms.length ≤ 1) ?s2 ?f2 ?i2) ?p2)
    case i2 =>
      have e1 := many_runs r.runs
      have e2 := r.total
      exact ⟨rfl, Ls, r, by simp only [List.length_nil] at e2; omega⟩
    case f2 =>
      rintro c v ⟨rfl, Ms, g, hl⟩
      exact ⟨rfl, Ms, g, by omega⟩
    case p2 =>
      rintro c v ⟨rfl, Ms, g, hl⟩
      exact wpS_pure (h v g.perm g.fail (g.sorted hl))
    case s2 =>
      rintro x c v _ hx ⟨rfl, Ms, g, hl⟩
      refine wpS_bind (wpS_get ?_)
      rw [g.psize]
      by_cases h1 : Ms.length ≤ 1
      · rw [if_pos h1]
        exact wpS_pure ⟨rfl, Ms, g, h1⟩
      · rw [if_neg h1]
        refine wpS_bind (s_join h0 g (pick_lt h1) fun u Ns g2 e1 e2 => ?_)
        simp only [Bool.not_true, Bool.false_eq_true, if_false]
        exact wpS_pure ⟨rfl, Ns, g2, by omega⟩
  case s1 =>
    rintro x c z _ hx ⟨Ls, rest, rfl, r, hxl⟩
    dsimp only
    have tot := r.total
    by_cases hge : Ls.flatten.length ≥ a₀.size
    · rw [if_pos hge]
      have e : rest = [] := List.length_eq_zero_iff.mp (by omega)
      subst e
      exact wpS_pure ⟨Ls, _, rfl, r⟩
    · rw [if_neg hge]
      have hI := h0.perm r.perm
      have hsz := r.perm.size_eq
      have x0 : SX (arrOf z) Ls.flatten.length z z := ⟨Array.Perm.refl _, r.kind, r.fail, rfl, fun _ _ => rfl⟩
      refine wpS_bind (s_run hI (by omega) (by omega) x0 fun n v vX g1 g2 gs => ?_)
      dsimp only
      refine Eq.mp (congrArg (fun p => wpS (model prog w) A E KV.sh p _ v) (?_ : (if n < mr then do
        liftM (rule "list.sort.binary-insertion")
        let b ← binarySort' Ls.flatten.length (min (a₀.size - Ls.flatten.length) mr) n
        if (!b) = true then pure (ForInStep.done (some (), Ls.flatten.length)) else putRun a₀.size Ls.flatten.length (min (a₀.size - Ls.flatten.length) mr)
        else putRun a₀.size Ls.flatten.length n) = _)) ?_
      · unfold putRun
        congr 1
        · congr 1
          funext _y
          congr 1
          funext b
          congr 1
          congr 1
          funext z
          cases (pendingOf z).back? with
          | none => rfl
          | some t =>
            obtain ⟨p, k, o⟩ := t
            dsimp only
            congr 1
            funext c
            obtain ⟨r, _⟩ := c
            cases r <;> rfl
        · congr 1
          funext z
          cases (pendingOf z).back? with
          | none => rfl
          | some t =>
            obtain ⟨p, k, o⟩ := t
            dsimp only
            congr 1
            funext c
            obtain ⟨r, _⟩ := c
            cases r <;> rfl
      have last : ∀ {u : SortSt} {k : Nat}, 1 ≤ k → k ≤ a₀.size - Ls.flatten.length → SX (arrOf z) Ls.flatten.length z u → SrtL (arrOf u) Ls.flatten.length k → wpS (model prog w) A E KV.sh (putRun a₀.size Ls.flatten.length k) (fun t st' => ∃ Ms rs, t = .yield (none, Ms.flatten.length) ∧ RS a₀ st' Ms rs ∧ x + 1 ≤ Ms.flatten.length) u := fun {u k} k1 k2 uX us => by
        obtain ⟨R, rest', e1, e2, e3⟩ := r.cut uX (by omega) us
        refine s_put h0 e3 rfl e1.symm (fun e => by rw [e] at e1; simp at e1; omega) e2 fun v2 Ms g e => ?_
        exact ⟨Ms, rest', by rw [e], g, by omega⟩
      by_cases hm : n < mr
      · rw [if_pos hm]
        refine wpS_bind (wpS_lift (wpAny_rule ⟨rfl, ?_⟩))
        refine wpS_bind (s_bin hI (by omega) (by omega) vX gs fun u uX us => ?_)
        simp only [Bool.not_true, Bool.false_eq_true, if_false]
        refine wpS_mono (last (by omega) (by omega) uX us) ?_
        rintro t u2 ⟨Ms, rs, rfl, g, e⟩
        exact ⟨Ms, rs, rfl, g, e⟩
      · rw [if_neg hm]
        refine wpS_mono (last g1 g2 vX gs) ?_
        rintro t u2 ⟨Ms, rs, rfl, g, e⟩
        exact ⟨Ms, rs, rfl, g, e⟩
end
end SRV
set_option Elab.async false
set_option linter.all false
set_option maxRecDepth 100000
set_option maxHeartbeats 4000000
namespace SRT
open PySem PyProof.Rows
noncomputable abbrev kvI (s : Shared) : SRV.KV where
  sh := s
  kind := oneType'
  kv := fun p => numOf p.1
  good := fun p => ∃ t, p.1 = .int (numOf p.1) t
  lt := fun {prog w A E st x y Q} hk hx hy h => by
    obtain ⟨t, e⟩ := hx; obtain ⟨u, e'⟩ := hy
    rw [lt'_eq]; refine wpS_bind (wpS_get ?_)
    rw [hk, keyLt'_oneType, e, e']; exact wpS_bind (wpS_lift (wpAny_attempt (oneLt_int ⟨rfl, wpS_pure h⟩)))
noncomputable def AllI (xs : Array Keyed) : Prop := ∀ p ∈ xs.toList, ∃ t, p.1 = .int (numOf p.1) t
theorem AllI.perm {xs ys : Array Keyed} (h : AllI xs) (p : ys.Perm xs) : AllI ys := fun q hq => h q ((Array.perm_iff_toList_perm.mp p).mem_iff.mp hq)
noncomputable def core (a : Addr) (e1 : Nat) (ar : Array Value) (b : Bool) : Sem Fin := do
  let knd ← if ar.size < 2 then pure general' else keyKind' ar
  let ((), z) ← (if ar.size < 2 then pure () else sortRuns').run (SortSt.mk' knd (if b then (ar.zip ar).reverse else ar.zip ar) #[] 7 none)
  let srt := (arrOf z).map (·.2)
  let tch := (← seqEpoch a) != e1
  Builtin.List.listUpdate (.ref a) fun _ => if b then srt.reverse else srt
  if let some e := failedOf z then rule "list.sort.comparison-raised"; throw e
  if tch then rule "list.sort.modified"; raiseError "ValueError" "list modified during sort"
  ret .none
theorem plain_core (a : Addr) : Builtin.«list.sort» ⟨[.ref a], []⟩ = (do
    let ar ← Builtin.List.listItems (.ref a)
    Builtin.List.listUpdate (.ref a) fun _ => #[]
    let e1 ← seqEpoch a
    let t ← newTuple ar.toList
    let l ← newList []
    holding [t, l] (core a e1 ar false)) := by rw [list_sort_plain]; rfl
theorem rev_core (a : Addr) : Builtin.«list.sort» ⟨[.ref a], [(Str.ofString "reverse", .bool true)]⟩ = (do
    let ar ← Builtin.List.listItems (.ref a)
    Builtin.List.listUpdate (.ref a) fun _ => #[]
    let e1 ← seqEpoch a
    let t ← newTuple ar.toList
    let l ← newList []
    holding [t, l] (do let _ ← rule "list.sort.reverse"; core a e1 ar true)) := by rw [list_sort_rev]; rfl
theorem allI_of {vs : List Value} {ns : List Int} (hI : IntsAre vs ns) : AllI (pairsOf vs) := fun p hp => by
  obtain ⟨n, t, e⟩ := hI.intKeys p hp
  refine ⟨t, ?_⟩
  show p.1 = .int (numOf p.1) t
  rw [e]
  rfl
section
variable {prog : Program} {w : World} {A : Around} {E : Value → Shared → Prop} {s : Shared}
theorem w_core {a : Addr} {e1 : Nat} {vs : List Value} {ns : List Int} {b : Bool} {P : Fin → Shared → Prop} (hA : s.heap.get? a = some (seqObj "list" #[] e1)) (hI : IntsAre vs ns) (hz : vs.length ≤ sizeLine)
    (h : ∀ (o : Array Value) (ns' : List Int), IntsAre o.toList ns' → ns'.Perm ns → Ordered b ns' → P (.done (.ret .none)) { s with heap := s.heap.update a (Obj.mapSeq fun _ => o) }) : wpAny (model prog w) A (core a e1 vs.toArray b) P E s := by
  unfold core
  have fin : ∀ z : SortSt, (arrOf z).Perm (pairsOf vs) → failedOf z = none → SortedTo (arrOf z) (pairsOf vs).size → wpAny (model prog w) A (do
      let tch := (← seqEpoch a) != e1
      Builtin.List.listUpdate (.ref a) fun _ => if b then ((arrOf z).map (·.2)).reverse else (arrOf z).map (·.2)
      if let some e := failedOf z then rule "list.sort.comparison-raised"; throw e
      if tch then rule "list.sort.modified"; raiseError "ValueError" "list modified during sort"
      ret .none) P E s := fun z hp hf hs => by
    obtain ⟨ns', q1, q2, q3⟩ := sorted_out_rev hI hp hs b
    have hlen : ((arrOf z).map (·.2)).size ≤ sizeLine + 1 := by rw [Array.size_map, hp.size_eq, pairsOf_size]; omega
    refine wpAny_bind (seqEpoch_at hA rfl (wpAny_bind (listUpdate_at hA rfl ?_ (hsz2 := ?sz))))
    case sz =>
      split
      · rw [Array.size_reverse]; exact hlen
      · exact hlen
    rw [hf]
    simp only [bne_self_eq_false, Bool.false_eq_true, if_false]
    exact wpAny_pure (h _ ns' q1 q2 q3)
  have hst : (if b = true then (vs.toArray.zip vs.toArray).reverse else vs.toArray.zip vs.toArray).Perm (pairsOf vs) := by
    cases b
    · exact Array.Perm.refl _
    · rw [if_pos rfl, Array.perm_iff_toList_perm, Array.toList_reverse]
      exact List.reverse_perm _
  by_cases h2 : vs.toArray.size < 2
  · rw [if_pos h2, if_pos h2]
    refine wpAny_bind (wpAny_pure ?_)
    dsimp only
    rw [StateT.run_pure]
    refine wpAny_bind (wpAny_pure (fin (SortSt.mk' general' _ #[] 7 none) hst rfl fun i j hij hj => ?_))
    rw [pairsOf_size] at hj
    rw [List.size_toArray] at h2
    obtain rfl : i = j := by omega
    exact Int.le_refl _
  · rw [if_neg h2, if_neg h2]
    obtain ⟨x, y, r, rfl⟩ : ∃ x y r, vs = x :: y :: r := by
      rw [List.size_toArray] at h2
      match vs, h2 with
      | [], g => simp at g
      | [_], g => simp at g
      | x :: y :: r, _ => exact ⟨x, y, r, rfl⟩
    rw [keyKind_ints hI]
    refine wpAny_bind (wpAny_pure ?_)
    generalize hL : x :: y :: r = L at *
    have ha0 : AllI (if b = true then (L.toArray.zip L.toArray).reverse else L.toArray.zip L.toArray) := (allI_of hI).perm hst
    letI inst : SRV.KV := kvI s
    refine wpAny_bind (wpAny_mono (SRV.s_all (st := SortSt.mk' oneType' (if b = true then (L.toArray.zip L.toArray).reverse else L.toArray.zip L.toArray) #[] 7 none)
      (Q := fun _ z => (arrOf z).Perm (pairsOf L) ∧ failedOf z = none ∧ SortedTo (arrOf z) (pairsOf L).size) ha0 rfl rfl rfl rfl fun z g1 g2 g3 => ⟨g1.trans hst, g2, by rw [← hst.size_eq]; exact g3⟩) ?_ fun _ _ e => e)
    rintro ⟨⟨⟩, z⟩ s' ⟨rfl, g1, g2, g3⟩
    exact fin z g1 g2 g3
theorem w_start {a : Addr} {vs : List Value} {n : Nat} {P : Fin → Shared → Prop} {f : Nat → Array Value → Sem Fin} (hA : s.heap.get? a = some (seqObj "list" vs.toArray n)) (hz : vs.length ≤ sizeLine)
    (h : ∀ (s' : Shared) e1, s' = { s with heap := ((s.heap.update a (Obj.mapSeq fun _ => #[])).push (seqObj "tuple" vs.toArray 0)).push (seqObj "list" #[] 0) } → s'.heap.get? a = some (seqObj "list" #[] e1) → wpAny (model prog w) A (f e1 vs.toArray) P E s') :
    wpAny (model prog w) A (do
      let ar ← Builtin.List.listItems (.ref a)
      Builtin.List.listUpdate (.ref a) fun _ => #[]
      let e1 ← seqEpoch a
      let t ← newTuple ar.toList
      let l ← newList []
      holding [t, l] (f e1 ar)) P E s := by
  have ha : a < s.heap.objs.size := Heap.lt_size hA
  refine wpAny_bind (listItems_at hA rfl (wpAny_bind (listUpdate_at hA rfl ?_ (hsz := by rw [List.size_toArray]; exact hz))))
  obtain ⟨e1, hE⟩ : ∃ e1, (s.heap.update a (Obj.mapSeq fun _ => #[])).get? a = some (seqObj "list" #[] e1) := ⟨_, get?_update_seq hA fun _ => #[]⟩
  refine wpAny_bind (seqEpoch_at hE rfl (wpAny_bind (wpAny_newTuple (wpAny_bind (wpAny_newList (wpAny_holding ?_)) ) ?hs)))
  case hs => exact hz
  refine h _ e1 rfl ?_
  show (((s.heap.update a (Obj.mapSeq fun _ => #[])).push (seqObj "tuple" vs.toArray 0)).push (seqObj "list" #[] 0)).get? a = _
  rw [Heap.get?_push_ne _ _ _ (by rw [size_push', Heap.size_update]; exact fun e => absurd ha (by rw [e]; exact Nat.not_lt.mpr (Nat.le_succ _))), Heap.get?_push_ne _ _ _ (by rw [Heap.size_update]; exact fun e => absurd ha (by rw [e]; exact Nat.lt_irrefl _))]
  exact hE
noncomputable def kwOf (b : Bool) : List (Str × Value) := if b then [(Str.ofString "reverse", .bool true)] else []
theorem w_sort {a : Addr} {vs : List Value} {ns : List Int} {n : Nat} {b : Bool} {P : Fin → Shared → Prop} (hA : s.heap.get? a = some (seqObj "list" vs.toArray n)) (hI : IntsAre vs ns) (hz : vs.length ≤ sizeLine)
    (h : ∀ (o : Array Value) (ns' : List Int), IntsAre o.toList ns' → ns'.Perm ns → Ordered b ns' → P (.done (.ret .none)) { s with heap := sortedHeap s.heap a vs o }) : wpAny (model prog w) A (Builtin.«list.sort» ⟨[.ref a], kwOf b⟩) P E s := by
  cases b with
  | false =>
    show wpAny _ _ (Builtin.«list.sort» ⟨[.ref a], []⟩) _ _ _
    rw [plain_core]
    refine w_start hA hz fun s' e1 e hA' => w_core hA' hI hz fun o ns' g1 g2 g3 => ?_
    subst e
    exact h o ns' g1 g2 g3
  | true =>
    show wpAny _ _ (Builtin.«list.sort» ⟨[.ref a], [(Str.ofString "reverse", .bool true)]⟩) _ _ _
    rw [rev_core]
    refine w_start hA hz fun s' e1 e hA' => wpAny_bind (wpAny_rule (w_core hA' hI hz fun o ns' g1 g2 g3 => ?_))
    subst e
    exact h o ns' g1 g2 g3
theorem w_collect {l : Addr} {vs : List Value} {o : Obj} {T : String} {n : Nat} {Q : List Value → Shared → Prop} (ho : s.heap.get? l = some o) (hc : o.cls = .type T) (hd : o.data = .seq vs.toArray n) (hT : T = "list" ∨ T = "tuple") (hz : vs.length ≤ sizeLine)
    (h : Q vs { s with heap := (s.heap.push (seqObj "list" #[] 0)).update s.heap.objs.size (Obj.mapSeq (· ++ vs.toArray)) }) : wpAny (model prog w) A (collect (.ref l)) Q E s := by
  unfold collect
  refine wpAny_bind (wpAny_runValue (codeAny_builtin entry_proto_collect' ?mk))
  case mk =>
  show wpAny _ _ (do again (.builtin "list.__iadd__" ⟨[← newList [], .ref l], []⟩)) _ _ _
  refine wpAny_bind (wpAny_newList (wpAny_pure (And.intro (Code.quiet_builtin _ (by decide +kernel)) (codeAny_builtin entry_list_iadd' ?_))))
  show wpAny (model prog w) _ (Builtin.List.listExtendWith (.ref s.heap.objs.size) (.ref l) (.ref s.heap.objs.size)) _ _ { s with heap := s.heap.push (seqObj "list" #[] 0) }
  unfold Builtin.List.listExtendWith
  have hO' : (s.heap.push (seqObj "list" #[] 0)).get? l = some o := Heap.get?_push_of_some _ ho
  have hN : (s.heap.push (seqObj "list" #[] 0)).get? s.heap.objs.size = some (seqObj "list" #[] 0) := Heap.get?_push_size _ rfl
  refine wpAny_bind (wpAny_typeOf (T := T) ⟨o, hO', hc⟩ ?_)
  have e1 : (Value.type "list" == Value.type "list") = true := by rfl
  have e2 : (Value.type "tuple" == Value.type "tuple") = true := by rfl
  rw [if_pos (by rcases hT with rfl | rfl <;> simp [e1, e2])]
  refine wpAny_bind (listItems_at hO' hd (wpAny_bind (listItems_at hN rfl ?_)))
  rw [if_neg (by simp)]
  refine wpAny_bind (listUpdate_at hN rfl (wpAny_pure ?_) (Nat.zero_le _) (by rw [Array.size_append, List.size_toArray]; show 0 + vs.length ≤ _; omega))
  show wpAny (model prog w) A (do
      let z ← load s.heap.objs.size
      match z.data with
      | .seq xs _ => pure xs.toList
      | _ => unsupported "internal:collect") Q E ⟨(s.heap.push (seqObj "list" #[] 0)).update s.heap.objs.size (Obj.mapSeq (· ++ vs.toArray)), s.gens, s.drawn, s.toks, s.os⟩
  refine wpAny_bind (wpAny_load (get?_update_seq hN _) ?_)
  show wpAny (model prog w) _ (pure ((#[] : Array Value) ++ vs.toArray).toList) Q E _
  have e3 : ((#[] : Array Value) ++ vs.toArray).toList = vs := by simp
  rw [e3]
  exact wpAny_pure h
theorem w_sorted {l : Addr} {vs : List Value} {ns : List Int} {o : Obj} {T : String} {n : Nat} {b : Bool} {Q : Value → Shared → Prop} (ho : s.heap.get? l = some o) (hc : o.cls = .type T) (hd : o.data = .seq vs.toArray n) (hT : T = "list" ∨ T = "tuple") (hI : IntsAre vs ns) (hz : vs.length ≤ sizeLine)
    (h : ∀ (r : Array Value) (ns' : List Int), IntsAre r.toList ns' → ns'.Perm ns → Ordered b ns' → Q (.ref (s.heap.objs.size + 1)) { s with heap := sortedAll s.heap vs r }) : wpAny (model prog w) A (call (.builtin "sorted") [.ref l] (kwOf b)) Q E s := by
  have ha : argsOk "sorted" ⟨[.ref l], kwOf b⟩ := by cases b; exact args_sorted1 _; exact args_sorted_rev _ _
  refine call_function_entry_kw kind_sorted plain_sorted entry_sorted ha ?_
  unfold Builtin.«sorted»
  refine wpAny_bind (m := checkCount "sorted" 1 1 _) (wpAny_pure (wpAny_bind (w_collect ho hc hd hT hz (wpAny_bind (wpAny_newList ?_ ?hs)))))
  case hs => exact hz
  generalize hG : (s.heap.push (seqObj "list" #[] 0)).update s.heap.objs.size (Obj.mapSeq (· ++ vs.toArray)) = G
  have sG : G.objs.size = s.heap.objs.size + 1 := by rw [← hG, Heap.size_update, size_push']
  have hL : (G.push (seqObj "list" vs.toArray 0)).get? (s.heap.objs.size + 1) = some (seqObj "list" vs.toArray 0) := by rw [← sG]; exact Heap.get?_push_size _ rfl
  show wpAny _ _ _ _ _ { s with heap := G.push (seqObj "list" vs.toArray 0) }
  rw [show ({ s with heap := G } : Shared).heap.objs.size = s.heap.objs.size + 1 from sG]
  have hs : argsOk "list.sort" ⟨[.ref (s.heap.objs.size + 1)], kwOf b⟩ := by cases b; exact args_list_sort _; exact args_list_sort_rev _ _
  refine wpAny_bind (wpAny_holding (wpAny_call_entry_kw slot_list_sort ⟨_, hL, rfl⟩ entry_list_sort (w_sort hL hI hz fun r ns' g1 g2 g3 => ⟨_, rfl, wpAny_pure ⟨_, rfl, ?_⟩⟩) hs))
  have := h r ns' g1 g2 g3
  unfold sortedAll at this
  rw [hG] at this
  exact this
end
end SRT
set_option Elab.async false
set_option linter.all false
set_option maxRecDepth 100000
set_option maxHeartbeats 4000000
namespace L2
open PySem PySem.Spec PyProof.Rows
section
variable {X : Cx}
noncomputable def rSortB (K : PySem.W.Frag) (b : Bool) : List V → Hp → VK → Prop := fun xs H Q => match xs with
  | [.ref p] => ∃ ns : List Int, (SqL K H p (ns.map V.int) ∨ SqT K H p (ns.map V.int)) ∧ ∀ l ns', H l = none → List.Perm ns' ns → Ordered b ns' → Q (.ref l) (upd H l (.lst (ns'.map V.int)))
  | _ => False
theorem sort_any {b : Bool} (pins : List (Addr × Obj)) (s : Shared) (σ : St) (H : Hp) (xs : List V) (us : List Value) (Q : VK) (I : Inv X pins σ H s) (r : Vals xs us) (h : rSortB X.K b xs H Q) :
    wpAny (model X.prog X.w) X.A (call (.builtin "sorted") us (SRT.kwOf b)) (EP X pins σ Q) X.xe s := by
  unfold rSortB at h
  split at h
  · rename_i p
    obtain ⟨ns, hq, q⟩ := h
    obtain ⟨u, rfl, rx⟩ := vals1 r
    cases rx
    obtain ⟨its, T, o, n, hI, hz, hz2, ho, hc, hd, hT⟩ : ∃ (its : List Value) (T : String) (o : Obj) (n : Nat), IntsAre its ns ∧ its.length ≤ sizeLine ∧ ns.length ≤ sizeLine ∧ s.heap.get? p = some o ∧ o.cls = .type T ∧ o.data = .seq its.toArray n ∧ (T = "list" ∨ T = "tuple") := by
      rcases hq with hq | hq
      · obtain ⟨its, rv, pl, hz⟩ := I.list hq
        obtain ⟨o, ho, hc, n, hd⟩ := id pl.isList
        exact ⟨its, "list", o, n, intsAre_of rv, by rw [← rv.length]; exact hz, by rw [List.length_map] at hz; exact hz, ho, hc, hd, .inl rfl⟩
      · obtain ⟨its, rv, pl, hz⟩ := I.tuple hq
        obtain ⟨o, ho, hc, n, hd⟩ := id pl
        exact ⟨its, "tuple", o, n, intsAre_of rv, by rw [← rv.length]; exact hz, by rw [List.length_map] at hz; exact hz, ho, hc, hd, .inr rfl⟩
    refine SRT.w_sorted ho hc hd hT hI hz fun out ns' a1 a2 a3 => ?_
    obtain ⟨e, he⟩ := sortedAll_at s.heap its out
    refine ⟨.ref (s.heap.objs.size + 1), _, I.laid (t' := s.toks) (a := s.heap.objs.size + 1) (o := .lst (ns'.map V.int)) (fun c ob q => sortedAll_old q) (Nat.le_succ _) ?_, rfl, q _ ns' (I.hok.fresh (Nat.le_succ _)) a2 a3⟩
    refine ⟨?_, out.toList, e, vals_ints a1, he⟩
    rw [List.length_map, a2.length_eq]
    exact hz2
  · exact h.elim
theorem call_sortB : CallR X (.builtin "sorted") (rSortB X.K false) := fun pins s σ H xs us Q I r h => sort_any (b := false) pins s σ H xs us Q I r h
variable {e : Expr} {es : List Expr} {t : TA} {p pos : Pos}
theorem pcb_sortB (hg : Gl X "sorted") (hm : X.mg "sorted" = none) (ha : PA X (e :: es) t) (he : starEach (e :: es) X.env = (false, eval e X.env) :: starEach es X.env) (hpl : (backTo pos (starEach es X.env)).any (·.1) = false) :
    PE X (.Call (.Name "sorted" p) (e :: es) [] pos) (tCB (rSortB X.K false) t) := pe_callB call_sortB hg hm boot_sorted' ha (by decide) (by decide) he hpl
theorem zcb_sortB (hg : Gl X "sorted") (hm : X.mg "sorted" = none) (ha : ZA X (e :: es) t) (he : starEach (e :: es) X.env = (false, eval e X.env) :: starEach es X.env) (hpl : (backTo pos (starEach es X.env)).any (·.1) = false) :
    ZE X (.Call (.Name "sorted" p) (e :: es) [] pos) (tCB (rSortB X.K false) t) := by with_unfolding_all exact pcb_sortB hg hm ha he hpl
variable {o : Expr} {to : TE} {apos cpos : Pos}
end
end L2
set_option Elab.async false
set_option linter.all false
set_option maxRecDepth 100000
set_option maxHeartbeats 4000000
namespace MXD
open PySem
section
variable {prog : Program} {w : World} {A : Around} {R : Result → Shared → Prop} {I : Addr} {fp wr : List Addr} {n : Nat} {P : Nat → Value → Prop} {St : Nat → Heap → Prop}
end
section
variable {prog : Program} {w : World} {A : Around} {E : Value → Shared → Prop} {s : Shared}
end
end MXD
namespace L2
open PySem PySem.Spec PyProof.Rows
section
variable {X : Cx}
variable {e : Expr} {es : List Expr} {t : TA} {p pos : Pos}
noncomputable def strMul (x : Str) (n : Nat) : Str := ⟨(List.replicate n x.cps).foldl (· ++ ·) #[]⟩
theorem cat_size : ∀ (l : List (Array Nat)) (a : Array Nat), (l.foldl (· ++ ·) a).size = a.size + (l.map (·.size)).sum
  | [], a => by simp
  | x :: l, a => by
    rw [List.foldl_cons, cat_size l, Array.size_append, List.map_cons, List.sum_cons]
    omega
theorem strMul_len (z : Str) (n : Nat) : (strMul z n).length = z.length * n := by
  show ((List.replicate n z.cps).foldl (· ++ ·) #[]).size = _
  rw [cat_size, List.map_replicate, List.sum_replicate_nat]
  show 0 + n * z.length = _
  rw [Nat.zero_add, Nat.mul_comm]
noncomputable def rMulS : R2 := fun x y H Q => match x, y with
  | .str z, .int k => (2 ≤ k ∧ 1 ≤ z.length ∧ z.length * k.toNat ≤ sizeLine) ∧ Q (.str (strMul z k.toNat)) H
  | _, _ => False
theorem op_mulS : OpR X (binaryOp .Mult) rMulS := by
  intro pins s σ H x y v u Q I rx ry h
  unfold rMulS at h
  split at h
  · rename_i z k
    obtain ⟨⟨h1, h2, h3⟩, q⟩ := h
    obtain ⟨t, rfl⟩ := rx
    obtain ⟨t', rfl⟩ := ry
    have hz : (z.length == 0) = false := by
      have : z.length ≠ 0 := by omega
      simpa using this
    have hk1 : (k == 1) = false := by
      have : k ≠ 1 := by omega
      simpa using this
    have hs := sizeLine_eq
    have hkk : k.toNat ≤ z.length * k.toNat := Nat.le_mul_of_pos_left _ (by omega)
    have hzz : z.length ≤ z.length * k.toNat := Nat.le_mul_of_pos_right _ (by omega)
    refine P.mul_str ?_ (fun _ _ => ?_) (fun _ _ => ?_) ?_
    · rw [decide_eq_false (by omega), decide_eq_false (by omega)]; rfl
    · have : (z.length : Int) ≤ (2 ^ 63 - 1) / k := by
        rw [Int.le_ediv_iff_mul_le (by omega)]
        have : (z.length : Int) * k = ((z.length * k.toNat : Nat) : Int) := by
          rw [Int.natCast_mul, Int.toNat_of_nonneg (by omega)]
        omega
      omega
    · unfold Builtin.Str.tooLong
      exact decide_eq_false (by omega)
    · rw [if_neg (by omega), hk1, hz]
      exact ⟨Nat.le_trans (Nat.le_of_eq (strMul_len z k.toNat)) h3, ⟨.str _, H, I.tok _, ⟨_, rfl⟩, q⟩⟩
  · exact h.elim
variable {o : Expr} {to : TE} {apos cpos : Pos}
end
end L2
set_option Elab.async false
set_option linter.all false
set_option maxRecDepth 100000
set_option maxHeartbeats 4000000
namespace L2
open PySem PySem.Spec PyProof.Rows
section
variable {X : Cx} {e : Expr} {es : List Expr} {t : TA} {p pos : Pos}
end
noncomputable def seqD (c : Bool) (ds : List PyData) : PyData := match c with | true => .tuple ds | false => .list ds
theorem DatAll.get {H : Hp} : ∀ {xs : List V} {ds : List PyData} {i : Nat} {x : V}, DatAll H xs ds → xs[i]? = some x → ∃ d, ds[i]? = some d ∧ DatV H x d
  | _, _, 0, _, .cons h _, e => by cases e; exact ⟨_, rfl, h⟩
  | _, _, i + 1, _, .cons _ r, e => by
    obtain ⟨d, h1, h2⟩ := DatAll.get (i := i) r (by simpa using e)
    exact ⟨d, by simpa using h1, h2⟩
theorem DatAll.len {H : Hp} : ∀ {xs : List V} {ds : List PyData}, DatAll H xs ds → xs.length = ds.length
  | _, _, .nil => rfl
  | _, _, .cons _ r => by rw [List.length_cons, List.length_cons, DatAll.len r]
theorem rep_snoc (j : Nat) : (List.replicate j true).map V.bl ++ [V.bl true] = (List.replicate (j + 1) true).map V.bl := by
  rw [List.replicate_succ', List.map_append]; rfl
theorem rep_all (n : Nat) : (List.replicate n true).all id = true := by
  rw [List.all_eq_true]; intro x hx; exact List.eq_of_mem_replicate hx
theorem seq_of {H : Hp} {x : V} {c : Bool} {ds : List PyData} (h : DatV H x (seqD c ds)) : ∃ a xs, x = .ref a ∧ SqK H c a xs ∧ DatAll H xs ds := by
  cases c with
  | true =>
    cases (show DatV H x (.tuple ds) from h) with
    | tup e r => exact ⟨_, _, rfl, e, r⟩
  | false =>
    cases (show DatV H x (.list ds) from h) with
    | lst e r => exact ⟨_, _, rfl, e, r⟩
noncomputable def seqT (c : Bool) : String := match c with | true => "tuple" | false => "list"
theorem SqK.ty {H : Hp} {c : Bool} {a : Addr} {xs : List V} (h : SqK H c a xs) : tyName H (.ref a) = some (seqT c) := by
  cases c with
  | true => unfold tyName; dsimp only; rw [show H a = some (.tup xs) from h]; rfl
  | false => unfold tyName; dsimp only; rw [show H a = some (.lst xs) from h]; rfl
theorem SqK.len {K : PySem.W.Frag} {H : Hp} {c : Bool} {a : Addr} {xs : List V} (h : SqK H c a xs) : SqL K H a xs ∨ H a = some (.tup xs) := by
  cases c with
  | true => exact .inr h
  | false => exact .inl (SqL.of h)
end L2
set_option Elab.async false
set_option linter.all false
set_option maxRecDepth 100000
set_option maxHeartbeats 4000000
namespace L2
open PySem PySem.Spec PyProof.Rows
section
variable {X : Cx} {e : Expr} {es : List Expr} {t : TA} {p pos : Pos} {o : Expr} {to : TE} {apos cpos : Pos}
noncomputable def tNo : TS := fun _ _ _ => False
theorem ps_no {st : Stmt} : PS X st tNo := fun _ _ _ _ _ _ h => h.elim
theorem zs_no {st : Stmt} : ZS X st tNo := by with_unfolding_all exact ps_no 
end
end L2
set_option Elab.async false
set_option linter.all false
set_option maxRecDepth 100000
set_option maxHeartbeats 4000000
namespace L2
open PySem PySem.Spec PyProof.Rows
section
variable {prog : Program} {w : World} {A : Around} {E : Value → Shared → Prop} {R : Result → Shared → Prop} {s : Shared}
end
section
variable {X : Cx} {nv : List Str} {ix : List (Str × Nat)} {scope : Scope} {pins : List (Addr × Obj)} {σ : St} {H : Hp} {s : Shared} {elt t1 i1 t2 i2 : Expr} {c1 c2 : List Expr} {pos : Pos}
end
end L2
set_option Elab.async false
set_option linter.all false
set_option maxRecDepth 100000
set_option maxHeartbeats 4000000
namespace L2
open PySem PySem.Spec PyProof.Rows
section
variable {X : Cx} {e v₁ v₂ : Expr} {es : List Expr} {te : TE} {pos : Pos}
end
end L2
set_option Elab.async false
set_option linter.all false
set_option maxRecDepth 100000
set_option maxHeartbeats 4000000
namespace L2
open PySem PySem.Spec PyProof.Rows
section
variable {κ : Type} [DecidableEq κ]
end
section
variable {P : Program} {w : World} {H : Hp} {h : Heap} {a : Addr}
end
section
variable {X : Cx} {pins : List (Addr × Obj)} {σ : St} {H : Hp} {s : Shared} {a : Addr} {y v : V} {u r : Value} {o : Option V} {A : Around} {E : Value → Shared → Prop}
end
section
variable {X : Cx} {pins : List (Addr × Obj)} {σ : St} {H : Hp} {s : Shared} {a : Addr} {kvs : List (Key × V)} {k : Key} {u : Value} {A : Around} {E : Value → Shared → Prop}
end
section
variable {X : Cx} {o i e value : Expr} {pos pos' tpos : Pos} {td ty tv : TE}
end
section
variable {X : Cx} {pos : Pos}
end
end L2
set_option Elab.async false
set_option linter.all false
set_option maxRecDepth 100000
set_option maxHeartbeats 4000000
namespace DCT
open PySem PyProof.Rows SRT L2
section
variable {prog : Program} {w : World} {A : Around} {E : Value → Shared → Prop} {s : Shared} {K : Type} [DecidableEq K] {knd : KeyKind prog w K}
end
end DCT
namespace L2
open PySem PySem.Spec PyProof.Rows
section
variable {X : Cx}
variable {e : Expr} {es : List Expr} {t : TA} {p pos : Pos}
end
end L2
set_option Elab.async false
set_option linter.all false
set_option maxRecDepth 100000
set_option maxHeartbeats 4000000
namespace PySem
open Sem (wp)
section
variable {prog : Program} {w : World} {A : Around} {E : Value → Shared → Prop} {K : Type} [DecidableEq K] {knd : KeyKind prog w K}
end
end PySem
namespace L2
open PySem PySem.Spec PyProof.Rows
section
variable {X : Cx}
variable {e : Expr} {es : List Expr} {t : TA} {p pos : Pos}
end
end L2
set_option Elab.async false
set_option linter.all false
set_option maxRecDepth 100000
set_option maxHeartbeats 4000000
namespace L2
open PySem PySem.Spec PyProof.Rows
section
variable {X : Cx} {pins : List (Addr × Obj)} {σ : St} {H : Hp} {s : Shared} {a : Addr} {y d : V} {u r : Value} {o : Option V} {A : Around} {E : Value → Shared → Prop}
end
section
variable {X : Cx} {o e f : Expr} {apos cpos : Pos} {td ty tx : TE}
end
end L2
set_option Elab.async false
set_option linter.all false
set_option maxRecDepth 100000
set_option maxHeartbeats 4000000
namespace L2
open PySem PySem.Spec PyProof.Rows
section
variable {X : Cx}
end
end L2
set_option Elab.async false
set_option linter.all false
set_option maxRecDepth 100000
set_option maxHeartbeats 4000000
namespace L2
open PySem PySem.Spec PyProof.Rows
section
variable {X : Cx}
variable {e : Expr} {es : List Expr} {t : TA} {p pos : Pos}
end
end L2
set_option Elab.async false
set_option linter.all false
set_option maxRecDepth 100000
set_option maxHeartbeats 4000000
namespace L2
open PySem PySem.Spec PyProof.Rows
section
variable {X : Cx}
variable {e : Expr} {es : List Expr} {t : TA} {p pos : Pos}
end
end L2
set_option Elab.async false
set_option linter.all false
set_option maxRecDepth 100000
set_option maxHeartbeats 4000000
namespace L2
open PySem PySem.Spec PyProof.Rows
section
variable {prog : Program} {w : World} {A : Around} {E : Value → Shared → Prop} {s : Shared}
variable {z TI TO i1 i2 i3 l1 l2 l3 : Addr} {k1 k2 k3 : Nat} {xs ys zs : Array Value}
end
section
variable {prog : Program} {w : World} {A : Around} {E : Value → Shared → Prop} {s : Shared}
end
section
variable {X : Cx} {pins : List (Addr × Obj)} {σ : St} {H : Hp} {s : Shared}
end
end L2
set_option Elab.async false
set_option linter.all false
set_option maxRecDepth 100000
set_option maxHeartbeats 4000000
namespace L2
open PySem PySem.Spec PyProof.Rows
theorem ns_none_at {K : PySem.W.Frag} {h : Heap} {ns : Addr} {mg : Str → Option Value} {n : Str} (X : K.In h) (G : h.Ns ns mg) (e : PySem.W.nsIn K ns n = some none) : mg n = none := by
  obtain ⟨o, es, ep, ho, hd, _, hf⟩ := G
  unfold PySem.W.nsIn at e
  split at e
  · rename_i c d es' n' sl q
    have := X _ _ q
    rw [ho] at this
    cases this
    cases hd
    split at e
    · cases e
    · rename_i he
      rw [← hf]
      unfold nsFind findBy
      rw [← Array.find?_toList, he]
      rfl
  · cases e
noncomputable def DigK (K : PySem.W.Frag) : Prop := PySem.W.nsIn K cStatics "sys.int_max_str_digits" = some none
theorem wp_textL {M : Model} {A : Around} {E : Value → Shared → Prop} {s : Shared} {Q : Value → Shared → Prop} {v : Value} {text : List Nat} {n : Int} {mc : Str → Option Value}
    (hns : s.heap.Ns cStatics mc) (hmc : mc "sys.int_max_str_digits" = none)
    (hs : ¬ (text.takeWhile (· != 0)).length ≤ 640) (hr : (int_private% "readNumeral") 4300 10 (text.takeWhile (· != 0)) = (int_private% "Numeral.value") n)
    (ha : ((text.takeWhile (· != 0)).length == text.length) = true) (h : Q (.int n s.toks) { s with toks := s.toks + 1 }) :
    wpAny M A ((int_private% "intFromText") v text 10) Q E s := by
  obtain ⟨hp, g, d, tk, os⟩ := s
  have lim : ∀ (Q : Nat → Shared → Prop) (E : Value → Shared → Prop), Q 4300 ⟨hp, g, d, tk, os⟩ → wpAny M A Builtin.intMaxStrDigits Q E ⟨hp, g, d, tk, os⟩ := fun Q E q => by
    unfold Builtin.intMaxStrDigits
    refine wpAny_bind (wpAny_nsGet hns ?_)
    rw [hmc]
    exact wpAny_pure q
  repeat (any_goals (first
    | assumption
    | (with_reducible refine lim _ _ ?_)
    | (with_reducible refine wpAny_ite_false (decide_eq_false hs) ?_)
    | (with_reducible refine wpAny_ite_true (decide_eq_true ha) ?_)
    | wp_step))
  all_goals (try rw [hr])
  all_goals (try dsimp only)
  repeat (any_goals (first
    | assumption
    | (with_reducible refine lim _ _ ?_)
    | (with_reducible refine wpAny_ite_false (decide_eq_false hs) ?_)
    | (with_reducible refine wpAny_ite_true (decide_eq_true ha) ?_)
    | wp_step))
noncomputable def NoDig (h : Heap) : Prop := ∃ mc, h.Ns cStatics mc ∧ mc "sys.int_max_str_digits" = none
theorem meets_textL {x : PySem.Str} {u : Tok} {n : Int} (hx : x.length ≤ sizeLine) (hbig : ¬ (numSeenOf x).length ≤ 640) (hn : PySem.intText? x = some n) :
    Meets (Builtin.«int.__new__» ⟨[.type "int", .str x u], []⟩) (fun _ R s => NoDig s.heap ∧ R (.ok (.ret (.int n s.toks))) { s with toks := s.toks + 1 }) :=
  .of_wp fun prog w A R s h => by
    obtain ⟨⟨mc, hns, hmc⟩, h⟩ := h
    obtain ⟨hp, g, d, tk, os⟩ := s
    have f1 := PySem.F.conv_sub_int
    have f2 := PySem.F.madeHere_int
    have f3 := PySem.W.KIN.str_int
    have f4 := PySem.W.KIN.str_idx
    have f5 := PySem.W.KIN.str_trunc
    have f6 : typeOf (.str x u) = pure (.type "str") := rfl
    have hr : (int_private% "readNumeral") 4300 10 (numSeenOf x) = (int_private% "Numeral.value") n ∧ ((numSeenOf x).length == (numTextOf x).length) = true := by
      rcases read4300 x hx with ⟨m, h1, h2, h3⟩ | ⟨h1, _⟩
      · rw [hn] at h1
        injection h1 with h1
        subst h1
        exact ⟨h3, h2⟩
      · rw [hn] at h1
        cases h1
    have hk := PySem.W.KIN.Hid.mk (And.intro hbig hr)
    have hm := PySem.W.KIN.Hid.mk (And.intro hns hmc)
    clear hbig hr hn hns hmc
    repeat (any_goals (first
      | assumption
      | ((with_reducible show wpAny _ _ ((int_private% "intFromText") _ _ _) _ _ _); refine wp_textL hm.out.1 hm.out.2 hk.out.1 hk.out.2.1 hk.out.2.2 ?_)
      | wp_step))
    all_goals first | exact ⟨_, rfl, h⟩ | skip
section
variable {X : Cx}
noncomputable def rIntL : List V → Hp → VK → Prop := fun xs H Q => match xs with
  | [.str x] => ∃ n, intText? x = some n ∧ x.length ≤ sizeLine ∧ (¬ (numSeenOf x).length ≤ 640) ∧ Q (.int n) H
  | _ => False
theorem Inv.noDig {pins : List (Addr × Obj)} {σ : St} {H : Hp} {s : Shared} (I : Inv X pins σ H s) (hD : DigK X.K) : NoDig s.heap := by
  obtain ⟨mc, hns, _⟩ := I.nolimit
  exact ⟨mc, hns, ns_none_at I.kIn hns hD⟩
theorem call_intL (hD : DigK X.K) : CallR X (.type "int") rIntL := by
  intro pins s σ H xs us Q I r h
  unfold rIntL at h
  split at h
  · obtain ⟨n, h1, h2, hb, q⟩ := h
    obtain ⟨u, rfl, r1⟩ := vals1 r
    obtain ⟨t, rfl⟩ := r1
    exact call_int_1 (meets_textL h2 hb h1) ⟨I.noDig hD, ⟨rfl, ⟨.int n, H, I.tok _, ⟨_, rfl⟩, q⟩⟩⟩
  · exact h.elim
variable {e : Expr} {es : List Expr} {t : TA} {p pos : Pos}
theorem pcb_intL (hD : DigK X.K) (hg : Gl X "int") (hm : X.mg "int" = none) (ha : PA X (e :: es) t) (he : starEach (e :: es) X.env = (false, eval e X.env) :: starEach es X.env) (hpl : (backTo pos (starEach es X.env)).any (·.1) = false) :
    PE X (.Call (.Name "int" p) (e :: es) [] pos) (tCB rIntL t) := pe_callTy (call_intL hD) hg hm boot_int' ha (by decide) (by decide) he hpl
theorem zcb_intL (hD : DigK X.K) (hg : Gl X "int") (hm : X.mg "int" = none) (ha : ZA X (e :: es) t) (he : starEach (e :: es) X.env = (false, eval e X.env) :: starEach es X.env) (hpl : (backTo pos (starEach es X.env)).any (·.1) = false) :
    ZE X (.Call (.Name "int" p) (e :: es) [] pos) (tCB rIntL t) := by with_unfolding_all exact pcb_intL hD hg hm ha he hpl
end
end L2
set_option Elab.async false
set_option linter.all false
set_option maxRecDepth 100000
set_option maxHeartbeats 4000000
namespace L2
open PySem PySem.Spec PyProof.Rows
section
variable {X : Cx} {e : Expr} {es : List Expr} {t : TA} {p pos : Pos}
end
end L2
set_option Elab.async false
set_option linter.all false
set_option maxRecDepth 100000
set_option maxHeartbeats 4000000
namespace L2
open PySem PySem.Spec PyProof.Rows
end L2
set_option Elab.async false
set_option linter.all false
set_option maxRecDepth 100000
set_option maxHeartbeats 4000000
namespace L2
open PySem PySem.Spec PyProof.Rows
section
variable {X : Cx}
variable {e : Expr} {es : List Expr} {t : TA} {p pos : Pos}
end
end L2
set_option Elab.async false
set_option linter.all false
set_option maxRecDepth 100000
set_option maxHeartbeats 4000000
namespace HT
open PySem PyProof.Rows PySem.SeqAt
variable {prog : Program} {w : World} {A : Around} {E : Value → Shared → Prop} {s : Shared}
end HT
namespace L2
open PySem PySem.Spec PyProof.Rows
section
variable {X : Cx} {e lo hi : Expr} {te tl tk : TE} {pos p2 : Pos}
end
end L2
set_option Elab.async false
set_option linter.all false
set_option maxRecDepth 100000
set_option maxHeartbeats 4000000
namespace EN1
open PySem PyProof.Rows
section
variable {prog : Program} {w : World} {A : Around} {E : Value → Shared → Prop} {s : Shared}
end
end EN1
set_option Elab.async false
set_option linter.all false
set_option maxRecDepth 100000
set_option maxHeartbeats 4000000
namespace EN1
open PySem PyProof.Rows
section
end
end EN1
namespace L2
open PySem PySem.Spec PyProof.Rows
section
variable {X : Cx}
end
end L2
set_option Elab.async false
set_option linter.all false
set_option maxRecDepth 100000
set_option maxHeartbeats 4000000
namespace PySem
open PyProof.Rows
section
variable {prog : Program} {w : World} {A : Around} {E : Value → Shared → Prop} {s : Shared}
end
end PySem
namespace L2
open PySem PySem.Spec PyProof.Rows
section
variable {X : Cx}
variable {e : Expr} {es : List Expr} {t : TA} {p pos : Pos}
end
end L2
set_option Elab.async false
set_option linter.all false
set_option maxRecDepth 100000
set_option maxHeartbeats 4000000
namespace L2
open PySem PySem.Spec PyProof.Rows
section
variable {X : Cx}
end
end L2
set_option Elab.async false
set_option linter.all false
set_option maxRecDepth 100000
set_option maxHeartbeats 4000000
namespace B9
open PySem L2
theorem fold_app : ∀ (l : List (Array Nat)) (a : Array Nat), (l.foldl (· ++ ·) a).toList = a.toList ++ (l.map Array.toList).flatten
  | [], a => by simp
  | x :: l, a => by rw [List.foldl_cons, fold_app l (a ++ x)]; simp
theorem mul_cps (x : Str) (n : Nat) : (strMul x n).cps.toList = (List.replicate n x.cps.toList).flatten := by
  unfold strMul
  rw [fold_app, List.map_replicate]
  simp
theorem nought : (Str.ofString "0").cps.toList = [48] := by decide +kernel
theorem rep_one (n : Nat) : (List.replicate n [48]).flatten = List.replicate n (48 : Nat) := by
  induction n with
  | zero => rfl
  | succ n ih => rw [List.replicate_succ, List.flatten_cons, ih, List.replicate_succ]; rfl
theorem app_cps (x y : Str) : (x ++ y).cps.toList = x.cps.toList ++ y.cps.toList := by
  show (x.cps ++ y.cps).toList = _
  simp
theorem one_cps : (Str.ofString "1").cps.toList = [49] := by decide +kernel
theorem cpsN (n : Nat) : ((Str.ofString "1") ++ strMul (Str.ofString "0") n).cps.toList = 49 :: List.replicate n 48 := by
  rw [app_cps, mul_cps, nought, rep_one, one_cps]
  rfl
theorem lenN (n : Nat) : ((Str.ofString "1") ++ strMul (Str.ofString "0") n).length = n + 1 := by
  show ((Str.ofString "1") ++ strMul (Str.ofString "0") n).cps.size = n + 1
  rw [← Array.length_toList, cpsN]
  simp
theorem digN (n : Nat) : NumText.AllDigits (49 :: List.replicate n 48) := by
  intro c hc
  rcases List.mem_cons.mp hc with rfl | hc
  · decide
  · rw [List.eq_of_mem_replicate hc]; decide
theorem exN {n : Nat} (h : n < 4300) : ∃ B : Int, intText? ((Str.ofString "1") ++ strMul (Str.ofString "0") n) = some B ∧ 0 < B := by
  refine ⟨_, intText_digits (by rw [cpsN]; exact digN n) (by rw [cpsN]; exact List.cons_ne_nil _ _) (by rw [lenN]; omega), ?_⟩
  have : 0 < NumText.digitsVal (49 :: List.replicate n 48) := NumText.digitsVal_pos (Nat.le_refl _)
  rw [cpsN]
  exact Int.natCast_pos.mpr this
theorem lenM (n : Nat) : (Str.ofString "1").length + (strMul (Str.ofString "0") n).length = n + 1 := by
  show (Str.ofString "1").cps.size + (strMul (Str.ofString "0") n).cps.size = n + 1
  rw [← Array.length_toList, ← Array.length_toList, mul_cps, nought, rep_one, one_cps]
  simp
  omega
theorem seenN {n : Nat} (h : 640 ≤ n) : ¬ (numSeenOf ((Str.ofString "1") ++ strMul (Str.ofString "0") n)).length ≤ 640 := by
  have e := (numText_signs (x := (Str.ofString "1") ++ strMul (Str.ofString "0") n) (fun c hc => by
    rw [cpsN] at hc
    rcases List.mem_cons.mp hc with rfl | hc
    · exact .inr (by decide)
    · rw [List.eq_of_mem_replicate hc]; exact .inr (by decide))).2
  have e2 := congrArg List.length e
  rw [cpsN, List.length_cons, List.length_replicate] at e2
  omega
end B9
set_option Elab.async false
set_option linter.all false
set_option maxRecDepth 100000
set_option maxHeartbeats 4000000
namespace K60
open PySem L2
noncomputable def top (i : Nat) : Stmt := PySem.Challenge.pw_partrests_k60_whole_paired.main.body.getD i (.Pass ⟨0, 0, 0, 0⟩)
noncomputable def Hand (H : Hp) (a : Addr) (n : Nat) : Prop := ∃ g s c : Int, H a = some (.lst [.int g, .int s, .int c]) ∧ 0 ≤ g ∧ 0 ≤ s ∧ s < 2305843009213693951 ∧ 0 ≤ c ∧ c ≤ n
noncomputable def Step (a : Addr) (n : Nat) (H H' : Hp) : Prop := (∀ b o, b ≠ a → H b = some o → H' b = some o) ∧ Hand H' a n
theorem Hand.mono {H : Hp} {a : Addr} {n m : Nat} (h : Hand H a n) (k : n ≤ m) : Hand H a m := let ⟨g, s, c, e, h1, h2, h3, h4, h5⟩ := h; ⟨g, s, c, e, h1, h2, h3, h4, by omega⟩
theorem Hand.same {H H' : Hp} {a : Addr} {n : Nat} (h : Hand H a n) (y : Same H H') : Hand H' a n := let ⟨g, s, c, e, r⟩ := h; ⟨g, s, c, y _ _ e, r⟩
theorem Hand.at {H : Hp} {a : Addr} {n : Nat} (h : Hand H a n) : ∃ xs, H a = some (.lst xs) := let ⟨_, _, _, e, _⟩ := h; ⟨_, e⟩
theorem Hand.ne {H : Hp} {a b : Addr} {n : Nat} (h : Hand H a n) (hb : H b = none) : b ≠ a := fun z => by
  obtain ⟨xs, e⟩ := h.at
  rw [z, e] at hb
  cases hb
theorem Step.trans {a : Addr} {n m : Nat} {H H1 H2 : Hp} (x : Step a n H H1) (y : Step a m H1 H2) : Step a m H H2 := ⟨fun b o k e => y.1 b o k (x.1 b o k e), y.2⟩
theorem Step.same {a : Addr} {n : Nat} {H H1 H2 : Hp} (x : Step a n H H1) (y : Same H1 H2) : Step a n H H2 := ⟨fun b o k e => y b o (x.1 b o k e), x.2.same y⟩
theorem Step.refl {a : Addr} {n : Nat} {H : Hp} (h : Hand H a n) : Step a n H H := ⟨fun _ _ _ e => e, h⟩
theorem Step.mono {a : Addr} {n m : Nat} {H H' : Hp} (x : Step a n H H') (k : n ≤ m) : Step a m H H' := ⟨x.1, x.2.mono k⟩
theorem atI_of {xs : List V} {k : Int} {j : Nat} {v : V} (h : k = (j : Int)) (hx : xs[j]? = some v) : atI xs k = some v := by subst h; exact atI_nat hx
theorem getI {ns : List Int} {j : Nat} (h : j < ns.length) : (ns.map V.int)[j]? = some (.int ns[j]) := by rw [List.getElem?_map, List.getElem?_eq_getElem h]; rfl
theorem mulR {a b : Int} (h1 : -(2 ^ 64) < b) (h2 : b < 2 ^ 64) : IntMulOk a b := IntMulOk.of_right (intBits_le_64 h1 h2)
theorem mulL {a b : Int} (h1 : -(2 ^ 64) < a) (h2 : a < 2 ^ 64) : IntMulOk a b := IntMulOk.of_left (intBits_le_64 h1 h2)
section
variable {P : Program} {w : World} {K : PySem.W.Frag} {mg : Str → Option Value} {base : Heap} {f : Addr} {fd : FuncData}
theorem sc_take : FnScope ["_law_hand_here", "_law_many", "_law_digit", "_law_mixed"] ["_law_hand_here", "_law_many"] (defScope (top 13)) := ⟨rfl, rfl, rfl, by decide +kernel, rfl, by decide +kernel, by decide +kernel⟩
noncomputable def sp_take : Sp := fun vs H Q _ => ∃ (a : Addr) (m : Int) (n : Nat), vs = [.ref a, .int m] ∧ Hand H a n ∧ n < 1000000000 ∧ 0 < m ∧ m < 1073741824 ∧ ∀ r H', 0 ≤ r → r < m → Step a (n + 1) H H' → Q (.int r) H'
theorem ok_take (F : Fun K "_law_take" "_law_take" (top 13) f fd) : FnOk P w K mg base CX0 1 f fd ["_law_hand_here", "_law_many"] sp_take := by
  refine F.okz sc_take (fun vs H Q E h => ?_) (fun cdv A outer s H vs Q E hr h => ?_)
  · obtain ⟨a, m, n, rfl, _⟩ := h; rfl
  obtain ⟨a, m, n, rfl, ⟨g, z, c, hl, g0, z0, z1, c0, c1⟩, n1, m0, m1, q⟩ := h
  have nd := sc_take.nd
  refine ⟨_, (zss_cons (zs_if (zt_cmpP op_gtP (ze_ix ix_P (zn 0) ze_int (fun _ _ => rfl)) ze_int (nomark _)) (zss_cons (zs_set (i := 2) nd rfl (Or.inl rfl) (ze_op op_modP (ze_ix ix_P (zn 0) ze_int (fun _ _ => rfl)) (zn 1)))
      (zss_cons (zs_asg (ze_op op_fdivP (ze_ix ix_P (zn 0) ze_int (fun _ _ => rfl)) (zn 1)) (zg_sub (zn 0) ze_int set_list))
      (zss_one (zs_ret (zn 2))))) zss_nil)
      (zss_cons (zs_asg (ze_op op_addP (ze_ix ix_P (zn 0) ze_int (fun _ _ => rfl)) ze_int) (zg_sub (zn 0) ze_int set_list))
      (zss_cons (zs_set (i := 3) nd rfl (Or.inl rfl) (ze_op op_modP (ze_op op_mulQ (ze_op op_addP (ze_op op_addP (ze_ix ix_P (zn 0) ze_int (fun _ _ => rfl)) (ze_op op_mulQ (ze_op op_mulQ ze_int (ze_ix ix_P (zn 0) ze_int (fun _ _ => rfl))) (ze_ix ix_P (zn 0) ze_int (fun _ _ => rfl)))) ze_int) ze_int) ze_int))
      (zss_cons (zs_set (i := 3) nd rfl (Or.inl rfl) (ze_op op_modP (ze_op op_mulQ (zn 3) (ze_op op_addP (ze_op op_modP (zn 3) ze_int) (ze_op op_mulQ ze_int (ze_ix ix_P (zn 0) ze_int (fun _ _ => rfl))))) ze_int))
      (zss_one (zs_ret (ze_op op_modP (ze_op op_addP (ze_op op_fdivP (zn 3) ze_int) (ze_op op_fdivP (zn 3) ze_int)) (zn 1)))))))), ?_⟩
  refine ⟨_, .inl (SqL.of hl), .int g, rfl, ?_⟩
  refine iteD (fun hg => ?_) (fun hg => ?_)
  · refine ⟨_, .inl (SqL.of hl), .int g, rfl, m0, ?_⟩
    refine ⟨_, .inl (SqL.of hl), .int g, rfl, ⟨m0, m1⟩, ?_⟩
    refine ⟨a, _, _, _, rfl, rfl, hl, rfl, ?_⟩
    refine q _ _ (Int.emod_nonneg _ (by omega)) (Int.emod_lt_of_pos _ m0) ⟨fun b o n e => ?_, g / m, z, c, upd_same, Int.ediv_nonneg g0 (by omega), z0, z1, c0, by omega⟩
    rw [upd_ne n]; exact e
  · refine ⟨_, .inl (SqL.of hl), .int c, rfl, ?_⟩
    refine ⟨a, _, _, _, rfl, rfl, hl, rfl, ?_⟩
    refine ⟨_, .inl (SqL.of upd_same), .int z, rfl, ?_⟩
    refine ⟨_, .inl (SqL.of upd_same), .int (c + 1), rfl, mulL (by decide) (by decide), ?_⟩
    refine ⟨_, .inl (SqL.of upd_same), .int (c + 1), rfl, mulR (by omega) (by omega), mulR (by decide) (by decide), (show (0 : Int) < 2305843009213693921 by decide), ?_⟩
    generalize hb1 : (z + 65537 * (c + 1) * (c + 1) + 11) * 48271 % 2305843009213693921 = b1
    have e1 : 0 ≤ b1 := by rw [← hb1]; exact Int.emod_nonneg _ (by decide)
    have e2 : b1 < 2305843009213693921 := by rw [← hb1]; exact Int.emod_lt_of_pos _ (by decide)
    refine ⟨(show (0 : Int) < 1000003 by decide), ?_⟩
    refine ⟨_, .inl (SqL.of upd_same), .int (c + 1), rfl, mulL (by decide) (by decide), mulL (by omega) (by omega), (show (0 : Int) < 2305843009213693907 by decide), ?_⟩
    refine ⟨⟨by decide, by decide⟩, ⟨by decide, by decide⟩, m0, ?_⟩
    refine q _ _ (Int.emod_nonneg _ (by omega)) (Int.emod_lt_of_pos _ m0) ⟨fun b o n e => ?_, g, z, c + 1, upd_same, g0, z0, z1, by omega, by omega⟩
    rw [upd_ne n]; exact e
theorem sc_hand : FnScope ["_law_script", "_law_k", "_law_cell", "_law_great"] ["_law_script", "_law_k"] (defScope (top 12)) := ⟨rfl, rfl, rfl, by decide +kernel, rfl, by decide +kernel, by decide +kernel⟩
noncomputable def sp_hand (K : PySem.W.Frag) : Sp := fun vs H Q _ => ∃ (a : Addr) (k : Int) (ns : List Int), vs = [.ref a, .int k] ∧ SqL K H a (ns.map V.int) ∧ 0 ≤ k ∧ k ≤ 100 ∧ ∀ p H', H p = none → Same H H' → Hand H' p 0 → Q (.ref p) H'
theorem ok_hand (F : Fun K "_law_hand" "_law_hand" (top 12) f fd) (m_int : mg "int" = none) (m_len : mg "len" = none) (g_DIG : DigK K) : FnOk P w K mg base CX0 1 f fd ["_law_script", "_law_k"] (sp_hand K) := by
  refine F.okz sc_hand (fun vs H Q E h => ?_) (fun cdv A outer s H vs Q E hr h => ?_)
  · obtain ⟨a, k, ns, rfl, _⟩ := h; rfl
  obtain ⟨a, k, ns, rfl, hS, k0, k1, q⟩ := h
  have nd := sc_hand.nd
  have fin : ∀ (g v : Int) (L : Addr), 0 ≤ g → H L = none → Q (.ref L) (upd H L (.lst [.int g, .int ((v % 2305843009213693951 + 7919 * k + 3) % 2305843009213693951), .int 0])) := fun g v L hg hL =>
    q L _ hL (Same.new hL _) ⟨g, _, 0, upd_same, hg, Int.emod_nonneg _ (by decide), Int.emod_lt_of_pos _ (by decide), by decide, by decide⟩
  have rest : ∃ t, ZSs (cxOf CX0 P w K mg base ["_law_script", "_law_k", "_law_cell", "_law_great"] "_law_hand" (defScope (top 12)) f cdv A outer s H E).nox ((defBody (top 12)).drop 2) t ∧
      ∀ (v : Int), t { nx := fun _ H' => Q .non H', rt := Q } [some (.ref a), some (.int k), some (.int v), none] H := by
    refine ⟨_, (zss_cons (zs_set (i := 3) nd rfl (Or.inl rfl) ze_int)
      (zss_cons (zs_if (zt_cmpP op_geP (zn 2) (ze_op op_powP ze_int ze_int) (nomark _)) (zss_one (zs_set (i := 3) nd rfl (Or.inl rfl) (ze_op op_modP (zn 2) (zcb_intL g_DIG rfl m_int (za_cons (ze_op op_addP ze_str (ze_op op_mulS ze_str ze_int)) za_nil) rfl rfl)))) zss_nil)
      (zss_one (zs_ret (ze_lst (za_cons (zn 3) (za_cons (ze_op op_modP (ze_op op_addP (ze_op op_addP (ze_op op_modP (zn 2) ze_int) (ze_op op_mulQ ze_int (zn 1))) ze_int) ze_int) (za_cons ze_int za_nil)))))))), ?_⟩
    intro v
    obtain ⟨B, hB, B0⟩ := B9.exN (n := Int.toNat 900) (by decide)
    have hlen : ((Str.ofString "1") ++ strMul (Str.ofString "0") (Int.toNat 900)).length ≤ sizeLine := by rw [B9.lenN, sizeLine_eq]; decide
    have hseen := B9.seenN (n := Int.toNat 900) (by decide)
    refine ⟨⟨by decide, by decide, by decide⟩, ?_⟩
    refine iteD (fun c => ?_) (fun c => ?_)
    · refine ⟨by decide, by rw [B9.lenM, sizeLine_eq]; decide, B, hB, hlen, hseen, B0, ?_⟩
      refine ⟨(show (0 : Int) < 2305843009213693951 by decide), mulL (by decide) (by decide), (show (0 : Int) < 2305843009213693951 by decide), by show 3 ≤ sizeLine; decide, fun L hL => ?_⟩
      exact fin _ _ L (Int.emod_nonneg _ (by omega)) hL
    · refine ⟨(show (0 : Int) < 2305843009213693951 by decide), mulL (by decide) (by decide), (show (0 : Int) < 2305843009213693951 by decide), by show 3 ≤ sizeLine; decide, fun L hL => ?_⟩
      exact fin _ _ L (by decide) hL
  obtain ⟨t2, ht2, rest⟩ := rest
  refine ⟨_, (zss_cons (zs_set (i := 2) nd rfl (Or.inl rfl) ze_int)
      (zss_cons (zs_if (zt_cmpP op_ltP (zn 1) (zcb_len rfl m_len (za_cons (zn 0) za_nil) rfl rfl) (nomark _)) (zss_one (zs_set (i := 2) nd rfl (Or.inl rfl) (ze_ix ix_P (zn 0) (zn 1) (fun _ _ => rfl)))) zss_nil)
      ht2)), ?_⟩
  refine ⟨_, .inl hS, ?_⟩
  refine iteD (fun hk => ?_) (fun hk => ?_)
  · rw [List.length_map] at hk
    refine ⟨_, .inl hS, .int ns[k.toNat], atI_of (by omega) (getI (by omega)), ?_⟩
    exact rest _
  · exact rest _
end
end K60
set_option Elab.async false
set_option linter.all false
set_option maxRecDepth 100000
set_option maxHeartbeats 4000000
namespace L2
open PySem PySem.Spec PyProof.Rows
theorem fresh_back {H H' : Hp} {p : Addr} (y : Same H H') (h : H' p = none) : H p = none := by
  cases e : H p with
  | none => rfl
  | some o =>
    have := y _ _ e
    rw [h] at this
    cases this
theorem small6k {n : Nat} (h : n ≤ 6000) : n < sizeLine := by rw [sizeLine_eq]; omega
end L2
set_option Elab.async false
set_option linter.all false
set_option maxRecDepth 100000
set_option maxHeartbeats 4000000
namespace M39
end M39
set_option Elab.async false
set_option linter.all false
set_option maxRecDepth 100000
set_option maxHeartbeats 4000000
namespace M40
open M39
end M40
set_option Elab.async false
set_option linter.all false
set_option maxRecDepth 100000
set_option maxHeartbeats 4000000
namespace M43
open M39 M40
end M43
namespace MRow
end MRow
namespace M13
open MRow
end M13
set_option exponentiation.threshold 1000
namespace M14
open MRow M13
end M14
set_option linter.all false
set_option maxRecDepth 100000
set_option maxHeartbeats 4000000
namespace M80
open MRow
end M80
set_option Elab.async false
set_option linter.all false
set_option maxRecDepth 100000
set_option maxHeartbeats 4000000
namespace M21
open MRow
end M21
set_option linter.all false
set_option maxRecDepth 100000
set_option maxHeartbeats 4000000
namespace MP
end MP
set_option Elab.async false
set_option linter.all false
set_option maxRecDepth 100000
set_option maxHeartbeats 4000000
namespace M81
open M39 M40 MRow
theorem sub_len {α : Type} [DecidableEq α] : ∀ {l m : List α}, l.Nodup → (∀ x ∈ l, x ∈ m) → l.length ≤ m.length
  | [], _, _, _ => Nat.zero_le _
  | a :: l, m, hn, h => by
    have hn2 := List.nodup_cons.mp hn
    have ha := h a List.mem_cons_self
    have ih := sub_len (m := m.erase a) hn2.2 fun x hx => by
      have : x ≠ a := fun e => hn2.1 (by rw [← e]; exact hx)
      exact (List.mem_erase_of_ne this).mpr (h x (List.mem_cons_of_mem _ hx))
    rw [List.length_erase_of_mem ha] at ih
    have := List.length_pos_of_mem ha
    rw [List.length_cons]
    omega
end M81
set_option Elab.async false
set_option linter.all false
set_option maxRecDepth 100000
set_option maxHeartbeats 4000000
namespace STB
open PySem
theorem odd_off {o : Nat} (ho : o % 2 = 1) : ∀ (j a : Nat), 2 ^ j ∣ a * o → 2 ^ j ∣ a
  | 0, a, _ => Nat.one_dvd a
  | j + 1, a, h => by
    have h2 : 2 ∣ a * o := Nat.dvd_trans ⟨2 ^ j, by rw [Nat.pow_succ, Nat.mul_comm]⟩ h
    have ha : a % 2 = 0 := by
      have := Nat.mod_eq_zero_of_dvd h2
      rw [Nat.mul_mod, ho] at this
      omega
    obtain ⟨b, rfl⟩ : ∃ b, a = 2 * b := ⟨a / 2, by omega⟩
    rw [Nat.pow_succ, Nat.mul_comm, Nat.mul_assoc] at h
    have := odd_off ho j b (Nat.dvd_of_mul_dvd_mul_left (by decide) h)
    rw [Nat.pow_succ, Nat.mul_comm]
    exact Nat.mul_dvd_mul_left 2 this
theorem p5_4 : ∀ n, 5 ^ n % 4 = 1
  | 0 => rfl
  | n + 1 => by rw [Nat.pow_succ, Nat.mul_mod, p5_4 n]
theorem p25_8 : ∀ n, 5 ^ (2 * n) % 8 = 1
  | 0 => rfl
  | n + 1 => by rw [Nat.mul_succ, Nat.pow_add, Nat.mul_mod, p25_8 n]
theorem p5_div : ∀ (k n : Nat), 2 ^ (k + 2) ∣ 5 ^ n - 1 → 2 ^ k ∣ n
  | 0, n, _ => Nat.one_dvd n
  | k + 1, n, h => by
    by_cases e : n % 2 = 0
    · obtain ⟨m, rfl⟩ : ∃ m, n = 2 * m := ⟨n / 2, by omega⟩
      have m4 := p5_4 m
      obtain ⟨o, ho⟩ : ∃ o, 5 ^ m + 1 = 2 * o := ⟨(5 ^ m + 1) / 2, by omega⟩
      have o2 : o % 2 = 1 := by omega
      have fac : 5 ^ (2 * m) - 1 = 2 * ((5 ^ m - 1) * o) := by
        obtain ⟨t, ht⟩ : ∃ t, 5 ^ m = t + 1 := ⟨5 ^ m - 1, by omega⟩
        have e1 : 5 ^ (2 * m) = 5 ^ m * 5 ^ m := by rw [Nat.two_mul, Nat.pow_add]
        have e2 : 2 * ((5 ^ m - 1) * o) = (5 ^ m - 1) * (2 * o) := by rw [Nat.mul_left_comm]
        rw [e1, e2, ← ho, ht, Nat.add_sub_cancel]
        rw [show (t + 1) * (t + 1) = t * (t + 1 + 1) + 1 by simp only [Nat.add_mul, Nat.mul_add, Nat.one_mul, Nat.mul_one]; omega, Nat.add_sub_cancel]
      rw [fac, show k + 1 + 2 = (k + 2) + 1 from rfl, Nat.pow_succ, Nat.mul_comm (2 ^ (k + 2))] at h
      have := p5_div k m (odd_off o2 _ _ (Nat.dvd_of_mul_dvd_mul_left (by decide) h))
      rw [Nat.pow_succ, Nat.mul_comm]
      exact Nat.mul_dvd_mul_left 2 this
    · exfalso
      obtain ⟨m, rfl⟩ : ∃ m, n = 2 * m + 1 := ⟨n / 2, by omega⟩
      have m8 := p25_8 m
      have d8 : 8 ∣ 5 ^ (2 * m + 1) - 1 := Nat.dvd_trans ⟨2 ^ k, by rw [show k + 1 + 2 = k + 3 from rfl, Nat.pow_add, Nat.mul_comm]⟩ h
      have := Nat.mod_eq_zero_of_dvd d8
      rw [Nat.pow_succ] at this
      omega
noncomputable def it (M : Nat) : Nat → Nat → Nat
  | 0, i => i
  | n + 1, i => (5 * it M n i + 1) % M
theorem it_is {M i : Nat} (hM : 0 < M) (hi : i < M) : ∀ n, 4 * it M n i + 1 = 5 ^ n * (4 * i + 1) % (4 * M)
  | 0 => by rw [Nat.pow_zero, Nat.one_mul, Nat.mod_eq_of_lt (by omega)]; rfl
  | n + 1 => by
    have ih := it_is hM hi n
    show 4 * ((5 * it M n i + 1) % M) + 1 = _
    have e : 4 * ((5 * it M n i + 1) % M) = (4 * (5 * it M n i + 1)) % (4 * M) := (Nat.mul_mod_mul_left 4 _ M).symm
    have lt : (5 * it M n i + 1) % M < M := Nat.mod_lt _ hM
    rw [Nat.pow_succ, Nat.mul_comm (5 ^ n) 5, Nat.mul_assoc, Nat.mul_mod, ← ih]
    have e5 : 5 % (4 * M) * (4 * it M n i + 1) % (4 * M) = 5 * (4 * it M n i + 1) % (4 * M) := by
      rw [Nat.mul_mod, Nat.mod_mod, ← Nat.mul_mod]
    rw [e5]
    have e6 : 5 * (4 * it M n i + 1) = 4 * (5 * it M n i + 1) + 1 := by omega
    have e7 : (4 * (5 * it M n i + 1) + 1) % (4 * M) = 4 * ((5 * it M n i + 1) % M) + 1 := by
      have hx : 5 * it M n i + 1 = M * ((5 * it M n i + 1) / M) + (5 * it M n i + 1) % M := (Nat.div_add_mod _ _).symm
      generalize (5 * it M n i + 1) % M = r at *
      generalize (5 * it M n i + 1) / M = d at *
      rw [hx, Nat.mul_add, ← Nat.mul_assoc, Nat.add_assoc, Nat.mul_add_mod, Nat.mod_eq_of_lt (by omega)]
    rw [e6, e7]
theorem it_inj {k i : Nat} (hi : i < 2 ^ k) {a b : Nat} (hab : a < b) (hb : b < 2 ^ k) : it (2 ^ k) a i ≠ it (2 ^ k) b i := fun e => by
  have hM : 0 < 2 ^ k := Nat.two_pow_pos k
  have h1 := it_is hM hi a
  have h2 := it_is hM hi b
  rw [e, h2] at h1
  have sub : 4 * 2 ^ k ∣ 5 ^ b * (4 * i + 1) - 5 ^ a * (4 * i + 1) := Nat.dvd_of_mod_eq_zero (Nat.sub_mod_eq_zero_of_mod_eq h1)
  obtain ⟨c, rfl⟩ : ∃ c, b = a + c := ⟨b - a, by omega⟩
  have fac : 5 ^ (a + c) * (4 * i + 1) - 5 ^ a * (4 * i + 1) = (5 ^ c - 1) * (5 ^ a * (4 * i + 1)) := by
    rw [Nat.pow_add, Nat.sub_mul, Nat.one_mul]
    congr 1
    rw [Nat.mul_comm (5 ^ a), Nat.mul_assoc]
  rw [fac] at sub
  have o2 : (5 ^ a * (4 * i + 1)) % 2 = 1 := by
    have := p5_4 a
    rw [Nat.mul_mod, show 5 ^ a % 2 = 1 by omega, show (4 * i + 1) % 2 = 1 by omega]
  rw [show 4 * 2 ^ k = 2 ^ (k + 2) by rw [Nat.pow_add, Nat.mul_comm]] at sub
  have := p5_div k c (odd_off o2 _ _ sub)
  have := Nat.le_of_dvd (by omega) this
  omega
theorem free_leap {k i : Nat} (hi : i < 2 ^ k) (L : List Nat) (hL : L.length < 2 ^ k) : ∃ l, l ≤ L.length ∧ it (2 ^ k) l i ∉ L := by
  refine Classical.byContradiction fun no => ?_
  have all : ∀ l, l ≤ L.length → it (2 ^ k) l i ∈ L := fun l hl => Classical.byContradiction fun z => no ⟨l, hl, z⟩
  have nd : ((List.range (L.length + 1)).map fun l => it (2 ^ k) l i).Nodup := by
    unfold List.Nodup
    rw [List.pairwise_map]
    refine List.Pairwise.imp_of_mem (fun {a b} ha hb hlt => ?_) (List.pairwise_lt_range (n := L.length + 1))
    have := List.mem_range.mp hb
    exact it_inj hi hlt (by omega)
  have := M81.sub_len nd fun y hy => by
    obtain ⟨l, hl, rfl⟩ := List.mem_map.mp hy
    exact all l (by have := List.mem_range.mp hl; omega)
  rw [List.length_map, List.length_range] at this
  omega
end STB
set_option Elab.async false
set_option linter.all false
set_option maxRecDepth 100000
set_option maxHeartbeats 4000000
namespace STB
open PySem SetTable
noncomputable def Wd (h : Int) (l : Nat) : Nat := bits h / 32 ^ l
noncomputable def Lp (M : Nat) (h : Int) : Nat → Nat
  | 0 => bits h % M
  | l + 1 => (Lp M h l * 5 + 1 + Wd h l / 32) % M
theorem Wd_succ (h : Int) (l : Nat) : Wd h (l + 1) = Wd h l / 32 := by unfold Wd; rw [Nat.pow_succ, Nat.div_div_eq_div_mul]
theorem bits_lt (h : Int) : bits h < 2 ^ 64 := by
  unfold bits
  have h1 := Int.emod_nonneg h (show (2 ^ 64 : Int) ≠ 0 by decide)
  have h2 := Int.emod_lt_of_pos h (show (0 : Int) < 2 ^ 64 by decide)
  omega
theorem Wd_end (h : Int) (l : Nat) : Wd h (13 + l) = 0 := by
  have := bits_lt h
  unfold Wd
  rw [Nat.pow_add, ← Nat.div_div_eq_div_mul, Nat.div_eq_of_lt (show bits h < 32 ^ 13 by omega), Nat.zero_div]
theorem Lp_lt {M : Nat} (hM : 0 < M) (h : Int) : ∀ l, Lp M h l < M
  | 0 => Nat.mod_lt _ hM
  | _ + 1 => Nat.mod_lt _ hM
theorem Lp_it {M : Nat} (h : Int) : ∀ l, Lp M h (13 + l) = it M l (Lp M h 13)
  | 0 => rfl
  | l + 1 => by
    show (Lp M h (13 + l) * 5 + 1 + Wd h (13 + l) / 32) % M = (5 * it M l (Lp M h 13) + 1) % M
    rw [Wd_end, Lp_it h l, Nat.zero_div, Nat.add_zero, Nat.mul_comm]
theorem leap_free {k : Nat} (h : Int) (L : List Nat) (hL : L.length < 2 ^ k) : ∃ l, l ≤ 13 + L.length ∧ Lp (2 ^ k) h l ∉ L := by
  obtain ⟨l, h1, h2⟩ := free_leap (Lp_lt (Nat.two_pow_pos k) h 13) L hL
  exact ⟨13 + l, by omega, by rw [Lp_it]; exact h2⟩
noncomputable def adv (t : SetTable) (h : Int) : Nat → Probe
  | 0 => t.probeStart h
  | n + 1 => t.advance (adv t h n)
theorem adv_dummy (t : SetTable) (h : Int) : ∀ n, (adv t h n).dummy = none
  | 0 => rfl
  | n + 1 => by
    have ih := adv_dummy t h n
    show (t.advance (adv t h n)).dummy = none
    unfold advance
    split
    · exact ih
    · exact ih
theorem adv_run (t : SetTable) (h : Int) {s i w m : Nat} (e : adv t h s = { j := i, more := m, i := i, perturb := w, dummy := none }) : ∀ r, r ≤ m → adv t h (s + r) = { j := i + r, more := m - r, i := i, perturb := w, dummy := none }
  | 0, _ => e
  | r + 1, hr => by
    show t.advance (adv t h (s + r)) = _
    rw [adv_run t h e r (by omega)]
    unfold advance
    rw [if_pos (show m - r > 0 by omega)]
    show ({ j := i + r + 1, more := m - r - 1, i := i, perturb := w, dummy := none } : Probe) = _
    rw [Nat.sub_sub]
    rfl
theorem run_few (mask i : Nat) : runEnd mask i - i ≤ 9 := by unfold runEnd; split <;> omega
theorem adv_leap (t : SetTable) (h : Int) : ∀ l, ∃ s, s ≤ 10 * l ∧ adv t h s = { j := Lp (t.mask + 1) h l, more := runEnd t.mask (Lp (t.mask + 1) h l) - Lp (t.mask + 1) h l, i := Lp (t.mask + 1) h l, perturb := Wd h l, dummy := none }
  | 0 => ⟨0, Nat.le_refl _, by
    show t.probeStart h = _
    unfold probeStart Wd
    rw [Nat.pow_zero, Nat.div_one]
    rfl⟩
  | l + 1 => by
    obtain ⟨s, hs, e⟩ := adv_leap t h l
    have few := run_few t.mask (Lp (t.mask + 1) h l)
    refine ⟨s + (runEnd t.mask (Lp (t.mask + 1) h l) - Lp (t.mask + 1) h l) + 1, by omega, ?_⟩
    show t.advance (adv t h (s + _)) = _
    rw [adv_run t h e _ (Nat.le_refl _)]
    unfold advance
    rw [if_neg (by simp)]
    unfold leap
    rw [Wd_succ]
    rfl
theorem no_dummy (j : Nat) : has #[] j = false := by
  unfold has
  rw [beq_eq_false_iff_ne]
  intro z
  rw [Array.getElem?_eq_some_iff] at z
  obtain ⟨hl, _⟩ := z
  exact absurd hl (Nat.not_lt_zero _)
theorem slot_free {t : SetTable} (hd : t.dummies = #[]) {j : Nat} (hj : j ∉ t.place.toList) : t.slot j = .empty := by
  unfold slot
  rw [hd, no_dummy]
  rw [if_neg, if_neg (by decide)]
  intro z
  rw [beq_iff_eq] at z
  exact hj (by rw [Array.mem_toList_iff]; exact Array.mem_of_getElem? z)
theorem slot_cases {t : SetTable} (hd : t.dummies = #[]) (j : Nat) : t.slot j = .empty ∨ ∃ i, t.slot j = .live i ∧ t.place[i]? = some j := by
  unfold slot
  rw [hd, no_dummy]
  by_cases z : (t.place[below t.place j]? == some j) = true
  · exact .inr ⟨below t.place j, by dsimp only; rw [if_pos z], by simpa using z⟩
  · exact .inl (by dsimp only; rw [if_neg z]; rfl)
theorem reach {t : SetTable} {k : Nat} (hk : t.mask + 1 = 2 ^ k) (hd : t.dummies = #[]) (hz : t.place.size < 2 ^ k) (h : Int) : ∃ N, N ≤ 10 * (13 + t.place.size) ∧ t.slot (adv t h N).j = .empty := by
  obtain ⟨l, h1, h2⟩ := leap_free (k := k) h t.place.toList (by rw [Array.length_toList]; exact hz)
  obtain ⟨s, hs, e⟩ := adv_leap t h l
  rw [Array.length_toList] at h1
  refine ⟨s, by omega, ?_⟩
  rw [e, hk]
  exact slot_free hd h2
theorem find_first {p : Nat → Bool} {n : Nat} (hn : 0 < n) (h : p 0 = true) : (List.range n).find? p = some 0 := by
  obtain ⟨m, rfl⟩ : ∃ m, n = m + 1 := ⟨n - 1, by omega⟩
  rw [List.range_succ_eq_map, List.find?_cons, h]
theorem free_ok {mask : Nat} {ow : Array (Option Nat)} (hs : ow.size = mask + 1) {h : Int} : ∀ (fuel l L : Nat), l ≤ L → L - l < fuel → ow.getD (Lp (mask + 1) h L) (some 0) = none → ∃ j, layClean.free mask ow fuel (Lp (mask + 1) h l) (Wd h l) = some j ∧ ow.getD j (some 0) = none
  | 0, l, L, _, h0, _ => absurd h0 (Nat.not_lt_zero _)
  | fuel + 1, l, L, hl, hf, hL => by
    unfold layClean.free
    split
    · rename_i k e
      have := List.find?_some e
      exact ⟨_, rfl, by simpa using this⟩
    · rename_i e
      have ne : l ≠ L := fun z => by
        subst z
        rw [find_first (by unfold runEnd; split <;> omega) (by rw [Nat.add_zero, hL]; rfl)] at e
        cases e
      obtain ⟨j, r1, r2⟩ := free_ok hs (h := h) fuel (l + 1) L (by omega) (by omega) hL
      refine ⟨j, ?_, r2⟩
      rw [← r1]
      unfold leap
      rw [Wd_succ]
      rfl
theorem fm_congr {f g : Nat → Option Nat} : ∀ {l : List Nat}, (∀ i ∈ l, f i = g i) → l.filterMap f = l.filterMap g
  | [], _ => rfl
  | a :: l, h => by rw [List.filterMap_cons, List.filterMap_cons, h a List.mem_cons_self, fm_congr fun i hi => h i (List.mem_cons_of_mem _ hi)]
theorem somes_set {f : Nat → Option Nat} {j v : Nat} (hj : f j = none) : ∀ N, j < N → List.Perm ((List.range N).filterMap fun i => if i = j then some v else f i) (v :: (List.range N).filterMap f)
  | 0, h => absurd h (Nat.not_lt_zero _)
  | N + 1, h => by
    rw [List.range_succ, List.filterMap_append, List.filterMap_append]
    by_cases e : j = N
    · subst e
      have same : (List.range j).filterMap (fun i => if i = j then some v else f i) = (List.range j).filterMap f := by
        refine fm_congr fun i hi => ?_
        have := List.mem_range.mp hi
        rw [if_neg (by omega)]
      rw [same]
      have e1 : [j].filterMap (fun i => if i = j then some v else f i) = [v] := by simp
      have e2 : [j].filterMap f = [] := by simp [hj]
      rw [e1, e2, List.append_nil]
      exact List.perm_append_singleton _ _
    · have ih := somes_set (v := v) hj N (by omega)
      have e1 : [N].filterMap (fun i => if i = j then some v else f i) = [N].filterMap f := by
        rw [List.filterMap_cons, List.filterMap_cons, if_neg (fun z => e z.symm)]
        rfl
      rw [e1]
      exact (ih.append_right _)
theorem lay_ok {k mask : Nat} (hk : mask + 1 = 2 ^ k) (hs : List Int) (hl : hs.length < 2 ^ k) : ∀ (rest done : List Int) (ow : Array (Option Nat)), hs = done ++ rest → ow.size = mask + 1 → List.Perm ((List.range (mask + 1)).filterMap fun j => ow.getD j none) (List.range done.length) →
    ∃ ow' : Array (Option Nat), (rest.foldl (fun (acc : Option (Array (Option Nat) × Nat)) h => do
      let (owner, q) ← acc
      let j ← layClean.free mask owner (turns mask) (bits h % (mask + 1)) (bits h)
      pure (owner.setIfInBounds j (some q), q + 1)) (some (ow, done.length))) = some (ow', hs.length) ∧ List.Perm ((List.range (mask + 1)).filterMap fun j => ow'.getD j none) (List.range hs.length)
  | [], done, ow, e, z, pm => by
    rw [List.append_nil] at e
    subst e
    exact ⟨ow, rfl, pm⟩
  | h :: rest, done, ow, e, z, pm => by
    rw [List.foldl_cons]
    have ld : done.length < 2 ^ k := by have := congrArg List.length e; rw [List.length_append, List.length_cons] at this; omega
    have lpm := pm.length_eq
    rw [List.length_range] at lpm
    -- the places that are taken
    obtain ⟨l, l1, l2⟩ := leap_free (k := k) h ((List.range (mask + 1)).filter fun j => (ow.getD j none).isSome) (by
      have : ((List.range (mask + 1)).filterMap fun j => ow.getD j none).length = ((List.range (mask + 1)).filter fun j => (ow.getD j none).isSome).length := by rw [List.length_filterMap_eq_countP, List.countP_eq_length_filter]
      omega)
    have lf : ((List.range (mask + 1)).filter fun j => (ow.getD j none).isSome).length = done.length := by
      rw [← List.countP_eq_length_filter, ← List.length_filterMap_eq_countP, lpm]
    rw [lf] at l1
    rw [← hk] at l2
    have inr : Lp (mask + 1) h l < mask + 1 := Lp_lt (Nat.succ_pos _) h l
    have none' : ow.getD (Lp (mask + 1) h l) none = none := by
      cases c : ow.getD (Lp (mask + 1) h l) none with
      | none => rfl
      | some q => exact absurd (List.mem_filter.mpr ⟨List.mem_range.mpr inr, by rw [c]; rfl⟩) l2
    have none0 : ow.getD (Lp (mask + 1) h l) (some 0) = none := by
      rw [Array.getD_eq_getD_getElem?, Array.getElem?_eq_getElem (by omega)] at none' ⊢
      exact none'
    obtain ⟨j, f1, f2⟩ := free_ok z (h := h) (turns mask) 0 l (Nat.zero_le _) (by unfold turns; omega) none0
    have e0 : Wd h 0 = bits h := by unfold Wd; rw [Nat.pow_zero, Nat.div_one]
    rw [e0] at f1
    have f1 : layClean.free mask ow (turns mask) (bits h % (mask + 1)) (bits h) = some j := f1
    have jlt : j < ow.size := by
      refine Classical.byContradiction fun no => ?_
      rw [Array.getD_eq_getD_getElem?, Array.getElem?_eq_none (by omega)] at f2
      cases f2
    have jn : ow.getD j none = none := by
      rw [Array.getD_eq_getD_getElem?, Array.getElem?_eq_getElem jlt] at f2 ⊢
      exact f2
    show ∃ ow' : Array (Option Nat), List.foldl _ (do
      let (owner, q) ← some (ow, done.length)
      let j ← layClean.free mask owner (turns mask) (bits h % (mask + 1)) (bits h)
      pure (owner.setIfInBounds j (some q), q + 1)) rest = some (ow', hs.length) ∧ _
    have step : (do
      let (owner, q) ← some (ow, done.length)
      let j ← layClean.free mask owner (turns mask) (bits h % (mask + 1)) (bits h)
      pure (owner.setIfInBounds j (some q), q + 1) : Option (Array (Option Nat) × Nat)) = some (ow.setIfInBounds j (some done.length), done.length + 1) := by
      show (layClean.free mask ow (turns mask) (bits h % (mask + 1)) (bits h) >>= fun j => pure (ow.setIfInBounds j (some done.length), done.length + 1)) = _
      rw [f1]
      rfl
    rw [step]
    have := lay_ok hk hs hl rest (done ++ [h]) (ow.setIfInBounds j (some done.length)) (by rw [e, List.append_assoc]; rfl) (by rw [Array.size_setIfInBounds]; exact z) (by
      have ef : (fun i => (ow.setIfInBounds j (some done.length)).getD i none) = fun i => if i = j then some done.length else ow.getD i none := funext fun i => by
        rw [Array.getD_eq_getD_getElem?, Array.getD_eq_getD_getElem?, Array.getElem?_setIfInBounds]
        by_cases c : j = i
        · subst c; rw [if_pos rfl, if_pos rfl, if_pos jlt]; rfl
        · rw [if_neg c, if_neg (fun z => c z.symm)]
      rw [ef, List.length_append, List.length_singleton]
      refine (somes_set (f := fun i => ow.getD i none) jn (mask + 1) (by omega)).trans ?_
      rw [List.range_succ (n := done.length)]
      exact (List.Perm.cons _ pm).trans (List.perm_append_singleton _ _).symm)
    rw [List.length_append, List.length_singleton] at this
    exact this
end STB
set_option Elab.async false
set_option linter.all false
set_option maxRecDepth 100000
set_option maxHeartbeats 4000000
namespace STB
open PySem SetTable
section
variable {prog : Program} {w : World} {A : Around} {E : Value → Shared → Prop} {s : Shared}
end
end STB
set_option Elab.async false
set_option linter.all false
set_option maxRecDepth 100000
set_option maxHeartbeats 4000000
namespace STB
open PySem SetTable PyProof.Rows
theorem cons_erase {α : Type} : ∀ (l : List α) (i : Nat) (h : i < l.length), (l[i] :: l.eraseIdx i).Perm l
  | a :: l, 0, _ => .refl _
  | a :: l, i + 1, h => (List.Perm.swap a _ _).trans (.cons a (cons_erase l i (Nat.lt_of_succ_lt_succ h)))
theorem pick_go {α : Type} (next : Nat → Nat) : ∀ (fuel k : Nat) (left : List α) (out : Array α), left.length = fuel → (pickOrder.go next fuel k left out).toList.Perm (out.toList ++ left)
  | 0, k, left, out, h => by
    rw [List.length_eq_zero_iff.mp h, List.append_nil]
    unfold pickOrder.go
    exact .refl _
  | fuel + 1, k, left, out, h => by
    have hi : next k % left.length < left.length := Nat.mod_lt _ (by omega)
    unfold pickOrder.go
    rw [List.getElem?_eq_getElem hi]
    dsimp only
    refine (pick_go next fuel (k + 1) _ _ (by rw [List.length_eraseIdx_of_lt hi, h]; rfl)).trans ?_
    rw [Array.toList_push, List.append_assoc]
    exact List.Perm.append_left _ (cons_erase left _ hi)
theorem pick_perm {α : Type} (next : Nat → Nat) (xs : Array α) : (pickOrder next xs).toList.Perm xs.toList := by
  have := pick_go next xs.size 0 xs.toList #[] (by simp)
  simpa [pickOrder] using this
theorem below_go {xs : Array Nat} {j r : Nat} (h1 : ∀ m, m < r → m < xs.size → xs.getD m j < j) (h2 : ∀ m, r ≤ m → m < xs.size → ¬ xs.getD m j < j) : ∀ fuel lo hi, lo ≤ r → r ≤ hi → hi ≤ xs.size → hi - lo ≤ fuel → below.go xs j fuel lo hi = r
  | 0, lo, hi, a, b, c, d => by unfold below.go; omega
  | fuel + 1, lo, hi, a, b, c, d => by
    unfold below.go
    split
    · rename_i lt
      dsimp only
      split
      · rename_i g
        refine below_go h1 h2 fuel _ hi ?_ b c (by omega)
        by_cases z : r ≤ (lo + hi) / 2
        · exact absurd g (h2 _ z (by omega))
        · omega
      · rename_i g
        refine below_go h1 h2 fuel lo _ a ?_ (by omega) (by omega)
        by_cases z : (lo + hi) / 2 < r
        · exact absurd (h1 _ z (by omega)) g
        · omega
    · omega
theorem below_zero (xs : Array Nat) : below xs 0 = 0 := below_go (fun m h _ => absurd h (Nat.not_lt_zero _)) (fun m _ _ h => absurd h (Nat.not_lt_zero _)) _ _ _ (Nat.le_refl _) (Nat.zero_le _) (Nat.le_refl _) (by omega)
theorem below_next {xs : Array Nat} (up : ∀ a b, a < b → (hb : b < xs.size) → xs.getD a 0 < xs.getD b 0) {i : Nat} (hi : i < xs.size) : below xs (xs.getD i 0 + 1) = i + 1 := by
  have eq : ∀ m j, m < xs.size → xs.getD m j = xs.getD m 0 := fun m j h => by simp [Array.getD, h]
  refine below_go (r := i + 1) (fun m h hm => ?_) (fun m h hm z => ?_) _ _ _ (Nat.zero_le _) (by omega) (Nat.le_refl _) (by omega)
  · rw [eq _ _ hm]
    by_cases e : m = i
    · subst e; exact Nat.lt_succ_self _
    · exact Nat.lt_succ_of_lt (up m i (by omega) hi)
  · rw [eq _ _ hm] at z
    have := up i m (by omega) hm
    omega
end STB
set_option Elab.async false
set_option linter.all false
set_option maxRecDepth 100000
set_option maxHeartbeats 4000000
namespace STB
open PySem SetTable PyProof.Rows
noncomputable abbrev Up (xs : Array Nat) : Prop := xs.toList.Pairwise (· < ·)
theorem cut (j : Nat) : ∀ l : List Nat, l.Pairwise (· < ·) → ∃ a b, l = a ++ b ∧ (∀ x ∈ a, x < j) ∧ ∀ x ∈ b, j ≤ x
  | [], _ => ⟨[], [], rfl, (fun _ z => (List.not_mem_nil z).elim), fun _ z => (List.not_mem_nil z).elim⟩
  | x :: l, h => by
    obtain ⟨h1, h2⟩ := List.pairwise_cons.mp h
    by_cases c : x < j
    · obtain ⟨a, b, e, p, q⟩ := cut j l h2
      refine ⟨x :: a, b, by rw [e]; rfl, fun y hy => ?_, q⟩
      rcases List.mem_cons.mp hy with rfl | hy
      · exact c
      · exact p y hy
    · refine ⟨[], x :: l, rfl, (fun _ z => (List.not_mem_nil z).elim), fun y hy => ?_⟩
      rcases List.mem_cons.mp hy with rfl | hy
      · omega
      · have := h1 y hy
        omega
theorem below_is {xs : Array Nat} {j : Nat} {a b : List Nat} (e : xs.toList = a ++ b) (p : ∀ x ∈ a, x < j) (q : ∀ x ∈ b, j ≤ x) : below xs j = a.length := by
  have sz : xs.size = a.length + b.length := by rw [← Array.length_toList, e, List.length_append]
  have g : ∀ m (h : m < xs.size), xs.getD m j = xs.toList[m]'(by simpa using h) := fun m h => by simp [Array.getD, h]
  refine below_go (fun m h hm => ?_) (fun m h hm z => ?_) _ _ _ (Nat.zero_le _) (by omega) (Nat.le_refl _) (by omega)
  · rw [g m hm]
    refine p _ ?_
    have : xs.toList[m]'(by simpa using hm) = a[m] := by simp only [e, List.getElem_append_left h]
    rw [this]
    exact List.getElem_mem h
  · rw [g m hm] at z
    have lt : m - a.length < b.length := by omega
    have : xs.toList[m]'(by simpa using hm) = b[m - a.length] := by simp only [e, List.getElem_append_right h]
    rw [this] at z
    have := q _ (List.getElem_mem lt)
    omega
theorem put_up {t : SetTable} {j : Nat} (h : Up t.place) (hs : t.slot j = .empty) : Up (t.put j).1.place := by
  obtain ⟨a, b, e, p, q⟩ := cut j _ h
  have eb := below_is e p q
  have hp : Up (insertAt t.place (below t.place j) j) := by
    unfold Up insertAt
    rw [eb]
    have e2 : ((t.place.extract 0 a.length).push j ++ t.place.extract a.length t.place.size).toList = a ++ j :: b := by
      have sz : t.place.size = a.length + b.length := by rw [← Array.length_toList, e, List.length_append]
      simp only [Array.toList_append, Array.toList_push, Array.toList_extract, e, sz]
      simp [List.extract_eq_drop_take, e]
    rw [e2]
    have h' := h
    unfold Up at h'
    rw [e] at h'
    obtain ⟨u1, u2, u3⟩ := List.pairwise_append.mp h'
    have ne : ∀ x ∈ b, j < x := fun x hx => by
      have le := q x hx
      refine Nat.lt_of_le_of_ne le fun z => ?_
      subst z
      obtain ⟨y, b', rfl⟩ : ∃ y b', b = y :: b' := by cases b with
        | nil => cases hx
        | cons y b' => exact ⟨y, b', rfl⟩
      have y1 := q y List.mem_cons_self
      have : y = j := by
        rcases List.mem_cons.mp hx with z | z
        · exact z.symm
        · have := (List.pairwise_cons.mp u2).1 _ z; omega
      subst this
      have gp : t.place[a.length]? = some y := by
        rw [← Array.getElem?_toList, e]; simp
      unfold slot at hs
      dsimp only at hs
      rw [eb, gp, if_pos (by simp)] at hs
      cases hs
    refine List.pairwise_append.mpr ⟨u1, List.pairwise_cons.mpr ⟨ne, u2⟩, fun x hx y hy => ?_⟩
    rcases List.mem_cons.mp hy with rfl | hy
    · exact p x hx
    · exact u3 x hx y hy
  exact hp
end STB
set_option Elab.async false
set_option linter.all false
set_option maxRecDepth 100000
set_option maxHeartbeats 4000000
namespace STB
open PySem SetTable
theorem si_next : Slot "set_iterator" "__next__" "set_iterator.__next__" := by
  refine Slot.of (owner := "set_iterator") (n := "__next__") ?_ (by decide +kernel) (by decide +kernel) (by decide +kernel) (.inl (by decide +kernel)) ?_
  · rw [typeLookup_type, builtinLookup_eq_fast]; kernel_rfl
  · rw [isSubtype_type]; kernel_rfl
theorem si_iter : Slot "set_iterator" "__iter__" "set_iterator.__iter__" := by
  refine Slot.of (owner := "set_iterator") (n := "__iter__") ?_ (by decide +kernel) (by decide +kernel) (by decide +kernel) (.inl (by decide +kernel)) ?_
  · rw [typeLookup_type, builtinLookup_eq_fast]; kernel_rfl
  · rw [isSubtype_type]; kernel_rfl
theorem si_next_e : entryFor table "set_iterator.__next__" = some Builtin.«set_iterator.__next__» := entryFor_of_tree (by kernel_rfl)
theorem si_next_a (a : Value) : argsOk "set_iterator.__next__" ⟨[a], []⟩ := by
  unfold argsOk; kernel_rfl
theorem si_iter_a (a : Value) : argsOk "set_iterator.__iter__" ⟨[a], []⟩ := by
  unfold argsOk; kernel_rfl
theorem si_iter_e : entryFor table "set_iterator.__iter__" = some Builtin.«dict_keyiterator.__iter__» :=
  entryFor_alias (id' := "dict_keyiterator.__iter__") (by kernel_rfl) rfl (by decide +kernel) (by kernel_rfl)
theorem set_iter_e : entryFor table "set.__iter__" = some Builtin.«frozenset.__iter__» :=
  entryFor_alias (id' := "frozenset.__iter__") (by kernel_rfl) rfl (by decide +kernel) (by kernel_rfl)
noncomputable abbrev bt (w : World) : Bool := w.params.followText "set-order"
structure Gd (w : World) (es : Array (Int × Value)) (t : SetTable) (vs : List Value) : Prop where
  up : Up t.place
  plain : t.plain = true
  led : t.led = !bt w
  perm : (es.toList.map (·.2)).Perm vs
noncomputable def IsSI (h : Heap) (it a : Addr) (sl i n ep : Nat) : Prop :=
  ∃ o, h.get? it = some o ∧ o.cls = .type "set_iterator" ∧ o.data = .fields #[.int sl 0, .int i 0, .ref a, .int n 0, .int ep 0]
noncomputable def SetAt (h : Heap) (a : Addr) (es : Array (Int × Value)) (ep : Nat) (t : SetTable) : Prop := ∃ o, h.get? a = some o ∧ o.ExactSet ∧ o.data = .set es ep t
theorem IsSI.typeIs {s : Shared} {it a sl i n ep} (x : IsSI s.heap it a sl i n ep) : s.TypeIs (.ref it) "set_iterator" := let ⟨o, ho, hc, _⟩ := x; ⟨o, ho, hc⟩
theorem IsSI.at {h h' : Heap} {it a sl i n ep} (x : IsSI h it a sl i n ep) (e : ∀ o, h.get? it = some o → h'.get? it = some o) : IsSI h' it a sl i n ep := let ⟨o, ho, r⟩ := x; ⟨o, e _ ho, r⟩
theorem SetAt.at {h h' : Heap} {a es ep t} (x : SetAt h a es ep t) (e : ∀ o, h.get? a = some o → h'.get? a = some o) : SetAt h' a es ep t := let ⟨o, ho, r⟩ := x; ⟨o, e _ ho, r⟩
theorem SetAt.typeIs {s : Shared} {a es ep t} (x : SetAt s.heap a es ep t) : s.TypeIs (.ref a) "set" := let ⟨o, ho, hx, _⟩ := x; ⟨o, ho, hx.1⟩
noncomputable def ord (w : World) (a : Addr) (ep : Nat) (es : Array (Int × Value)) : Array (Int × Value) := if bt w = true then pickOrder (w.params.setOrder a ep) es else es
theorem ord_perm (w : World) (a : Addr) (ep : Nat) (es : Array (Int × Value)) : (ord w a ep es).toList.Perm es.toList := by
  unfold ord; split
  · exact pick_perm _ _
  · exact .refl _
theorem ord_size (w : World) (a : Addr) (ep : Nat) (es : Array (Int × Value)) : (ord w a ep es).size = es.size := by
  rw [← Array.length_toList, (ord_perm w a ep es).length_eq, Array.length_toList]
noncomputable def plc (t : SetTable) : Nat → Nat
  | 0 => 0
  | i + 1 => t.place.getD i 0 + 1
noncomputable def sla (w : World) (t : SetTable) (i : Nat) : Nat := if bt w = true then 0 else plc t i
section
variable {prog : Program} {w : World} {A : Around} {E : Value → Shared → Prop} {s : Shared}
theorem up_get {xs : Array Nat} (h : Up xs) : ∀ a b, a < b → b < xs.size → xs.getD a 0 < xs.getD b 0 := fun a b hab hb => by
  have := List.pairwise_iff_getElem.mp h a b (by simpa using Nat.lt_trans hab hb) (by simpa using hb) hab
  simpa [Array.getD, hb, Nat.lt_trans hab hb] using this
theorem next_of {a : Addr} {es : Array (Int × Value)} {ep i : Nat} {t : SetTable} {vs : List Value} {Q : Option (Value × Nat) → Shared → Prop} (hi : i ≤ es.size) (S : SetAt s.heap a es ep t) (hf : t.fits es.size = true) (G : Gd w es t vs)
    (h : Q ((ord w a ep es)[i]?.map fun e => (e.2, sla w t (i + 1))) s) : wpAny (model prog w) A (setNext a (sla w t i) i ep) Q E s := by
  obtain ⟨o, ho, hx, hd⟩ := S
  have ps : t.place.size = es.size := by
    unfold SetTable.fits at hf
    rw [Bool.and_eq_true] at hf
    simpa using hf.1
  unfold setNext
  refine wpAny_bind (wpAny_setState_of ho hd hf ?_)
  dsimp only
  unfold setsByText
  refine wpAny_bind (wpAny_bind (wpAny_askSetting (wpAny_pure ?_)))
  dsimp only
  have hw : (model prog w).w = w := rfl
  by_cases c : bt w = true
  · rw [hw, if_pos c]
    rw [if_neg (by simp)]
    unfold setWalk
    refine wpAny_bind (wpAny_bind (wpAny_setState_of ho hd hf ?_))
    dsimp only
    unfold setsByText
    refine wpAny_bind (wpAny_bind (wpAny_askSetting (wpAny_pure ?_)))
    dsimp only
    rw [hw, if_pos c]
    refine wpAny_bind (wpAny_askSetting (wpAny_pure (wpAny_pure ?_)))
    unfold ord at h
    rw [if_pos c] at h
    unfold sla at h ⊢
    rw [if_pos c] at h ⊢
    exact h
  · rw [hw, if_neg c]
    have pl := G.plain
    have ld := G.led
    rw [show bt w = false by simpa using c] at ld
    refine Eq.mpr (congrArg (fun z => wpAny _ _ z _ _ _) (if_neg ?_)) ?_
    · show ¬ ((!t.plain && decide (es.size > 1)) = true)
      rw [pl]; simp
    refine wpAny_bind (Eq.mpr (congrArg (fun z => wpAny _ _ z _ _ _) (show _ = (pure () : Sem Unit) from if_neg ?_)) ?_)
    · show ¬ ((!t.led && !es.isEmpty) = true)
      rw [ld]; simp
    refine wpAny_pure ?_
    unfold ord at h
    rw [if_neg c] at h
    unfold sla at h ⊢
    rw [if_neg c] at h ⊢
    have eb : below t.place (plc t i) = i := by
      cases i with
      | zero => exact below_zero _
      | succ i => exact below_next (up_get G.up) (by omega)
    rw [eb]
    refine wpAny_pure ?_
    by_cases lt : i < es.size
    · rw [Array.getElem?_eq_getElem lt, Array.getElem?_eq_getElem (by omega : i < t.place.size)]
      rw [Array.getElem?_eq_getElem lt] at h
      have e2 : t.place.getD i 0 = t.place[i]'(by omega) := by simp [Array.getD, show i < t.place.size by omega]
      simp only [Option.map_some, plc, e2] at h
      exact h
    · rw [Array.getElem?_eq_none (by omega)] at h ⊢
      exact h
theorem si_step {it a : Addr} {es : Array (Int × Value)} {ep i : Nat} {t : SetTable} {vs : List Value} {Q : Option Value → Shared → Prop} (ne : a ≠ it) (I : IsSI s.heap it a (sla w t i) i es.size ep) (S : SetAt s.heap a es ep t) (hf : t.fits es.size = true) (G : Gd w es t vs) (hi : i < es.size)
    (h : ∀ e h', (ord w a ep es)[i]? = some e → IsSI h' it a (sla w t (i + 1)) (i + 1) es.size ep → Heap.SameBut it s.heap h' → Q (some e.2) { s with heap := h' }) : wpAny (model prog w) A (pyNext (.ref it)) Q E s := by
  obtain ⟨o, ho, hc, hd⟩ := id I
  obtain ⟨os, hos, hxs, hds⟩ := id S
  unfold pyNext
  refine wpAny_bind (wpAny_attempt (wpAny_callSpecial?_slot (name := Str.ofString "__next__") I.typeIs si_next (wpAny_call_entry si_next I.typeIs si_next_e ?_ (si_next_a _))))
  unfold Builtin.«set_iterator.__next__»
  refine wpAny_bind (wpAny_pure ?_)
  refine wpAny_bind (wpAny_fieldsOf ho hd ?_)
  dsimp only
  unfold setEntries
  refine wpAny_bind (wpAny_bind (wpAny_setState_of hos hds hf (wpAny_pure ?_)))
  dsimp only
  rw [if_neg (by simp)]
  simp only [Int.toNat_natCast]
  refine wpAny_bind (next_of (Nat.le_of_lt hi) S hf G ?_)
  have lt : i < (ord w a ep es).size := by rw [ord_size]; exact hi
  rw [Array.getElem?_eq_getElem lt]
  dsimp only [Option.map_some]
  refine wpAny_bind (wpAny_setField ho hd (by simp) ?_)
  have h1 := Heap.get?_update_self (Obj.mapFields (·.setIfInBounds 0 (rawInt (sla w t (i + 1))))) ho (Obj.isFreed_of_fields (Obj.data_mapFields hd _))
  have d1 : (Obj.mapFields (·.setIfInBounds 0 (rawInt (sla w t (i + 1)))) o).data = .fields #[.int (sla w t (i + 1)) 0, .int i 0, .ref a, .int es.size 0, .int ep 0] := by rw [Obj.data_mapFields hd]; rfl
  have c1 : (Obj.mapFields (·.setIfInBounds 0 (rawInt (sla w t (i + 1)))) o).cls = .type "set_iterator" := (Obj.cls_mapFields ..).trans hc
  have b1 := Heap.SameBut.update s.heap it (Obj.mapFields (·.setIfInBounds 0 (rawInt (sla w t (i + 1)))))
  generalize Obj.mapFields (·.setIfInBounds 0 (rawInt (sla w t (i + 1)))) o = o1 at h1 d1 c1
  generalize s.heap.update it (Obj.mapFields (·.setIfInBounds 0 (rawInt (sla w t (i + 1))))) = g1 at h1 b1
  refine wpAny_bind (wpAny_setField h1 d1 (by simp) ?_)
  have I2 : IsSI (g1.update it (Obj.mapFields (·.setIfInBounds 1 (rawInt ((i : Int) + 1))))) it a (sla w t (i + 1)) (i + 1) es.size ep :=
    ⟨_, Heap.get?_update_self _ h1 (Obj.isFreed_of_fields (Obj.data_mapFields d1 _)), (Obj.cls_mapFields ..).trans c1, by rw [Obj.data_mapFields d1]; rfl⟩
  exact wpAny_pure ⟨_, rfl, wpAny_pure (h _ _ (Array.getElem?_eq_getElem lt) I2 (b1.trans (Heap.SameBut.update ..)))⟩
theorem si_done {it a : Addr} {es : Array (Int × Value)} {ep : Nat} {t : SetTable} {vs : List Value} {Q : Option Value → Shared → Prop} (hh : A.handled = none) (I : IsSI s.heap it a (sla w t es.size) es.size es.size ep) (S : SetAt s.heap a es ep t) (hf : t.fits es.size = true) (G : Gd w es t vs)
    (h : ∀ h', Heap.ExtBut it s.heap h' → Q none { s with heap := h' }) : wpAny (model prog w) A (pyNext (.ref it)) Q E s := by
  obtain ⟨o, ho, hc, hd⟩ := id I
  obtain ⟨os, hos, hxs, hds⟩ := id S
  unfold pyNext
  refine wpAny_bind (wpAny_attempt (wpAny_callSpecial?_slot (name := Str.ofString "__next__") I.typeIs si_next (wpAny_call_entry si_next I.typeIs si_next_e ?_ (si_next_a _))))
  unfold Builtin.«set_iterator.__next__»
  refine wpAny_bind (wpAny_pure ?_)
  refine wpAny_bind (wpAny_fieldsOf ho hd ?_)
  dsimp only
  unfold setEntries
  refine wpAny_bind (wpAny_bind (wpAny_setState_of hos hds hf (wpAny_pure ?_)))
  dsimp only
  rw [if_neg (by simp)]
  simp only [Int.toNat_natCast]
  refine wpAny_bind (next_of (Nat.le_refl _) S hf G ?_)
  rw [Array.getElem?_eq_none (by rw [ord_size]; exact Nat.le_refl _)]
  dsimp only [Option.map_none]
  refine wpAny_bind (wpAny_setField ho hd (by simp) ?_)
  refine wpAny_bind ?_
  simp only [newExc, newTuple]
  refine wpAny_bind (wpAny_newObj_type ?_ (by size_fits))
  refine wpAny_bind (m := firstArgMember _ _) (wpAny_of_eq (a := Value.none) (by first | rfl | (simp only [firstArgMember]; rfl)) ?_)
  refine wpAny_newObj_type ?_ (by size_fits)
  simp only [raiseNew]
  refine wpAny_bind (wpAny_handled ?_)
  rw [show A.in1.handled = none from hh]
  refine wpAny_bind (wpAny_pure (wpAny_throw ?_))
  refine wpAny_bind (wpAny_isInstance (T := "StopIteration") (b := true) ⟨_, Heap.get?_push_size _ rfl, rfl⟩ isSubtype_stop ?_)
  exact wpAny_pure (h _ (((Heap.SameBut.update ..).extBut.push _).push _))
theorem si_self {it a : Addr} {sl i n ep : Nat} {Q : Value → Shared → Prop} (I : IsSI s.heap it a sl i n ep) (h : Q (.ref it) s) : wpAny (model prog w) A (pyIter (.ref it)) Q E s := by
  refine wpAny_pyIter_slot I.typeIs si_iter (wpAny_call_entry si_iter I.typeIs si_iter_e ?_ (si_iter_a _))
  show wpAny _ _ (ret (.ref it)) _ _ s
  exact wpAny_pure ⟨_, rfl, "set_iterator", _, I.typeIs, si_next.lookup, h⟩
theorem walk_set (hh : A.handled = none) (it a : Addr) (ne : a ≠ it) {es : Array (Int × Value)} {ep : Nat} {t : SetTable} {vs : List Value} (hf : t.fits es.size = true) (G : Gd w es t vs) :
    Walks prog w A it [it, a] [it] es.size (fun i v => ∃ e, (ord w a ep es)[i]? = some e ∧ e.2 = v) (fun i h => IsSI h it a (sla w t i) i es.size ep ∧ SetAt h a es ep t) where
  sub := fun b hb => by simp at hb; simp [hb]
  frame := fun _ _ _ st hk => ⟨st.1.at fun o e => hk it (by simp) o e, st.2.at fun o e => hk a (by simp) o e⟩
  item := fun i s Q E hi st hQ => by
    refine si_step ne st.1 st.2 hf G hi fun e h' he I' sb => ?_
    exact hQ _ h' s.toks ⟨e, he, rfl⟩ ⟨I', st.2.at fun o e => sb.extBut a o ne e⟩ fun b o hb e => sb.extBut b o (fun z => hb (by simp [z])) e
  done := fun s Q E st hQ => si_done hh st.1 st.2 hf G fun h' eb => hQ h' s.toks fun b o hb e => eb b o (fun z => hb (by simp [z])) e
  self := fun _ _ _ _ st hQ => si_self st.1 hQ
theorem iter_set {a : Addr} {es : Array (Int × Value)} {ep : Nat} {t : SetTable} {vs : List Value} {Q : Value → Shared → Prop} (S : SetAt s.heap a es ep t) (hf : t.fits es.size = true) (G : Gd w es t vs)
    (h : Q (.ref s.heap.objs.size) { s with heap := s.heap.push { cls := .type "set_iterator", data := .fields #[.int 0 0, .int 0 0, .ref a, .int es.size 0, .int ep 0] } }) : wpAny (model prog w) A (pyIter (.ref a)) Q E s := by
  obtain ⟨o, ho, hx, hd⟩ := id S
  refine wpAny_pyIter_slot S.typeIs F.slot_set_iter (wpAny_call_entry F.slot_set_iter S.typeIs set_iter_e ?_ (F.args_set_iter_1 _))
  unfold Builtin.«frozenset.__iter__»
  refine wpAny_bind (wpAny_pure ?_)
  unfold Builtin.Frozenset.sizeOf setEntries
  refine wpAny_bind (wpAny_bind (wpAny_bind (wpAny_setState_of ho hd hf (wpAny_pure (wpAny_pure ?_)))))
  dsimp only
  unfold setDrawn setsByText
  refine wpAny_bind (wpAny_bind (wpAny_setState_of ho hd hf ?_))
  dsimp only
  refine wpAny_bind (wpAny_bind (wpAny_askSetting (wpAny_pure (wpAny_pure ?_))))
  have dr : ((!(model prog w).w.params.followText "set-order") && (!t.plain && decide (es.size > 1))) = false := by rw [G.plain]; simp
  refine Eq.mpr (congrArg (fun z => wpAny _ _ z _ _ _) (if_neg (fun z => absurd (dr.symm.trans z) (by decide)))) ?_
  refine wpAny_bind (wpAny_pure ?_)
  unfold setEpoch
  refine wpAny_bind (wpAny_bind (wpAny_setState_of ho hd hf (wpAny_pure ?_)))
  unfold newFields
  refine wpAny_bind (wpAny_newObj_type (wpAny_pure ⟨_, rfl, "set_iterator", _, ⟨_, Heap.get?_push_size _ rfl, rfl⟩, si_next.lookup, ?_⟩))
  exact h
end
end STB
set_option Elab.async false
set_option linter.all false
set_option maxRecDepth 100000
set_option maxHeartbeats 4000000
namespace STB
open PySem SetTable
section
variable {prog : Program} {w : World} {A : Around} {E : Value → Shared → Prop} {s : Shared}
end
end STB
set_option Elab.async false
set_option linter.all false
set_option maxRecDepth 100000
set_option maxHeartbeats 4000000
namespace STB
open PySem SetTable
theorem above_go {n : Nat} : ∀ (fuel k : Nat), n < 2 ^ (k + 1) * 2 ^ fuel → ∃ k', sizeAbove.go n fuel (2 ^ (k + 1)) = 2 ^ (k' + 1) ∧ n < 2 ^ (k' + 1) ∧ (2 ^ (k' + 1) ≤ 2 ^ (k + 1) ∨ 2 ^ (k' + 1) ≤ 2 * n)
  | 0, k, h => ⟨k, rfl, by simpa using h, .inl (Nat.le_refl _)⟩
  | fuel + 1, k, h => by
    unfold sizeAbove.go
    split
    · rename_i c
      obtain ⟨k', e, h1, h2⟩ := above_go (n := n) fuel (k + 1) (by rw [Nat.pow_succ 2 (k + 1), Nat.mul_assoc, Nat.mul_comm 2, ← Nat.pow_succ]; exact h)
      refine ⟨k', by rw [← e, Nat.pow_succ 2 (k + 1)], h1, .inr ?_⟩
      rcases h2 with h2 | h2
      · rw [Nat.pow_succ 2 (k + 1)] at h2; omega
      · exact h2
    · rename_i c
      exact ⟨k, rfl, by omega, .inl (Nat.le_refl _)⟩
theorem above_is {n : Nat} (hn : n < 100000) : ∃ k, sizeAbove n = 2 ^ (k + 1) ∧ n < 2 ^ (k + 1) ∧ 2 ^ (k + 1) ≤ 2 * n + 8 := by
  obtain ⟨k, e, h1, h2⟩ := above_go (n := n) 64 2 (Nat.lt_of_lt_of_le hn (by decide))
  refine ⟨k, e, h1, ?_⟩
  have : (2 : Nat) ^ (2 + 1) = 8 := rfl
  omega
theorem size_ins {α : Type} (xs : Array α) (p : Nat) (x : α) : (insertAt xs p x).size = xs.size + 1 := by
  have := (SetTable.insertAt_perm xs p x).length_eq
  rw [Array.length_toList, Array.length_toList, Array.size_push] at this
  exact this
theorem mapfm {f : Nat → Option Nat} : ∀ l : List Nat, ((l.filterMap fun j => (f j).map (j, ·)).map (·.2)) = l.filterMap f
  | [] => rfl
  | a :: l => by
    rw [List.filterMap_cons, List.filterMap_cons]
    cases f a with
    | none => exact mapfm l
    | some v => show v :: _ = v :: _; rw [mapfm l]
theorem up_fm (f : Nat → Option Nat) : ∀ l : List Nat, l.Pairwise (· < ·) → ((l.filterMap fun j => (f j).map (j, ·)).map (·.1)).Pairwise (· < ·)
  | [], _ => .nil
  | a :: l, h => by
    obtain ⟨h1, h2⟩ := List.pairwise_cons.mp h
    have r := up_fm f l h2
    rw [List.filterMap_cons]
    cases f a with
    | none => exact r
    | some v =>
      refine List.pairwise_cons.mpr ⟨fun x hx => ?_, r⟩
      obtain ⟨y, hy, rfl⟩ := List.mem_map.mp hx
      obtain ⟨j, hj, e⟩ := List.mem_filterMap.mp hy
      cases hv : f j with
      | none => rw [hv] at e; cases e
      | some u => rw [hv] at e; cases e; exact h1 j hj
theorem Gd.put {w : World} {es : Array (Int × Value)} {t : SetTable} {vs : List Value} (G : Gd w es t vs) {j : Nat} (hj : t.slot j = .empty) (h : Int) (x : Value) : Gd w (insertAt es (t.put j).2 (h, x)) (t.put j).1 (x :: vs) :=
  ⟨put_up G.up hj, G.plain, G.led, by
    have := (SetTable.insertAt_perm es (t.put j).2 (h, x)).map (·.2)
    rw [Array.toList_push, List.map_append] at this
    exact (this.trans List.perm_append_comm).trans (.cons x G.perm)⟩
theorem relaid_ok {t : SetTable} {es : Array (Int × Value)} {wanted : Nat} (h1 : es.size < wanted) (h2 : wanted < 100000) : ∃ t' od, t.relaid (es.map (·.1)) wanted = some (t', od) ∧ List.Perm (od.filterMap (es[·]?)).toList es.toList ∧ t'.place.size = es.size ∧ t'.dummies = #[] ∧ (∃ k, t'.mask + 1 = 2 ^ (k + 1)) ∧ wanted ≤ t'.mask ∧ od.toList.Perm (List.range es.size) ∧ Up t'.place ∧ t'.plain = t.plain ∧ t'.led = t.led := by
  obtain ⟨k, e, a1, a2⟩ := above_is h2
  unfold relaid laid layClean
  rw [e]
  have em : 2 ^ (k + 1) - 1 + 1 = 2 ^ (k + 1) := by have := Nat.two_pow_pos (k + 1); omega
  have hlen : (es.map (·.1)).toList.length = es.size := by rw [Array.length_toList, Array.size_map]
  obtain ⟨ow, f1, f2⟩ := lay_ok (k := k + 1) em (es.map (·.1)).toList (by rw [hlen]; omega) (es.map (·.1)).toList [] (Array.replicate (2 ^ (k + 1) - 1 + 1) none) rfl (by rw [Array.size_replicate]) (by
    have : ((List.range (2 ^ (k + 1) - 1 + 1)).filterMap fun j => (Array.replicate (2 ^ (k + 1) - 1 + 1) (none : Option Nat)).getD j none) = [] := by
      rw [List.filterMap_eq_nil_iff]
      intro j hj
      rw [Array.getD_eq_getD_getElem?, Array.getElem?_replicate]
      split <;> rfl
    rw [this]
    exact .nil)
  rw [← Array.foldl_toList, List.length_nil] at *
  rw [f1, hlen] at *
  refine ⟨_, _, rfl, ?_, ?_, rfl, ⟨k, em⟩, by show wanted ≤ 2 ^ (k + 1) - 1; omega, ?_, ?_, rfl, rfl⟩
  · have e1 : ∀ l : List Nat, ((l.toArray).filterMap (es[·]?)).toList = l.filterMap (fun i => es[i]?) := fun l => by rw [Array.toList_filterMap]
    rw [e1, mapfm (f := fun j => ow.getD j none)]
    refine (f2.filterMap _).trans ?_
    rw [filterMap_getElem?_range]
  · show (List.map _ _).toArray.size = _
    rw [List.size_toArray, List.length_map, ← List.length_map (f := Prod.snd), mapfm (f := fun j => ow.getD j none), f2.length_eq, List.length_range]
  · show (List.map _ _).Perm _
    rw [mapfm (f := fun j => ow.getD j none)]
    exact f2
  · show (List.map _ _).Pairwise (· < ·)
    exact up_fm _ _ List.pairwise_lt_range
section
variable {prog : Program} {w : World} {A : Around} {E : Value → Shared → Prop} {s : Shared}
end
end STB
set_option Elab.async false
set_option linter.all false
set_option maxRecDepth 100000
set_option maxHeartbeats 4000000
namespace STB
open PySem SetTable PyProof.Rows
noncomputable def HasV (w : World) (h : Heap) (a : Addr) (vs : List Value) : Prop := ∃ es ep t, SetAt h a es ep t ∧ t.fits es.size = true ∧ Gd w es t vs
theorem HasV.at {w : World} {h h' : Heap} {a vs} (x : HasV w h a vs) (e : ∀ o, h.get? a = some o → h'.get? a = some o) : HasV w h' a vs := let ⟨es, ep, t, S, r⟩ := x; ⟨es, ep, t, S.at e, r⟩
noncomputable def Old (h0 h : Heap) (z : Nat) : Prop := ∀ b o, b < z → h0.get? b = some o → h.get? b = some o
section
variable {prog : Program} {w : World} {A : Around} {R : Result → Shared → Prop} {I : Addr} {fp wr : List Addr} {G : Array GenState → Array GenState → Prop} {n : Nat} {P : Nat → Value → Prop} {St : Nat → Shared → Prop}
end
end STB
set_option Elab.async false
set_option linter.all false
set_option maxRecDepth 100000
set_option maxHeartbeats 4000000
namespace L2
open PySem PySem.Spec PyProof.Rows
section
variable {X : Cx}
variable {e : Expr} {es : List Expr} {t : TA} {p pos : Pos}
theorem boot_set : bootBuiltins "set" = some (.type "set") := by decide +kernel
end
end L2
set_option Elab.async false
set_option linter.all false
set_option maxRecDepth 100000
set_option maxHeartbeats 4000000
namespace STB
open PySem SetTable PyProof.Rows
noncomputable abbrev nS (q : Bool) : Obj := { cls := .type "set", dict := none, data := .set #[] 0 (.fresh 0 0 q) }
noncomputable def HasN (h : Heap) (a : Addr) (n : Nat) : Prop := ∃ o es ep t, h.get? a = some o ∧ o.ExactSet ∧ o.data = .set es ep t ∧ t.fits es.size = true ∧ es.size = n
theorem new_gd {w : World} : Gd w #[] (.fresh 0 0 (!bt w)) [] := ⟨.nil, rfl, rfl, .nil⟩
theorem HasV.n {w : World} {h : Heap} {a vs n} (x : HasV w h a vs) (e : vs.length = n) : HasN h a n := by
  obtain ⟨es, ep, t, ⟨o, ho, hx, hd⟩, hf, G⟩ := x
  exact ⟨o, es, ep, t, ho, hx, hd, hf, by rw [← e, ← G.perm.length_eq, List.length_map, Array.length_toList]⟩
theorem sub_tup_set : isSubtype (.type "tuple") (.type "set") = pure false := by
  rw [isSubtype_type]; kernel_rfl
theorem sub_tup_fs : isSubtype (.type "tuple") (.type "frozenset") = pure false := by
  rw [isSubtype_type]; kernel_rfl
section
variable {prog : Program} {w : World} {A : Around} {E : Value → Shared → Prop} {s : Shared}
theorem set_made (a : Value) {Q : Value → Shared → Prop} (h : Q (.ref s.heap.objs.size) { s with heap := s.heap.push (nS (!bt w)) }) :
    codeAny (model prog w) A (.call (.builtin "set.__new__") ⟨[.type "set", a], []⟩) (wants Q E) s := by
  refine codeAny_of_tree ?_
  refine wpAny_bind (wpAny_of_eq (F.newCall_set_1 a) (wpAny_pure ⟨plainId_quiet F.plain_set_new _, codeAny_builtin F.entry_set_new ?_⟩))
  rw [Around.under_plainId F.plain_set_new _]
  unfold Builtin.«set.__new__» Builtin.Frozenset.newClass
  have sb := sub_set_self
  obtain ⟨hp, g, d, tk, os⟩ := s
  dsimp only
  wp_walk
  refine wpAny_askSetting (wpAny_pure ?_)
  dsimp only
  simp only [newObj]
  refine wpAny_bind (wpAny_alloc (wpAny_pure ?_))
  exact wpAny_pure h
noncomputable def LP (prog : Program) (w : World) (A : Around) (s : Shared) (l : Addr) (its : Array Value) (VS : Heap → Prop) : Prop :=
  ∀ (B : Around) (I : Addr) (s1 : Shared) (R : Result → Shared → Prop) (St : Nat → Shared → Prop), B.in1.units < A.units + 8 → s.heap.objs.size ∉ [I, l] → s.heap.objs.size ≤ I →
    Old s.heap s1.heap s.heap.objs.size → s1.heap.get? s.heap.objs.size = some (nS (!bt w)) → WalksS prog w B.in1 I [I, l] [I] (fun a b => b = a) its.size (fun i v => its[i]? = some v) St → St 0 s1 →
    (∀ s', Moved [s.heap.objs.size, I] (fun a b => b = a) s1 s' → VS s'.heap → R (.ok (.ret .none)) s') → codeAny (model prog w) B (.builtin "set.update.loop" ⟨[.ref s.heap.objs.size, .ref I], []⟩) R s1
set_option maxHeartbeats 6400000 in
theorem set_from_list {l : Addr} {its : Array Value} {VS : Heap → Prop} {Q : Value → Shared → Prop} (hh : A.handled = none) (hl : s.heap.IsList l its) (lp : LP prog w A s l its VS)
    (h : ∀ (h2 : Heap) (k2 : Nat), VS h2 → (∀ b o, b < s.heap.objs.size → s.heap.get? b = some o → h2.get? b = some o) → Q (.ref s.heap.objs.size) { s with heap := h2, toks := k2 }) :
    wpAny (model prog w) A (call (.type "set") [.ref l]) Q E s := by
  obtain ⟨c, tl, mro⟩ := F.called_set.mro
  have m1 := F.called_set.made
  have m2 := F.called_set.sub
  refine wpAny_call (codeAny_of_tree ?_)
  show wpAny _ _ (callAny (.type "set") _) _ _ _
  refine wpAny_pure ⟨Code.quiet_builtin _ (by decide +kernel), codeAny_builtin F.entry_type_call ?_⟩
  rw [Around.under_plain (weight_type_call_type "set" [.ref l] []) rfl]
  have m3 := F.called_set.notType
  have m4 := F.called_set.canCreate
  have m5 := F.typeCall_set_1 (.ref l)
  repeat (any_goals (first | assumption | wp_step))
  refine codeAny_mono (set_made (.ref l) (E := E) (Q := fun ob s1 => ob = .ref s.heap.objs.size ∧ s1 = { s with heap := s.heap.push (nS (!bt w)) }) ⟨rfl, rfl⟩) fun r s1 hr => ?_
  generalize hq : (!bt w) = q at hr
  cases r with
  | error e => exact hr
  | ok fl =>
    cases fl with
    | ret ob =>
      obtain ⟨rfl, rfl⟩ := hr
      have gS : (s.heap.push (nS q)).get? s.heap.objs.size = some (nS q) := Heap.get?_push_size _ rfl
      have tS : Shared.TypeIs { s with heap := s.heap.push (nS q) } (.ref s.heap.objs.size) "set" := ⟨_, gS, rfl⟩
      have m6 := F.called_set.init.lookup
      have m7 := F.called_set.init.bind (.ref s.heap.objs.size)
      repeat (any_goals (first | assumption | wp_step))
      refine codeAny_mono (codeAny_call_builtin (R := wants (fun r s2 => r = .none ∧ ∃ h2 k2, s2 = { s with heap := h2, toks := k2 } ∧ VS h2 ∧
          (∀ b o, b < s.heap.objs.size → s.heap.get? b = some o → h2.get? b = some o)) E) F.called_set.init.plain F.entry_set_init (check_set_init_1 tS ?_)) fun r2 s2 hr2 => ?_
      · obtain ⟨ol, g1, c1, nl, d1⟩ := hl
        obtain ⟨oc, od, oda, osl⟩ := ol
        simp only at c1 d1
        subst c1; subst d1
        have g2 : (s.heap.push (nS q)).get? l = some { cls := .type "list", dict := od, data := .seq its nl, slots := osl } := Heap.get?_push_of_some _ g1
        have b1 := F.sub_list_set
        have b2 := F.sub_list_frozenset
        have b3 : (Value.type "list" == Value.type "dict") = false := by decide
        have l1 : (s.heap.push (nS q)).IsList l its := ⟨_, g2, rfl, nl, rfl⟩
        unfold Builtin.«set.__init__» noKeywords Builtin.Frozenset.updateFrom
        generalize hPI : pyIter = PI
        wp_walk
        subst hPI
        refine wpAny_pyIter_list l1 ?_
        refine wpAny_bind (wpAny_runValue ?_)
        have lS : l < s.heap.objs.size := Heap.lt_size g1
        have h3 : A.in1.in1.in1.handled = none := by simp [hh]
        have nI : l ≠ (s.heap.push (nS q)).objs.size := by
          rw [Heap.size_push]; exact Nat.ne_of_lt (Nat.lt_succ_of_lt lS)
        have Sf : s.heap.objs.size ∉ [(s.heap.push (nS q)).objs.size, l] := by
          rw [Heap.size_push]; simp only [List.mem_cons, List.mem_singleton, List.not_mem_nil, or_false, not_or]
          exact ⟨Nat.ne_of_lt (Nat.lt_succ_self _), Nat.ne_of_gt lS⟩
        have olds : Old s.heap ((s.heap.push (nS q)).push { cls := .type "list_iterator", data := .fields #[.ref l, .int 0 0] }) s.heap.objs.size := fun b o _ e => Heap.get?_push_of_some _ (Heap.get?_push_of_some _ e)
        refine lp _ _ _ _ _ ?un Sf ?wr olds (by rw [hq]; exact Heap.get?_push_of_some _ gS) ((Walks.list h3 _ l nI its).toS) ⟨⟨_, Heap.get?_push_size _ rfl, rfl, rfl⟩, (l1.push _)⟩ ?fin
        case wr =>
          rw [Heap.size_push]
          exact Nat.le_succ _
        case un => simp only [Around.in1_units]; omega
        case fin =>
          intro s3 mv hS3
          obtain ⟨h2, ge, dr, k2, os⟩ := s3
          have eg : ge = s.gens := mv.gens
          have ed : dr = s.drawn := mv.drawn
          have eo : os = s.os := mv.os
          subst eg; subst ed; subst eo
          show wpAny _ _ _ _ _ _
          refine wpAny_pure ?_
          show wpAny _ _ (ret Value.none) _ _ _
          refine wpAny_pure ⟨rfl, h2, k2, rfl, hS3, fun b o lt e => ?_⟩
          have n1 : b ≠ s.heap.objs.size := Nat.ne_of_lt lt
          have n2 : b ≠ (s.heap.push (nS q)).objs.size := by
            rw [Heap.size_push]; exact Nat.ne_of_lt (Nat.lt_succ_of_lt lt)
          exact mv.heap b o (by simp only [List.mem_cons, List.mem_singleton, List.not_mem_nil, or_false, not_or]; exact ⟨n1, n2⟩) (Heap.get?_push_of_some _ (Heap.get?_push_of_some _ e))
      · cases r2 with
        | error e => exact hr2
        | ok f2 =>
          cases f2 with
          | ret r =>
            obtain ⟨rfl, h2, k2, rfl, hS2, hk2⟩ := hr2
            repeat (any_goals (first | assumption | wp_step))
            exact h _ _ hS2 hk2
          | next => exact hr2.elim
          | brk => exact hr2.elim
          | cont => exact hr2.elim
    | next => exact hr.elim
    | brk => exact hr.elim
    | cont => exact hr.elim
set_option maxHeartbeats 6400000 in
theorem set_from_tup {l : Addr} {its : Array Value} {VS : Heap → Prop} {Q : Value → Shared → Prop} (hh : A.handled = none) (hl : s.heap.IsTuple l its) (lp : LP prog w A s l its VS)
    (h : ∀ (h2 : Heap) (k2 : Nat), VS h2 → (∀ b o, b < s.heap.objs.size → s.heap.get? b = some o → h2.get? b = some o) → Q (.ref s.heap.objs.size) { s with heap := h2, toks := k2 }) :
    wpAny (model prog w) A (call (.type "set") [.ref l]) Q E s := by
  obtain ⟨c, tl, mro⟩ := F.called_set.mro
  have m1 := F.called_set.made
  have m2 := F.called_set.sub
  refine wpAny_call (codeAny_of_tree ?_)
  show wpAny _ _ (callAny (.type "set") _) _ _ _
  refine wpAny_pure ⟨Code.quiet_builtin _ (by decide +kernel), codeAny_builtin F.entry_type_call ?_⟩
  rw [Around.under_plain (weight_type_call_type "set" [.ref l] []) rfl]
  have m3 := F.called_set.notType
  have m4 := F.called_set.canCreate
  have m5 := F.typeCall_set_1 (.ref l)
  repeat (any_goals (first | assumption | wp_step))
  refine codeAny_mono (set_made (.ref l) (E := E) (Q := fun ob s1 => ob = .ref s.heap.objs.size ∧ s1 = { s with heap := s.heap.push (nS (!bt w)) }) ⟨rfl, rfl⟩) fun r s1 hr => ?_
  generalize hq : (!bt w) = q at hr
  cases r with
  | error e => exact hr
  | ok fl =>
    cases fl with
    | ret ob =>
      obtain ⟨rfl, rfl⟩ := hr
      have gS : (s.heap.push (nS q)).get? s.heap.objs.size = some (nS q) := Heap.get?_push_size _ rfl
      have tS : Shared.TypeIs { s with heap := s.heap.push (nS q) } (.ref s.heap.objs.size) "set" := ⟨_, gS, rfl⟩
      have m6 := F.called_set.init.lookup
      have m7 := F.called_set.init.bind (.ref s.heap.objs.size)
      repeat (any_goals (first | assumption | wp_step))
      refine codeAny_mono (codeAny_call_builtin (R := wants (fun r s2 => r = .none ∧ ∃ h2 k2, s2 = { s with heap := h2, toks := k2 } ∧ VS h2 ∧
          (∀ b o, b < s.heap.objs.size → s.heap.get? b = some o → h2.get? b = some o)) E) F.called_set.init.plain F.entry_set_init (check_set_init_1 tS ?_)) fun r2 s2 hr2 => ?_
      · obtain ⟨ol, g1, c1, nl, d1⟩ := hl
        obtain ⟨oc, od, oda, osl⟩ := ol
        simp only at c1 d1
        subst c1; subst d1
        have g2 : (s.heap.push (nS q)).get? l = some { cls := .type "tuple", dict := od, data := .seq its nl, slots := osl } := Heap.get?_push_of_some _ g1
        have b1 := sub_tup_set
        have b2 := sub_tup_fs
        have b3 : (Value.type "tuple" == Value.type "dict") = false := by decide
        have l1 : (s.heap.push (nS q)).IsTuple l its := ⟨_, g2, rfl, nl, rfl⟩
        unfold Builtin.«set.__init__» noKeywords Builtin.Frozenset.updateFrom
        generalize hPI : pyIter = PI
        wp_walk
        subst hPI
        refine wpAny_pyIter_tuple l1 ?_
        refine wpAny_bind (wpAny_runValue ?_)
        have lS : l < s.heap.objs.size := Heap.lt_size g1
        have h3 : A.in1.in1.in1.handled = none := by simp [hh]
        have nI : l ≠ (s.heap.push (nS q)).objs.size := by
          rw [Heap.size_push]; exact Nat.ne_of_lt (Nat.lt_succ_of_lt lS)
        have Sf : s.heap.objs.size ∉ [(s.heap.push (nS q)).objs.size, l] := by
          rw [Heap.size_push]; simp only [List.mem_cons, List.mem_singleton, List.not_mem_nil, or_false, not_or]
          exact ⟨Nat.ne_of_lt (Nat.lt_succ_self _), Nat.ne_of_gt lS⟩
        have olds : Old s.heap ((s.heap.push (nS q)).push { cls := .type "tuple_iterator", data := .fields #[.ref l, .int 0 0] }) s.heap.objs.size := fun b o _ e => Heap.get?_push_of_some _ (Heap.get?_push_of_some _ e)
        refine lp _ _ _ _ _ ?un Sf ?wr olds (by rw [hq]; exact Heap.get?_push_of_some _ gS) ((Walks.tuple h3 _ l nI its).toS) ⟨⟨_, Heap.get?_push_size _ rfl, rfl, rfl⟩, (l1.push _)⟩ ?fin
        case wr =>
          rw [Heap.size_push]
          exact Nat.le_succ _
        case un => simp only [Around.in1_units]; omega
        case fin =>
          intro s3 mv hS3
          obtain ⟨h2, ge, dr, k2, os⟩ := s3
          have eg : ge = s.gens := mv.gens
          have ed : dr = s.drawn := mv.drawn
          have eo : os = s.os := mv.os
          subst eg; subst ed; subst eo
          show wpAny _ _ _ _ _ _
          refine wpAny_pure ?_
          show wpAny _ _ (ret Value.none) _ _ _
          refine wpAny_pure ⟨rfl, h2, k2, rfl, hS3, fun b o lt e => ?_⟩
          have n1 : b ≠ s.heap.objs.size := Nat.ne_of_lt lt
          have n2 : b ≠ (s.heap.push (nS q)).objs.size := by
            rw [Heap.size_push]; exact Nat.ne_of_lt (Nat.lt_succ_of_lt lt)
          exact mv.heap b o (by simp only [List.mem_cons, List.mem_singleton, List.not_mem_nil, or_false, not_or]; exact ⟨n1, n2⟩) (Heap.get?_push_of_some _ (Heap.get?_push_of_some _ e))
      · cases r2 with
        | error e => exact hr2
        | ok f2 =>
          cases f2 with
          | ret r =>
            obtain ⟨rfl, h2, k2, rfl, hS2, hk2⟩ := hr2
            repeat (any_goals (first | assumption | wp_step))
            exact h _ _ hS2 hk2
          | next => exact hr2.elim
          | brk => exact hr2.elim
          | cont => exact hr2.elim
    | next => exact hr.elim
    | brk => exact hr.elim
    | cont => exact hr.elim
end
end STB
set_option Elab.async false
set_option linter.all false
set_option maxRecDepth 100000
set_option maxHeartbeats 4000000
namespace STB
open PySem SetTable PyProof.Rows
structure Tb (es : Array (Int × Value)) (t : SetTable) (n : Nat) : Prop where
  size : es.size = n
  place : t.place.size = n
  nodum : t.dummies = #[]
  two : ∃ k, t.mask + 1 = 2 ^ (k + 1)
  room : n * 5 < t.mask * 3
theorem Tb.fits {es t n} (T : Tb es t n) : t.fits es.size = true := by
  have h1 := T.place
  have h2 := T.size
  have h3 := T.room
  unfold SetTable.fits SetTable.fill
  rw [T.nodum, h1, h2, Bool.and_eq_true]
  exact ⟨by simp, decide_eq_true (by show n + 0 ≤ _; omega)⟩
theorem go_free {t : SetTable} (hd : t.dummies = #[]) {h : Int} {N : Nat} (hN : t.slot (adv t h N).j = .empty) : ∀ fuel n, n ≤ N → N - n < fuel → ∃ j, t.slot j = .empty ∧ probe.go t (fun _ => h + 1) h fuel (adv t h n) = some (.empty j none)
  | 0, n, _, h0 => absurd h0 (Nat.not_lt_zero _)
  | fuel + 1, n, hn, hf => by
    unfold probe.go
    rcases slot_cases hd (adv t h n).j with e | ⟨i, e, ep⟩
    · rw [e, adv_dummy]
      exact ⟨_, e, rfl⟩
    · rw [e]
      have ne : n ≠ N := fun z => by rw [z, hN] at e; cases e
      dsimp only
      rw [if_neg (by simp; omega)]
      exact go_free hd hN fuel (n + 1) (by omega) (by omega)
theorem free_is {es : Array (Int × Value)} {t : SetTable} {n : Nat} (T : Tb es t n) (h : Int) : ∃ j, t.slot j = .empty ∧ t.freeSlot h = some (j, false) := by
  obtain ⟨k, ek⟩ := T.two
  have rm := T.room
  obtain ⟨N, hN, hS⟩ := reach ek T.nodum (by rw [T.place]; omega) h
  rw [T.place] at hN
  obtain ⟨j, e1, e2⟩ := go_free (h := h) T.nodum hS (10 * turns t.mask) 0 (Nat.zero_le _) (by unfold turns; omega)
  refine ⟨j, e1, ?_⟩
  unfold freeSlot
  have pe : t.probe (fun _ => h + 1) h (t.probeStart h) = probe.go t (fun _ => h + 1) h (10 * turns t.mask) (adv t h 0) := rfl
  rw [pe, e2]
  rfl
theorem lay_new {es : Array (Int × Value)} {t : SetTable} {n : Nat} {w : World} {vs : List Value} (T : Tb es t n) (G : Gd w es t vs) (h : Int) (x : Value) : ∃ es' t', layNew t es h x = (es', t', false, false) ∧ es'.size = n + 1 ∧ t'.place.size = n + 1 ∧ t'.dummies = #[] ∧ t'.mask = t.mask ∧ Gd w es' t' (x :: vs) ∧ es'.toList.Perm (es.toList ++ [(h, x)]) := by
  obtain ⟨j, e1, e2⟩ := free_is T h
  have sz := size_ins es (t.put j).2 (h, x)
  rw [T.size] at sz
  have p1 : (t.put j).1.place.size = n + 1 := by show (insertAt t.place _ j).size = _; rw [size_ins, T.place]
  have d1 : (t.put j).1.dummies = #[] := by show (if has t.dummies j = true then _ else t.dummies) = _; rw [T.nodum, no_dummy]; rfl
  have rm := T.room
  have f1 : (t.put j).1.fits (insertAt es (t.put j).2 (h, x)).size = true := by
    unfold SetTable.fits SetTable.fill
    rw [p1, sz, d1, Bool.and_eq_true]
    exact ⟨by simp, decide_eq_true (by show n + 1 + 0 ≤ t.mask; omega)⟩
  refine ⟨insertAt es (t.put j).2 (h, x), (t.put j).1, ?_, sz, p1, d1, rfl, G.put e1 h x, ?_⟩
  · unfold layNew
    rw [e2]
    dsimp only
    unfold orStandIn
    rw [f1]
    rfl
  · have := SetTable.insertAt_perm es (t.put j).2 (h, x)
    rw [Array.toList_push] at this
    exact this
theorem lay_all {es : Array (Int × Value)} {t : SetTable} {w : World} {vs : List Value} (G : Gd w es t vs) {wanted : Nat} (h1 : es.size < wanted) (h2 : wanted < 100000) : ∃ es' t', relayAll t es wanted = (es', t', false) ∧ es'.size = es.size ∧ t'.place.size = es.size ∧ t'.dummies = #[] ∧ (∃ k, t'.mask + 1 = 2 ^ (k + 1)) ∧ wanted ≤ t'.mask ∧ Gd w es' t' vs ∧ es'.toList.Perm es.toList := by
  obtain ⟨t2, od, r1, r2, r3, r4, r5, r6, r7, r8, r9, r10⟩ := relaid_ok (t := t) (es := es) (wanted := wanted) h1 h2
  have z2 : (od.filterMap (es[·]?)).size = es.size := by rw [← Array.length_toList, r2.length_eq, Array.length_toList]
  refine ⟨od.filterMap (es[·]?), t2, ?_, z2, r3, r4, r5, r6, ⟨r8, r9.trans G.plain, r10.trans G.led, (r2.map _).trans G.perm⟩, r2⟩
  unfold relayAll
  rw [r1]
  dsimp only
  have c1 : coversAll od es.size = true := by unfold coversAll; rw [List.isPerm_iff]; exact r7
  have c2 : t2.fits (od.filterMap (es[·]?)).size = true := by
    unfold SetTable.fits SetTable.fill
    rw [z2, r3, r4, Bool.and_eq_true]
    exact ⟨by simp, decide_eq_true (by show es.size + 0 ≤ _; omega)⟩
  rw [c1, c2]
  rfl
section
variable {prog : Program} {w : World} {A : Around} {E : Value → Shared → Prop} {s : Shared}
theorem is_int {k : Int} {v : Value} (h : (intKind prog w).is k v = true) : ∃ t, v = .int k t := by
  cases v with
  | int k' t =>
    simp [intKind, Value.isInt] at h
    exact ⟨t, by rw [h]⟩
  | _ => simp [intKind, Value.isInt] at h
noncomputable abbrev kI (prog : Program) (w : World) := intKind prog w
noncomputable def AddI (prog : Program) (w : World) (a : Addr) (h : Heap) (vs : List Value) (n : Nat) : Prop := ∃ o es ep t, h.get? a = some o ∧ o.ExactSet ∧ o.data = .set es ep t ∧ Tb es t n ∧ Gd w es t vs ∧ ElemsOf (kI prog w) es.toList
theorem addI {a : Addr} {vs : List Value} {n : Nat} {k : Int} {tk : Tok} {Q : Bool → Shared → Prop} (S : AddI prog w a s.heap vs n) (hn : n < 4000)
    (h : ∀ h' vs' n', Heap.SameBut a s.heap h' → AddI prog w a h' vs' n' → (vs' = vs ∧ n' = n ∧ (∃ t, Value.int k t ∈ vs) ∨ vs' = .int k tk :: vs ∧ n' = n + 1 ∧ ∀ t, Value.int k t ∉ vs) → ∀ r, Q r { s with heap := h' }) :
    wpAny (model prog w) A (setAddHashed a (.int k tk) ((kI prog w).hash k)) Q E s := by
  obtain ⟨o, es, ep, t, ho, hex, hd, T, G, hel⟩ := S
  have hsc : (Value.int k tk).scannable = true := rfl
  have hkey : (kI prog w).is k (.int k tk) = true := intKind_is _ _ _ _
  unfold setAddHashed setAddHashedIn
  refine wpAny_holding (wpAny_bind (wpAny_setState_of ho hd T.fits ?_))
  dsimp only
  rw [byScan_of hsc (by rw [T.size]; unfold scanBound; omega) hel]
  simp only [if_true]
  unfold setAddByScan
  refine wpAny_bind ?_
  refine wpAny_bind (wpAny_rule ?_)
  refine wpAny_bind (wpAny_setScan_of hkey ho hd T.fits hel ?_)
  cases hr : List.findIdx? (fun e => (kI prog w).is k e.2) es.toList with
  | some j =>
    dsimp only
    obtain ⟨hj, hpj, _⟩ := List.findIdx?_eq_some_iff_getElem.mp hr
    refine wpAny_pure (wpAny_pure ?_)
    refine h s.heap vs n (Heap.SameBut.refl a s.heap) ⟨o, es, ep, t, ho, hex, hd, T, G, hel⟩ (.inl ⟨rfl, rfl, ?_⟩) _
    have e0 : es.toList[j].2 ∈ vs := G.perm.mem_iff.mp (List.mem_map.mpr ⟨_, List.getElem_mem hj, rfl⟩)
    generalize es.toList[j].2 = v at hpj e0
    obtain ⟨t', rfl⟩ := is_int hpj
    exact ⟨t', e0⟩
  | none =>
    dsimp only
    obtain ⟨es1, t1, e1, z1, p1, d1, m1, G1, q1⟩ := lay_new T G ((kI prog w).hash k) (.int k tk)
    rw [e1]
    dsimp only
    refine wpAny_bind (wpAny_pure ?_)
    rw [G1.plain]
    simp only [if_true]
    refine wpAny_bind ?_
    rw [hashByValue_scannable 8 hsc]
    refine wpAny_pure ?_
    have pk : plainKind (Value.int k tk) = true := rfl
    rw [pk]
    simp only [if_true]
    have hnew : ∀ t, Value.int k t ∉ vs := fun t ht => by
      obtain ⟨e, he, ee⟩ := List.mem_map.mp (G.perm.mem_iff.mpr ht)
      have := List.findIdx?_eq_none_iff.mp hr e he
      rw [ee] at this
      exact absurd ((intKind_is prog w k t).symm.trans this) (by decide)
    have rm := T.room
    have hel1 : ElemsOf (kI prog w) es1.toList := (hel.push hkey hsc).perm q1
    refine wpAny_bind (wpAny_storeSet_of ho hd ?_ (by rw [z1, sizeLine_eq]; omega))
    have hg : (s.heap.update a (Obj.putSet es1 t1)).get? a = some { o with data := .set es1 (ep + 1) t1 } := by
      have := Heap.get?_update_self (Obj.putSet es1 t1) ho (by rw [putSet_of _ _ hd]; rfl)
      rw [putSet_of _ _ hd] at this
      exact this
    have sb := Heap.SameBut.update s.heap a (Obj.putSet es1 t1)
    generalize s.heap.update a (Obj.putSet es1 t1) = h1 at hg sb
    have fill1 : t1.fill = n + 1 := by unfold SetTable.fill; rw [d1, p1]; rfl
    split
    · rename_i c
      have gr : grown es1.size = (n + 1) * 4 := by unfold grown; rw [z1, if_neg (by omega)]
      rw [gr]
      obtain ⟨es2, t2, e2, z2, p2, d2, w2, m2, G2, q2⟩ := lay_all G1 (wanted := (n + 1) * 4) (by omega) (by omega)
      rw [e2]
      dsimp only
      refine wpAny_bind (wpAny_pure ?_)
      refine wpAny_bind (wpAny_storeSet_of hg rfl ?_ (by rw [z2, z1, sizeLine_eq]; omega))
      have hg2 : (h1.update a (Obj.putSet es2 t2)).get? a = some { o with data := .set es2 (ep + 1 + 1) t2 } := by
        have := Heap.get?_update_self (Obj.putSet es2 t2) hg (by rw [putSet_of _ _ rfl]; rfl)
        rw [putSet_of _ _ rfl] at this
        exact this
      have sb2 := Heap.SameBut.update h1 a (Obj.putSet es2 t2)
      refine wpAny_pure (wpAny_pure (h _ _ _ (sb.trans sb2) ⟨_, es2, _, t2, hg2, hex, rfl, ⟨by rw [z2, z1], by rw [p2, z1], d2, w2, by omega⟩, G2, hel1.perm q2⟩ (.inr ⟨rfl, rfl, hnew⟩) _))
    · rename_i c
      have nf : ¬ t1.tooFull = true := by simpa using c
      unfold tooFull at nf
      rw [fill1] at nf
      have nf : (n + 1) * 5 < t1.mask * 3 := by simpa using nf
      exact wpAny_pure (wpAny_pure (h _ _ _ sb ⟨_, es1, _, t1, hg, hex, rfl, ⟨z1, p1, d1, by rw [m1]; exact T.two, by omega⟩, G1, hel1⟩ (.inr ⟨rfl, rfl, hnew⟩) _))
theorem ints_mem {vs : List Value} {ns : List Int} (h : IntsAre vs ns) (k : Int) : k ∈ ns ↔ ∃ t, Value.int k t ∈ vs := by
  induction h with
  | nil => exact ⟨(fun z => (List.not_mem_nil z).elim), fun ⟨_, z⟩ => (List.not_mem_nil z).elim⟩
  | cons n t h ih =>
    rw [List.mem_cons, ih]
    constructor
    · rintro (rfl | ⟨t', h'⟩)
      · exact ⟨t, List.mem_cons_self⟩
      · exact ⟨t', List.mem_cons_of_mem _ h'⟩
    · rintro ⟨t', h'⟩
      rcases List.mem_cons.mp h' with z | z
      · cases z; exact .inl rfl
      · exact .inr ⟨t', z⟩
noncomputable def HasI (w : World) (h : Heap) (a : Addr) (p : Int → Prop) : Prop := ∃ vs ns, HasV w h a vs ∧ IntsAre vs ns ∧ ns.Nodup ∧ (∀ x, x ∈ ns ↔ p x) ∧ vs.length < 6000
noncomputable def StI (prog : Program) (w : World) (S : Addr) (val : Nat → Int) (i : Nat) (h : Heap) : Prop := ∃ vs ns n, AddI prog w S h vs n ∧ IntsAre vs ns ∧ ns.Nodup ∧ (∀ x, x ∈ ns ↔ ∃ j, j < i ∧ val j = x) ∧ n ≤ i
theorem AddI.at {a : Addr} {h h' : Heap} {vs n} (x : AddI prog w a h vs n) (e : ∀ o, h.get? a = some o → h'.get? a = some o) : AddI prog w a h' vs n := let ⟨o, es, ep, t, ho, r⟩ := x; ⟨o, es, ep, t, e _ ho, r⟩
end
section
variable {prog : Program} {w : World} {A : Around} {R : Result → Shared → Prop} {I : Addr} {fp wr : List Addr} {G : Array GenState → Array GenState → Prop} {n : Nat} {P : Nat → Value → Prop} {St : Nat → Shared → Prop}
theorem set_loopI (W : WalksS prog w A.in1 I fp wr G n P St) (S : Addr) (hSf : S ∉ fp) (val : Nat → Int) (hval : ∀ i v, P i v → ∃ t, v = .int (val i) t) (hn : n ≤ 4000) :
    ∀ (k i : Nat) (s : Shared), n - i = k → i ≤ n → St i s → StI prog w S val i s.heap →
      (∀ s', Moved (S :: wr) G s s' → StI prog w S val n s'.heap → R (.ok (.ret .none)) s') →
      codeAny (model prog w) A (.builtin "set.update.loop" ⟨[.ref S, .ref I], []⟩) R s := by
  have hSw : S ∉ wr := fun h => hSf (W.sub _ h)
  have hsub : ∀ b ∈ wr, b ∈ S :: wr := fun b hb => List.mem_cons_of_mem _ hb
  intro k
  induction k with
  | zero =>
    intro i s hk hi hst hS hR
    obtain rfl : i = n := by omega
    refine codeAny_builtin F.entry_set_update_loop ?_
    rw [Around.under_plainId F.plain_set_update_loop _]
    show wpAny _ A.in1 (pyNext (.ref I) >>= _) _ _ s
    refine wpAny_bind (W.done s _ _ hst fun s' hm => ?_)
    obtain ⟨vs, ns, m, a1, r⟩ := hS
    exact wpAny_pure (hR s' (hm.mono hsub) ⟨vs, ns, m, a1.at fun o e => hm.heap S _ hSw e, r⟩)
  | succ k ih =>
    intro i s hk hi hst hS hR
    have hlt : i < n := by omega
    refine codeAny_builtin F.entry_set_update_loop ?_
    rw [Around.under_plainId F.plain_set_update_loop _]
    show wpAny _ A.in1 (pyNext (.ref I) >>= _) _ _ s
    refine wpAny_bind (W.item i s _ _ hlt hst fun v s' hP hst' hm => ?_)
    obtain ⟨tk, rfl⟩ := hval i v hP
    obtain ⟨vs, ns, m, a1, a2, a3, a4, a5⟩ := hS
    have a1 := a1.at (h' := s'.heap) fun o e => hm.heap S _ hSw e
    show wpAny _ A.in1 (holding [Value.int (val i) tk] (setAdd S (.int (val i) tk)) >>= _) _ _ s'
    refine wpAny_bind (wpAny_holding ?_)
    unfold setAdd
    refine wpAny_holding (wpAny_bind (wpAny_pyHash_int ?_))
    refine addI (s := { s' with toks := s'.toks + 1 }) a1 (by omega) fun h' vs' n' sb b1 b2 r => ?_
    have nx : StI prog w S val (i + 1) h' := by
      rcases b2 with ⟨rfl, rfl, b3⟩ | ⟨rfl, rfl, b3⟩
      · refine ⟨_, ns, _, b1, a2, a3, fun x => ?_, by omega⟩
        rw [a4]
        constructor
        · rintro ⟨j, h1, h2⟩
          exact ⟨j, by omega, h2⟩
        · rintro ⟨j, h1, h2⟩
          by_cases e : j = i
          · subst e
            have := (ints_mem a2 (val j)).mpr b3
            rw [a4] at this
            rw [← h2]
            exact this
          · exact ⟨j, by omega, h2⟩
      · refine ⟨_, val i :: ns, _, b1, .cons _ _ a2, List.nodup_cons.mpr ⟨fun z => ?_, a3⟩, fun x => ?_, by omega⟩
        · obtain ⟨t, z⟩ := (ints_mem a2 _).mp z
          exact b3 t z
        · rw [List.mem_cons, a4]
          constructor
          · rintro (rfl | ⟨j, h1, h2⟩)
            · exact ⟨i, Nat.lt_succ_self _, rfl⟩
            · exact ⟨j, by omega, h2⟩
          · rintro ⟨j, h1, h2⟩
            by_cases e : j = i
            · exact .inl (by rw [← h2, e])
            · exact .inr ⟨j, by omega, h2⟩
    have same : ∀ c, c ≠ S → h'.get? c = s'.heap.get? c := fun c hc => sb.2 c hc
    refine wpAny_pure ⟨plainId_quiet F.plain_set_update_loop _, ih (i + 1) _ (by omega) hlt (W.frame _ s' _ _ hst' (Nat.le_succ _) fun c hc o e => ?_) nx fun s'' hm'' hS'' => ?_⟩
    · rw [same c fun z' => hSf (z' ▸ hc)]; exact e
    · refine hR s'' (Moved.trans W.gtrans ((hm.mono hsub).then_heap (Nat.le_succ _) fun c o hc e => ?_) hm'') hS''
      rw [same c fun z' => hc (z' ▸ List.mem_cons_self)]; exact e
end
section
variable {prog : Program} {w : World} {A : Around} {E : Value → Shared → Prop} {s : Shared}
theorem lp_int {l : Addr} {its : Array Value} {ns : List Int} (hi : IntsAre its.toList ns) (hb : its.size ≤ 4000) :
    LP prog w A s l its (fun h => HasI w h s.heap.objs.size (· ∈ ns)) := by
  intro B I s1 R St un Sf le olds gS W st fin
  have hlen : ns.length = its.size := by rw [← IntsAre.length hi, Array.length_toList]
  refine set_loopI W s.heap.objs.size Sf (fun j => ns.getD j 0) (fun i v hv => ?_) hb (its.size - 0) 0 _ (by omega) (Nat.zero_le _)
    st ⟨[], [], 0, ⟨nS (!bt w), #[], 0, _, gS, ⟨rfl, rfl, rfl⟩, rfl, ⟨rfl, rfl, rfl, ⟨2, rfl⟩, by show 0 * 5 < 7 * 3; decide⟩, new_gd, (fun e he => nomatch he)⟩, .nil, .nil, (fun x => ⟨(fun z => (List.not_mem_nil z).elim), fun ⟨_, z, _⟩ => absurd z (Nat.not_lt_zero _)⟩), Nat.zero_le _⟩ fun s' mv hV => fin s' mv ?_
  · obtain ⟨m, t, e1, e2⟩ := IntsAre.at hi i v (by rw [Array.getElem?_toList]; exact hv)
    exact ⟨t, by rw [e1, List.getD_eq_getElem?_getD, e2]; rfl⟩
  · obtain ⟨vs, ms, m, ⟨o, es, ep, t, ho, hex, hd, T, Gg, _⟩, a2, a3, a4, a5⟩ := hV
    refine ⟨vs, ms, ⟨es, ep, t, ⟨o, ho, hex, hd⟩, T.fits, Gg⟩, a2, a3, fun x => ?_, ?_⟩
    · rw [a4]
      constructor
      · rintro ⟨j, h1, h2⟩
        rw [← h2]
        show ns.getD j 0 ∈ ns
        rw [List.getD_eq_getElem?_getD, List.getElem?_eq_getElem (by omega)]
        exact List.getElem_mem _
      · intro hx
        obtain ⟨j, h1, h2⟩ := List.getElem_of_mem hx
        exact ⟨j, by omega, by show ns.getD j 0 = x; rw [List.getD_eq_getElem?_getD, List.getElem?_eq_getElem h1, h2]; rfl⟩
    · rw [← Gg.perm.length_eq, List.length_map, Array.length_toList, T.size]; omega
end
end STB
set_option Elab.async false
set_option linter.all false
set_option maxRecDepth 100000
set_option maxHeartbeats 4000000
namespace SRV
open PySem PySem.W PySem.Calls
open PyProof.Rows hiding K SortedTo K_bubble K_mirror K_congr K_mirror_equal
section
variable {prog : Program} {w : World} {A : Around} {E : Value → Shared → Prop} {s : Shared}
end
end SRV
set_option Elab.async false
set_option linter.all false
set_option maxRecDepth 100000
set_option maxHeartbeats 4000000
namespace SRV
open PySem PySem.W PySem.Calls
open PyProof.Rows hiding K SortedTo K_bubble K_mirror K_congr K_mirror_equal
section
variable {prog : Program} {w : World} {A : Around} {E : Value → Shared → Prop} {s : Shared}
end
end SRV
namespace L2
open PySem PySem.Spec PyProof.Rows
section
variable {X : Cx}
variable {e : Expr} {es : List Expr} {t : TA} {p pos : Pos}
end
end L2
set_option Elab.async false
set_option linter.all false
set_option maxRecDepth 100000
set_option maxHeartbeats 4000000
namespace STB
open PySem SetTable PyProof.Rows
theorem ints_perm {vs us : List Value} {ns : List Int} (p : vs.Perm us) (h : IntsAre us ns) : ∃ ms, IntsAre vs ms ∧ ms.Perm ns := by
  induction p generalizing ns with
  | nil => exact ⟨ns, h, .refl _⟩
  | cons x p ih =>
    cases h with
    | cons n t h =>
      obtain ⟨ms, a, b⟩ := ih h
      exact ⟨n :: ms, .cons n t a, .cons n b⟩
  | swap x y l =>
    cases h with
    | cons n t h =>
      cases h with
      | cons m t' h => exact ⟨m :: n :: _, .cons m t' (.cons n t h), .swap _ _ _⟩
  | trans p q ih1 ih2 =>
    obtain ⟨ms, a, b⟩ := ih2 h
    obtain ⟨ls, c, d⟩ := ih1 a
    exact ⟨ls, c, d.trans b⟩
section
variable {prog : Program} {w : World} {A : Around} {E : Value → Shared → Prop} {s : Shared}
theorem hint_set {a : Addr} {Q : Bool → Shared → Prop} (hm : s.TypeIs (.ref a) "set") (h : Q false s) : wpAny (model prog w) A (Builtin.List.listLengthHint (.ref a)) Q E s := by
  unfold Builtin.List.listLengthHint
  refine wpAny_bind (wpAny_specialOf hm F.slot_set_len.lookup ?_)
  generalize hid : ("set.__len__" : String) = id0
  wp_delta
  rw [show splitId id0 = some ("set", "__len__") from by subst hid; decide +kernel]
  subst hid
  refine wpAny_bind (wpAny_isInstance hm sub_set_self ?_)
  refine wpAny_ite_split (fun hab => absurd hab (by decide)) (fun _ => ?_)
  refine wpAny_ite_split (fun _ => ?_) (fun hab => absurd (by decide +kernel) hab)
  refine wpAny_bind (wpAny_typeOf hm ?_)
  exact wpAny_pure h
noncomputable def EntAt (w : World) (a : Addr) (ep : Nat) (es : Array (Int × Value)) (i : Nat) (v : Value) : Prop := ∃ e, (ord w a ep es)[i]? = some e ∧ e.2 = v
theorem ents_perm {w : World} {a : Addr} {ep : Nat} {es : Array (Int × Value)} {t : SetTable} {vs : List Value} (G : Gd w es t vs) {acc : Array Value} (h : ItemsOf (EntAt w a ep es) acc es.size) : acc.toList.Perm vs := by
  have e : acc.toList = (ord w a ep es).toList.map (·.2) := by
    refine List.ext_getElem? fun i => ?_
    rw [Array.getElem?_toList, List.getElem?_map, Array.getElem?_toList]
    by_cases lt : i < acc.size
    · obtain ⟨e, e1, e2⟩ := h.2 i acc[i] (Array.getElem?_eq_getElem lt)
      rw [Array.getElem?_eq_getElem lt, e1, ← e2]; rfl
    · rw [Array.getElem?_eq_none (by omega), Array.getElem?_eq_none (by rw [ord_size, ← h.1]; omega)]; rfl
  rw [e]
  exact ((ord_perm w a ep es).map _).trans G.perm
theorem extend_set {R : Result → Shared → Prop} {d : Addr} {es : Array (Int × Value)} {ep : Nat} {t : SetTable} {vs : List Value} (hh : A.handled = none) (hm : SetAt s.heap d es ep t) (hf : t.fits es.size = true) (G : Gd w es t vs) (hlen : es.size ≤ sizeLine) (S : Addr) (res : Value) (c₀ : Nat) (hS : s.heap.get? S = some { cls := .type "list", data := .seq #[] c₀ })
    (hR : ∀ h' tk acc' c', (∀ b o, b ≠ S → s.heap.get? b = some o → h'.get? b = some o) → h'.get? S = some { cls := .type "list", dict := none, data := .seq acc' c', slots := #[] } →
      acc'.toList.Perm vs → R (.ok (.ret res)) { s with heap := h', toks := tk }) :
    wpAny (model prog w) A.in1 (Builtin.List.listExtendWith (.ref S) (.ref d) res)
      (fun fin s' => match fin with | .done f => R (.ok f) s' | .again c' => c'.quiet = true ∧ codeAny (model prog w) A c' R s') (fun e s' => R (.error e) s') s := by
  obtain ⟨od, hod, hxd, hdd⟩ := id hm
  have hSd : S ≠ d := fun e => by
    rw [e, hod] at hS
    have := Option.some.inj hS
    rw [this] at hdd
    cases hdd
  have hSlt : S < s.heap.objs.size := Heap.lt_size hS
  have hdlt : d < s.heap.objs.size := Heap.lt_size hod
  have hSI : S ≠ s.heap.objs.size := Nat.ne_of_lt hSlt
  have hdI : d ≠ s.heap.objs.size := Nat.ne_of_lt hdlt
  have hSf : S ∉ [s.heap.objs.size, d] := fun hmm => by
    rcases List.mem_cons.mp hmm with e | hmm
    · exact hSI e
    · exact hSd (List.mem_singleton.mp hmm)
  have W := (walk_set (prog := prog) (w := w) (A := A.in1) (ep := ep) hh s.heap.objs.size d hdI hf G).toS
  have key : ∀ (h : Heap) (c₁ tk : Nat), IsSI h s.heap.objs.size d 0 0 es.size ep → SetAt h d es ep t → (∀ b o, b ≠ S → s.heap.get? b = some o → h.get? b = some o) →
      h.get? S = some { cls := .type "list", data := .seq #[] c₁ } → codeAny (model prog w) A (.builtin "list.extend.loop" ⟨[.ref S, .ref s.heap.objs.size, res], []⟩) R { s with heap := h, toks := tk } := by
    intro h c₁ tk hit hda hk hS₁
    have st0 : sla w t 0 = 0 := by unfold sla plc; split <;> rfl
    refine codeAny_extend_loopS W hlen S hSf res es.size 0 _ #[] c₁ rfl (Nat.zero_le _) ⟨by rw [st0]; exact hit, hda⟩ hS₁ (ItemsOf.nil _) fun s' acc' c' hmv hS' hacc => ?_
    rw [Moved.eq_with hmv]
    refine hR s'.heap s'.toks acc' c' (fun b o hb e => hmv.heap b o (fun hmem => ?_) (hk b o hb e)) hS' (ents_perm G hacc)
    rcases List.mem_cons.mp hmem with e' | hmem
    · exact hb e'
    · exact absurd (Heap.lt_size e) (by rw [List.mem_singleton.mp hmem]; exact Nat.lt_irrefl _)
  unfold Builtin.List.listExtendWith
  refine wpAny_bind (wpAny_typeOf (T := "set") hm.typeIs ?_)
  have h1 : Builtin.List.listSameRef (.ref S) (.ref d) = false := by simp [Builtin.List.listSameRef, hSd]
  have h2 : (Value.type "set" == Value.type "list") = false := by decide
  have h3 : (Value.type "set" == Value.type "tuple") = false := by decide
  simp only [h1, h2, h3, Bool.or_false, Bool.false_eq_true, if_false]
  refine wpAny_bind (iter_set hm hf G ?_)
  generalize hO : ({ cls := .type "set_iterator", data := .fields #[.int 0 0, .int 0 0, .ref d, .int es.size 0, .int ep 0] } : Obj) = O
  have keep : ∀ b o, s.heap.get? b = some o → (s.heap.push O).get? b = some o := fun b o e => Heap.get?_push_of_some _ e
  have hm₁ := hm.at fun o e => keep _ _ e
  refine wpAny_bind (wpAny_holding (hint_set (SetAt.typeIs (s := { s with heap := s.heap.push O }) hm₁) ?_))
  have hit₁ : IsSI (s.heap.push O) s.heap.objs.size d 0 0 es.size ep := ⟨_, Heap.get?_push_size _ (by rw [← hO]; rfl), by rw [← hO], by rw [← hO]; rfl⟩
  have hS₁ := keep _ _ hS
  refine wpAny_ite_split (fun _ => ?_) (fun _ => wpAny_pure ⟨plainId_quiet F.plain_extend_loop _, key _ c₀ _ hit₁ hm₁ (fun b o _ e => keep _ _ e) hS₁⟩)
  refine wpAny_bind (wpAny_rule ?_)
  refine wpAny_bind ?_
  show wpAny _ _ (updateSeq S (·.push .none) >>= fun _ => updateSeq S (·.pop)) _ _ _
  refine wpAny_bind (wpAny_updateSeq hS₁ rfl ?_)
  have hS₂ := Heap.get?_update_self (Obj.mapSeq (·.push Value.none)) hS₁ rfl
  refine wpAny_updateSeq (hz := by seq_fits) hS₂ rfl ?_
  have hS₃ := Heap.get?_update_self (Obj.mapSeq (·.pop)) hS₂ rfl
  refine wpAny_pure ⟨plainId_quiet F.plain_extend_loop _, key _ _ _ (hit₁.at fun o e => ?_) (hm₁.at fun o e => ?_) (fun b o hb e => ?_) hS₃⟩
  · exact (Heap.get?_update_other _ _ hSI).trans ((Heap.get?_update_other _ _ hSI).trans e)
  · exact (Heap.get?_update_other _ _ hSd).trans ((Heap.get?_update_other _ _ hSd).trans e)
  · exact (Heap.get?_update_other _ _ (Ne.symm hb)).trans ((Heap.get?_update_other _ _ (Ne.symm hb)).trans (keep b o e))
theorem collect_set {d : Addr} {vs : List Value} {Q : List Value → Shared → Prop} (hh : A.handled = none) (hm : HasV w s.heap d vs) (hlen : vs.length ≤ sizeLine)
    (h : ∀ h' tk acc, (∀ b o, s.heap.get? b = some o → h'.get? b = some o) → s.heap.objs.size < h'.objs.size → acc.Perm vs → Q acc { s with heap := h', toks := tk }) : wpAny (model prog w) A (collect (.ref d)) Q E s := by
  obtain ⟨es, ep, t, S, hf, G⟩ := hm
  have sz : es.size = vs.length := by rw [← G.perm.length_eq, List.length_map, Array.length_toList]
  unfold collect
  refine wpAny_bind (wpAny_runValue (codeAny_builtin F.entry_proto_collect ?_))
  rw [Around.under_plainId F.plain_proto_collect _]
  show wpAny _ A.in1 (newList [] >>= fun l => again (.builtin "list.__iadd__" ⟨[l, .ref d], []⟩)) _ _ s
  refine wpAny_bind (wpAny_newObj_type ?_)
  refine wpAny_pure ⟨plainId_quiet F.plain_list_iadd _, codeAny_builtin F.entry_list_iadd ?_⟩
  rw [Around.under_plainId F.plain_list_iadd _]
  have hN : (s.heap.push { cls := .type "list", data := .seq ([] : List Value).toArray }).get? s.heap.objs.size = some { cls := .type "list", data := .seq ([] : List Value).toArray } := Heap.get?_push_size _ rfl
  show wpAny _ A.in1 (Builtin.List.listExtendWith (.ref s.heap.objs.size) (.ref d) (.ref s.heap.objs.size)) _ _ _
  refine extend_set (R := fun r s' => match r with
    | .ok (.ret v) => wpAny (model prog w) A (match v with
      | .ref a => do
        let z ← load a
        match z.data with
        | .seq xs _ => pure xs.toList
        | _ => unsupported "internal:collect"
      | _ => unsupported "internal:collect") Q E s'
    | .ok _ => False
    | .error e => E e s') hh (S.at fun o e => Heap.get?_push_of_some _ e) hf G (by omega) s.heap.objs.size (.ref s.heap.objs.size) 0 hN fun h' tk acc' c' hk hS' hacc => ?_
  refine wpAny_bind (wpAny_load hS' ?_)
  exact wpAny_pure (h h' tk acc'.toList (fun b o e => hk b o (Nat.ne_of_lt (Heap.lt_size e)) (Heap.get?_push_of_some _ e)) (Heap.lt_size hS') hacc)
open SRT L2 in
theorem sorted_setI {d : Addr} {vs : List Value} {ns : List Int} {b : Bool} {Q : Value → Shared → Prop} (hh : A.handled = none) (hm : HasV w s.heap d vs) (hI : IntsAre vs ns) (hlen : vs.length ≤ sizeLine)
    (h : ∀ h' tk l (r : Array Value) (ns' : List Int) e, (∀ b o, s.heap.get? b = some o → h'.get? b = some o) → s.heap.objs.size ≤ l → h'.get? l = some (seqObj "list" r e) → IntsAre r.toList ns' → ns'.Perm ns → Ordered b ns' → Q (.ref l) { s with heap := h', toks := tk }) :
    wpAny (model prog w) A (call (.builtin "sorted") [.ref d] (kwOf b)) Q E s := by
  have ha : argsOk "sorted" ⟨[.ref d], kwOf b⟩ := by cases b; exact args_sorted1 _; exact args_sorted_rev _ _
  refine call_function_entry_kw kind_sorted plain_sorted entry_sorted ha ?_
  unfold Builtin.«sorted»
  refine wpAny_bind (m := checkCount "sorted" 1 1 _) (wpAny_pure (wpAny_bind (collect_set (A := A.in1) hh hm hlen fun h' tk acc keep hsz hacc => wpAny_bind (wpAny_newList ?_ ?hs))))
  case hs => rw [hacc.length_eq]; exact hlen
  obtain ⟨ns2, hI2, p2⟩ : ∃ ns2, IntsAre acc ns2 ∧ ns2.Perm ns := ints_perm hacc hI
  have hz : acc.length ≤ sizeLine := by rw [hacc.length_eq]; exact hlen
  have hL : (h'.push (seqObj "list" acc.toArray 0)).get? h'.objs.size = some (seqObj "list" acc.toArray 0) := Heap.get?_push_size _ rfl
  have hs : argsOk "list.sort" ⟨[.ref h'.objs.size], kwOf b⟩ := by cases b; exact args_list_sort _; exact args_list_sort_rev _ _
  show wpAny _ _ _ _ _ { s with heap := h'.push (seqObj "list" acc.toArray 0), toks := tk }
  refine wpAny_bind (wpAny_holding (wpAny_call_entry_kw slot_list_sort ⟨_, hL, rfl⟩ entry_list_sort (w_sort hL hI2 hz fun r ns' g1 g2 g3 => ⟨_, rfl, wpAny_pure ⟨_, rfl, ?_⟩⟩) hs))
  obtain ⟨e, he⟩ := sortedHeap_at (out := r) hL
  refine h _ tk _ r ns' e (fun b o eb => ?_) (Nat.le_of_lt hsz) he g1 (g2.trans p2) g3
  have e1 := keep b o eb
  have e2 := Heap.get?_push_of_some (seqObj "list" acc.toArray 0) e1
  have hb : b ≠ h'.objs.size := Nat.ne_of_lt (Heap.lt_size e1)
  rw [sortedHeap_old hb (Heap.lt_size e2)]
  exact e2
open SRT L2 SRV in
end
end STB
set_option Elab.async false
set_option linter.all false
set_option maxRecDepth 100000
set_option maxHeartbeats 4000000
namespace L2
open PySem PySem.Spec PyProof.Rows
section
variable {X : Cx}
noncomputable def rLenX : List V → Hp → VK → Prop := fun vs H Q => match vs with
  | [.ref p] => ∃ n, H p = some (.ext fun h => STB.HasN h p n) ∧ n < 10000 ∧ Q (.int n) H
  | _ => False
theorem call_lenX : CallR X (.builtin "len") rLenX := by
  intro pins s σ H xs us Q I r h
  unfold rLenX at h
  split at h
  · rename_i p
    obtain ⟨n, hp, hn, q⟩ := h
    obtain ⟨u, rfl, rx⟩ := vals1 r
    cases rx
    obtain ⟨⟨o, es, ep, t, ho, hex, hd, hf, hes⟩, _⟩ := I.hok p _ hp
    subst hes
    exact call_len_set ho hex hd hf (by omega) ⟨.int es.size, H, I.tok _, ⟨_, rfl⟩, q⟩
  · exact h.elim
variable {e : Expr} {es : List Expr} {t : TA} {p pos : Pos}
theorem pcb_lenX (hg : Gl X "len") (hm : X.mg "len" = none) (ha : PA X (e :: es) t) (he : starEach (e :: es) X.env = (false, eval e X.env) :: starEach es X.env) (hpl : (backTo pos (starEach es X.env)).any (·.1) = false) :
    PE X (.Call (.Name "len" p) (e :: es) [] pos) (tCB rLenX t) := pe_callB call_lenX hg hm PySem.boot_len ha (by decide) (by decide) he hpl
theorem zcb_lenX (hg : Gl X "len") (hm : X.mg "len" = none) (ha : ZA X (e :: es) t) (he : starEach (e :: es) X.env = (false, eval e X.env) :: starEach es X.env) (hpl : (backTo pos (starEach es X.env)).any (·.1) = false) :
    ZE X (.Call (.Name "len" p) (e :: es) [] pos) (tCB rLenX t) := by with_unfolding_all exact pcb_lenX hg hm ha he hpl
end
end L2
set_option Elab.async false
set_option linter.all false
set_option maxRecDepth 100000
set_option maxHeartbeats 4000000
namespace L2
open PySem PySem.Spec PyProof.Rows
section
variable {X : Cx}
variable {e : Expr} {es : List Expr} {t : TA} {p pos : Pos}
end
end L2
set_option Elab.async false
set_option linter.all false
set_option maxRecDepth 100000
set_option maxHeartbeats 4000000
namespace L2
open PySem PySem.Spec PyProof.Rows
section
variable {X : Cx}
noncomputable def SqE (H : Hp) (l : Addr) (us : List V) : Prop := H l = some (.lst us) ∨ H l = some (.tup us)
noncomputable def rSetV (w : World) : List V → Hp → VK → Prop := fun vs H Q => match vs with
  | [.ref l] => ∃ ns : List Int, SqE H l (ns.map V.int) ∧ ns.length ≤ 4000 ∧ ∀ p, H p = none → Q (.ref p) (upd H p (.ext fun h => STB.HasI w h p (· ∈ ns)))
  | _ => False
theorem call_setV (hc : X.calm = true) : CallR X (.type "set") (rSetV X.w) := by
  intro pins s σ H xs us Q I r h
  unfold rSetV at h
  split at h
  · rename_i l
    obtain ⟨ns, hl, hn, q⟩ := h
    obtain ⟨u, rfl, rx⟩ := vals1 r
    cases rx
    have fin : ∀ (h2 : Heap) (k2 : Nat), STB.HasI X.w h2 s.heap.objs.size (· ∈ ns) → (∀ b o, b < s.heap.objs.size → s.heap.get? b = some o → h2.get? b = some o) → EP X pins σ Q (.ref s.heap.objs.size) { s with heap := h2, toks := k2 } := fun h2 k2 hS hk => by
      have I2 : Inv X pins σ (upd H s.heap.objs.size (.ext fun h => STB.HasI X.w h s.heap.objs.size (· ∈ ns))) { s with heap := h2, toks := k2 } :=
        I.laid (t' := k2) (fun b o e => hk b o (Heap.lt_size e) e) (Nat.le_refl _) (show ObjOk X.prog X.w _ _ _ (.ext fun h => STB.HasI X.w h s.heap.objs.size (· ∈ ns)) from ⟨hS, by obtain ⟨vs, ns, ⟨es, ep, t, ⟨o, e, _⟩, _⟩, _⟩ := hS; exact ⟨o, e⟩, fun h1 h3 ⟨vs, ns, hv, r⟩ k => ⟨vs, ns, hv.at k, r⟩⟩)
      exact ⟨.ref s.heap.objs.size, _, I2, rfl, q _ (I.hok.fresh (Nat.le_refl _))⟩
    rcases hl with hl | hl
    · obtain ⟨its, n, r', ho, hz⟩ := I.lst hl
      have il := intsAre_of r'
      have hlen : its.length = ns.length := by have := r'.length; rw [List.length_map] at this; exact this.symm
      exact STB.set_from_list (its := its.toArray) (I.ok.hd hc) ⟨_, ho, rfl, n, rfl⟩ (STB.lp_int (ns := ns) (by simpa using il) (by rw [List.size_toArray, hlen]; exact hn)) fin
    · obtain ⟨ts, rv, pl, _⟩ := I.tuple (SqT.of (K := X.K) hl)
      have il := intsAre_of rv
      have hlen : ts.length = ns.length := by have := rv.length; rw [List.length_map] at this; exact this.symm
      exact STB.set_from_tup (its := ts.toArray) (I.ok.hd hc) pl (STB.lp_int (ns := ns) (by simpa using il) (by rw [List.size_toArray, hlen]; exact hn)) fin
  · exact h.elim
noncomputable def rSortV (w : World) : List V → Hp → VK → Prop := fun xs H Q => match xs with
  | [.ref d] => ∃ p : Int → Prop, H d = some (.ext fun h => STB.HasI w h d p) ∧ ∀ l ns, H l = none → ns.length ≤ 6000 → ns.Nodup → (∀ x, x ∈ ns ↔ p x) → Ordered false ns → Q (.ref l) (upd H l (.lst (ns.map V.int)))
  | _ => False
theorem call_sortV (hc : X.calm = true) : CallR X (.builtin "sorted") (rSortV X.w) := by
  intro pins s σ H xs us Q I r h
  unfold rSortV at h
  split at h
  · rename_i d
    obtain ⟨p, e, q⟩ := h
    obtain ⟨u, rfl, rx⟩ := vals1 r
    cases rx
    obtain ⟨⟨vs, ns, hv, hi, nd, hp, hlen⟩, _⟩ := I.hok d _ e
    have hz : vs.length ≤ sizeLine := by rw [sizeLine_eq]; omega
    refine STB.sorted_setI (b := false) (ns := ns) (I.ok.hd hc) hv hi hz fun h' tk l rr ns' e' keep hl hr a1 a2 a3 => ?_
    refine ⟨.ref l, _, I.laid (t' := tk) (a := l) (o := .lst (ns'.map V.int)) keep hl ?_, rfl, q _ ns' (I.hok.fresh hl) (by rw [a2.length_eq, ← IntsAre.length hi]; omega) (a2.nodup_iff.mpr nd) (fun x => by rw [a2.mem_iff]; exact hp x) a3⟩
    refine ⟨?_, rr.toList, e', vals_ints a1, hr⟩
    rw [List.length_map, a2.length_eq, ← IntsAre.length hi]
    exact hz
  · exact h.elim
noncomputable def rSS : List V → Hp → VK → Prop := fun vs H Q => match vs with
  | [.ref l] => ∃ ns : List Int, SqE H l (ns.map V.int) ∧ ns.length ≤ 4000 ∧ ∀ p o q ns', H p = none → H q = none → q ≠ p → ns'.length ≤ 6000 → ns'.Nodup → (∀ x, x ∈ ns' ↔ x ∈ ns) → Ordered false ns' → Q (.ref q) (upd (upd H p o) q (.lst (ns'.map V.int)))
  | _ => False
theorem rSS_conv (w : World) : ∀ vs H Q, rSS vs H Q → rSetV w vs H (fun x H2 => rSortV w [x] H2 Q) := by
  intro vs H Q h
  unfold rSS at h
  split at h
  · rename_i l
    obtain ⟨ns, h1, h2, h3⟩ := h
    refine ⟨ns, h1, h2, fun p hp => ⟨(· ∈ ns), upd_same, fun q ns' hq n0 n1 n2 n3 => ?_⟩⟩
    have hne : q ≠ p := fun z => by rw [z, upd_same] at hq; cases hq
    exact h3 p _ q ns' hp (by rw [upd_ne hne] at hq; exact hq) hne n0 n1 n2 n3
  · exact h.elim
variable {e : Expr} {es : List Expr} {t : TA} {p p2 pos pos2 : Pos}
theorem pe_nest {r1 r2 rr : List V → Hp → VK → Prop} (hc1 : CallR X (.type "set") r1) (hc2 : CallR X (.builtin "sorted") r2) (cv : ∀ vs H Q, rr vs H Q → r1 vs H (fun x H2 => r2 [x] H2 Q))
    (hg : Gl X "set") (hm : X.mg "set" = none) (hg2 : Gl X "sorted") (hm2 : X.mg "sorted" = none) (ha : PA X (e :: es) t) (he : starEach (e :: es) X.env = (false, eval e X.env) :: starEach es X.env) (hpl : (backTo pos (starEach es X.env)).any (·.1) = false) :
    PE X (.Call (.Name "sorted" p2) [.Call (.Name "set" p) (e :: es) [] pos] [] pos2) (tCB rr t) := by
  intro pins s σ H Q I h
  have p1 : PE X (.Call (.Name "set" p) (e :: es) [] pos) (fun σ' H' Q' => (t σ' H' fun vs H1 => rr vs H1 Q) ∧ ∀ x H2, r2 [x] H2 Q → Q' x H2) := by
    intro pins s σ H Q' I h
    refine wpAny_Call_Name_kw (ld_blt I hg hm boot_set ?_ (by decide) (by decide))
    refine callWith_type1 (thn (ha pos pins s σ H _ I h.1) fun us s1 ⟨vs, H1, I1, r1, q1⟩ => ?_) he hpl
    refine thn (hc1 pins s1 σ H1 vs us _ I1 r1 (cv _ _ _ q1)) fun u s2 ⟨v, H2, I2, rv, q2⟩ => ⟨v, H2, I2, rv, h.2 v H2 q2⟩
  refine wpAny_Call_Name_kw (ld_blt I hg2 hm2 boot_sorted' ?_ (by decide) (by decide))
  refine callWith_builtin1 (thn (pa_cons p1 pa_nil rfl pos2 pins s σ H (fun xs H2 => ∃ x, xs = [x] ∧ r2 [x] H2 Q) I ⟨h, fun x H2 q => ⟨x, rfl, q⟩⟩) fun us s1 ⟨vs, H1, I1, rr1, q1⟩ => ?_) rfl rfl
  obtain ⟨x, rfl, q⟩ := q1
  exact hc2 pins s1 σ H1 _ us Q I1 rr1 q
theorem pcb_ss (hc : X.calm = true) (hg : Gl X "set") (hm : X.mg "set" = none) (hg2 : Gl X "sorted") (hm2 : X.mg "sorted" = none) (ha : PA X (e :: es) t) (he : starEach (e :: es) X.env = (false, eval e X.env) :: starEach es X.env) (hpl : (backTo pos (starEach es X.env)).any (·.1) = false) :
    PE X (.Call (.Name "sorted" p2) [.Call (.Name "set" p) (e :: es) [] pos] [] pos2) (tCB rSS t) := pe_nest (call_setV hc) (call_sortV hc) (rSS_conv X.w) hg hm hg2 hm2 ha he hpl
theorem zcb_ss (hc : X.calm = true) (hg : Gl X "set") (hm : X.mg "set" = none) (hg2 : Gl X "sorted") (hm2 : X.mg "sorted" = none) (ha : ZA X (e :: es) t) (he : starEach (e :: es) X.env = (false, eval e X.env) :: starEach es X.env) (hpl : (backTo pos (starEach es X.env)).any (·.1) = false) :
    ZE X (.Call (.Name "sorted" p2) [.Call (.Name "set" p) (e :: es) [] pos] [] pos2) (tCB rSS t) := by with_unfolding_all exact pcb_ss hc hg hm hg2 hm2 ha he hpl
end
end L2
set_option Elab.async false
set_option linter.all false
set_option maxRecDepth 100000
set_option maxHeartbeats 4000000
namespace M04
end M04
set_option linter.all false
set_option maxRecDepth 100000
set_option maxHeartbeats 4000000
namespace M54
open M04 PySem L2
end M54
set_option Elab.async false
set_option linter.all false
set_option maxRecDepth 100000
set_option maxHeartbeats 4000000
namespace K60
open PySem L2 M04 M54
theorem in_ints (p : Int) (ns : List Int) : inV (.int p) (ns.map V.int) = decide (p ∈ ns) := by
  unfold inV
  rw [List.any_map]
  induction ns with
  | nil => rfl
  | cons n r ih =>
    rw [List.any_cons, ih]
    show (n == p || decide (p ∈ r)) = _
    by_cases h : n = p
    · subst h; simp
    · have : (n == p) = false := by simpa using h
      rw [this, Bool.false_or]
      have h' : ¬ p = n := fun e => h e.symm
      simp [h']
theorem flat_ints (ns : List Int) : (ns.map V.int).all flatV = true := by
  rw [List.all_map]
  exact List.all_eq_true.mpr fun _ _ => rfl
section
variable {P : Program} {w : World} {K : PySem.W.Frag} {mg : Str → Option Value} {base : Heap} {f : Addr} {fd : FuncData}
theorem sc_fall : FnScope ["_law_parts"] ["_law_parts"] (defScope (top 14)) := ⟨rfl, rfl, rfl, by decide +kernel, rfl, by decide +kernel, by decide +kernel⟩
noncomputable def sp_fall : Sp := fun vs H Q _ => ∃ (a : Addr) (ns : List Int), vs = [.ref a] ∧ (H a = some (.lst (ns.map V.int)) ∨ H a = some (.tup (ns.map V.int))) ∧ ∀ r (ms : List Int) H', Same H H' → ms.Perm ns → ms.Pairwise (· ≥ ·) → H' r = some (.tup (ms.map V.int)) → Q (.ref r) H'
theorem ok_fall (F : Fun K "_law_falling" "_law_falling" (top 14) f fd) (m_sorted : mg "sorted" = none) (m_tuple : mg "tuple" = none) : FnOk P w K mg base CX0 1 f fd ["_law_parts"] sp_fall := by
  refine F.okz sc_fall (fun vs H Q E h => ?_) (fun cdv A outer s H vs Q E hr h => ?_)
  · obtain ⟨a, ns, rfl, _⟩ := h; rfl
  obtain ⟨a, ns, rfl, ha, q⟩ := h
  have nd := sc_fall.nd
  refine ⟨_, (zss_one (zs_ret (zcb_tuple rfl m_tuple (za_cons (ze_rev rv_P (zcb_sortB rfl m_sorted (za_cons (zn 0) za_nil) rfl rfl)) za_nil) rfl rfl))), ?_⟩
  refine ⟨ns, ha.elim (fun h => .inl (SqL.of h)) (fun h => .inr (SqT.of h)), fun l ms hl perm ord => ?_⟩
  have yl := Same.new hl (.lst (ms.map V.int))
  have gl : upd H l (.lst (ms.map V.int)) l = some (.lst (ms.map V.int)) := upd_same
  generalize upd H l (.lst (ms.map V.int)) = H1 at yl gl
  refine ⟨l, rfl, .inr ⟨_, SqL.of gl, fun d hd => ?_⟩⟩
  have yd := Same.new hd (.lst (ms.map V.int).reverse)
  refine ⟨_, .inl (SqL.of upd_same), fun r H' y' hr' => ?_⟩
  refine q r ms.reverse H' (yl.trans (yd.trans y')) ((List.reverse_perm ms).trans perm) (List.pairwise_reverse.mpr (ord.imp fun h => h)) ?_
  rw [hr', List.map_reverse]
noncomputable def Nice : Nat → PyData → Prop
  | 0, d => (∃ i, d = .int i) ∨ d = .none
  | n + 1, d => ((∃ i, d = .int i) ∨ d = .none) ∨ ∃ ds, d = .tuple ds ∧ ds.length ≤ 1000 ∧ ∀ e ∈ ds, Nice n e
theorem Nice.ints {ns : List Int} (h : ns.length ≤ 1000) : Nice 1 (.tuple (ns.map PyData.int)) := .inr ⟨_, rfl, by rw [List.length_map]; exact h, fun e he => by
  obtain ⟨i, _, rfl⟩ := List.mem_map.mp he
  exact .inl ⟨i, rfl⟩⟩
noncomputable def sp_sm : Nat → Sp
  | 0 => fun _ _ _ _ => False
  | n + 1 => fun vs H Q _ => ∃ x y d, vs = [x, y] ∧ DatV H x d ∧ DatV H y d ∧ Nice n d ∧ ∀ H', Same H H' → Q (.bl true) H'
theorem sc_same : FnScope ["_law_found", "_law_due_here"] ["_law_found", "_law_due_here"] (defScope (top 18)) := ⟨rfl, rfl, rfl, by decide +kernel, rfl, by decide +kernel, by decide +kernel⟩
theorem ok_sm (F : Fun K "_law_same" "_law_same" (top 18) f fd) (m_all : mg "all" = none) (m_bool : mg "bool" = none) (m_int : mg "int" = none) (m_isinstance : mg "isinstance" = none) (m_len : mg "len" = none) (m_tuple : mg "tuple" = none) (m_zip : mg "zip" = none) (b : Binds K fd ["_law_found", "_law_due_here"] []) (kp : PySem.W.keepIn K (.ref f) = true) (m : mg "_law_same" = some (.ref f)) : ∀ n, FnOk P w K mg base CX0 n f fd ["_law_found", "_law_due_here"] (sp_sm n)
  | 0 => ⟨fun _ _ _ _ h => h.elim, fun _ _ _ _ _ _ _ _ _ _ _ _ _ h => h.elim⟩
  | n + 1 => by
    have F_law_same : FnA P w K mg base "_law_same" n ["_law_found", "_law_due_here"] (sp_sm n) := ⟨⟨f, fd, ok_sm F m_all m_bool m_int m_isinstance m_len m_tuple m_zip b kp m n, b, kp, m⟩⟩
    refine F.okz sc_same (fun vs H Q E h => ?_) (fun cdv A outer s H vs Q E hr h => ?_)
    · obtain ⟨x, y, d, rfl, _⟩ := h; rfl
    obtain ⟨x, y, d, rfl, hx, hy, hn, q⟩ := h
    have nd := sc_same.nd
    have hu := hr.units
    refine ⟨_, (zss_cons (zs_if (zt_valP (zcb_isinstance rfl m_isinstance (za_cons (zn 1) (za_cons (zty_tuple rfl m_tuple) za_nil)) rfl rfl)) (zss_cons (zs_if (ZW.zt (zw_or (zt_not (zt_valP (zcb_isinstance rfl m_isinstance (za_cons (zn 0) (za_cons (zty_tuple rfl m_tuple) za_nil)) rfl rfl))) (zw_or1 (zt_cmpP (op_neD hu) (zcb_len rfl m_len (za_cons (zn 0) za_nil) rfl rfl) (zcb_len rfl m_len (za_cons (zn 1) za_nil) rfl rfl) (nomark _))))) (zss_one (zs_ret ze_bl)) zss_nil)
      (zss_one (zs_ret (zcb_all rfl rfl m_all (za_cons (ze_comp ["_law_one", "_law_other"] [] rfl ⟨rfl, by decide +kernel, by decide +kernel, rfl, rfl⟩ (zi_zip rfl m_zip (za_cons (zn 0) (za_cons (zn 1) za_nil))) kpg_two (fun _ _ _ _ => zg_tup rfl (zgs_cons (zg_name (i := 0) (show List.Nodup (["_law_one", "_law_other"] : List Str) by decide +kernel) rfl (Or.inl rfl)) (zgs_cons (zg_name (i := 1) (show List.Nodup (["_law_one", "_law_other"] : List Str) by decide +kernel) rfl (Or.inl rfl)) zgs_nil))) (fun _ _ _ _ => zif_nil) (fun _ _ _ _ => (ze_fn F_law_same hr (Nat.le_refl _) rfl (za_cons (zn 0) (za_cons (zn 1) za_nil))))) za_nil) rfl rfl)))) zss_nil)
      (zss_cons (zs_if (zt_cmpP op_isP (zn 1) ze_non (nomark _)) (zss_one (zs_ret (ze_cmpR op_isP (zn 0) ze_non (nomark _)))) zss_nil)
      (zss_one (zs_ret (ze_andP (zcb_isinstance rfl m_isinstance (za_cons (zn 0) (za_cons (zty_int rfl m_int) za_nil)) rfl rfl) (ze_andP (ze_notP (zcb_isinstance rfl m_isinstance (za_cons (zn 0) (za_cons (zty_bool rfl m_bool) za_nil)) rfl rfl)) (ze_one (ze_cmpR (op_eqD hu) (zn 0) (zn 1) (nomark _))))))))), ?_⟩
    by_cases hi : ∃ i, d = .int i
    · obtain ⟨i, rfl⟩ := hi
      cases hx
      cases hy
      refine ⟨"int", rfl, rfl, ?_⟩
      refine iteB (fun c => absurd c (by decide)) (fun _ => ?_)
      refine ⟨"int", rfl, rfl, ?_⟩
      refine ⟨"int", rfl, rfl, ?_⟩
      show Q (.bl (decide (V.int i = V.int i))) _
      rw [decide_eq_true rfl]
      exact q _ (Same.refl _)
    by_cases hno : d = .none
    · subst hno
      cases hx
      cases hy
      refine ⟨"NoneType", rfl, rfl, ?_⟩
      refine iteB (fun c => absurd c (by decide)) (fun _ => ?_)
      exact q _ (Same.refl _)
    · have hs : ∃ n' ds, n = n' + 1 ∧ d = .tuple ds ∧ ds.length ≤ 1000 ∧ ∀ e ∈ ds, Nice n' e := by
        cases n with
        | zero => exact absurd hn (fun z => z.elim hi hno)
        | succ n' =>
          rcases hn with h | ⟨ds, h⟩
          · exact absurd h (fun z => z.elim hi hno)
          · exact ⟨n', ds, rfl, h⟩
      obtain ⟨n', ds, rfl, rfl, hl, hds⟩ := hs
      obtain ⟨ax, xs, rfl, kx, rx⟩ := seq_of (c := true) hx
      obtain ⟨ay, ys, rfl, ky, ry⟩ := seq_of (c := true) hy
      have lx := rx.len
      have ly := ry.len
      refine ⟨"tuple", ky.ty, rfl, ?_⟩
      refine iteB (fun _ => ?_) (fun c => absurd c (by decide))
      refine ⟨"tuple", kx.ty, rfl, ?_⟩
      refine iteB (fun c => absurd c (by decide)) (fun _ => ?_)
      refine ⟨xs, kx.len, ys, ky.len, ?_⟩
      rw [lx, ly]
      refine iteB (fun c => absurd c (by simp)) (fun _ => ?_)
      refine ⟨true, true, xs, ys, kx, ky, ?_⟩
      refine cmp_zip (xs := xs) (ys := ys) (fun j zs H' => Same H H' ∧ zs = (List.replicate j true).map V.bl) ⟨Same.refl _, rfl⟩ ?_ ?_ ?_ ?_
      · rintro j zs H' _ ⟨y', _⟩
        exact ⟨kx.same y', ky.same y'⟩
      · rintro j zs H' hj ⟨_, rfl⟩
        rw [List.length_map, List.length_replicate]
        exact small1000 (by omega)
      · rintro j u v zs H' p hu' hv' ⟨y', rfl⟩ hp
        have yp := Same.new hp (.tup [u, v])
        refine ⟨p, _, rfl, SqT.of upd_same, rfl, _, _, rfl, _, _, rfl, rfl, ?_⟩
        obtain ⟨d1', e1, g1⟩ := rx.get hu'
        obtain ⟨d2', e2, g2⟩ := ry.get hv'
        rw [e1] at e2
        cases e2
        refine ⟨u, v, d1', rfl, (g1.same y').same yp, (g2.same y').same yp, hds _ (List.mem_of_getElem? e1), fun H3 y3 => ?_⟩
        exact ⟨(y'.trans yp).trans y3, rep_snoc j⟩
      · rintro zs H' ⟨y', rfl⟩ D hD
        refine ⟨_, SqL.of upd_same, ?_⟩
        rw [rep_all]
        exact q _ (y'.trans (Same.new hD _))
theorem ok_same (n : Nat) (F : Fun K "_law_same" "_law_same" (top 18) f fd) (m_all : mg "all" = none) (m_bool : mg "bool" = none) (m_int : mg "int" = none) (m_isinstance : mg "isinstance" = none) (m_len : mg "len" = none) (m_tuple : mg "tuple" = none) (m_zip : mg "zip" = none) (b : Binds K fd ["_law_found", "_law_due_here"] []) (kp : PySem.W.keepIn K (.ref f) = true) (m : mg "_law_same" = some (.ref f)) : FnOk P w K mg base CX0 n f fd ["_law_found", "_law_due_here"] (sp_sm n) := ok_sm F m_all m_bool m_int m_isinstance m_len m_tuple m_zip b kp m n
end
end K60
set_option Elab.async false
set_option linter.all false
set_option maxRecDepth 100000
set_option maxHeartbeats 4000000
namespace K60
open PySem L2 M04 M54
theorem pick4 {k a : Int} (h0 : 0 ≤ k) (h1 : k < 4) (ha : 1 ≤ a ∧ a ≤ 400) : ∃ m : Int, atI [V.int a, .int 3, .int 7, .int 400] k = some (.int m) ∧ 1 ≤ m ∧ m ≤ 400 := by
  have : k = 0 ∨ k = 1 ∨ k = 2 ∨ k = 3 := by omega
  rcases this with rfl | rfl | rfl | rfl
  · exact ⟨a, rfl, ha⟩
  · exact ⟨3, rfl, by decide⟩
  · exact ⟨7, rfl, by decide⟩
  · exact ⟨400, rfl, by decide⟩
theorem perm_sum {a b : List Int} (p : a.Perm b) : a.sum = b.sum := by
  induction p with
  | nil => rfl
  | cons x _ ih => rw [List.sum_cons, List.sum_cons, ih]
  | swap x y l => rw [List.sum_cons, List.sum_cons, List.sum_cons, List.sum_cons]; omega
  | trans _ _ i1 i2 => rw [i1, i2]
section
variable {P : Program} {w : World} {K : PySem.W.Frag} {mg : Str → Option Value} {base : Heap} {f : Addr} {fd : FuncData}
theorem sc_dr : FnScope ["_law_hand_here", "_law_heavy", "_law_way", "_law_left", "_law_parts", "_law_cap", "_law_part"] ["_law_hand_here", "_law_heavy"] (defScope (top 15)) := ⟨rfl, rfl, rfl, by decide +kernel, rfl, by decide +kernel, by decide +kernel⟩
noncomputable def sp_dr : Sp := fun vs H Q _ => ∃ (p : Addr) (hv n : Nat), vs = [.ref p, .int hv] ∧ Hand H p n ∧ n < 10000000 ∧ hv ≤ 400 ∧ ∀ r (ms : List Int) H', Step p (n + 500) H H' → H' r = some (.tup (ms.map V.int)) → ms.length ≤ hv → (∀ x ∈ ms, (1 : Int) ≤ x) → ms.sum = hv → ms.Pairwise (· ≥ ·) → Q (.ref r) H'
theorem ok_dr (F : Fun K "_law_drawn" "_law_drawn" (top 15) f fd) (m_min : mg "min" = none) (F_law_falling : FnA P w K mg base "_law_falling" 1 ["_law_parts"] sp_fall) (F_law_take : FnA P w K mg base "_law_take" 1 ["_law_hand_here", "_law_many"] sp_take) : FnOk P w K mg base CX0 2 f fd ["_law_hand_here", "_law_heavy"] sp_dr := by
  refine F.okz sc_dr (fun vs H Q E h => ?_) (fun cdv A outer s H vs Q E hr h => ?_)
  · obtain ⟨p, hv, n, rfl, _⟩ := h; rfl
  obtain ⟨p, hv, n, rfl, hh, hn, hv4, q⟩ := h
  have nd := sc_dr.nd
  have hu := hr.units
  refine ⟨_, (zss_cons (zs_par3 (i := 2) (j := 3) (k := 4) rfl nd rfl rfl rfl (by decide) (by decide) (by decide) rfl rfl rfl (za_cons (ze_fn F_law_take hr (by decide) rfl (za_cons (zn 0) (za_cons ze_int za_nil))) (za_cons (zn 1) (za_cons (ze_lst za_nil) za_nil))) rfl)
      (zss_cons (zs_set (i := 5) nd rfl (Or.inl rfl) (ze_ix ix_P (ze_lst (za_cons (ze_op op_addP ze_int (ze_fn F_law_take hr (by decide) rfl (za_cons (zn 0) (za_cons ze_int za_nil)))) (za_cons ze_int (za_cons ze_int (za_cons ze_int za_nil))))) (zn 2) (fun _ _ => rfl)))
      (zss_cons (zs_while PassesOwn.never (zt_cmpP op_gtP (zn 3) ze_int (nomark _)) (zss_cons (zs_set (i := 6) nd rfl (Or.inl rfl) (ze_op op_addP ze_int (ze_fn F_law_take hr (by decide) rfl (za_cons (zn 0) (za_cons (zcb_min rfl rfl m_min (za_cons (zn 3) (za_cons (zn 5) za_nil)) rfl rfl) za_nil)))))
      (zss_cons (zs_if (zt_cmpP (op_eqD hu) (zn 2) ze_int (nomark _)) (zss_one (zs_set (i := 6) nd rfl (Or.inl rfl) (zcb_min rfl rfl m_min (za_cons (zn 3) (za_cons (zn 5) za_nil)) rfl rfl))) zss_nil)
      (zss_cons (zs_expr (zm_append (zn 4) (za_cons (zn 6) za_nil)))
      (zss_one (zs_set (i := 3) nd rfl (Or.inl rfl) (ze_op op_subP (zn 3) (zn 6))))))))
      (zss_one (zs_ret (ze_fn F_law_falling hr (by decide) rfl (za_cons (zn 4) za_nil))))))), ?_⟩
  refine ⟨p, 4, n, rfl, hh, by omega, by decide, by decide, fun way H1 w0 w1 st1 => ?_⟩
  refine ⟨by show 0 ≤ sizeLine; decide, fun L hL => ?_⟩
  have yL := Same.new hL (.lst [])
  have Lp : L ≠ p := st1.2.ne hL
  have LH : H L = none := by
    cases e : H L with
    | none => rfl
    | some o => have := st1.1 L o Lp e; rw [hL] at this; cases this
  have gL : upd H1 L (.lst []) L = some (.lst (([] : List Int).map V.int)) := upd_same
  have st1' := st1.same yL
  generalize upd H1 L (.lst []) = H2 at yL gL st1'
  refine ⟨p, 6, n + 1, rfl, st1'.2, by omega, by decide, by decide, fun c0 H3 c00 c01 st3 => ?_⟩
  refine ⟨by show 4 ≤ sizeLine; decide, fun d hd => ?_⟩
  have yd := Same.new hd (.lst [V.int (1 + c0), .int 3, .int 7, .int 400])
  obtain ⟨cap, ecap, cap1, cap2⟩ := pick4 w0 w1 (show 1 ≤ 1 + c0 ∧ 1 + c0 ≤ 400 by omega)
  refine ⟨_, .inl (SqL.of upd_same), .int cap, ecap, ?_⟩
  have st4 := (st1'.trans st3).same yd
  have gL4 := yd _ _ (st3.1 _ _ Lp gL)
  generalize upd H3 d (.lst [V.int (1 + c0), .int 3, .int 7, .int 400]) = H4 at st4 gL4
  refine while_by2 (fun m σ H' => ∃ (left : Nat) (ns : List Int) (x6 : Option V), m = left ∧ Step p (n + 2 + (hv - left)) H H' ∧ left ≤ hv ∧ H' L = some (.lst (ns.map V.int)) ∧ ns.length + left ≤ hv ∧ (∀ x ∈ ns, (1 : Int) ≤ x) ∧ ns.sum + (left : Int) = (hv : Int) ∧ σ = [some (.ref p), some (.int hv), some (.int way), some (.int left), some (.ref L), some (.int cap), x6]) hv
    ⟨hv, [], none, rfl, by rw [Nat.sub_self]; exact st4, Nat.le_refl _, gL4, by simp, (fun _ z => nomatch z), by simp, rfl⟩ ?_
  rintro left σ H5 ⟨_, ns, x6, rfl, st5, hle, gL5, hnl, hpos, hsum, rfl⟩
  refine iteD (fun c => ?_) (fun c => ?_)
  · have hl0 : 0 < left := by have c' : (0 : Int) < (left : Int) := c; omega
    refine ⟨fun σ' H' => ∃ m', m' < left ∧ ∃ (left : Nat) (ns : List Int) (x6 : Option V), m' = left ∧ Step p (n + 2 + (hv - left)) H H' ∧ left ≤ hv ∧ H' L = some (.lst (ns.map V.int)) ∧ ns.length + left ≤ hv ∧ (∀ x ∈ ns, (1 : Int) ≤ x) ∧ ns.sum + (left : Int) = (hv : Int) ∧ σ' = [some (.ref p), some (.int hv), some (.int way), some (.int left), some (.ref L), some (.int cap), x6], fun σ' H' h => h, ?_⟩
    have hm : 1 ≤ (if cap < (left : Int) then cap else (left : Int)) ∧ (if cap < (left : Int) then cap else (left : Int)) ≤ (left : Int) ∧ (if cap < (left : Int) then cap else (left : Int)) ≤ 400 := by split <;> omega
    refine ⟨p, _, n + 2 + (hv - left), rfl, st5.2, by omega, by omega, by omega, fun r H6 r0 r1 st6 => ?_⟩
    have gL6 := st6.1 _ _ Lp gL5
    have st7 := st5.trans st6
    have lns : (ns.map V.int).length < sizeLine := by rw [List.length_map]; exact small1000 (by omega)
    have fin : ∀ (v : Int) (x6 : Option V), 1 ≤ v → v ≤ (left : Int) → ∃ m', m' < left ∧ ∃ (left' : Nat) (ms : List Int) (y6 : Option V), m' = left' ∧ Step p (n + 2 + (hv - left')) H (upd H6 L (.lst (ns.map V.int ++ [V.int v]))) ∧ left' ≤ hv ∧ upd H6 L (.lst (ns.map V.int ++ [V.int v])) L = some (.lst (ms.map V.int)) ∧ ms.length + left' ≤ hv ∧ (∀ x ∈ ms, (1 : Int) ≤ x) ∧ ms.sum + (left' : Int) = (hv : Int) ∧ ([some (.ref p), some (.int hv), some (.int way), some (.int ((left : Int) - v)), some (.ref L), some (.int cap), x6] : St) = [some (.ref p), some (.int hv), some (.int way), some (.int left'), some (.ref L), some (.int cap), y6] := by
      intro v x6 v1 v2
      refine ⟨left - v.toNat, by omega, left - v.toNat, ns ++ [v], x6, rfl, ⟨fun b o nb e => ?_, ?_⟩, by omega, by rw [upd_same, List.map_append]; rfl, by rw [List.length_append, List.length_singleton]; omega, fun x hx => ?_, ?_, ?_⟩
      · rw [upd_ne (fun z => by rw [z, LH] at e; cases e)]
        exact st7.1 b o nb e
      · obtain ⟨g, s', c', e, r1', r2', r3', r4', r5'⟩ := st7.2
        exact ⟨g, s', c', by rw [upd_ne (Ne.symm Lp)]; exact e, r1', r2', r3', r4', by omega⟩
      · rcases List.mem_append.mp hx with h | h
        · exact hpos x h
        · rw [List.mem_singleton.mp h]; exact v1
      · rw [List.sum_append, List.sum_singleton]; omega
      · rw [show (left : Int) - v = ((left - v.toNat : Nat) : Int) by omega]
    refine iteD (fun c2 => ?_) (fun c2 => ?_)
    · refine ⟨tyL gL6, _, gL6, lns, ?_⟩
      exact fin _ _ hm.1 hm.2.1
    · refine ⟨tyL gL6, _, gL6, lns, ?_⟩
      exact fin _ _ (by omega) (by omega)
  · have hl0 : left = 0 := by have c' : ¬ (0 : Int) < (left : Int) := c; omega
    subst hl0
    refine ⟨L, ns, rfl, .inl gL5, fun r ms H6 y6 perm ord hr6 => ?_⟩
    refine q r ms H6 ((st5.same y6).mono (by omega)) hr6 (by rw [perm.length_eq]; omega) (fun x hx => hpos x (perm.mem_iff.mp hx)) ?_ ord
    rw [perm_sum perm]
    have hsum' : ns.sum + ((0 : Nat) : Int) = (hv : Int) := hsum
    omega
end
end K60
namespace M15
open MRow
noncomputable def near (k : Nat) : Int := (k : Int) * (3 * (k : Int) - 1) / 2
noncomputable def sgn (k : Nat) : Int := if (k : Int) % 2 = 0 then 1 else -1
noncomputable def cpart (most : Int) (k : Nat) : List (Int × Int) := (near k, sgn k) :: (if (0 : Int) < k ∧ near k + k ≤ most then [(near k + k, sgn k)] else [])
noncomputable def cl : Nat → Int → Nat → List (Int × Int) → List (Int × Int)
  | 0, _, _, acc => acc
  | f + 1, most, k, acc => if near k ≤ most then cl f most (k + 1) (acc ++ cpart most k) else acc
noncomputable def cor (most : Int) : List (Int × Int) := cl 25 most 0 []
theorem near_big {k : Nat} (h : 25 ≤ k) : 600 < near k := by
  unfold near
  have h1 : (25 : Int) ≤ k := by omega
  have h2 : (25 : Int) * (3 * 25 - 1) ≤ (k : Int) * (3 * (k : Int) - 1) := Int.mul_le_mul h1 (by omega) (by omega) (by omega)
  omega
end M15
namespace M15
open MRow
theorem cor_bnd : ((List.range 601).all fun (m : Nat) => ((cor (m : Int)).all fun p => decide (0 ≤ p.1 ∧ p.1 ≤ (m : Int) ∧ -1 ≤ p.2 ∧ p.2 ≤ 1)) && decide ((cor (m : Int)).length ≤ 100)) = true := by decide +kernel
theorem cor_in {m : Nat} (h : m ≤ 600) : (∀ p ∈ cor (m : Int), 0 ≤ p.1 ∧ p.1 ≤ (m : Int) ∧ -1 ≤ p.2 ∧ p.2 ≤ 1) ∧ (cor (m : Int)).length ≤ 100 := by
  have := List.all_eq_true.mp cor_bnd m (List.mem_range.mpr (by omega))
  rw [Bool.and_eq_true] at this
  exact ⟨fun p hp => of_decide_eq_true (List.all_eq_true.mp this.1 p hp), of_decide_eq_true this.2⟩
theorem cl_len : ∀ (f : Nat) (most : Int) (k : Nat) (acc : List (Int × Int)), acc.length ≤ (cl f most k acc).length
  | 0, _, _, _ => Nat.le_refl _
  | f + 1, most, k, acc => by
    unfold cl
    split
    · have := cl_len f most (k + 1) (acc ++ cpart most k)
      rw [List.length_append] at this
      omega
    · exact Nat.le_refl _
end M15
set_option Elab.async false
set_option linter.all false
set_option maxRecDepth 100000
set_option exponentiation.threshold 3000
set_option maxHeartbeats 4000000
namespace M27
open PySem L2 MRow
end M27
set_option Elab.async false
set_option linter.all false
set_option maxRecDepth 100000
set_option maxHeartbeats 4000000
namespace K60
open PySem L2 M15
section
variable {P : Program} {w : World} {K : PySem.W.Frag} {mg : Str → Option Value} {base : Heap} {f : Addr} {fd : FuncData}
theorem sc_corners : FnScope ["most", "told", "k", "near", "sign", "far"] ["most"] (defScope (top 10)) := ⟨rfl, rfl, rfl, by decide +kernel, rfl, by decide +kernel, by decide +kernel⟩
noncomputable def sp_cor : Sp := fun vs H Q _ => ∃ n : Nat, vs = [.int n] ∧ n ≤ 600 ∧ ∀ r H' us, Same H H' → H' r = some (.tup us) → Prs H' us (cor (n : Int)) → Q (.ref r) H'
theorem ok_corners (F : Fun K "corners" "corners" (top 10) f fd) (m_tuple : mg "tuple" = none) : FnOk P w K mg base CX0 1 f fd ["most"] sp_cor := by
  refine F.okz sc_corners (fun vs H Q E h => ?_) (fun cdv A outer s H vs Q E hr h => ?_)
  · obtain ⟨n, rfl, _⟩ := h; rfl
  obtain ⟨n, rfl, hn, q⟩ := h
  have nd := sc_corners.nd
  have hu := hr.units
  have hcl := (cor_in hn).2
  have body : ∃ t, ZSs (cxOf CX0 P w K mg base ["most", "told", "k", "near", "sign", "far"] "corners" (defScope (top 10)) f cdv A outer s H E).nox ((forBody ((defBody (top 10)).getD 3 (.Pass ⟨0, 0, 0, 0⟩))).drop 1) t ∧
      ∀ (D : Ends) (H5 : Hp) (tt : Addr) (k : Nat) (us : List V) (ps : List (Int × Int)) (p5 : Option V) (sv : Int), sv = sgn k → k ≤ 24 → H tt = none → Same H H5 → H5 tt = some (.lst us) → Prs H5 us ps → us.length + 2 ≤ 1000 →
        (∀ H' us' p4 p5, Same H H' → H' tt = some (.lst us') → Prs H' us' (ps ++ cpart n k) → D.nx [some (.int n), some (.ref tt), some (.int ((k + 1 : Nat) : Int)), some (.int (near (k + 1))), p4, p5] H') →
        t D [some (.int n), some (.ref tt), some (.int k), some (.int (near k)), some (.int sv), p5] H5 := by
    refine ⟨_, (zss_cons (zs_expr (zm_append (zn 1) (za_cons (ze_tup (za_cons (zn 3) (za_cons (zn 4) za_nil))) za_nil)))
      (zss_cons (zs_set (i := 5) nd rfl (Or.inl rfl) (ze_op op_addP (zn 3) (zn 2)))
      (zss_cons (zs_if (ZW.zt (zw_and (zt_cmpP op_gtP (zn 2) ze_int (nomark _)) (zw_and1 (zt_cmpP op_leP (zn 5) (zn 0) (nomark _))))) (zss_one (zs_expr (zm_append (zn 1) (za_cons (ze_tup (za_cons (zn 5) (za_cons (zn 4) za_nil))) za_nil)))) zss_nil)
      (zss_cons (zs_aug (i := 2) nd rfl (Or.inl rfl) ze_int ip_addP)
      (zss_one (zs_set (i := 3) nd rfl (Or.inl rfl) (ze_op op_fdivP (ze_op op_mulQ (zn 2) (ze_op op_subP (ze_op op_mulQ ze_int (zn 2)) ze_int)) ze_int))))))), ?_⟩
    intro D H5 tt k us ps p5 sv hsv hk htt y hus hp hlen fin
    subst hsv
    refine ⟨tyL hus, by show 2 ≤ sizeLine; decide, fun d hd => ?_⟩
    have g1 := Same.new hd (.tup [.int (near k), .int (sgn k)])
    refine ⟨_, g1 _ _ hus, small1000 (by omega), ?_⟩
    have hus2 : (upd (upd H5 d (.tup [.int (near k), .int (sgn k)])) tt (.lst (us ++ [.ref d]))) tt = some (.lst (us ++ [.ref d])) := upd_same
    have hp2 : Prs (upd (upd H5 d (.tup [.int (near k), .int (sgn k)])) tt (.lst (us ++ [.ref d]))) (us ++ [.ref d]) (ps ++ [(near k, sgn k)]) := Prs.updL (g1 _ _ hus) ((hp.same g1).snoc (p := (near k, sgn k)) ⟨d, rfl, upd_same⟩)
    have y2 : Same H (upd (upd H5 d (.tup [.int (near k), .int (sgn k)])) tt (.lst (us ++ [.ref d]))) := Same.updN (y.trans g1) htt
    generalize upd (upd H5 d (.tup [.int (near k), .int (sgn k)])) tt (.lst (us ++ [.ref d])) = H6 at hus2 hp2 y2
    have e1 : ((k : Int) + 1) = ((k + 1 : Nat) : Int) := by omega
    have endd : ∀ (D2 : Ends) (H7 : Hp) (us7 : List V) (p4 p5 : Option V), D2.nx = D.nx → Same H H7 → H7 tt = some (.lst us7) → Prs H7 us7 (ps ++ cpart n k) → D2.nx [some (.int n), some (.ref tt), some (.int ((k + 1 : Nat) : Int)), some (.int (near (k + 1))), p4, p5] H7 := fun D2 H7 us7 p4 p5 e a b c => by rw [e]; exact fin H7 us7 p4 p5 a b c
    have fini : ∀ (H7 : Hp) (us7 : List V), Same H H7 → H7 tt = some (.lst us7) → Prs H7 us7 (ps ++ cpart n k) →
        (∃ x, ([some (V.int n), some (.ref tt), some (.int k), some (.int (near k)), some (.int (sgn k)), some (.int (near k + k))] : St)[2]? = some (some x) ∧ True) := fun _ _ _ _ _ => ⟨_, rfl, trivial⟩
    have tailok : ∀ (H7 : Hp) (us7 : List V), Same H H7 → H7 tt = some (.lst us7) → Prs H7 us7 (ps ++ cpart n k) →
        IntMulOk 3 ((k : Int) + 1) ∧ IntMulOk ((k : Int) + 1) (3 * ((k : Int) + 1) - 1) ∧ CDiv (((k : Int) + 1) * (3 * ((k : Int) + 1) - 1)) 2 ∧ D.nx [some (.int n), some (.ref tt), some (.int ((k : Int) + 1)), some (.int (((k : Int) + 1) * (3 * ((k : Int) + 1) - 1) / 2)), some (.int (sgn k)), some (.int (near k + k))] H7 := fun H7 us7 a b c => by
      refine ⟨mulL (by decide) (by decide), mulL (by omega) (by omega), ⟨by decide, by decide⟩, ?_⟩
      have := fin H7 us7 (some (.int (sgn k))) (some (.int (near k + k))) a b c
      unfold near at this ⊢
      rw [← e1] at this
      exact this
    refine iteD (fun c => ?_) (fun c => ?_)
    · refine iteD (fun c2 => ?_) (fun c2 => ?_)
      · refine ⟨tyL hus2, by show 2 ≤ sizeLine; decide, fun d2 hd2 => ?_⟩
        have g3 := Same.new hd2 (.tup [.int (near k + k), .int (sgn k)])
        refine ⟨_, g3 _ _ hus2, by rw [List.length_append, List.length_singleton]; exact small1000 (by omega), ?_⟩
        refine ⟨.int k, rfl, tailok _ _ (Same.updN (y2.trans g3) htt) upd_same ?_⟩
        have := Prs.updL (ys := us ++ [.ref d] ++ [.ref d2]) (g3 _ _ hus2) ((hp2.same g3).snoc (p := (near k + k, sgn k)) ⟨d2, rfl, upd_same⟩)
        unfold cpart
        rw [if_pos ⟨c, c2⟩]
        have e5 : ps ++ [(near k, sgn k), (near k + k, sgn k)] = ps ++ [(near k, sgn k)] ++ [(near k + k, sgn k)] := by simp
        rw [e5]
        exact this
      · refine ⟨.int k, rfl, tailok _ _ y2 hus2 ?_⟩
        unfold cpart
        rw [if_neg (fun z => c2 z.2)]
        exact hp2
    · refine iteF ?_
      refine ⟨.int k, rfl, tailok _ _ y2 hus2 ?_⟩
      unfold cpart
      rw [if_neg (fun z => c z.1)]
      exact hp2
  obtain ⟨t3, ht3, body⟩ := body
  refine ⟨_, (zss_cons (zs_set (i := 1) nd rfl (Or.inl rfl) (ze_lst za_nil))
      (zss_cons (zs_set (i := 2) nd rfl (Or.inl rfl) ze_int)
      (zss_cons (zs_set (i := 3) nd rfl (Or.inl rfl) ze_int)
      (zss_cons (zs_while PassesOwn.never (zt_cmpP op_leP (zn 3) (zn 0) (nomark _)) (zss_cons (zs_set (i := 4) nd rfl (Or.inl rfl) (ze_ifExp (zt_cmpP (op_eqD hu) (ze_op op_modP (zn 2) ze_int) ze_int (nomark _)) ze_int (ze_un un_neg ze_int)))
      ht3))
      (zss_one (zs_ret (zcb_tuple rfl m_tuple (za_cons (zn 1) za_nil) rfl rfl))))))), ?_⟩
  refine ⟨Nat.zero_le _, fun t ht => ?_⟩
  have g0 := Same.new ht (.lst [])
  refine while_by2 (fun m σ H' => ∃ (k : Nat) (us : List V) (ps : List (Int × Int)) (p4 p5 : Option V), k + m = 25 ∧ Same H H' ∧ σ = [some (.int n), some (.ref t), some (.int k), some (.int (near k)), p4, p5] ∧ H' t = some (.lst us) ∧ Prs H' us ps ∧ cl m n k ps = cor n)
    25 ⟨0, [], [], none, none, rfl, g0, rfl, upd_same, .nil, rfl⟩ ?_
  rintro m σ H' ⟨k, us, ps, p4, p5, hkm, y, rfl, hus, hp, hcor⟩
  refine iteD (fun c => ?_) (fun c => ?_)
  · cases m with
    | zero => have := near_big (k := k) (by omega); omega
    | succ m =>
    have hstep : cl m n (k + 1) (ps ++ cpart n k) = cor n := by
      rw [← hcor]
      conv => rhs; unfold cl
      rw [if_pos c]
    have hlen : us.length + 2 ≤ 1000 := by
      have := cl_len m n (k + 1) (ps ++ cpart n k)
      rw [hstep, List.length_append] at this
      rw [hp.length]
      omega
    refine ⟨_, fun _ _ z => z, ?_⟩
    refine ⟨(show (0 : Int) < 2 by decide), ?_⟩
    refine iteD (fun c2 => ?_) (fun c2 => ?_)
    · have e2 : (1 : Int) = sgn k := by unfold sgn; rw [if_pos (V.int.inj c2)]
      exact body _ H' t k us ps p5 1 e2 (by omega) ht y hus hp hlen fun H' us' p4 p5 a b c => ⟨m, Nat.lt_succ_self m, k + 1, us', _, p4, p5, by omega, a, rfl, b, c, hstep⟩
    · have e2 : -1 = sgn k := by unfold sgn; rw [if_neg (fun z => c2 (show V.int ((k : Int) % 2) = V.int 0 by rw [z]))]
      exact ⟨_, rfl, body _ H' t k us ps p5 (-1) e2 (by omega) ht y hus hp hlen fun H' us' p4 p5 a b c => ⟨m, Nat.lt_succ_self m, k + 1, us', _, p4, p5, by omega, a, rfl, b, c, hstep⟩⟩
  · have e : ps = cor n := by
      rw [← hcor]
      cases m with
      | zero => rfl
      | succ m => conv => rhs; unfold cl
                  rw [if_neg c]
    subst e
    exact ⟨_, .inl (SqL.of hus), fun r H2 y2 hr2 => q r H2 us (y.trans y2) hr2 (hp.same y2)⟩
end
end K60
set_option Elab.async false
set_option linter.all false
set_option maxRecDepth 100000
set_option maxHeartbeats 4000000
namespace M17
open MRow M80
end M17
set_option Elab.async false
set_option linter.all false
set_option maxRecDepth 100000
set_option maxHeartbeats 4000000
namespace M12
open MRow M80 M17
end M12
set_option Elab.async false
set_option linter.all false
set_option maxRecDepth 100000
set_option maxHeartbeats 4000000
namespace M17
open MRow M80
end M17
set_option Elab.async false
set_option linter.all false
set_option maxRecDepth 100000
set_option maxHeartbeats 4000000
namespace M12
open MRow M80 M17
end M12
set_option Elab.async false
set_option linter.all false
set_option maxRecDepth 100000
set_option maxHeartbeats 4000000
namespace M12
open MRow M80 M17
end M12
set_option Elab.async false
set_option linter.all false
set_option maxRecDepth 100000
set_option maxHeartbeats 4000000
namespace M17
open MRow M80
end M17
set_option Elab.async false
set_option linter.all false
set_option maxRecDepth 100000
set_option maxHeartbeats 4000000
namespace M24
open MRow M80 M17 M12
end M24
set_option Elab.async false
set_option linter.all false
set_option maxRecDepth 100000
set_option maxHeartbeats 4000000
namespace M11
open MRow M80 M17 M12 M24
end M11
set_option Elab.async false
set_option linter.all false
set_option maxRecDepth 100000
set_option maxHeartbeats 4000000
namespace M66
open MRow M80 M17 M12 M24 M11
end M66
set_option Elab.async false
set_option linter.all false
set_option maxRecDepth 100000
set_option maxHeartbeats 4000000
namespace M63
open M11 M66 SRV
end M63
set_option Elab.async false
set_option linter.all false
set_option maxRecDepth 100000
set_option maxHeartbeats 4000000
namespace M05
open MRow M80 M17 M12 M11 M66 M63 MP
end M05
set_option Elab.async false
set_option linter.all false
set_option maxRecDepth 100000
set_option maxHeartbeats 4000000
namespace M09
open MRow M80 M17 M12 M24 M11 M66 M63
end M09
namespace M03
end M03
set_option Elab.async false
set_option linter.all false
set_option maxRecDepth 100000
set_option maxHeartbeats 4000000
namespace M10
open M66 M63
end M10
set_option Elab.async false
set_option linter.all false
set_option maxRecDepth 100000
set_option maxHeartbeats 4000000
namespace M55
open MRow M80 M12 M11 M66 M63 M10 M04 M54 MP
end M55
set_option linter.all false
namespace M60
noncomputable def rn : List Int → Nat
  | [] => 0
  | [_] => 1
  | a :: b :: r => if a - b = 1 then rn (b :: r) + 1 else 1
theorem rn_pos : ∀ {x : List Int}, x ≠ [] → 1 ≤ rn x
  | [], h => absurd rfl h
  | [_], _ => Nat.le_refl _
  | a :: b :: r, _ => by unfold rn; split <;> omega
theorem rn_le : ∀ x : List Int, rn x ≤ x.length
  | [] => Nat.le_refl _
  | [_] => Nat.le_refl _
  | a :: b :: r => by
    have := rn_le (b :: r)
    unfold rn
    split
    · rw [List.length_cons]; omega
    · rw [List.length_cons]; omega
theorem rn_step : ∀ {x : List Int} {m : Nat}, 1 ≤ m → m ≤ rn x → m < x.length → x.getD (m - 1) 0 - x.getD m 0 = 1 → m + 1 ≤ rn x
  | [], m, h, _, h2, _ => absurd h2 (Nat.not_lt_zero _)
  | [_], m, h, _, h2, _ => by have : m < 1 := h2; omega
  | a :: b :: r, m, h, h1, h2, e => by
    unfold rn at h1 ⊢
    obtain ⟨k, rfl⟩ : ∃ k, m = k + 1 := ⟨m - 1, by omega⟩
    cases k with
    | zero =>
      have e : a - b = 1 := e
      rw [if_pos e]
      have := rn_pos (x := b :: r) (by simp)
      omega
    | succ k =>
      by_cases c : a - b = 1
      · rw [if_pos c] at h1 ⊢
        have := rn_step (x := b :: r) (m := k + 1) (by omega) (by omega) (by simpa using h2) e
        omega
      · rw [if_neg c] at h1; omega
theorem rn_stop : ∀ {x : List Int} {m : Nat}, 1 ≤ m → m ≤ rn x → (m < x.length → x.getD (m - 1) 0 - x.getD m 0 ≠ 1) → m = rn x
  | [], m, h, h1, _ => by have : m ≤ 0 := h1; omega
  | [_], m, h, h1, _ => by have : m ≤ 1 := h1; show m = 1; omega
  | a :: b :: r, m, h, h1, e => by
    unfold rn at h1 ⊢
    obtain ⟨k, rfl⟩ : ∃ k, m = k + 1 := ⟨m - 1, by omega⟩
    cases k with
    | zero =>
      have e : a - b ≠ 1 := e (by simp)
      rw [if_neg e]
    | succ k =>
      by_cases c : a - b = 1
      · rw [if_pos c] at h1 ⊢
        have := rn_stop (x := b :: r) (m := k + 1) (by omega) (by omega) (fun h2 => e (by simpa using h2))
        omega
      · rw [if_neg c] at h1; omega
theorem rn_map (c : Int) : ∀ x : List Int, rn (x.map (· + c)) = rn x
  | [] => rfl
  | [_] => rfl
  | a :: b :: r => by
    have ih := rn_map c (b :: r)
    show (if (a + c) - (b + c) = 1 then rn ((b :: r).map (· + c)) + 1 else 1) = if a - b = 1 then rn (b :: r) + 1 else 1
    rw [ih, show (a + c) - (b + c) = a - b by omega]
theorem rn_take : ∀ {x : List Int} {m : Nat}, m ≤ rn x → rn (x.take m) = m
  | [], m, h => by have : m ≤ 0 := h; rw [show m = 0 by omega]; rfl
  | [a], m, h => by
    have : m ≤ 1 := h
    have : m = 0 ∨ m = 1 := by omega
    rcases this with rfl | rfl <;> rfl
  | a :: b :: r, m, h => by
    unfold rn at h
    cases m with
    | zero => rfl
    | succ m =>
      cases m with
      | zero => rfl
      | succ m =>
        by_cases c : a - b = 1
        · rw [if_pos c] at h
          have := rn_take (x := b :: r) (m := m + 1) (by omega)
          show (if a - b = 1 then rn ((b :: r).take (m + 1)) + 1 else 1) = _
          rw [if_pos c, this]
        · rw [if_neg c] at h; omega
theorem rn_app : ∀ {u v : List Int}, u ≠ [] → rn u = u.length → (∀ a ∈ u, ∀ b ∈ v, a - b ≠ 1) → rn (u ++ v) = u.length
  | [], _, h, _, _ => absurd rfl h
  | [a], [], _, _, _ => rfl
  | [a], b :: v, _, _, h => by
    show (if a - b = 1 then _ else 1) = 1
    rw [if_neg (h a List.mem_cons_self b List.mem_cons_self)]
  | a :: b :: u, v, _, e, h => by
    unfold rn at e
    by_cases c : a - b = 1
    · rw [if_pos c, List.length_cons] at e
      have := rn_app (u := b :: u) (v := v) (by simp) (by omega) fun x hx y hy => h x (List.mem_cons_of_mem _ hx) y hy
      show (if a - b = 1 then rn ((b :: u) ++ v) + 1 else 1) = _
      rw [if_pos c, this]; rfl
    · rw [if_neg c] at e
      simp at e
theorem rn_ge : ∀ {u v : List Int}, rn u = u.length → u.length ≤ rn (u ++ v)
  | [], _, _ => Nat.zero_le _
  | [a], v, _ => rn_pos (by simp)
  | a :: b :: u, v, e => by
    unfold rn at e
    by_cases c : a - b = 1
    · rw [if_pos c, List.length_cons] at e
      have := rn_ge (u := b :: u) (v := v) (by omega)
      show _ ≤ (if a - b = 1 then rn ((b :: u) ++ v) + 1 else 1)
      rw [if_pos c, List.length_cons]; omega
    · rw [if_neg c] at e
      simp at e
structure Un (x : List Int) : Prop where
  fall : x.Pairwise (· > ·)
  pos : ∀ n ∈ x, (1 : Int) ≤ n
noncomputable def lst (x : List Int) : Int := x.getD (x.length - 1) 0
theorem lst_app (x : List Int) (a : Int) : lst (x ++ [a]) = a := by
  unfold lst
  rw [List.length_append, List.getD_eq_getElem?_getD]
  simp
theorem split_last {x : List Int} (h : x ≠ []) : ∃ z, x = z ++ [lst x] := by
  refine ⟨x.dropLast, ?_⟩
  have e := List.dropLast_concat_getLast h
  have : lst x = x.getLast h := by
    conv => lhs; rw [← e]
    exact lst_app _ _
  rw [this]; exact e.symm
theorem Un.least {x : List Int} (h : Un x) {a : Int} (ha : a ∈ x) : lst x ≤ a := by
  obtain ⟨z, e⟩ := split_last (List.ne_nil_of_mem ha)
  generalize lst x = l at e
  subst e
  have f := h.fall
  rcases List.mem_append.mp ha with m | m
  · have := (List.pairwise_append.mp f).2.2 a m l (List.mem_singleton.mpr rfl)
    omega
  · have := List.mem_singleton.mp m; omega
theorem Un.lst1 {x : List Int} (h : Un x) (hx : x ≠ []) : 1 ≤ lst x := by
  obtain ⟨z, e⟩ := split_last hx
  exact h.pos _ (by rw [e]; rw [lst_app]; simp)
noncomputable def pf (x : List Int) : Option (List Int) :=
  if x = [] then none
  else if lst x ≤ (rn x : Int) then
    if rn x = x.length ∧ lst x = (rn x : Int) then none else some ((x.take (lst x).toNat).map (· + 1) ++ (x.drop (lst x).toNat).dropLast)
  else if rn x = x.length ∧ lst x = (rn x : Int) + 1 then none else some ((x.take (rn x)).map (· + (-1)) ++ x.drop (rn x) ++ [(rn x : Int)])
theorem stair : ∀ {x : List Int}, x ≠ [] → rn x = x.length → 2 * x.sum = (x.length : Int) * (2 * lst x + (x.length : Int) - 1)
  | [], h, _ => absurd rfl h
  | [a], _, _ => by show 2 * (a + 0) = (1 : Int) * (2 * a + 1 - 1); omega
  | a :: b :: r, _, e => by
    unfold rn at e
    by_cases c : a - b = 1
    · rw [if_pos c, List.length_cons] at e
      have ih := stair (x := b :: r) (by simp) (by omega)
      have el : lst (a :: b :: r) = lst (b :: r) := rfl
      have top : ∀ (r : List Int) (b : Int), rn (b :: r) = (b :: r).length → b = lst (b :: r) + (r.length : Int) := by
        intro r
        induction r with
        | nil => intro b _; show b = b + 0; omega
        | cons d r ih2 =>
          intro b e2
          unfold rn at e2
          by_cases c2 : b - d = 1
          · rw [if_pos c2, List.length_cons] at e2
            have := ih2 d (by omega)
            have el2 : lst (b :: d :: r) = lst (d :: r) := rfl
            rw [el2, List.length_cons]; omega
          · rw [if_neg c2] at e2; simp at e2
      have tb := top r b (by omega)
      rw [el, List.sum_cons, List.length_cons]
      generalize lst (b :: r) = l at ih tb
      rw [Int.mul_add, ih]
      have e1 : ((b :: r).length : Int) = (r.length : Int) + 1 := by rw [List.length_cons]; omega
      have e2 : (((b :: r).length + 1 : Nat) : Int) = (r.length : Int) + 2 := by rw [List.length_cons]; omega
      rw [e1, e2]
      have ea : a = l + (r.length : Int) + 1 := by omega
      rw [ea]
      generalize (r.length : Int) = k
      grind
    · rw [if_neg c] at e
      simp at e
theorem pf_none {x : List Int} (h : pf x = none) (hx : x ≠ []) : 2 * x.sum = (x.length : Int) * (3 * (x.length : Int) - 1) ∨ 2 * x.sum = (x.length : Int) * (3 * (x.length : Int) + 1) := by
  unfold pf at h
  rw [if_neg hx] at h
  split at h
  · split at h
    · rename_i c
      left
      rw [stair hx c.1, c.2, c.1]
      congr 1; omega
    · cases h
  · split at h
    · rename_i c
      right
      rw [stair hx c.1, c.2, c.1]
      congr 1; omega
    · cases h
theorem sum_map (c : Int) : ∀ x : List Int, (x.map (· + c)).sum = x.sum + c * (x.length : Int)
  | [] => by simp
  | a :: x => by rw [List.map_cons, List.sum_cons, List.sum_cons, sum_map c x, List.length_cons]; grind
structure Good (x y : List Int) : Prop where
  un : Un y
  sum : y.sum = x.sum
  len : y.length = x.length + 1 ∨ x.length = y.length + 1
  back : pf y = some x
theorem pf_good {x y : List Int} (u : Un x) (h : pf x = some y) : Good x y := by
  unfold pf at h
  by_cases hx : x = []
  · rw [if_pos hx] at h; cases h
  rw [if_neg hx] at h
  have l1 := u.lst1 hx
  have r1 := rn_pos hx
  have rl := rn_le x
  obtain ⟨l, el⟩ : ∃ l : Nat, lst x = (l : Int) := ⟨(lst x).toNat, by omega⟩
  by_cases c : lst x ≤ (rn x : Int)
  · rw [if_pos c] at h
    by_cases c2 : rn x = x.length ∧ lst x = (rn x : Int)
    · rw [if_pos c2] at h; cases h
    rw [if_neg c2, el, Int.toNat_natCast] at h
    obtain rfl := Option.some.inj h
    have ln : l < x.length := by omega
    have lr : l ≤ rn x := by omega
    have lp : 1 ≤ l := by omega
    -- the last is dropped
    have dne : x.drop l ≠ [] := by
      intro z
      have := congrArg List.length z
      rw [List.length_drop] at this
      simp at this; omega
    have dl : (x.drop l).dropLast ++ [(l : Int)] = x.drop l := by
      obtain ⟨z, ez⟩ := split_last dne
      have ll : lst (x.drop l) = (l : Int) := by
        rw [← el]
        unfold lst
        rw [List.length_drop, List.getD_eq_getElem?_getD, List.getD_eq_getElem?_getD, List.getElem?_drop]
        congr 3; omega
      rw [ll] at ez
      rw [ez, List.dropLast_concat]
    have fx := u.fall
    rw [← List.take_append_drop l x] at fx
    obtain ⟨f1, f2, f3⟩ := List.pairwise_append.mp fx
    have sub : (x.drop l).dropLast.Sublist (x.drop l) := List.dropLast_sublist _
    generalize hv : (x.drop l).dropLast = v at dl sub
    have tl : (x.take l).length = l := by rw [List.length_take]; omega
    have ulen : ((x.take l).map (· + (1 : Int))).length = l := by rw [List.length_map, tl]
    have cross : ∀ a ∈ (x.take l).map (· + (1 : Int)), ∀ b ∈ v, a - b ≥ 2 := fun a ha b hb => by
      obtain ⟨a', ha', rfl⟩ := List.mem_map.mp ha
      have := f3 a' ha' b (sub.subset hb)
      show a' + 1 - b ≥ 2
      omega
    have un : Un ((x.take l).map (· + 1) ++ v) := by
      refine ⟨List.pairwise_append.mpr ⟨?_, f2.sublist sub, fun a ha b hb => by have := cross a ha b hb; show a > b; omega⟩, fun n hn => ?_⟩
      · rw [List.pairwise_map]
        exact f1.imp fun {a b} h => by show a + 1 > b + 1; have : a > b := h; omega
      · rcases List.mem_append.mp hn with m | m
        · obtain ⟨a', ha', rfl⟩ := List.mem_map.mp m
          have := u.pos a' (List.mem_of_mem_take ha')
          show 1 ≤ a' + 1
          omega
        · exact u.pos n (List.mem_of_mem_drop (sub.subset m))
    have run : rn ((x.take l).map (· + 1) ++ v) = l := by
      have := rn_app (u := (x.take l).map (· + 1)) (v := v) (by intro z; rw [z] at ulen; simp at ulen; omega) (by rw [rn_map, rn_take lr, ulen]) (fun a ha b hb => by have := cross a ha b hb; omega)
      rw [this, ulen]
    have vlen : v.length + 1 + l = x.length := by
      have := congrArg List.length dl
      rw [List.length_append, List.length_drop] at this
      simp at this; omega
    have ylen : ((x.take l).map (· + 1) ++ v).length + 1 = x.length := by rw [List.length_append, ulen]; omega
    have yne : (x.take l).map (· + 1) ++ v ≠ [] := by intro z; rw [z] at run; simp [rn] at run; omega
    have ylast : (l : Int) < lst ((x.take l).map (· + 1) ++ v) ∧ (v = [] → lst ((x.take l).map (· + 1) ++ v) ≥ l + 2) := by
      obtain ⟨z, ez⟩ := split_last yne
      have mem : lst ((x.take l).map (· + 1) ++ v) ∈ (x.take l).map (· + 1) ++ v := by rw [ez]; rw [lst_app]; simp
      have lm : (l : Int) ∈ x.drop l := by rw [← dl]; simp
      generalize lst ((x.take l).map (· + 1) ++ v) = q at mem
      have big : ∀ a' ∈ x.take l, a' + 1 ≥ (l : Int) + 2 := fun a' ha' => by have := f3 a' ha' l lm; omega
      refine ⟨?_, fun hv0 => ?_⟩
      · rcases List.mem_append.mp mem with m | m
        · obtain ⟨a', ha', rfl⟩ := List.mem_map.mp m
          have := big a' ha'
          show (l : Int) < a' + 1
          omega
        · have f4 := f2
          rw [← dl] at f4
          have := (List.pairwise_append.mp f4).2.2 q m l (List.mem_singleton.mpr rfl)
          omega
      · rw [hv0, List.append_nil] at mem
        obtain ⟨a', ha', rfl⟩ := List.mem_map.mp mem
        exact big a' ha'
    refine ⟨un, ?_, .inr ylen.symm, ?_⟩
    · have sx : x.sum = (x.take l).sum + (x.drop l).sum := by rw [← List.sum_append, List.take_append_drop]
      rw [List.sum_append, sum_map, tl, sx, ← dl, List.sum_append]
      simp; omega
    · unfold pf
      rw [if_neg yne, run, if_neg (by omega)]
      have ng : ¬ (l = ((x.take l).map (· + 1) ++ v).length ∧ lst ((x.take l).map (· + 1) ++ v) = (l : Int) + 1) := by
        rintro ⟨z1, z2⟩
        have v0 : v = [] := List.length_eq_zero_iff.mp (by rw [List.length_append, ulen] at z1; omega)
        have := ylast.2 v0
        omega
      rw [if_neg ng, List.take_left' ulen, List.drop_left' ulen, List.map_map]
      have : ((x.take l).map ((· + (-1 : Int)) ∘ (· + 1))) = x.take l := by
        have : (x.take l).map ((· + (-1 : Int)) ∘ (· + 1)) = (x.take l).map id := List.map_congr_left fun a _ => by show a + 1 + (-1) = a; omega
        rw [this, List.map_id]
      rw [this, List.append_assoc, dl, List.take_append_drop]
  · rw [if_neg c] at h
    by_cases c2 : rn x = x.length ∧ lst x = (rn x : Int) + 1
    · rw [if_pos c2] at h; cases h
    rw [if_neg c2] at h
    obtain rfl := Option.some.inj h
    generalize hr : rn x = r at *
    have fx := u.fall
    have tl : (x.take r).length = r := by rw [List.length_take]; omega
    have ulen : ((x.take r).map (· + (-1 : Int))).length = r := by rw [List.length_map, tl]
    rw [← List.take_append_drop r x] at fx
    obtain ⟨f1, f2, f3⟩ := List.pairwise_append.mp fx
    -- the run ends there
    have ends : ∀ a ∈ x.take r, ∀ b ∈ x.drop r, a - b ≥ 2 := by
      intro a ha b hb
      have rlt : r < x.length := by
        have := List.length_pos_of_mem hb
        rw [List.length_drop] at this; omega
      have ne : x.getD (r - 1) 0 - x.getD r 0 ≠ 1 := fun z => by
        have := rn_step (x := x) (m := r) (by omega) (by omega) rlt z
        omega
      obtain ⟨i, hi, rfl⟩ := List.getElem_of_mem ha
      obtain ⟨j, hj, rfl⟩ := List.getElem_of_mem hb
      rw [List.getElem_take, List.getElem_drop]
      rw [tl] at hi
      have pw := List.pairwise_iff_getElem.mp u.fall
      have g1 : x[i] ≥ x[r - 1] := by
        by_cases e : i = r - 1
        · subst e; exact Int.le_refl _
        · have := pw i (r - 1) (by omega) (by omega) (by omega); omega
      rw [List.length_drop] at hj
      have g2 : x[r] ≥ x[r + j] := by
        by_cases e : j = 0
        · subst e; exact Int.le_refl _
        · have := pw r (r + j) (by omega) (by omega) (by omega); omega
      have g3 := pw (r - 1) r (by omega) (by omega) (by omega)
      rw [List.getD_eq_getElem?_getD, List.getD_eq_getElem?_getD, List.getElem?_eq_getElem rlt, List.getElem?_eq_getElem (show r - 1 < x.length by omega)] at ne
      simp only [Option.getD_some] at ne
      omega
    have over : ∀ b ∈ x.drop r, b > (r : Int) := fun b hb => by have := u.least (List.mem_of_mem_drop hb); omega
    have over2 : ∀ a ∈ x.take r, a - 1 > (r : Int) := fun a ha => by
      by_cases e : r = x.length
      · have := u.least (List.mem_of_mem_take ha)
        have : lst x ≠ (r : Int) + 1 := fun z => c2 ⟨e, z⟩
        omega
      · have dne : x.drop r ≠ [] := fun z => by have := congrArg List.length z; rw [List.length_drop] at this; simp at this; omega
        obtain ⟨b, hb⟩ := List.exists_mem_of_ne_nil _ dne
        have := ends a ha b hb
        have := over b hb
        omega
    have un : Un ((x.take r).map (· + (-1)) ++ x.drop r ++ [(r : Int)]) := by
      refine ⟨List.pairwise_append.mpr ⟨List.pairwise_append.mpr ⟨?_, f2, fun a ha b hb => ?_⟩, List.pairwise_singleton _ _, fun a ha b hb => ?_⟩, fun n hn => ?_⟩
      · rw [List.pairwise_map]
        exact f1.imp fun {a b} h => by show a + (-1) > b + (-1); have : a > b := h; omega
      · obtain ⟨a', ha', rfl⟩ := List.mem_map.mp ha
        have := ends a' ha' b hb
        show a' + (-1) > b
        omega
      · have eb := List.mem_singleton.mp hb
        rw [eb]
        rcases List.mem_append.mp ha with m | m
        · obtain ⟨a', ha', rfl⟩ := List.mem_map.mp m
          have := over2 a' ha'
          show a' + (-1) > (r : Int)
          omega
        · exact over a m
      · rcases List.mem_append.mp hn with m | m
        · rcases List.mem_append.mp m with m | m
          · obtain ⟨a', ha', rfl⟩ := List.mem_map.mp m
            have := over2 a' ha'
            show 1 ≤ a' + (-1)
            omega
          · exact u.pos n (List.mem_of_mem_drop m)
        · have := List.mem_singleton.mp m; omega
    have ge : r ≤ rn ((x.take r).map (· + (-1)) ++ x.drop r ++ [(r : Int)]) := by
      have := rn_ge (u := (x.take r).map (· + (-1))) (v := x.drop r ++ [(r : Int)]) (by rw [rn_map, rn_take (by omega), ulen])
      rw [ulen, ← List.append_assoc] at this
      exact this
    have yl : lst ((x.take r).map (· + (-1)) ++ x.drop r ++ [(r : Int)]) = (r : Int) := lst_app _ _
    have ylen : ((x.take r).map (· + (-1)) ++ x.drop r ++ [(r : Int)]).length = x.length + 1 := by
      rw [List.length_append, List.length_append, ulen, List.length_drop]; simp; omega
    refine ⟨un, ?_, .inl ylen, ?_⟩
    · have sx : x.sum = (x.take r).sum + (x.drop r).sum := by rw [← List.sum_append, List.take_append_drop]
      rw [List.sum_append, List.sum_append, sum_map, tl, sx]
      simp; omega
    · unfold pf
      rw [if_neg (by simp), yl, if_pos (by omega)]
      rw [if_neg (by rintro ⟨z1, z2⟩; rw [ylen] at z1; omega)]
      rw [Int.toNat_natCast, List.append_assoc, List.take_left' ulen, List.drop_left' ulen, List.dropLast_concat, List.map_map]
      have : ((x.take r).map ((· + (1 : Int)) ∘ (· + (-1)))) = x.take r := by
        have : (x.take r).map ((· + (1 : Int)) ∘ (· + (-1))) = (x.take r).map id := List.map_congr_left fun a _ => by show a + (-1) + 1 = a; omega
        rw [this, List.map_id]
      rw [this, List.take_append_drop]
end M60
set_option Elab.async false
set_option linter.all false
set_option maxRecDepth 100000
set_option maxHeartbeats 4000000
namespace K60
open PySem L2 M60
theorem at_get {ns : List Int} {i : Nat} (h : i < ns.length) : (ns.map V.int)[i]? = some (.int (ns.getD i 0)) := by
  rw [List.getElem?_map, List.getElem?_eq_getElem h, List.getD_eq_getElem?_getD, List.getElem?_eq_getElem h]; rfl
theorem cut_to (ns : List Int) (k : Nat) (h : k ≤ ns.length) : cutV (ns.map V.int) none (some (k : Int)) = (ns.take k).map V.int := by
  unfold cutV
  rw [HT.sIx_none, HT.sIx_nat, List.length_map, Nat.min_eq_left h]
  simp [List.map_take]
theorem cut_from (ns : List Int) (k : Nat) (h : k ≤ ns.length) : cutV (ns.map V.int) (some (k : Int)) none = (ns.drop k).map V.int := by
  unfold cutV
  rw [HT.sIx_none, HT.sIx_nat, List.length_map, Nat.min_eq_left h, List.map_drop, List.take_of_length_le (by rw [List.length_drop, List.length_map]; omega)]
theorem sIx_neg (n d : Nat) (h : 1 ≤ n) : HT.sIx n d (some (-1)) = n - 1 := by
  have := HT.clip_eq (-1) n d
  rw [if_pos (by decide)] at this
  omega
theorem cut_mid (ns : List Int) (k : Nat) (h : k < ns.length) : cutV (ns.map V.int) (some (k : Int)) (some (-1)) = ((ns.drop k).dropLast).map V.int := by
  unfold cutV
  rw [HT.sIx_nat, List.length_map, Nat.min_eq_left (Nat.le_of_lt h), sIx_neg _ _ (by omega), List.dropLast_eq_take, List.map_take, List.map_drop, List.length_drop]
  congr 1; omega
theorem le_line2 {n : Nat} (h : n ≤ 5000) : n ≤ sizeLine := by rw [sizeLine_eq]; omega
noncomputable def Tl (H : Hp) (v : V) : Option (List Int) → Prop
  | none => v = .non
  | some l => ∃ r, v = .ref r ∧ H r = some (.tup (l.map V.int))
section
variable {P : Program} {w : World} {K : PySem.W.Frag} {mg : Str → Option Value} {base : Heap} {f : Addr} {fd : FuncData}
theorem sc_fb : FnScope ["parting", "d", "at"] ["parting", "d"] (defScope (top 4)) := ⟨rfl, rfl, rfl, by decide +kernel, rfl, by decide +kernel, by decide +kernel⟩
noncomputable def sp_fb : Sp := fun vs H Q _ => ∃ (a : Addr) (ns : List Int), vs = [.ref a, .int 1] ∧ H a = some (.tup (ns.map V.int)) ∧ Un ns ∧ ns.length ≤ 1000 ∧ Q (.bl true) H
theorem ok_fb (F : Fun K "falls_by" "falls_by" (top 4) f fd) (m_len : mg "len" = none) (m_range : mg "range" = none) : FnOk P w K mg base CX0 1 f fd ["parting", "d"] sp_fb := by
  refine F.okz sc_fb (fun vs H Q E h => ?_) (fun cdv A outer s H vs Q E hr h => ?_)
  · obtain ⟨a, ns, rfl, _⟩ := h; rfl
  obtain ⟨a, ns, rfl, ha, un, few, q⟩ := h
  have nd := sc_fb.nd
  refine ⟨_, (zss_cons (zs_for PassesOwn.never rfl (zi_range2 rfl m_range (za_cons ze_int (za_cons (zcb_len rfl m_len (za_cons (zn 0) za_nil) rfl rfl) za_nil))) (zg_name (i := 2) nd rfl (Or.inl rfl)) (zss_one (zs_if (zt_cmpP op_ltP (ze_op op_subP (ze_ix ix_P (zn 0) (ze_op op_subP (zn 2) ze_int) (fun _ _ => rfl)) (ze_ix ix_P (zn 0) (zn 2) (fun _ _ => rfl))) (zn 1) (nomark _)) (zss_one (zs_ret ze_bl)) zss_nil)))
      (zss_one (zs_ret ze_bl))), ?_⟩
  refine ⟨_, .inr ha, ?_⟩
  rw [List.length_map]
  refine ⟨1, ns.length, rfl, ⟨by decide, by decide, by omega, by omega⟩, for_range (fun i σ H' => H = H' ∧ ∃ p2, σ = [some (.ref a), some (.int 1), p2]) ⟨rfl, none, rfl⟩ ?_ ?_⟩
  · rintro i σ H' hi ⟨rfl, p2, rfl⟩
    have hi1 : i + 1 < ns.length := by omega
    refine ⟨_, .inr ha, _, atI_of (j := i) (by omega) (at_get (show i < ns.length by omega)), ?_⟩
    refine ⟨_, .inr ha, _, atI_of (j := i + 1) (by omega) (at_get hi1), ?_⟩
    have := List.pairwise_iff_getElem.mp un.fall i (i + 1) (by omega) hi1 (by omega)
    refine iteD (fun c => ?_) (fun _ => ⟨rfl, _, rfl⟩)
    exfalso
    have c' : ns.getD i 0 - ns.getD (i + 1) 0 < 1 := c
    rw [List.getD_eq_getElem?_getD, List.getD_eq_getElem?_getD, List.getElem?_eq_getElem hi1, List.getElem?_eq_getElem (show i < ns.length by omega)] at c'
    simp only [Option.getD_some] at c'
    omega
  · rintro σ H' ⟨rfl, p2, rfl⟩
    exact q
theorem sc_ro : FnScope ["parting", "many"] ["parting"] (defScope (top 6)) := ⟨rfl, rfl, rfl, by decide +kernel, rfl, by decide +kernel, by decide +kernel⟩
noncomputable def sp_ro : Sp := fun vs H Q _ => ∃ (a : Addr) (ns : List Int), vs = [.ref a] ∧ H a = some (.tup (ns.map V.int)) ∧ ns ≠ [] ∧ Q (.int (rn ns)) H
theorem ok_ro (F : Fun K "run_of" "run_of" (top 6) f fd) (m_len : mg "len" = none) : FnOk P w K mg base CX0 1 f fd ["parting"] sp_ro := by
  refine F.okz sc_ro (fun vs H Q E h => ?_) (fun cdv A outer s H vs Q E hr h => ?_)
  · obtain ⟨a, ns, rfl, _⟩ := h; rfl
  obtain ⟨a, ns, rfl, ha, ne, q⟩ := h
  have nd := sc_ro.nd
  have hu := hr.units
  have rl := rn_le ns
  refine ⟨_, (zss_cons (zs_set (i := 1) nd rfl (Or.inl rfl) ze_int)
      (zss_cons (zs_while PassesOwn.never (ZW.zt (zw_and (zt_cmpP op_ltP (zn 1) (zcb_len rfl m_len (za_cons (zn 0) za_nil) rfl rfl) (nomark _)) (zw_and1 (zt_cmpP (op_eqD hu) (ze_op op_subP (ze_ix ix_P (zn 0) (ze_op op_subP (zn 1) ze_int) (fun _ _ => rfl)) (ze_ix ix_P (zn 0) (zn 1) (fun _ _ => rfl))) ze_int (nomark _))))) (zss_one (zs_aug (i := 1) nd rfl (Or.inl rfl) ze_int ip_addP)))
      (zss_one (zs_ret (zn 1))))), ?_⟩
  refine while_by2 (fun m σ H' => H' = H ∧ ∃ k : Nat, 1 ≤ k ∧ k ≤ rn ns ∧ m = ns.length - k ∧ σ = [some (.ref a), some (.int (k : Int))]) (ns.length - 1) ⟨rfl, 1, Nat.le_refl _, rn_pos ne, rfl, rfl⟩ ?_
  rintro m σ H' ⟨rfl, k, k1, k2, rfl, rfl⟩
  refine ⟨_, .inr ha, ?_⟩
  rw [List.length_map]
  refine iteD (fun c => ?_) (fun c => ?_)
  · have c : (k : Int) < (ns.length : Int) := c
    have kl : k < ns.length := by omega
    refine ⟨_, .inr ha, _, atI_of (j := k - 1) (by omega) (at_get (by omega)), ?_⟩
    refine ⟨_, .inr ha, _, atI_of (j := k) (by omega) (at_get kl), ?_⟩
    refine iteD (fun c2 => ?_) (fun c2 => ?_)
    · have c2 : ns.getD (k - 1) 0 - ns.getD k 0 = 1 := by simpa using c2
      have up := rn_step k1 k2 kl c2
      refine ⟨fun σ' Hx => Hx = H' ∧ σ' = [some (.ref a), some (.int ((k + 1 : Nat) : Int))], fun σ' Hx ⟨e1, e2⟩ => ⟨ns.length - (k + 1), by omega, e1, k + 1, by omega, up, rfl, e2⟩, ?_⟩
      exact ⟨.int (k : Int), rfl, rfl, by rw [show ((k + 1 : Nat) : Int) = (k : Int) + 1 by omega]; rfl⟩
    · have c2 : ns.getD (k - 1) 0 - ns.getD k 0 ≠ 1 := by simpa using c2
      have e := rn_stop k1 k2 (fun _ => c2)
      show Q (.int (k : Int)) H'
      rw [e]; exact q
  · have c : ¬ (k : Int) < (ns.length : Int) := c
    have e := rn_stop k1 k2 (fun h => absurd h (by omega))
    show Q (.int (k : Int)) H'
    rw [e]; exact q
theorem sc_em : FnScope ["parts", "step"] ["parts", "step"] (defScope (top 7)) := ⟨rfl, rfl, rfl, by decide +kernel, rfl, by decide +kernel, by decide +kernel⟩
noncomputable def sp_em : Sp := fun vs H Q _ => ∃ (a : Addr) (ns : List Int) (c : Int), vs = [.ref a, .int c] ∧ H a = some (.tup (ns.map V.int)) ∧ ns.length ≤ 1000 ∧ ∀ r H', Same H H' → H' r = some (.tup ((ns.map (· + c)).map V.int)) → Q (.ref r) H'
theorem ok_em (F : Fun K "each_moved" "each_moved" (top 7) f fd) (m_tuple : mg "tuple" = none) : FnOk P w K mg base CX0 1 f fd ["parts", "step"] sp_em := by
  refine F.okz sc_em (fun vs H Q E h => ?_) (fun cdv A outer s H vs Q E hr h => ?_)
  · obtain ⟨a, ns, c, rfl, _⟩ := h; rfl
  obtain ⟨a, ns, c, rfl, ha, few, q⟩ := h
  have nd := sc_em.nd
  refine ⟨_, (zss_one (zs_ret (zcb_tuple rfl m_tuple (za_cons (ze_comp ["part"] [("step", 1)] rfl ⟨rfl, by decide +kernel, by decide +kernel, rfl, rfl⟩ (zi_tup (zn 0)) kpg_name (fun _ _ _ _ => zg_name (i := 0) (show List.Nodup (["part", "step"] : List Str) by decide +kernel) rfl (Or.inl rfl)) (fun _ _ _ _ => zif_nil) (fun _ _ _ _ => (ze_op op_addP (zn 0) (zn 1)))) za_nil) rfl rfl))), ?_⟩
  refine ⟨a, rfl, ⟨_, SqT.of ha⟩, cmp_tup (xs := ns.map V.int) (fun i ys H' => H' = H ∧ i ≤ ns.length ∧ ys = ((ns.take i).map (· + c)).map V.int) ⟨rfl, Nat.zero_le _, rfl⟩ ?_ ?_ ?_⟩
  · rintro i ys H' _ ⟨rfl, _⟩
    exact SqT.of ha
  · rintro i v ys H' hv ⟨rfl, hi, rfl⟩
    rw [List.getElem?_map] at hv
    cases hx : ns[i]? with
    | none => rw [hx] at hv; cases hv
    | some b =>
      rw [hx] at hv
      obtain rfl := Option.some.inj hv
      have hi' := (List.getElem?_eq_some_iff.mp hx).1
      refine ⟨by rw [List.length_map, List.length_map, List.length_take]; exact small1000 (by omega), ?_⟩
      refine ⟨rfl, hi', ?_⟩
      rw [List.take_succ, hx, List.map_append, List.map_append]
      rfl
  · rintro ys H' ⟨rfl, hi, rfl⟩ D hD
    rw [List.length_map, List.take_of_length_le (Nat.le_refl _)]
    refine ⟨_, .inl (SqL.of upd_same), fun r H2 y2 hr2 => ?_⟩
    exact q r H2 ((Same.new hD _).trans y2) hr2
theorem sc_pd : FnScope ["parting", "least", "run", "whole"] ["parting"] (defScope (top 8)) := ⟨rfl, rfl, rfl, by decide +kernel, rfl, by decide +kernel, by decide +kernel⟩
noncomputable def sp_pd : Sp := fun vs H Q _ => ∃ (a : Addr) (ns : List Int), vs = [.ref a] ∧ H a = some (.tup (ns.map V.int)) ∧ Un ns ∧ ns.length ≤ 900 ∧ ∀ v H', Same H H' → Tl H' v (pf ns) → Q v H'
theorem ok_pd (F : Fun K "paired" "paired" (top 8) f fd) (m_len : mg "len" = none) (F_each_moved : FnA P w K mg base "each_moved" 1 ["parts", "step"] sp_em) (F_falls_by : FnA P w K mg base "falls_by" 1 ["parting", "d"] sp_fb) (F_run_of : FnA P w K mg base "run_of" 1 ["parting"] sp_ro) : FnOk P w K mg base CX0 2 f fd ["parting"] sp_pd := by
  refine F.okz sc_pd (fun vs H Q E h => ?_) (fun cdv A outer s H vs Q E hr h => ?_)
  · obtain ⟨a, ns, rfl, _⟩ := h; rfl
  obtain ⟨a, ns, rfl, ha, un, few, q⟩ := h
  have nd := sc_pd.nd
  have hu := hr.units
  have rl := rn_le ns
  refine ⟨_, (zss_cons (zs_if (zt_not (zt_valP (ze_fn F_falls_by hr (by decide) rfl (za_cons (zn 0) (za_cons ze_int za_nil))))) (zss_one zs_no) zss_nil)
      (zss_cons (zs_if (zt_cmpP (op_eqD hu) (zcb_len rfl m_len (za_cons (zn 0) za_nil) rfl rfl) ze_int (nomark _)) (zss_one (zs_ret ze_non)) zss_nil)
      (zss_cons (zs_set (i := 1) nd rfl (Or.inl rfl) (ze_ix ix_P (zn 0) (ze_un un_neg ze_int) (fun _ _ => rfl)))
      (zss_cons (zs_set (i := 2) nd rfl (Or.inl rfl) (ze_fn F_run_of hr (by decide) rfl (za_cons (zn 0) za_nil)))
      (zss_cons (zs_set (i := 3) nd rfl (Or.inl rfl) (ze_cmpR (op_eqD hu) (zn 2) (zcb_len rfl m_len (za_cons (zn 0) za_nil) rfl rfl) (nomark _)))
      (zss_cons (zs_if (zt_cmpP op_leP (zn 1) (zn 2) (nomark _)) (zss_cons (zs_if (ZW.zt (zw_and (zt_valP (zn 3)) (zw_and1 (zt_cmpP (op_eqD hu) (zn 1) (zn 2) (nomark _))))) (zss_one (zs_ret ze_non)) zss_nil)
      (zss_one (zs_ret (ze_op op_addP (ze_fn F_each_moved hr (by decide) rfl (za_cons (ze_slice sl_P (zn 0) zo_none (zo_some (zn 1))) (za_cons ze_int za_nil))) (ze_slice sl_P (zn 0) (zo_some (zn 1)) (zo_some (ze_un un_neg ze_int))))))) zss_nil)
      (zss_cons (zs_if (ZW.zt (zw_and (zt_valP (zn 3)) (zw_and1 (zt_cmpP (op_eqD hu) (zn 1) (ze_op op_addP (zn 2) ze_int) (nomark _))))) (zss_one (zs_ret ze_non)) zss_nil)
      (zss_one (zs_ret (ze_op op_addP (ze_op op_addP (ze_fn F_each_moved hr (by decide) rfl (za_cons (ze_slice sl_P (zn 0) zo_none (zo_some (zn 2))) (za_cons (ze_un un_neg ze_int) za_nil))) (ze_slice sl_P (zn 0) (zo_some (zn 2)) zo_none)) (ze_tup (za_cons (zn 2) za_nil)))))))))))), ?_⟩
  refine ⟨a, ns, rfl, ha, un, by omega, ?_⟩
  refine ⟨_, .inr ha, ?_⟩
  rw [List.length_map]
  unfold pf at q
  refine iteD (fun c => ?_) (fun c => ?_)
  · have n0 : ns = [] := List.length_eq_zero_iff.mp (by have : (ns.length : Int) = 0 := by simpa using c
                                                        omega)
    rw [if_pos n0] at q
    exact q _ H (Same.refl _) rfl
  have ne : ns ≠ [] := fun z => c (by rw [z]; simp)
  rw [if_neg ne] at q
  have l1 := un.lst1 ne
  have lp : 0 < ns.length := List.length_pos_iff.mpr ne
  refine ⟨1, rfl, _, .inr ha, .int (lst ns), ?_, ?_⟩
  · obtain ⟨z, ez⟩ := split_last ne
    have : ns.map V.int = z.map V.int ++ [.int (lst ns)] := by conv => lhs; rw [ez]
                                                               rw [List.map_append]; rfl
    rw [this]
    exact atI_last _ _
  refine ⟨a, ns, rfl, ha, ne, ?_⟩
  refine ⟨_, .inr ha, ?_⟩
  rw [List.length_map]
  have r1 := rn_pos ne
  obtain ⟨l, el⟩ : ∃ l : Nat, lst ns = (l : Int) := ⟨(lst ns).toNat, by omega⟩
  rw [el] at q l1 ⊢
  rw [Int.toNat_natCast] at q
  refine iteD (fun c1 => ?_) (fun c1 => ?_)
  · have c1 : (l : Int) ≤ (rn ns : Int) := c1
    rw [if_pos c1] at q
    refine iteD (fun c2 => ?a) (fun c2 => ?b)
    case' a =>
      have c2 : (rn ns : Int) = (ns.length : Int) := by simpa using c2
      refine iteD (fun c3 => ?_) (fun c3 => ?_)
      · have c3 : (l : Int) = (rn ns : Int) := by simpa using c3
        rw [if_pos ⟨by omega, c3⟩] at q
        exact q _ H (Same.refl _) rfl
      have g : ¬ (rn ns = ns.length ∧ (l : Int) = (rn ns : Int)) := fun z => c3 (by rw [z.2])
    case' b =>
      have g : ¬ (rn ns = ns.length ∧ (l : Int) = (rn ns : Int)) := fun z => c2 (by simp [z.1])
    all_goals
      rw [if_neg g] at q
      have ll : l < ns.length := by
        by_cases e : rn ns = ns.length
        · have : (l : Int) ≠ (rn ns : Int) := fun z => g ⟨e, z⟩
          omega
        · omega
      refine ⟨(l : Int), rfl, a, rfl, .inl ⟨_, ha, fun r3 H3 y3 hr3 => ?_⟩⟩
      rw [cut_to ns l (by omega)] at hr3
      refine ⟨r3, _, 1, rfl, hr3, by rw [List.length_take]; omega, fun r4 H4 y4 hr4 => ?_⟩
      have ha4 := y4 _ _ (y3 _ _ ha)
      refine ⟨(l : Int), rfl, 1, rfl, -1, rfl, a, rfl, .inl ⟨_, ha4, fun r5 H5 y5 hr5 => ?_⟩⟩
      rw [cut_mid ns l ll] at hr5
      have ln : (ns.take l).length ≤ 900 := by rw [List.length_take]; omega
      have ln2 : ((ns.drop l).dropLast).length ≤ 900 := by rw [List.length_dropLast, List.length_drop]; omega
      refine .inr ⟨_, _, y5 _ _ hr4, hr5, le_line2 (by rw [List.length_map, List.length_map, List.length_map]; omega), fun r6 H6 y6 hr6 => ?_⟩
      exact q _ H6 ((y3.trans y4).trans (y5.trans y6)) ⟨r6, rfl, by rw [hr6, List.map_append]⟩
  · have c1 : ¬ (l : Int) ≤ (rn ns : Int) := c1
    rw [if_neg c1] at q
    refine iteD (fun c2 => ?a2) (fun c2 => ?b2)
    case' a2 =>
      have c2 : (rn ns : Int) = (ns.length : Int) := by simpa using c2
      refine iteD (fun c3 => ?_) (fun c3 => ?_)
      · have c3 : (l : Int) = (rn ns : Int) + 1 := by simpa using c3
        rw [if_pos ⟨by omega, c3⟩] at q
        exact q _ H (Same.refl _) rfl
      have g : ¬ (rn ns = ns.length ∧ (l : Int) = (rn ns : Int) + 1) := fun z => c3 (by rw [z.2])
    case' b2 =>
      have g : ¬ (rn ns = ns.length ∧ (l : Int) = (rn ns : Int) + 1) := fun z => c2 (by simp [z.1])
    all_goals
      rw [if_neg g] at q
      refine ⟨(rn ns : Int), rfl, a, rfl, .inl ⟨_, ha, fun r3 H3 y3 hr3 => ?_⟩⟩
      rw [cut_to ns (rn ns) rl] at hr3
      refine ⟨1, rfl, r3, _, -1, rfl, hr3, by rw [List.length_take]; omega, fun r4 H4 y4 hr4 => ?_⟩
      have ha4 := y4 _ _ (y3 _ _ ha)
      refine ⟨(rn ns : Int), rfl, a, rfl, .inl ⟨_, ha4, fun r5 H5 y5 hr5 => ?_⟩⟩
      rw [cut_from ns (rn ns) rl] at hr5
      have ln : (ns.take (rn ns)).length ≤ 900 := by rw [List.length_take]; omega
      have ln2 : (ns.drop (rn ns)).length ≤ 900 := by rw [List.length_drop]; omega
      refine .inr ⟨_, _, y5 _ _ hr4, hr5, le_line2 (by rw [List.length_map, List.length_map, List.length_map]; omega), fun r6 H6 y6 hr6 => ?_⟩
      refine ⟨by show 1 ≤ sizeLine; decide, fun d hd => ?_⟩
      have yd := Same.new hd (.tup [V.int (rn ns : Int)])
      have gd : upd H6 d (.tup [V.int (rn ns : Int)]) d = some (.tup [V.int (rn ns : Int)]) := upd_same
      have hr6 := yd _ _ hr6
      generalize upd H6 d (.tup [V.int (rn ns : Int)]) = H7 at yd gd hr6
      refine .inr ⟨_, _, hr6, gd, le_line2 (by rw [List.length_append, List.length_map, List.length_map, List.length_map]; show _ + 1 ≤ 5000; omega), fun r8 H8 y8 hr8 => ?_⟩
      exact q _ H8 (((y3.trans y4).trans (y5.trans y6)).trans (yd.trans y8)) ⟨r8, rfl, by rw [hr8, List.map_append, List.map_append]; rfl⟩
end
end K60
set_option Elab.async false
set_option linter.all false
set_option maxRecDepth 100000
set_option maxHeartbeats 4000000
namespace L2
open PySem PySem.Spec PyProof.Rows
section
variable {X : Cx}
noncomputable def rSetN : List V → Hp → VK → Prop := fun vs H Q => match vs with
  | [.ref l] => ∃ ns : List Int, SqE H l (ns.map V.int) ∧ ns.length ≤ 4000 ∧ ns.Nodup ∧ ∀ p, H p = none → Q (.ref p) (upd H p (.ext fun h => STB.HasN h p ns.length))
  | _ => False
theorem call_setN (hc : X.calm = true) : CallR X (.type "set") rSetN := by
  intro pins s σ H xs us Q I r h
  unfold rSetN at h
  split at h
  · rename_i l
    obtain ⟨ns, hl, hn, nd, q⟩ := h
    obtain ⟨u, rfl, rx⟩ := vals1 r
    cases rx
    have fin : ∀ (h2 : Heap) (k2 : Nat), STB.HasI X.w h2 s.heap.objs.size (· ∈ ns) → (∀ b o, b < s.heap.objs.size → s.heap.get? b = some o → h2.get? b = some o) → EP X pins σ Q (.ref s.heap.objs.size) { s with heap := h2, toks := k2 } := fun h2 k2 hS hk => by
      have hS : STB.HasN h2 s.heap.objs.size ns.length := by
        obtain ⟨vs, ms, hv, hi, nd2, mem, _⟩ := hS
        refine hv.n ?_
        rw [IntsAre.length hi]
        exact ((List.perm_ext_iff_of_nodup nd2 nd).mpr mem).length_eq
      have I2 : Inv X pins σ (upd H s.heap.objs.size (.ext fun h => STB.HasN h s.heap.objs.size ns.length)) { s with heap := h2, toks := k2 } :=
        I.laid (t' := k2) (fun b o e => hk b o (Heap.lt_size e) e) (Nat.le_refl _) (show ObjOk X.prog X.w _ _ _ (.ext fun h => STB.HasN h s.heap.objs.size ns.length) from ⟨hS, by obtain ⟨o, _, _, _, e, _⟩ := hS; exact ⟨o, e⟩, fun h1 h3 ⟨o, es, ep, t, e, r⟩ k => ⟨o, es, ep, t, k o e, r⟩⟩)
      exact ⟨.ref s.heap.objs.size, _, I2, rfl, q _ (I.hok.fresh (Nat.le_refl _))⟩
    rcases hl with hl | hl
    · obtain ⟨its, n, r', ho, hz⟩ := I.lst hl
      have il := intsAre_of r'
      have hlen : its.length = ns.length := by have := r'.length; rw [List.length_map] at this; exact this.symm
      exact STB.set_from_list (its := its.toArray) (I.ok.hd hc) ⟨_, ho, rfl, n, rfl⟩ (STB.lp_int (ns := ns) (by simpa using il) (by rw [List.size_toArray, hlen]; exact hn)) fin
    · obtain ⟨ts, rv, pl, _⟩ := I.tuple (SqT.of (K := X.K) hl)
      have il := intsAre_of rv
      have hlen : ts.length = ns.length := by have := rv.length; rw [List.length_map] at this; exact this.symm
      exact STB.set_from_tup (its := ts.toArray) (I.ok.hd hc) pl (STB.lp_int (ns := ns) (by simpa using il) (by rw [List.size_toArray, hlen]; exact hn)) fin
  · exact h.elim
variable {e : Expr} {es : List Expr} {t : TA} {p pos : Pos}
theorem pcb_setN (hc : X.calm = true) (hg : Gl X "set") (hm : X.mg "set" = none) (ha : PA X (e :: es) t) (he : starEach (e :: es) X.env = (false, eval e X.env) :: starEach es X.env) (hpl : (backTo pos (starEach es X.env)).any (·.1) = false) :
    PE X (.Call (.Name "set" p) (e :: es) [] pos) (tCB rSetN t) := pe_callTy (call_setN hc) hg hm boot_set ha (by decide) (by decide) he hpl
theorem zcb_setN (hc : X.calm = true) (hg : Gl X "set") (hm : X.mg "set" = none) (ha : ZA X (e :: es) t) (he : starEach (e :: es) X.env = (false, eval e X.env) :: starEach es X.env) (hpl : (backTo pos (starEach es X.env)).any (·.1) = false) :
    ZE X (.Call (.Name "set" p) (e :: es) [] pos) (tCB rSetN t) := by with_unfolding_all exact pcb_setN hc hg hm ha he hpl
end
end L2
set_option Elab.async false
set_option linter.all false
set_option maxRecDepth 100000
set_option maxHeartbeats 4000000
namespace L2
open PySem PySem.Spec PyProof.Rows
end L2
set_option Elab.async false
set_option linter.all false
set_option maxRecDepth 100000
set_option maxHeartbeats 4000000
namespace K60
open PySem L2 M60
noncomputable def stairs (m l : Nat) : List Int := (List.range m).map fun (k : Nat) => (l : Int) + (m : Int) - 1 - (0 + (k : Int))
theorem stairs_len (m l : Nat) : (stairs m l).length = m := by unfold stairs; rw [List.length_map, List.length_range]
theorem stairs_un {m l : Nat} (h : 1 ≤ l) : Un (stairs m l) := by
  refine ⟨?_, fun n hn => ?_⟩
  · unfold stairs
    rw [List.pairwise_map]
    exact List.pairwise_lt_range.imp fun {a b} h => by show (l : Int) + (m : Int) - 1 - (0 + (a : Int)) > (l : Int) + (m : Int) - 1 - (0 + (b : Int)); omega
  · obtain ⟨k, hk, rfl⟩ := List.mem_map.mp hn
    have := List.mem_range.mp hk
    omega
theorem stairs_le {m l : Nat} : ∀ n ∈ stairs m l, n ≤ (l : Int) + (m : Int) := fun n hn => by
  obtain ⟨k, hk, rfl⟩ := List.mem_map.mp hn
  omega
theorem _root_.M60.Un.nd {x : List Int} (h : Un x) : x.Nodup := h.fall.imp fun {a b} g => by intro e; subst e; exact absurd g (Int.lt_irrefl _)
theorem _root_.M60.Un.ge {x : List Int} (h : Un x) : x.Pairwise (· ≥ ·) := h.fall.imp fun {a b} g => by show b ≤ a; have : a > b := g; omega
theorem un_of {x : List Int} (hp : x.Pairwise (· ≥ ·)) (nd : x.Nodup) (h1 : ∀ n ∈ x, (1 : Int) ≤ n) : Un x := by
  refine ⟨?_, h1⟩
  have := hp.and nd
  exact this.imp fun {a b} g => by
    have h1 : a ≥ b := g.1
    have h2 : a ≠ b := g.2
    show a > b
    omega
theorem Step.fresh {a b : Addr} {n : Nat} {H H1 : Hp} (x : Step a n H H1) (h : H1 b = none) : H b = none := by
  cases e : H b with
  | none => rfl
  | some o => exact absurd (x.1 b o (x.2.ne h) e) (by rw [h]; intro z; cases z)
theorem sub_len : ∀ {ns ms : List Int}, ns.Nodup → (∀ x ∈ ns, x ∈ ms) → ns.length ≤ ms.length
  | [], _, _, _ => Nat.zero_le _
  | a :: r, ms, nn, h => by
    obtain ⟨h1, h2⟩ := List.nodup_cons.mp nn
    have := sub_len (ns := r) (ms := ms.erase a) h2 fun x hx => (List.mem_erase_of_ne (fun (z : x = a) => h1 (z ▸ hx))).mpr (h x (List.mem_cons_of_mem _ hx))
    have ha := h a List.mem_cons_self
    rw [List.length_erase_of_mem ha] at this
    have := List.length_pos_of_mem ha
    rw [List.length_cons]; omega
theorem le_sumI : ∀ {ms : List Int}, (∀ x ∈ ms, (1 : Int) ≤ x) → ∀ x ∈ ms, x ≤ ms.sum
  | [], _, x, hx => nomatch hx
  | a :: r, h, x, hx => by
    have hr : ∀ x ∈ r, (1 : Int) ≤ x := fun y hy => h y (List.mem_cons_of_mem _ hy)
    have s0 : 0 ≤ r.sum := by
      cases r with
      | nil => exact Int.le_refl _
      | cons b r => have := le_sumI hr b List.mem_cons_self; have := hr b List.mem_cons_self; omega
    have := h a List.mem_cons_self
    rw [List.sum_cons]
    rcases List.mem_cons.mp hx with z | z
    · rw [z]; omega
    · have := le_sumI hr x z; omega
structure Ul (x : List Int) : Prop where
  un : Un x
  len : x.length ≤ 290
  le : ∀ n ∈ x, n ≤ 1000
section
variable {P : Program} {w : World} {K : PySem.W.Frag} {mg : Str → Option Value} {base : Heap} {f : Addr} {fd : FuncData}
theorem sc_st : FnScope ["_law_hand_here", "_law_way", "_law_many", "_law_least"] ["_law_hand_here"] (defScope (top 16)) := ⟨rfl, rfl, rfl, by decide +kernel, rfl, by decide +kernel, by decide +kernel⟩
noncomputable def sp_st : Sp := fun vs H Q _ => ∃ (p : Addr) (n : Nat), vs = [.ref p] ∧ Hand H p n ∧ n < 10000000 ∧ ∀ r (m l : Nat) H', Step p (n + 3) H H' → H' r = some (.lst ((stairs m l).map V.int)) → H r = none → 1 ≤ m → m ≤ 13 → 1 ≤ l → l ≤ 20 → Q (.ref r) H'
theorem ok_st (F : Fun K "_law_stairs" "_law_stairs" (top 16) f fd) (m_range : mg "range" = none) (F_law_take : FnA P w K mg base "_law_take" 1 ["_law_hand_here", "_law_many"] sp_take) : FnOk P w K mg base CX0 2 f fd ["_law_hand_here"] sp_st := by
  refine F.okz sc_st (fun vs H Q E h => ?_) (fun cdv A outer s H vs Q E hr h => ?_)
  · obtain ⟨p, n, rfl, _⟩ := h; rfl
  obtain ⟨p, n, rfl, hh, hn, q⟩ := h
  have nd := sc_st.nd
  have hu := hr.units
  have rest : ∃ t2, ZSs (cxOf CX0 P w K mg base ["_law_hand_here", "_law_way", "_law_many", "_law_least"] "_law_stairs" (defScope (top 16)) f cdv A outer s H E).nox ((defBody (top 16)).drop 3) t2 ∧
      ∀ (way : Int) (m l : Nat) (H5 : Hp), Step p (n + 3) H H5 → 1 ≤ m → m ≤ 13 → 1 ≤ l → l ≤ 20 → t2 { nx := fun _ H' => Q .non H', rt := Q } [some (.ref p), some (.int way), some (.int (m : Int)), some (.int (l : Int))] H5 := by
    refine ⟨_, (zss_one (zs_ret (ze_comp ["_law_k"] [("_law_least", 3), ("_law_many", 2)] rfl ⟨rfl, by decide +kernel, by decide +kernel, rfl, rfl⟩ (zi_range1 rfl m_range (za_cons (zn 2) za_nil)) kpg_name (fun _ _ _ _ => zg_name (i := 0) (show List.Nodup (["_law_k", "_law_least", "_law_many"] : List Str) by decide +kernel) rfl (Or.inl rfl)) (fun _ _ _ _ => zif_nil) (fun _ _ _ _ => (ze_op op_subP (ze_op op_subP (ze_op op_addP (zn 1) (zn 2)) ze_int) (zn 0)))))), ?_⟩
    intro way m l H5 st5 m1 m2 l1 l2
    refine ⟨(m : Int), rfl, by omega, by omega, ?_⟩
    rw [Int.toNat_natCast]
    refine cmp_range (fun i ys H' => H' = H5 ∧ i ≤ m ∧ ys = ((List.range i).map fun (k : Nat) => V.int ((l : Int) + (m : Int) - 1 - (0 + (k : Int))))) ⟨rfl, Nat.zero_le _, rfl⟩ ?_ ?_
    · rintro i ys H' hi ⟨rfl, _, rfl⟩
      refine ⟨by rw [List.length_map, List.length_range]; exact small1000 (by omega), ?_⟩
      refine ⟨rfl, hi, ?_⟩
      rw [List.range_succ, List.map_append]
      rfl
    · rintro ys H' ⟨rfl, _, rfl⟩ D hD
      have es : ((List.range m).map fun (k : Nat) => V.int ((l : Int) + (m : Int) - 1 - (0 + (k : Int)))) = (stairs m l).map V.int := by unfold stairs; rw [List.map_map]; rfl
      rw [es]
      exact q D m l _ (st5.same (Same.new hD _)) upd_same (st5.fresh hD) m1 m2 l1 l2
  obtain ⟨t2, ht2, rest⟩ := rest
  refine ⟨_, (zss_cons (zs_asg (ze_tup (za_cons (ze_fn F_law_take hr (by decide) rfl (za_cons (zn 0) (za_cons ze_int za_nil))) (za_cons (ze_op op_addP ze_int (ze_fn F_law_take hr (by decide) rfl (za_cons (zn 0) (za_cons ze_int za_nil)))) za_nil))) (zg_tup rfl (zgs_cons (zg_name (i := 1) nd rfl (Or.inl rfl)) (zgs_cons (zg_name (i := 2) nd rfl (Or.inr rfl)) zgs_nil))))
      (zss_cons (zs_set (i := 3) nd rfl (Or.inr rfl) (ze_ix ix_P (ze_lst (za_cons (zn 2) (za_cons (ze_op op_addP (zn 2) ze_int) (za_cons (ze_op op_addP ze_int (ze_fn F_law_take hr (by decide) rfl (za_cons (zn 0) (za_cons ze_int za_nil)))) (za_cons (ze_op op_subP (zn 2) ze_int) (za_cons (ze_op op_addP (zn 2) ze_int) za_nil)))))) (zn 1) (fun _ _ => rfl)))
      (zss_cons (zs_if (ZW.zt (zw_or (zt_cmpP op_ltP (zn 3) ze_int (nomark _)) (zw_or1 (zt_cmpP op_gtP (ze_op op_fdivP (ze_op op_mulQ (zn 2) (ze_op op_subP (ze_op op_addP (ze_op op_mulQ ze_int (zn 3)) (zn 2)) ze_int)) ze_int) ze_int (nomark _))))) (zss_one (zs_set (i := 3) nd rfl (Or.inr rfl) ze_int)) zss_nil)
      ht2))), ?_⟩
  refine ⟨p, 5, n, rfl, hh, by omega, by decide, by decide, fun way H1 w0 w1 st1 => ?_⟩
  refine ⟨p, 13, n + 1, rfl, st1.2, by omega, by decide, by decide, fun mr H2 m0 m1 st2 => ?_⟩
  have st2 := st1.trans st2
  refine ⟨by show 2 ≤ sizeLine; decide, fun d hd => ?_⟩
  obtain ⟨m, em⟩ : ∃ m : Nat, 1 + mr = (m : Int) := ⟨(1 + mr).toNat, by omega⟩
  rw [em]
  have yd := Same.new hd (.tup [V.int way, .int (m : Int)])
  have gd : upd H2 d (.tup [V.int way, .int (m : Int)]) d = some (.tup [V.int way, .int (m : Int)]) := upd_same
  have st3 := st2.same yd
  generalize upd H2 d (.tup [V.int way, .int (m : Int)]) = H3 at gd st3
  refine ⟨d, _, rfl, SqT.of gd, rfl, _, _, rfl, _, _, rfl, rfl, ?_⟩
  refine ⟨p, 8, n + 1 + 1, rfl, st3.2, by omega, by decide, by decide, fun b H4 b0 b1 st4 => ?_⟩
  have st4 := st3.trans st4
  refine ⟨by show 5 ≤ sizeLine; decide, fun L hL => ?_⟩
  have yL := Same.new hL (.lst [V.int (m : Int), .int ((m : Int) + 1), .int (1 + b), .int ((m : Int) - 1), .int ((m : Int) + 2)])
  have gL : upd H4 L (.lst [V.int (m : Int), .int ((m : Int) + 1), .int (1 + b), .int ((m : Int) - 1), .int ((m : Int) + 2)]) L = some (.lst [V.int (m : Int), .int ((m : Int) + 1), .int (1 + b), .int ((m : Int) - 1), .int ((m : Int) + 2)]) := upd_same
  have st5 := st4.same yL
  generalize upd H4 L (.lst [V.int (m : Int), .int ((m : Int) + 1), .int (1 + b), .int ((m : Int) - 1), .int ((m : Int) + 2)]) = H5 at gL st5
  obtain ⟨le, ele, le0, le1⟩ : ∃ le : Int, atI [V.int (m : Int), .int ((m : Int) + 1), .int (1 + b), .int ((m : Int) - 1), .int ((m : Int) + 2)] way = some (.int le) ∧ 0 ≤ le ∧ le ≤ 20 := by
    have : way = 0 ∨ way = 1 ∨ way = 2 ∨ way = 3 ∨ way = 4 := by omega
    rcases this with rfl | rfl | rfl | rfl | rfl
    · exact ⟨_, rfl, by omega, by omega⟩
    · exact ⟨_, rfl, by omega, by omega⟩
    · exact ⟨_, rfl, by omega, by omega⟩
    · exact ⟨_, rfl, by omega, by omega⟩
    · exact ⟨_, rfl, by omega, by omega⟩
  refine ⟨_, .inl (SqL.of gL), .int le, ele, ?_⟩
  have st6 : Step p (n + 3) H H5 := st5.mono (by omega)
  refine iteD (fun c => ?_) (fun c => ?_)
  · exact rest way m 1 H5 st6 (by omega) (by omega) (by decide) (by decide)
  have c : ¬ le < 1 := c
  obtain ⟨l, rfl⟩ : ∃ l : Nat, le = (l : Int) := ⟨le.toNat, by omega⟩
  refine ⟨mulL (by decide) (by decide), ?_⟩
  refine ⟨mulL (by omega) (by omega), ?_⟩
  refine ⟨⟨by decide, by decide⟩, ?_⟩
  refine iteD (fun c2 => ?_) (fun c2 => ?_)
  · exact rest way m 1 H5 st6 (by omega) (by omega) (by decide) (by decide)
  · exact rest way m l H5 st6 (by omega) (by omega) (by omega) (by omega)
theorem sc_ul : FnScope ["_law_hand_here", "_law_way", "_law_parts", "_law_add"] ["_law_hand_here"] (defScope (top 17)) := ⟨rfl, rfl, rfl, by decide +kernel, rfl, by decide +kernel, by decide +kernel⟩
noncomputable def sp_ul : Sp := fun vs H Q _ => ∃ (p : Addr) (n : Nat), vs = [.ref p] ∧ Hand H p n ∧ n < 1000000 ∧ ∀ r (ms : List Int) H', Step p (n + 600) H H' → H' r = some (.tup (ms.map V.int)) → Ul ms → Q (.ref r) H'
theorem ok_ul (F : Fun K "_law_unlike" "_law_unlike" (top 17) f fd) (m_int : mg "int" = none) (m_set : mg "set" = none) (m_sorted : mg "sorted" = none) (m_sum : mg "sum" = none) (F_law_drawn : FnA P w K mg base "_law_drawn" 2 ["_law_hand_here", "_law_heavy"] sp_dr) (F_law_falling : FnA P w K mg base "_law_falling" 1 ["_law_parts"] sp_fall) (F_law_stairs : FnA P w K mg base "_law_stairs" 2 ["_law_hand_here"] sp_st) (F_law_take : FnA P w K mg base "_law_take" 1 ["_law_hand_here", "_law_many"] sp_take) : FnOk P w K mg base CX0 3 f fd ["_law_hand_here"] sp_ul := by
  refine F.okz sc_ul (fun vs H Q E h => ?_) (fun cdv A outer s H vs Q E hr h => ?_)
  · obtain ⟨p, n, rfl, _⟩ := h; rfl
  obtain ⟨p, n, rfl, hh, hn, q⟩ := h
  have nd := sc_ul.nd
  have hu := hr.units
  have rest : ∃ t2, ZSs (cxOf CX0 P w K mg base ["_law_hand_here", "_law_way", "_law_parts", "_law_add"] "_law_unlike" (defScope (top 17)) f cdv A outer s H E).nox ((defBody (top 17)).drop 5) t2 ∧
      ∀ (way ad : Int) (r : Addr) (ns : List Int) (H5 : Hp), Step p (n + 600) H H5 → H5 r = some (.lst (ns.map V.int)) → ns.Nodup → (∀ k ∈ ns, (1 : Int) ≤ k ∧ k ≤ 1000) → ns.length ≤ 290 → t2 { nx := fun _ H' => Q .non H', rt := Q } [some (.ref p), some (.int way), some (.ref r), some (.int ad)] H5 := by
    refine ⟨_, (zss_one (zs_ret (ze_fn F_law_falling hr (by decide) rfl (za_cons (zn 2) za_nil)))), ?_⟩
    intro way ad r ns H5 st5 hr5 nn hb hl
    refine ⟨r, ns, rfl, .inl hr5, fun t ms H6 y6 pm pw ht => ?_⟩
    refine q t ms H6 (st5.same y6) ht ⟨un_of pw (pm.nodup_iff.mpr nn) fun k hk => (hb k (pm.mem_iff.mp hk)).1, by rw [pm.length_eq]; exact hl, fun k hk => (hb k (pm.mem_iff.mp hk)).2⟩
  obtain ⟨t2, ht2, rest⟩ := rest
  refine ⟨_, (zss_cons (zs_set (i := 1) nd rfl (Or.inl rfl) (ze_fn F_law_take hr (by decide) rfl (za_cons (zn 0) (za_cons ze_int za_nil))))
      (zss_cons (zs_par (i := 2) (j := 3) rfl nd rfl rfl (by decide) rfl rfl (za_cons (ze_fn F_law_stairs hr (by decide) rfl (za_cons (zn 0) za_nil)) (za_cons (ze_op op_addP ze_int (ze_fn F_law_take hr (by decide) rfl (za_cons (zn 0) (za_cons ze_int za_nil)))) za_nil)) rfl)
      (zss_cons (zs_if (ZW.zt (zw_and (zt_cmpP (op_eqD hu) (zn 1) ze_int (nomark _)) (zw_and1 (zt_cmpP op_leP (ze_op op_addP (ze_op op_addP (zcb_sum rfl rfl m_sum (za_cons (zn 2) za_nil) rfl rfl) (ze_ix ix_P (zn 2) ze_int (fun _ _ => rfl))) (zn 3)) ze_int (nomark _))))) (zss_one (zs_set (i := 2) nd rfl (Or.inl rfl) (ze_op op_addP (ze_lst (za_cons (ze_op op_addP (ze_ix ix_P (zn 2) ze_int (fun _ _ => rfl)) (zn 3)) za_nil)) (zn 2)))) zss_nil)
      (zss_cons (zs_if (zt_cmpP (op_eqD hu) (zn 1) ze_int (nomark _)) (zss_one (zs_set (i := 2) nd rfl (Or.inl rfl) (ze_op op_addP (zn 2) (ze_op op_mulQ (ze_lst (za_cons (ze_op op_subP (ze_ix ix_P (zn 2) (ze_un un_neg ze_int) (fun _ _ => rfl)) (zn 3)) za_nil)) (zcb_int rfl m_int (za_cons (ze_cmpR op_gtP (ze_ix ix_P (zn 2) (ze_un un_neg ze_int) (fun _ _ => rfl)) (zn 3) (nomark _)) za_nil) rfl rfl))))) zss_nil)
      (zss_cons (zs_if (zt_cmpP (op_eqD hu) (zn 1) ze_int (nomark _)) (zss_one (zs_set (i := 2) nd rfl (Or.inl rfl) (zcb_ss rfl rfl m_set rfl m_sorted (za_cons (ze_fn F_law_drawn hr (by decide) rfl (za_cons (zn 0) (za_cons (ze_fn F_law_take hr (by decide) rfl (za_cons (zn 0) (za_cons ze_int za_nil))) za_nil))) za_nil) rfl rfl))) zss_nil)
      ht2))))), ?_⟩
  refine ⟨p, 4, n, rfl, hh, by omega, by decide, by decide, fun way H1 w0 w1 st1 => ?_⟩
  refine ⟨p, n + 1, rfl, st1.2, by omega, fun r m l H2 st2 hr2 fr2 m1 m2 l1 l2 => ?_⟩
  have rp : r ≠ p := st1.2.ne fr2
  have st2 := st1.trans st2
  refine ⟨p, 9, n + 1 + 3, rfl, st2.2, by omega, by decide, by decide, fun b H3 b0 b1 st3 => ?_⟩
  have hr3 := st3.1 _ _ rp hr2
  have st3 := st2.trans st3
  refine ⟨_, _, rfl, ?_⟩
  have su := stairs_un (m := m) l1
  have sl := stairs_len m l
  have sb : ∀ k ∈ stairs m l, (1 : Int) ≤ k ∧ k ≤ 100 := fun k hk => ⟨su.pos k hk, by have := stairs_le k hk; omega⟩
  have s0 : (stairs m l).map V.int ≠ [] := by intro z; have := congrArg List.length z; rw [List.length_map, sl] at this; simp at this; omega
  have sne : stairs m l ≠ [] := by intro z; rw [z] at sl; simp at sl; omega
  have e0 : ((stairs m l).map V.int)[0]? = some (.int ((stairs m l).getD 0 0)) := at_get (by omega)
  have top : ∀ k ∈ stairs m l, k ≤ (stairs m l).getD 0 0 := by
    intro k hk
    cases hs : stairs m l with
    | nil => exact absurd hs sne
    | cons a t =>
      rw [hs] at hk su
      rcases List.mem_cons.mp hk with z | z
      · rw [z]; exact Int.le_refl _
      · have := (List.pairwise_cons.mp su.fall).1 k z
        show k ≤ a
        omega
  have in0 : (stairs m l).getD 0 0 ∈ stairs m l := by
    rw [List.getD_eq_getElem?_getD, List.getElem?_eq_getElem (by omega)]
    exact List.getElem_mem _
  have lm : lst (stairs m l) ∈ stairs m l := by
    obtain ⟨z, ez⟩ := split_last sne
    rw [ez]; rw [lst_app]; simp
  have el : atI ((stairs m l).map V.int) (-1) = some (.int (lst (stairs m l))) := by
    obtain ⟨z, ez⟩ := split_last sne
    have : (stairs m l).map V.int = z.map V.int ++ [.int (lst (stairs m l))] := by conv => lhs; rw [ez]
                                                                                   rw [List.map_append]; rfl
    rw [this]
    exact atI_last _ _
  have ple : ∀ k ∈ stairs m l, lst (stairs m l) ≤ k := fun k hk => su.least hk
  have und := su.nd
  generalize stairs m l = S at hr2 hr3 su sl sb s0 sne e0 top in0 lm el ple und
  have hw : way = 0 ∨ way = 1 ∨ way = 2 ∨ way = 3 := by omega
  have b0' := sb _ in0
  have bl := sb _ lm
  rcases hw with rfl | rfl | rfl | rfl
  · exact rest 0 _ r S H3 (st3.mono (by omega)) hr3 und (fun k hk => by have := sb k hk; omega) (by omega)
  · refine ⟨S, .inl (SqL.of hr3), ?_⟩
    refine ⟨_, .inl (SqL.of hr3), _, atI_of (j := 0) rfl e0, ?_⟩
    refine iteD (fun c => ?_) (fun c => ?_)
    · refine ⟨_, .inl (SqL.of hr3), _, atI_of (j := 0) rfl e0, ?_⟩
      refine ⟨by show 1 ≤ sizeLine; decide, fun d hd => ?_⟩
      have yd := Same.new hd (.lst [V.int (S.getD 0 0 + (1 + b))])
      have gd : upd H3 d (.lst [V.int (S.getD 0 0 + (1 + b))]) d = some (.lst [V.int (S.getD 0 0 + (1 + b))]) := upd_same
      have st4 := st3.same yd
      have hr4 := yd _ _ hr3
      generalize upd H3 d (.lst [V.int (S.getD 0 0 + (1 + b))]) = H4 at gd st4 hr4
      refine .inl ⟨_, _, gd, hr4, le_line2 (by rw [List.length_map]; show 1 + _ ≤ _; omega), fun N hN => ?_⟩
      refine rest 1 _ N ((S.getD 0 0 + (1 + b)) :: S) _ ((st4.same (Same.new hN _)).mono (by omega)) (by rw [upd_same]; rfl) (List.nodup_cons.mpr ⟨fun z => by have := top _ z; omega, und⟩) (fun k hk => ?_) (by rw [List.length_cons]; omega)
      rcases List.mem_cons.mp hk with z | z
      · rw [z]; omega
      · have := sb k z; omega
    · exact rest 1 _ r S H3 (st3.mono (by omega)) hr3 und (fun k hk => by have := sb k hk; omega) (by omega)
  · refine ⟨1, rfl, _, .inl (SqL.of hr3), _, el, ?_⟩
    refine ⟨by show 1 ≤ sizeLine; decide, fun d hd => ?_⟩
    have yd := Same.new hd (.lst [V.int (lst S - (1 + b))])
    have gd : upd H3 d (.lst [V.int (lst S - (1 + b))]) d = some (.lst [V.int (lst S - (1 + b))]) := upd_same
    have st4 := st3.same yd
    have hr4 := yd _ _ hr3
    generalize upd H3 d (.lst [V.int (lst S - (1 + b))]) = H4 at gd st4 hr4
    refine ⟨1, rfl, _, .inl (SqL.of hr4), _, el, ?_⟩
    by_cases c : lst S > 1 + b
    · have e1 : (if decide (lst S > 1 + b) = true then (1 : Int) else 0) = 1 := by rw [decide_eq_true c]; rfl
      refine ⟨⟨by rw [e1]; decide, by rw [e1]; decide⟩, .inl ⟨_, gd, by rw [e1]; show 1 * 1 ≤ sizeLine; decide, fun N hN => ?_⟩⟩
      rw [e1] at *
      have yN := Same.new hN (.lst (List.replicate (Int.toNat 1) [V.int (lst S - (1 + b))]).flatten)
      have gN : upd H4 N (.lst (List.replicate (Int.toNat 1) [V.int (lst S - (1 + b))]).flatten) N = some (.lst [V.int (lst S - (1 + b))]) := upd_same
      have st5 := st4.same yN
      have hr5 := yN _ _ hr4
      generalize upd H4 N (.lst (List.replicate (Int.toNat 1) [V.int (lst S - (1 + b))]).flatten) = H5 at gN st5 hr5
      refine .inl ⟨_, _, hr5, gN, le_line2 (by rw [List.length_map]; show _ + 1 ≤ _; omega), fun M hM => ?_⟩
      refine rest 2 _ M (S ++ [lst S - (1 + b)]) _ ((st5.same (Same.new hM _)).mono (by omega)) (by rw [upd_same, List.map_append]; rfl) (List.nodup_append.mpr ⟨und, (List.nodup_cons.mpr ⟨List.not_mem_nil, .nil⟩), fun x hx y hy => ?_⟩) (fun k hk => ?_) (by rw [List.length_append]; show _ + 1 ≤ _; omega)
      · have := List.mem_singleton.mp hy
        have := ple x hx
        omega
      · rcases List.mem_append.mp hk with z | z
        · have := sb k z; omega
        · have := List.mem_singleton.mp z; omega
    · have e1 : (if decide (lst S > 1 + b) = true then (1 : Int) else 0) = 0 := by rw [decide_eq_false c]; rfl
      refine ⟨⟨by rw [e1]; decide, by rw [e1]; decide⟩, .inl ⟨_, gd, by rw [e1]; exact Nat.zero_le _, fun N hN => ?_⟩⟩
      rw [e1] at *
      have yN := Same.new hN (.lst (List.replicate (Int.toNat 0) [V.int (lst S - (1 + b))]).flatten)
      have gN : upd H4 N (.lst (List.replicate (Int.toNat 0) [V.int (lst S - (1 + b))]).flatten) N = some (.lst []) := upd_same
      have st5 := st4.same yN
      have hr5 := yN _ _ hr4
      generalize upd H4 N (.lst (List.replicate (Int.toNat 0) [V.int (lst S - (1 + b))]).flatten) = H5 at gN st5 hr5
      refine .inl ⟨_, _, hr5, gN, le_line2 (by rw [List.length_map]; show _ + 0 ≤ _; omega), fun M hM => ?_⟩
      exact rest 2 _ M S _ ((st5.same (Same.new hM _)).mono (by omega)) (by rw [upd_same, List.append_nil]) und (fun k hk => by have := sb k hk; omega) (by omega)
  · refine ⟨p, 281, n + 1 + 3 + 1, rfl, st3.2, by omega, by decide, by decide, fun hv' H4 h0 h1 st4 => ?_⟩
    obtain ⟨hv, rfl⟩ : ∃ hv : Nat, hv' = (hv : Int) := ⟨hv'.toNat, by omega⟩
    have st4 := st3.trans st4
    refine ⟨p, hv, n + 1 + 3 + 1 + 1, rfl, st4.2, by omega, by omega, fun t ms H5 st5 ht ml m1 ms2 _ => ?_⟩
    have st5 := st4.trans st5
    refine ⟨ms, .inr ht, by omega, fun s1 o1 L ns hs1 hL neL ln nn mem _ => ?_⟩
    have yL : Same H5 (upd (upd H5 s1 o1) L (.lst (ns.map V.int))) := (Same.new hs1 o1).trans (Same.new (by rw [upd_ne neL]; exact hL) _)
    refine rest 3 _ L ns _ ((st5.same yL).mono (by omega)) upd_same nn (fun k hk => ?_) ?_
    · have km := (mem k).mp hk
      have := le_sumI m1 k km
      have := m1 k km
      omega
    · have := sub_len nn fun x hx => (mem x).mp hx
      omega
end
end K60
set_option Elab.async false
set_option linter.all false
set_option maxRecDepth 100000
set_option maxHeartbeats 4000000
namespace K60
open PySem L2 M60
theorem eqv_ints : ∀ (as bs : List Int), PyData.eqvAll (as.map PyData.int) (bs.map PyData.int) = decide (as = bs)
  | [], [] => by simp [PyData.eqvAll]
  | [], b :: bs => by simp [PyData.eqvAll]
  | a :: as, [] => by simp [PyData.eqvAll]
  | a :: as, b :: bs => by
    have ih := eqv_ints as bs
    simp only [List.map_cons, PyData.eqvAll, ih, PyData.eqv]
    by_cases h : a = b
    · subst h
      simp
    · simp [h]
theorem eqv_tup (as bs : List Int) : PyData.eqv (.tuple (as.map PyData.int)) (.tuple (bs.map PyData.int)) = decide (as = bs) := by
  show PyData.eqvAll _ _ = _
  exact eqv_ints as bs
noncomputable def bump (c : Int) (k : Nat) (x : List Int) : List Int := (x.take k).map (· + c) ++ x.drop k
theorem bump_at (c : Int) {k : Nat} {x : List Int} (hk : k ≤ x.length) (i : Nat) : (bump c k x)[i]? = x[i]?.map fun a => a + (if i < k then c else 0) := by
  unfold bump
  by_cases h : i < k
  · rw [List.getElem?_append_left (by rw [List.length_map, List.length_take]; omega), List.getElem?_map, List.getElem?_take, if_pos h, if_pos h]
  · have tl : ((x.take k).map (· + c)).length = k := by rw [List.length_map, List.length_take]; omega
    rw [List.getElem?_append_right (by omega), tl, List.getElem?_drop, if_neg h, show k + (i - k) = i by omega]
    cases x[i]? with
    | none => rfl
    | some a => show some a = some (a + 0); rw [Int.add_zero]
theorem bump_len (c : Int) {k : Nat} {x : List Int} (hk : k ≤ x.length) : (bump c k x).length = x.length := by
  unfold bump
  rw [List.length_append, List.length_map, List.length_take, List.length_drop]; omega
theorem cut_last (ns : List Int) (h : ns ≠ []) : cutV (ns.map V.int) none (some (-1)) = (ns.dropLast).map V.int := by
  have hl := List.length_pos_iff.mpr h
  unfold cutV
  rw [HT.sIx_none, List.length_map, sIx_neg _ _ (by omega), List.dropLast_eq_take, List.map_take]
  rfl
theorem bump_last {x : List Int} {l : Nat} (h : l < x.length) : bump 1 l x.dropLast = (x.take l).map (· + 1) ++ (x.drop l).dropLast := by
  unfold bump
  rw [List.dropLast_eq_take, List.take_take, Nat.min_eq_left (by omega), List.dropLast_eq_take, List.drop_take, List.length_drop]
  congr 2; omega
section
variable {P : Program} {w : World} {K : PySem.W.Frag} {mg : Str → Option Value} {base : Heap} {f : Addr} {fd : FuncData}
theorem sc_du : FnScope ["_law_parting", "_law_many", "_law_least"] ["_law_parting"] (defScope (top 19)) := ⟨rfl, rfl, rfl, by decide +kernel, rfl, by decide +kernel, by decide +kernel⟩
theorem ok_du (F : Fun K "_law_due" "_law_due" (top 19) f fd) (m_enumerate : mg "enumerate" = none) (m_int : mg "int" = none) (m_len : mg "len" = none) (m_tuple : mg "tuple" = none) : FnOk P w K mg base CX0 1 f fd ["_law_parting"] sp_pd := by
  refine F.okz sc_du (fun vs H Q E h => ?_) (fun cdv A outer s H vs Q E hr h => ?_)
  · obtain ⟨a, ns, rfl, _⟩ := h; rfl
  obtain ⟨a, ns, rfl, ha, un, few, q⟩ := h
  have nd := sc_du.nd
  have hu := hr.units
  have rl := rn_le ns
  have rest : ∃ t2, ZSs (cxOf CX0 P w K mg base ["_law_parting", "_law_many", "_law_least"] "_law_due" (defScope (top 19)) f cdv A outer s H E).nox ((defBody (top 19)).drop 4) t2 ∧
      ∀ (l : Nat) (H3 : Hp), Same H H3 → lst ns = (l : Int) → ns ≠ [] → ¬ (rn ns = ns.length ∧ ((l : Int) = (rn ns : Int) ∨ (l : Int) = (rn ns : Int) + 1)) → t2 { nx := fun _ H' => Q .non H', rt := Q } [some (.ref a), some (.int (rn ns : Int)), some (.int (l : Int))] H3 := by
    refine ⟨_, (zss_cons (zs_if (zt_cmpP op_gtP (zn 2) (zn 1) (nomark _)) (zss_one (zs_ret (zcb_tuple rfl m_tuple (za_cons (ze_op op_addP (ze_comp ["_law_nth", "_law_part"] [("_law_many", 1)] rfl ⟨rfl, by decide +kernel, by decide +kernel, rfl, rfl⟩ (zi_enumK rfl m_enumerate (za_cons (zn 0) za_nil)) kpg_two (fun _ _ _ _ => zg_tup rfl (zgs_cons (zg_name (i := 0) (show List.Nodup (["_law_nth", "_law_part", "_law_many"] : List Str) by decide +kernel) rfl (Or.inl rfl)) (zgs_cons (zg_name (i := 1) (show List.Nodup (["_law_nth", "_law_part", "_law_many"] : List Str) by decide +kernel) rfl (Or.inl rfl)) zgs_nil))) (fun _ _ _ _ => zif_nil) (fun _ _ _ _ => (ze_op op_subP (zn 1) (zcb_int rfl m_int (za_cons (ze_cmpR op_ltP (zn 0) (zn 2) (nomark _)) za_nil) rfl rfl)))) (ze_lst (za_cons (zn 1) za_nil))) za_nil) rfl rfl))) zss_nil)
      (zss_one (zs_ret (zcb_tuple rfl m_tuple (za_cons (ze_comp ["_law_nth", "_law_part"] [("_law_least", 2)] rfl ⟨rfl, by decide +kernel, by decide +kernel, rfl, rfl⟩ (zi_enumK rfl m_enumerate (za_cons (ze_slice sl_P (zn 0) zo_none (zo_some (ze_un un_neg ze_int))) za_nil)) kpg_two (fun _ _ _ _ => zg_tup rfl (zgs_cons (zg_name (i := 0) (show List.Nodup (["_law_nth", "_law_part", "_law_least"] : List Str) by decide +kernel) rfl (Or.inl rfl)) (zgs_cons (zg_name (i := 1) (show List.Nodup (["_law_nth", "_law_part", "_law_least"] : List Str) by decide +kernel) rfl (Or.inl rfl)) zgs_nil))) (fun _ _ _ _ => zif_nil) (fun _ _ _ _ => (ze_op op_addP (zn 1) (zcb_int rfl m_int (za_cons (ze_cmpR op_ltP (zn 0) (zn 2) (nomark _)) za_nil) rfl rfl)))) za_nil) rfl rfl)))), ?_⟩
    intro l H3 y3 el ne g
    have ha3 := y3 _ _ ha
    have l1 := un.lst1 ne
    have r1 := rn_pos ne
    unfold pf at q
    rw [if_neg ne, el] at q
    rw [Int.toNat_natCast] at q
    have g1 : ¬ (rn ns = ns.length ∧ (l : Int) = (rn ns : Int)) := fun z => g ⟨z.1, .inl z.2⟩
    have g2 : ¬ (rn ns = ns.length ∧ (l : Int) = (rn ns : Int) + 1) := fun z => g ⟨z.1, .inr z.2⟩
    rw [if_neg g1, if_neg g2] at q
    refine iteD (fun c => ?_) (fun c => ?_)
    · have c : (l : Int) > (rn ns : Int) := c
      rw [if_neg (by omega)] at q
      refine ⟨true, _, SqK.tup ha3, cmp_enumK (xs := ns.map V.int) (fun i zs H' => Same H3 H' ∧ zs = ((bump (-1) (rn ns) ns).take i).map V.int) ⟨Same.refl _, rfl⟩ ?_ ?_ ?_ ?_⟩
      · rintro i zs H' _ ⟨y, _⟩
        exact SqK.tup (y _ _ ha3)
      · rintro i zs H' hi ⟨_, rfl⟩
        rw [List.length_map] at hi
        rw [List.length_map, List.length_take]
        exact small1000 (by omega)
      · rintro i x zs H' p hx ⟨y, rfl⟩ hp
        rw [List.getElem?_map] at hx
        cases hxx : ns[i]? with
        | none => rw [hxx] at hx; cases hx
        | some b =>
          rw [hxx] at hx
          obtain rfl := Option.some.inj hx
          refine ⟨p, _, rfl, SqT.of upd_same, rfl, _, _, rfl, _, _, rfl, rfl, ?_⟩
          refine ⟨y.trans (Same.new hp _), ?_⟩
          rw [List.take_succ, bump_at (-1) rl i, hxx, List.map_append]
          congr 1
          show [V.int (b - (if decide ((i : Int) < (rn ns : Int)) = true then 1 else 0))] = [V.int (b + (if i < rn ns then -1 else 0))]
          by_cases ci : i < rn ns
          · rw [decide_eq_true (show (i : Int) < (rn ns : Int) by omega), if_pos ci]; rfl
          · rw [decide_eq_false (show ¬ (i : Int) < (rn ns : Int) by omega), if_neg ci]
            simp
      · rintro zs H' ⟨y, rfl⟩ D hD
        rw [List.length_map, ← bump_len (-1) rl, List.take_of_length_le (Nat.le_refl _)]
        have yD := Same.new hD (.lst ((bump (-1) (rn ns) ns).map V.int))
        have gD : upd H' D (.lst ((bump (-1) (rn ns) ns).map V.int)) D = some (.lst ((bump (-1) (rn ns) ns).map V.int)) := upd_same
        generalize upd H' D (.lst ((bump (-1) (rn ns) ns).map V.int)) = H4 at yD gD
        refine ⟨by show 1 ≤ sizeLine; decide, fun d5 hd5 => ?_⟩
        have y5 := Same.new hd5 (.lst [V.int (rn ns : Int)])
        have g5 : upd H4 d5 (.lst [V.int (rn ns : Int)]) d5 = some (.lst [V.int (rn ns : Int)]) := upd_same
        have gD := y5 _ _ gD
        generalize upd H4 d5 (.lst [V.int (rn ns : Int)]) = H5 at y5 g5 gD
        refine .inl ⟨_, _, gD, g5, le_line2 (by rw [List.length_map, bump_len (-1) rl]; show _ + 1 ≤ _; omega), fun N hN => ?_⟩
        refine ⟨_, .inl (SqL.of upd_same), fun r6 H6 y6 hr6 => ?_⟩
        refine q _ H6 (y3.trans ((y.trans yD).trans (y5.trans ((Same.new hN _).trans y6)))) ⟨r6, rfl, ?_⟩
        rw [hr6]
        unfold bump
        rw [List.map_append (l₂ := [(rn ns : Int)])]
        rfl
    · have c : ¬ (l : Int) > (rn ns : Int) := c
      rw [if_pos (by omega)] at q
      have ll : l < ns.length := by
        by_cases e : rn ns = ns.length
        · have : (l : Int) ≠ (rn ns : Int) := fun z => g1 ⟨e, z⟩
          omega
        · omega
      rw [← bump_last ll] at q
      refine ⟨1, rfl, -1, rfl, a, rfl, .inl ⟨_, ha3, fun r4 H4 y4 hr4 => ?_⟩⟩
      rw [cut_last ns ne] at hr4
      have ld : ns.dropLast.length = ns.length - 1 := List.length_dropLast
      have rd : l ≤ ns.dropLast.length := by omega
      refine ⟨true, _, SqK.tup hr4, cmp_enumK (xs := ns.dropLast.map V.int) (fun i zs H' => Same H4 H' ∧ zs = ((bump 1 l ns.dropLast).take i).map V.int) ⟨Same.refl _, rfl⟩ ?_ ?_ ?_ ?_⟩
      · rintro i zs H' _ ⟨y, _⟩
        exact SqK.tup (y _ _ hr4)
      · rintro i zs H' hi ⟨_, rfl⟩
        rw [List.length_map] at hi
        rw [List.length_map, List.length_take]
        exact small1000 (by omega)
      · rintro i x zs H' p hx ⟨y, rfl⟩ hp
        rw [List.getElem?_map] at hx
        cases hxx : ns.dropLast[i]? with
        | none => rw [hxx] at hx; cases hx
        | some b =>
          rw [hxx] at hx
          obtain rfl := Option.some.inj hx
          refine ⟨p, _, rfl, SqT.of upd_same, rfl, _, _, rfl, _, _, rfl, rfl, ?_⟩
          refine ⟨y.trans (Same.new hp _), ?_⟩
          rw [List.take_succ, bump_at 1 rd i, hxx, List.map_append]
          congr 1
          show [V.int (b + (if decide ((i : Int) < (l : Int)) = true then 1 else 0))] = [V.int (b + (if i < l then 1 else 0))]
          by_cases ci : i < l
          · rw [decide_eq_true (show (i : Int) < (l : Int) by omega), if_pos ci]; rfl
          · rw [decide_eq_false (show ¬ (i : Int) < (l : Int) by omega), if_neg ci]; rfl
      · rintro zs H' ⟨y, rfl⟩ D hD
        rw [List.length_map, ← bump_len 1 rd, List.take_of_length_le (Nat.le_refl _)]
        refine ⟨_, .inl (SqL.of upd_same), fun r6 H6 y6 hr6 => ?_⟩
        exact q _ H6 (y3.trans ((y4.trans y).trans ((Same.new hD _).trans y6))) ⟨r6, rfl, hr6⟩
  obtain ⟨t2, ht2, rest⟩ := rest
  refine ⟨_, (zss_cons (zs_if (zt_cmpP (op_eqD hu) (zn 0) (ze_tup za_nil) (nomark _)) (zss_one (zs_ret ze_non)) zss_nil)
      (zss_cons (zs_asg (ze_tup (za_cons ze_int (za_cons (ze_ix ix_P (zn 0) (ze_un un_neg ze_int) (fun _ _ => rfl)) za_nil))) (zg_tup rfl (zgs_cons (zg_name (i := 1) nd rfl (Or.inr rfl)) (zgs_cons (zg_name (i := 2) nd rfl (Or.inr rfl)) zgs_nil))))
      (zss_cons (zs_while PassesOwn.never (ZW.zt (zw_and (zt_cmpP op_ltP (zn 1) (zcb_len rfl m_len (za_cons (zn 0) za_nil) rfl rfl) (nomark _)) (zw_and1 (zt_cmpP (op_eqD hu) (ze_op op_subP (ze_ix ix_P (zn 0) (ze_op op_subP (zn 1) ze_int) (fun _ _ => rfl)) (ze_ix ix_P (zn 0) (zn 1) (fun _ _ => rfl))) ze_int (nomark _))))) (zss_one (zs_set (i := 1) nd rfl (Or.inr rfl) (ze_op op_addP (zn 1) ze_int))))
      (zss_cons (zs_if (ZW.zt (zw_and (zt_cmpP (op_eqD hu) (zn 1) (zcb_len rfl m_len (za_cons (zn 0) za_nil) rfl rfl) (nomark _)) (zw_and1 (zt_cmpP op_in_seq (zn 2) (ze_tup (za_cons (zn 1) (za_cons (ze_op op_addP (zn 1) ze_int) za_nil))) (by with_unfolding_all rfl))))) (zss_one (zs_ret ze_non)) zss_nil)
      ht2)))), ?_⟩
  refine ⟨Nat.zero_le _, fun d hd => ?_⟩
  have yd := Same.new hd (.tup [])
  have gd : upd H d (.tup []) d = some (.tup (([] : List Int).map V.int)) := upd_same
  have ha1 := yd _ _ ha
  generalize upd H d (.tup []) = H1 at yd gd ha1
  refine ⟨_, _, .ints ha1, .ints gd, shaped_ints _, shaped_ints _, ?_⟩
  rw [eqv_tup]
  unfold pf at q
  refine iteD (fun c => ?_) (fun c => ?_)
  · rw [if_pos c] at q
    exact q _ H1 yd rfl
  have ne : ns ≠ [] := c
  rw [if_neg ne] at q
  have l1 := un.lst1 ne
  have lp : 0 < ns.length := List.length_pos_iff.mpr ne
  have r1 := rn_pos ne
  have el : atI (ns.map V.int) (-1) = some (.int (lst ns)) := by
    obtain ⟨z, ez⟩ := split_last ne
    have : ns.map V.int = z.map V.int ++ [.int (lst ns)] := by conv => lhs; rw [ez]
                                                               rw [List.map_append]; rfl
    rw [this]
    exact atI_last _ _
  refine ⟨1, rfl, _, .inr ha1, .int (lst ns), el, ?_⟩
  refine ⟨by show 2 ≤ sizeLine; decide, fun d2 hd2 => ?_⟩
  have yd2 := Same.new hd2 (.tup [V.int 1, .int (lst ns)])
  have gd2 : upd H1 d2 (.tup [V.int 1, .int (lst ns)]) d2 = some (.tup [V.int 1, .int (lst ns)]) := upd_same
  have y2 := yd.trans yd2
  have ha2 := yd2 _ _ ha1
  generalize upd H1 d2 (.tup [V.int 1, .int (lst ns)]) = H2 at gd2 y2 ha2
  refine ⟨d2, _, rfl, SqT.of gd2, rfl, _, _, rfl, _, _, rfl, rfl, ?_⟩
  clear el gd2 yd2 hd2 ha1 gd hd yd
  obtain ⟨l, el⟩ : ∃ l : Nat, lst ns = (l : Int) := ⟨(lst ns).toNat, by omega⟩
  rw [el] at q l1 ⊢
  rw [Int.toNat_natCast] at q
  refine while_by2 (fun m σ H' => H' = H2 ∧ ∃ k : Nat, 1 ≤ k ∧ k ≤ rn ns ∧ m = ns.length - k ∧ σ = [some (.ref a), some (.int (k : Int)), some (.int (l : Int))]) (ns.length - 1) ⟨rfl, 1, Nat.le_refl _, r1, rfl, rfl⟩ ?_
  rintro m σ H' ⟨rfl, k, k1, k2, rfl, rfl⟩
  refine ⟨_, .inr ha2, ?_⟩
  rw [List.length_map]
  refine iteD (fun c1 => ?wa) (fun c1 => ?wb)
  case' wa =>
    have c1 : (k : Int) < (ns.length : Int) := c1
    have kl : k < ns.length := by omega
    refine ⟨_, .inr ha2, _, atI_of (j := k - 1) (by omega) (at_get (by omega)), ?_⟩
    refine ⟨_, .inr ha2, _, atI_of (j := k) (by omega) (at_get kl), ?_⟩
    refine iteD (fun c2 => ?_) (fun c2 => ?_)
    · have c2 : ns.getD (k - 1) 0 - ns.getD k 0 = 1 := by simpa using c2
      have up := rn_step k1 k2 kl c2
      refine ⟨fun σ' Hx => Hx = H' ∧ σ' = [some (.ref a), some (.int ((k + 1 : Nat) : Int)), some (.int (l : Int))], fun σ' Hx ⟨e1, e2⟩ => ⟨ns.length - (k + 1), by omega, e1, k + 1, by omega, up, rfl, e2⟩, ?_⟩
      exact ⟨rfl, by rw [show ((k + 1 : Nat) : Int) = (k : Int) + 1 by omega]; rfl⟩
    have c2 : ns.getD (k - 1) 0 - ns.getD k 0 ≠ 1 := by simpa using c2
    have e := rn_stop k1 k2 (fun _ => c2)
  case' wb =>
    have c1 : ¬ (k : Int) < (ns.length : Int) := c1
    have e := rn_stop k1 k2 (fun h => absurd h (by omega))
  all_goals
    subst e
    refine ⟨_, .inr ha2, ?_⟩
    rw [List.length_map]
    clear c1
    refine iteD (fun c2 => ?_) (fun c2 => ?_)
    · have c2 : (rn ns : Int) = (ns.length : Int) := by simpa using c2
      refine ⟨by show 2 ≤ sizeLine; decide, fun d3 hd3 => ?_⟩
      have yd3 := Same.new hd3 (.tup [V.int (rn ns : Int), .int ((rn ns : Int) + 1)])
      have gd3 : upd H' d3 (.tup [V.int (rn ns : Int), .int ((rn ns : Int) + 1)]) d3 = some (.tup (([(rn ns : Int), (rn ns : Int) + 1] : List Int).map V.int)) := upd_same
      generalize upd H' d3 (.tup [V.int (rn ns : Int), .int ((rn ns : Int) + 1)]) = H4 at yd3 gd3
      refine ⟨d3, _, rfl, .inr (SqT.of gd3), rfl, flat_ints _, ?_⟩
      rw [in_ints]
      refine iteD (fun c3 => ?_) (fun c3 => ?_)
      · have c3 : (l : Int) = (rn ns : Int) ∨ (l : Int) = (rn ns : Int) + 1 := by simpa using c3
        refine q _ H4 (y2.trans yd3) ?_
        rcases c3 with z | z
        · rw [if_pos (by omega), if_pos ⟨by omega, z⟩]; rfl
        · rw [if_neg (by omega), if_pos ⟨by omega, z⟩]; rfl
      · exact rest l H4 (y2.trans yd3) el ne (fun z => c3 (by simpa using z.2))
    · exact rest l H' y2 el ne (fun z => c2 (by simp [z.1]))
end
end K60
set_option Elab.async false
set_option linter.all false
set_option maxRecDepth 100000
set_option maxHeartbeats 4000000
namespace K60
open PySem L2 M60
section
variable {P : Program} {w : World} {K : PySem.W.Frag} {mg : Str → Option Value} {base : Heap} {f : Addr} {fd : FuncData}
theorem sc_ri : FnScope ["_law_parting", "_law_due_here", "_law_many", "_law_all_of"] ["_law_parting"] (defScope (top 20)) := ⟨rfl, rfl, rfl, by decide +kernel, rfl, by decide +kernel, by decide +kernel⟩
noncomputable def sp_ri : Sp := fun vs H Q _ => ∃ (a : Addr) (ns : List Int), vs = [.ref a] ∧ H a = some (.tup (ns.map V.int)) ∧ Ul ns ∧ ∀ H', Same H H' → Q (.bl true) H'
theorem ok_ri (F : Fun K "_law_right" "_law_right" (top 20) f fd) (m_abs : mg "abs" = none) (m_len : mg "len" = none) (m_set : mg "set" = none) (m_sum : mg "sum" = none) (F_law_due : FnA P w K mg base "_law_due" 1 ["_law_parting"] sp_pd) (F_law_falling : FnA P w K mg base "_law_falling" 1 ["_law_parts"] sp_fall) (F_law_same : FnA P w K mg base "_law_same" 2 ["_law_found", "_law_due_here"] (sp_sm 2)) (F_paired : FnA P w K mg base "paired" 2 ["parting"] sp_pd) : FnOk P w K mg base CX0 4 f fd ["_law_parting"] sp_ri := by
  refine F.okz sc_ri (fun vs H Q E h => ?_) (fun cdv A outer s H vs Q E hr h => ?_)
  · obtain ⟨a, ns, rfl, _⟩ := h; rfl
  obtain ⟨a, ns, rfl, ha, ul, q⟩ := h
  have nd := sc_ri.nd
  have hu := hr.units
  have len := ul.len
  refine ⟨_, (zss_cons (zs_set (i := 1) nd rfl (Or.inl rfl) (ze_fn F_law_due hr (by decide) rfl (za_cons (zn 0) za_nil)))
      (zss_cons (zs_if (ZW.zt (zw_or (zt_not (zt_valP (ze_fn F_law_same hr (by decide) rfl (za_cons (ze_fn F_paired hr (by decide) rfl (za_cons (zn 0) za_nil)) (za_cons (zn 1) za_nil))))) (zw_or1 (zt_not (zt_valP (ze_fn F_law_same hr (by decide) rfl (za_cons (ze_fn F_paired hr (by decide) rfl (za_cons (zn 0) za_nil)) (za_cons (zn 1) za_nil)))))))) (zss_one (zs_ret ze_bl)) zss_nil)
      (zss_cons (zs_if (zt_cmpP op_isP (zn 1) ze_non (nomark _)) (zss_cons (zs_par (i := 2) (j := 3) rfl nd rfl rfl (by decide) rfl rfl (za_cons (zcb_len rfl m_len (za_cons (zn 0) za_nil) rfl rfl) (za_cons (zcb_sum rfl rfl m_sum (za_cons (zn 0) za_nil) rfl rfl) za_nil)) rfl)
      (zss_one (zs_ret (ze_cmpR op_in_seq (ze_op op_mulQ ze_int (zn 3)) (ze_tup (za_cons (ze_op op_mulQ (zn 2) (ze_op op_subP (ze_op op_mulQ ze_int (zn 2)) ze_int)) (za_cons (ze_op op_mulQ (zn 2) (ze_op op_addP (ze_op op_mulQ ze_int (zn 2)) ze_int)) za_nil))) (by with_unfolding_all rfl))))) zss_nil)
      (zss_cons (zs_if (ZW.zt (zw_or (zt_cmpP (op_neD hu) (zcb_sum rfl rfl m_sum (za_cons (zn 1) za_nil) rfl rfl) (zcb_sum rfl rfl m_sum (za_cons (zn 0) za_nil) rfl rfl) (nomark _)) (zw_or (zt_cmpP (op_neD hu) (zcb_lenX rfl m_len (za_cons (zcb_setN rfl rfl m_set (za_cons (zn 1) za_nil) rfl rfl) za_nil) rfl rfl) (zcb_len rfl m_len (za_cons (zn 1) za_nil) rfl rfl) (nomark _)) (zw_or1 (zt_cmpP (op_neD hu) (zn 1) (ze_fn F_law_falling hr (by decide) rfl (za_cons (zn 1) za_nil)) (nomark _)))))) (zss_one (zs_ret ze_bl)) zss_nil)
      (zss_one (zs_ret (ze_andP (ze_cmpR (op_eqD hu) (zcb_abs rfl m_abs (za_cons (ze_op op_subP (zcb_len rfl m_len (za_cons (zn 1) za_nil) rfl rfl) (zcb_len rfl m_len (za_cons (zn 0) za_nil) rfl rfl)) za_nil) rfl rfl) ze_int (nomark _)) (ze_one (ze_cmpR (op_eqD hu) (ze_fn F_paired hr (by decide) rfl (za_cons (zn 1) za_nil)) (zn 0) (nomark _)))))))))), ?_⟩
  refine ⟨a, ns, rfl, ha, ul.un, by omega, fun v H1 y1 t1 => ?_⟩
  refine ⟨a, ns, rfl, y1 _ _ ha, ul.un, by omega, fun v2 H2 y2 t2 => ?_⟩
  have y12 := y1.trans y2
  cases hp : pf ns with
  | none =>
    rw [hp] at t1 t2
    obtain rfl : v = .non := t1
    obtain rfl : v2 = .non := t2
    refine ⟨.non, .non, .none, rfl, .non, .non, .inl (.inr rfl), fun H3 y3 => ?_⟩
    refine ⟨a, ns, rfl, y3 _ _ (y12 _ _ ha), ul.un, by omega, fun v4 H4 y4 t4 => ?_⟩
    rw [hp] at t4
    obtain rfl : v4 = .non := t4
    refine ⟨.non, .non, .none, rfl, .non, .non, .inl (.inr rfl), fun H5 y5 => ?_⟩
    have y6 := (y12.trans y3).trans (y4.trans y5)
    have ha6 := y6 _ _ ha
    refine ⟨_, .inr ha6, ?_⟩
    rw [List.length_map]
    refine ⟨ns, .inr ha6, ?_⟩
    refine ⟨_, _, rfl, ?_⟩
    have eq : 2 * ns.sum = (ns.length : Int) * (3 * (ns.length : Int) - 1) ∨ 2 * ns.sum = (ns.length : Int) * (3 * (ns.length : Int) + 1) := by
      by_cases ne : ns = []
      · subst ne; exact .inl rfl
      · exact pf_none hp ne
    refine ⟨mulL (by decide) (by decide), ?_⟩
    refine ⟨mulL (by decide) (by decide), ?_⟩
    refine ⟨mulL (by omega) (by omega), ?_⟩
    refine ⟨mulL (by decide) (by decide), ?_⟩
    refine ⟨mulL (by omega) (by omega), ?_⟩
    refine ⟨by show 2 ≤ sizeLine; decide, fun d hd => ?_⟩
    have yd := Same.new hd (.tup [V.int ((ns.length : Int) * (3 * (ns.length : Int) - 1)), .int ((ns.length : Int) * (3 * (ns.length : Int) + 1))])
    have gd : upd H5 d (.tup [V.int ((ns.length : Int) * (3 * (ns.length : Int) - 1)), .int ((ns.length : Int) * (3 * (ns.length : Int) + 1))]) d = some (.tup (([(ns.length : Int) * (3 * (ns.length : Int) - 1), (ns.length : Int) * (3 * (ns.length : Int) + 1)] : List Int).map V.int)) := upd_same
    generalize upd H5 d (.tup [V.int ((ns.length : Int) * (3 * (ns.length : Int) - 1)), .int ((ns.length : Int) * (3 * (ns.length : Int) + 1))]) = H7 at yd gd
    refine ⟨d, _, rfl, .inr (SqT.of gd), rfl, flat_ints _, ?_⟩
    rw [in_ints, decide_eq_true (by rcases eq with z | z <;> simp [z])]
    exact q _ (y6.trans yd)
  | some l =>
    have G := pf_good ul.un hp
    have ll : l.length ≤ 300 := by have := G.len; omega
    rw [hp] at t1 t2
    obtain ⟨r, rfl, hr1⟩ := t1
    obtain ⟨r2, rfl, hr2⟩ := t2
    have hr12 := y2 _ _ hr1
    refine ⟨.ref r2, .ref r, .tuple (l.map PyData.int), rfl, .ints hr2, .ints hr12, Nice.ints (by omega), fun H3 y3 => ?_⟩
    refine ⟨a, ns, rfl, y3 _ _ (y12 _ _ ha), ul.un, by omega, fun v4 H4 y4 t4 => ?_⟩
    rw [hp] at t4
    obtain ⟨r4, rfl, hr4⟩ := t4
    have hr14 := y4 _ _ (y3 _ _ hr12)
    refine ⟨.ref r4, .ref r, .tuple (l.map PyData.int), rfl, .ints hr4, .ints hr14, Nice.ints (by omega), fun H5 y5 => ?_⟩
    have y6 := (y12.trans y3).trans (y4.trans y5)
    have ha6 := y6 _ _ ha
    have hr6 := y5 _ _ hr14
    refine ⟨l, .inr hr6, ?_⟩
    refine ⟨ns, .inr ha6, ?_⟩
    rw [G.sum]
    refine iteB (fun c => absurd c (by simp)) (fun _ => ?_)
    refine ⟨l, .inr hr6, by omega, G.un.nd, fun p hp7 => ?_⟩
    have y7 := Same.new hp7 (.ext fun h => STB.HasN h p l.length)
    refine ⟨l.length, upd_same, by omega, ?_⟩
    generalize upd H5 p (.ext fun h => STB.HasN h p l.length) = H7 at y7
    refine ⟨_, .inr (y7 _ _ hr6), ?_⟩
    rw [List.length_map]
    refine iteB (fun c => absurd c (by simp)) (fun _ => ?_)
    refine ⟨r, l, rfl, .inr (y7 _ _ hr6), fun t ms H8 y8 pm pw ht => ?_⟩
    have em : ms = l := pm.eq_of_pairwise (fun x y _ _ h1 h2 => Int.le_antisymm h2 h1) pw G.un.ge
    subst em
    have hr8 := y8 _ _ (y7 _ _ hr6)
    have ha8 := y8 _ _ (y7 _ _ ha6)
    refine ⟨_, _, .ints hr8, .ints ht, shaped_ints _, shaped_ints _, ?_⟩
    rw [if_pos rfl, eqv_self (shaped_ints _)]
    refine ⟨_, .inr hr8, ?_⟩
    refine ⟨_, .inr ha8, ?_⟩
    rw [List.length_map, List.length_map]
    refine iteB (fun _ => ?_) (fun c => absurd c ?_)
    · refine ⟨r, ms, rfl, hr8, G.un, by omega, fun v9 H9 y9 t9 => ?_⟩
      rw [G.back] at t9
      obtain ⟨r9, rfl, hr9⟩ := t9
      refine ⟨_, _, .ints hr9, .ints (y9 _ _ ha8), shaped_ints _, shaped_ints _, ?_⟩
      rw [eqv_self (shaped_ints _)]
      exact q _ (y6.trans (y7.trans (y8.trans y9)))
    · have := G.len
      rw [decide_eq_true (by congr 1; split <;> omega)]
      decide
end
end K60
set_option linter.all false
set_option maxRecDepth 100000
namespace M60
noncomputable def AU (n : Nat) : Nat → List (List Int)
  | 0 => [[]]
  | k + 1 => AU n k ++ ((AU n k).filter fun o => decide (o.sum + (1 + (k : Int)) ≤ (n : Int))).map ((1 + (k : Int)) :: ·)
noncomputable def EV (n : Nat) : List (List Int) := (AU n n).filter fun o => decide (o.sum = (n : Int))
noncomputable def sg (n : Nat) : List Int := ((M15.cor 30).filter fun p => decide (p.1 = (n : Int))).map (·.2)
theorem AU_mono (n : Nat) : ∀ {k m : Nat}, k ≤ m → (AU n k).length ≤ (AU n m).length
  | k, m, h => by
    induction m with
    | zero => rw [show k = 0 by omega]; exact Nat.le_refl _
    | succ m ih =>
      by_cases e : k = m + 1
      · rw [e]; exact Nat.le_refl _
      · have := ih (by omega)
        show _ ≤ (AU n m ++ _).length
        rw [List.length_append]; omega
theorem AU_un {n : Nat} : ∀ {k : Nat} {o : List Int}, o ∈ AU n k → Un o ∧ (∀ a ∈ o, a ≤ (k : Int)) ∧ o.length ≤ k
  | 0, o, h => by
    have := List.mem_singleton.mp h
    subst this
    exact ⟨⟨.nil, fun _ z => (List.not_mem_nil z).elim⟩, fun _ z => (List.not_mem_nil z).elim, Nat.le_refl _⟩
  | k + 1, o, h => by
    rcases List.mem_append.mp h with h | h
    · obtain ⟨u, b, l⟩ := AU_un h
      exact ⟨u, fun a ha => by have := b a ha; omega, by omega⟩
    · obtain ⟨o', h', rfl⟩ := List.mem_map.mp h
      obtain ⟨u, b, l⟩ := AU_un (List.mem_filter.mp h').1
      refine ⟨⟨List.pairwise_cons.mpr ⟨fun a ha => by have := b a ha; show 1 + (k : Int) > a; omega, u.fall⟩, fun a ha => ?_⟩, fun a ha => ?_, by rw [List.length_cons]; omega⟩
      · rcases List.mem_cons.mp ha with z | z
        · omega
        · exact u.pos a z
      · rcases List.mem_cons.mp ha with z | z
        · omega
        · have := b a z; omega
theorem EV_un {n : Nat} {o : List Int} (h : o ∈ EV n) : Un o ∧ o.length ≤ n := by
  have := AU_un (List.mem_filter.mp h).1
  exact ⟨this.1, this.2.2⟩
noncomputable def chk (n : Nat) : Bool := decide ((AU n n).length ≤ 3000) && decide ((((EV n).filter fun o => (pf o).isNone).map fun o => 1 - 2 * ((o.length : Int) % 2)) = sg n) && decide (((EV n).length : Int) % 2 = ((sg n).length : Int))
theorem chk_all : (List.range 31).all chk = true := by decide +kernel
theorem AU_len {n k : Nat} (hn : n ≤ 30) (hk : k ≤ n) : (AU n k).length ≤ 3000 := by
  have := List.all_eq_true.mp chk_all n (List.mem_range.mpr (by omega))
  unfold chk at this
  rw [Bool.and_eq_true, Bool.and_eq_true] at this
  exact Nat.le_trans (AU_mono n hk) (of_decide_eq_true this.1.1)
theorem signs {n : Nat} (hn : n ≤ 30) : (((EV n).filter fun o => (pf o).isNone).map fun o => 1 - 2 * ((o.length : Int) % 2)) = sg n ∧ ((EV n).length : Int) % 2 = ((sg n).length : Int) := by
  have := List.all_eq_true.mp chk_all n (List.mem_range.mpr (by omega))
  unfold chk at this
  rw [Bool.and_eq_true, Bool.and_eq_true] at this
  exact ⟨of_decide_eq_true this.1.2, of_decide_eq_true this.2⟩
end M60
set_option Elab.async false
set_option linter.all false
set_option maxRecDepth 100000
set_option maxHeartbeats 4000000
namespace K60
open PySem L2 M60
theorem take_nx {α : Type} {l : List α} {c : Nat} (hc : c < l.length) : l.take (c + 1) = l.take c ++ [l[c]] := by
  rw [List.take_succ, List.getElem?_eq_getElem hc]; rfl
theorem au_step {n i c : Nat} {l : List (List Int)} (hc : c < l.length) : (((l.take (c + 1)).filter fun o => decide (o.sum + (1 + (i : Int)) ≤ (n : Int))).map ((1 + (i : Int)) :: ·)) = (((l.take c).filter fun o => decide (o.sum + (1 + (i : Int)) ≤ (n : Int))).map ((1 + (i : Int)) :: ·)) ++ if l[c].sum + (1 + (i : Int)) ≤ (n : Int) then [(1 + (i : Int)) :: l[c]] else [] := by
  rw [take_nx hc, List.filter_append, List.map_append]
  congr 1
  rw [List.filter_cons]
  by_cases h : l[c].sum + (1 + (i : Int)) ≤ (n : Int)
  · rw [if_pos (decide_eq_true h), if_pos h]; rfl
  · rw [if_neg (by simpa using h), if_neg h]; rfl
theorem f_step {p : List Int → Bool} {c : Nat} {l : List (List Int)} (hc : c < l.length) : ((l.take (c + 1)).filter p) = ((l.take c).filter p) ++ if p l[c] = true then [l[c]] else [] := by
  rw [take_nx hc, List.filter_append]
  congr 1
  rw [List.filter_cons]
  by_cases h : p l[c] = true
  · rw [if_pos h, if_pos h]; rfl
  · rw [if_neg h, if_neg h]; rfl
theorem tps_app {H : Hp} {vs : List V} {qs : List (List Int)} (k : Tps H vs qs) : ∀ {us ps}, Tps H us ps → Tps H (us ++ vs) (ps ++ qs)
  | _, _, .nil => k
  | _, _, .cons h r => .cons h (tps_app k r)
section
variable {P : Program} {w : World} {K : PySem.W.Frag} {mg : Str → Option Value} {base : Heap} {f : Addr} {fd : FuncData}
theorem sc_au : FnScope ["_law_n", "_law_found", "_law_part"] ["_law_n"] (defScope (top 21)) := ⟨rfl, rfl, rfl, by decide +kernel, rfl, by decide +kernel, by decide +kernel⟩
noncomputable def sp_au : Sp := fun vs H Q _ => ∃ n : Nat, vs = [.int n] ∧ n ≤ 30 ∧ ∀ r us H', Same H H' → H' r = some (.lst us) → Tps H' us (EV n) → Q (.ref r) H'
theorem ok_au (F : Fun K "_law_all_unlike" "_law_all_unlike" (top 21) f fd) (m_range : mg "range" = none) (m_sum : mg "sum" = none) : FnOk P w K mg base CX0 1 f fd ["_law_n"] sp_au := by
  refine F.okz sc_au (fun vs H Q E h => ?_) (fun cdv A outer s H vs Q E hr h => ?_)
  · obtain ⟨n, rfl, _⟩ := h; rfl
  obtain ⟨n, rfl, hn, q⟩ := h
  have nd := sc_au.nd
  have hu := hr.units
  refine ⟨_, (zss_cons (zs_set (i := 1) nd rfl (Or.inl rfl) (ze_lst (za_cons (ze_tup za_nil) za_nil)))
      (zss_cons (zs_for PassesOwn.never rfl (zi_range2 rfl m_range (za_cons ze_int (za_cons (ze_op op_addP (zn 0) ze_int) za_nil))) (zg_name (i := 2) nd rfl (Or.inr rfl)) (zss_one (zs_set (i := 1) nd rfl (Or.inl rfl) (ze_op op_addP (zn 1) (ze_comp ["_law_one"] [("_law_part", 2), ("_law_n", 0)] rfl ⟨rfl, by decide +kernel, by decide +kernel, rfl, rfl⟩ (zi_list (zn 1)) kpg_name (fun _ _ _ _ => zg_name (i := 0) (show List.Nodup (["_law_one", "_law_part", "_law_n"] : List Str) by decide +kernel) rfl (Or.inl rfl)) (fun _ _ _ _ => (zif_one (zt_cmpP op_leP (ze_op op_addP (zcb_sum' rfl rfl m_sum (za_cons (zn 0) za_nil) rfl rfl rfl) (zn 1)) (zn 2) (nomark _)))) (fun _ _ _ _ => (ze_op op_addP (ze_tup (za_cons (zn 1) za_nil)) (zn 0))))))))
      (zss_one (zs_ret (ze_comp ["_law_one"] [("_law_n", 0)] rfl ⟨rfl, by decide +kernel, by decide +kernel, rfl, rfl⟩ (zi_list (zn 1)) kpg_name (fun _ _ _ _ => zg_name (i := 0) (show List.Nodup (["_law_one", "_law_n"] : List Str) by decide +kernel) rfl (Or.inl rfl)) (fun _ _ _ _ => (zif_one (zt_cmpP (op_eqD hu) (zcb_sum' rfl rfl m_sum (za_cons (zn 0) za_nil) rfl rfl rfl) (zn 1) (nomark _)))) (fun _ _ _ _ => (zn 0))))))), ?_⟩
  refine ⟨Nat.zero_le _, fun e he => ?_⟩
  have ye := Same.new he (.tup [])
  have ge : upd H e (.tup []) e = some (.tup (([] : List Int).map V.int)) := upd_same
  generalize upd H e (.tup []) = H1 at ye ge
  refine ⟨by show 1 ≤ sizeLine; decide, fun L hL => ?_⟩
  have yL := Same.new hL (.lst [V.ref e])
  have gL : upd H1 L (.lst [V.ref e]) L = some (.lst [V.ref e]) := upd_same
  have ge1 := yL _ _ ge
  have z1 := ye.trans yL
  generalize upd H1 L (.lst [V.ref e]) = H2 at gL ge1 z1
  refine ⟨1, (n : Int) + 1, rfl, ⟨by decide, by decide, by omega, by omega⟩, ?_⟩
  have en : ((n : Int) + 1 - 1).toNat = n := by omega
  rw [en]
  refine for_range (fun i σ H' => i ≤ n ∧ Same H H' ∧ ∃ L us x2, H' L = some (.lst us) ∧ Tps H' us (AU n i) ∧ σ = [some (.int (n : Int)), some (.ref L), x2]) ⟨Nat.zero_le _, z1, L, _, _, gL, .cons ge1 .nil, rfl⟩ ?_ ?_
  · rintro i σ H3 hi ⟨_, y3, L, us, x2, gL3, t3, rfl⟩
    have l3 := t3.length
    have la := AU_len (n := n) (k := i) hn (by omega)
    refine ⟨L, rfl, ⟨_, SqL.of gL3⟩, cmp_list (xs := us) (fun c zs H4 => c ≤ us.length ∧ Same H3 H4 ∧ Tps H4 zs ((((AU n i).take c).filter fun o => decide (o.sum + (1 + (i : Int)) ≤ (n : Int))).map ((1 + (i : Int)) :: ·))) ⟨Nat.zero_le _, Same.refl _, by rw [List.take_zero]; exact .nil⟩ ?_ ?_ ?_⟩
    · rintro c zs H4 _ ⟨_, y4, _⟩
      exact SqL.of (y4 _ _ gL3)
    · rintro c v zs H4 hv ⟨_, y4, t4⟩
      have hc : c < us.length := (List.getElem?_eq_some_iff.mp hv).1
      have hca : c < (AU n i).length := by omega
      obtain ⟨ls, b, els, rfl, hb⟩ := t3.get hv
      rw [List.getElem?_eq_getElem hca] at els
      have els : (AU n i)[c] = ls := Option.some.inj els
      subst els
      have l4 := t4.length
      rw [List.length_map] at l4
      have lf := List.length_filter_le (fun o : List Int => decide (o.sum + (1 + (i : Int)) ≤ (n : Int))) ((AU n i).take c)
      rw [List.length_take] at lf
      refine ⟨small6k (by omega), ?_⟩
      have hb4 := y4 _ _ hb
      refine ⟨_, .inr hb4, ?_⟩
      rw [au_step hca]
      refine iteD (fun c2 => ?_) (fun c2 => ?_)
      · have cc : (AU n i)[c].sum + (1 + (i : Int)) ≤ (n : Int) := c2
        rw [if_pos cc]
        refine ⟨by show 1 ≤ sizeLine; decide, fun d hd => ?_⟩
        have yd := Same.new hd (.tup [V.int (1 + (i : Int))])
        have lo := (AU_un (List.getElem_mem hca)).2.2
        refine .inr ⟨_, _, upd_same, yd _ _ hb4, le_line2 (by rw [List.length_map]; show 1 + _ ≤ _; omega), fun r5 H5 y5 hr5 => ?_⟩
        refine ⟨hc, y4.trans (yd.trans y5), ?_⟩
        refine ((t4.same yd).same y5).snoc ?_
        rw [hr5]
        rfl
      · have cc : ¬ (AU n i)[c].sum + (1 + (i : Int)) ≤ (n : Int) := c2
        rw [if_neg cc, List.append_nil]
        exact ⟨hc, y4, t4⟩
    · rintro zs H4 ⟨_, y4, t4⟩ D hD
      rw [l3, List.take_of_length_le (Nat.le_refl _)] at t4
      have yD := Same.new hD (.lst zs)
      have l4 := t4.length
      rw [List.length_map] at l4
      have lf := List.length_filter_le (fun o : List Int => decide (o.sum + (1 + (i : Int)) ≤ (n : Int))) (AU n i)
      refine .inl ⟨_, _, yD _ _ (y4 _ _ gL3), upd_same, by rw [sizeLine_eq]; omega, fun X hX => ?_⟩
      have yX := Same.new hX (.lst (us ++ zs))
      have z := (y4.trans yD).trans yX
      refine ⟨hi, y3.trans z, X, us ++ zs, _, upd_same, ?_, rfl⟩
      exact tps_app ((t4.same yD).same yX) (t3.same z)
  · rintro σ H3 ⟨_, y3, L, us, x2, gL3, t3, rfl⟩
    have l3 := t3.length
    have la := AU_len (n := n) (k := n) hn (by omega)
    refine ⟨L, rfl, ⟨_, SqL.of gL3⟩, cmp_list (xs := us) (fun c zs H4 => c ≤ us.length ∧ H4 = H3 ∧ Tps H4 zs (((AU n n).take c).filter fun o => decide (o.sum = (n : Int)))) ⟨Nat.zero_le _, rfl, by rw [List.take_zero]; exact .nil⟩ ?_ ?_ ?_⟩
    · rintro c zs H4 _ ⟨_, rfl, _⟩
      exact SqL.of gL3
    · rintro c v zs H4 hv ⟨_, rfl, t4⟩
      have hc : c < us.length := (List.getElem?_eq_some_iff.mp hv).1
      have hca : c < (AU n n).length := by omega
      obtain ⟨ls, b, els, rfl, hb⟩ := t3.get hv
      rw [List.getElem?_eq_getElem hca] at els
      have els : (AU n n)[c] = ls := Option.some.inj els
      subst els
      have l4 := t4.length
      have lf := List.length_filter_le (fun o : List Int => decide (o.sum = (n : Int))) ((AU n n).take c)
      rw [List.length_take] at lf
      refine ⟨small6k (by omega), ?_⟩
      refine ⟨_, .inr hb, ?_⟩
      rw [f_step hca]
      refine iteD (fun c2 => ?_) (fun c2 => ?_)
      · have c' : (AU n n)[c].sum = (n : Int) := V.int.inj c2
        rw [if_pos (decide_eq_true c')]
        exact ⟨hc, rfl, t4.snoc hb⟩
      · have c' : ¬ (AU n n)[c].sum = (n : Int) := fun z => c2 (congrArg V.int z)
        rw [if_neg (by simpa using c'), List.append_nil]
        exact ⟨hc, rfl, t4⟩
    · rintro zs H4 ⟨_, rfl, t4⟩ D hD
      rw [l3, List.take_of_length_le (Nat.le_refl _)] at t4
      have yD := Same.new hD (.lst zs)
      exact q D zs _ (y3.trans yD) upd_same (t4.same yD)
end
end K60
set_option Elab.async false
set_option linter.all false
set_option maxRecDepth 100000
set_option maxHeartbeats 4000000
namespace K60
open PySem L2 M60
theorem shaped_li (ns : List Int) : SeqAt.shaped (.list (ns.map PyData.int)) = true := shaped_list_ints ns
theorem c_len : (M15.cor 30).length ≤ 20 := by decide +kernel
theorem un1 {a : Int} (h : 1 ≤ a) : Un [a] := ⟨List.pairwise_singleton _ _, fun n hn => by rw [List.mem_singleton.mp hn]; exact h⟩
theorem un2 {a b : Int} (h : 1 ≤ b) (h2 : b < a) : Un [a, b] := ⟨List.pairwise_cons.mpr ⟨fun x hx => by rw [List.mem_singleton.mp hx]; exact h2, List.pairwise_singleton _ _⟩, fun n hn => by
  rcases List.mem_cons.mp hn with z | z
  · omega
  · have := List.mem_singleton.mp z; omega⟩
section
variable {P : Program} {w : World} {K : PySem.W.Frag} {mg : Str → Option Value} {base : Heap} {f : Addr} {fd : FuncData}
theorem sc_law : FnScope ["_law_script", "_law_k", "_law_hand_here", "_law_turn", "_law_number", "_law_every", "_law_alone", "_law_signs"] ["_law_script"] (defScope (top 22)) := ⟨rfl, rfl, rfl, by decide +kernel, rfl, by decide +kernel, by decide +kernel⟩
noncomputable def sp_law (K : PySem.W.Frag) : Sp := fun vs H Q _ => ∃ (a : Addr) (ns : List Int), vs = [.ref a] ∧ SqL K H a (ns.map V.int) ∧ ns.length ≤ 63 ∧ ∀ H', Q (.bl true) H'
theorem ok_law (F : Fun K "law" "law" (top 22) f fd) (m_len : mg "len" = none) (m_max : mg "max" = none) (m_min : mg "min" = none) (m_range : mg "range" = none) (F_law_all_unlike : FnA P w K mg base "_law_all_unlike" 1 ["_law_n"] sp_au) (F_law_hand : FnA P w K mg base "_law_hand" 1 ["_law_script", "_law_k"] (sp_hand K)) (F_law_right : FnA P w K mg base "_law_right" 4 ["_law_parting"] sp_ri) (F_law_take : FnA P w K mg base "_law_take" 1 ["_law_hand_here", "_law_many"] sp_take) (F_law_unlike : FnA P w K mg base "_law_unlike" 3 ["_law_hand_here"] sp_ul) (F_corners : FnA P w K mg base "corners" 1 ["most"] sp_cor) (F_paired : FnA P w K mg base "paired" 2 ["parting"] sp_pd) : FnOk P w K mg base CX0 5 f fd ["_law_script"] (sp_law K) := by
  refine F.okz sc_law (fun vs H Q E h => ?_) (fun cdv A outer s H vs Q E hr h => ?_)
  · obtain ⟨a, ns, rfl, _⟩ := h; rfl
  obtain ⟨a, ns, rfl, hS, hl, q⟩ := h
  have nd := sc_law.nd
  have hu := hr.units
  refine ⟨_, (zss_cons (zs_for PassesOwn.never rfl (zi_range1 rfl m_range (za_cons (zcb_max rfl rfl m_max (za_cons ze_int (za_cons (zcb_min rfl rfl m_min (za_cons ze_int (za_cons (zcb_len rfl m_len (za_cons (zn 0) za_nil) rfl rfl) za_nil)) rfl rfl) za_nil)) rfl rfl) za_nil)) (zg_name (i := 1) nd rfl (Or.inl rfl)) (zss_cons (zs_set (i := 2) nd rfl (Or.inl rfl) (ze_fn F_law_hand hr (by decide) rfl (za_cons (zn 0) (za_cons (zn 1) za_nil))))
      (zss_cons (zs_for PassesOwn.never rfl (zi_range1 rfl m_range (za_cons ze_int za_nil)) (zg_name (i := 3) nd rfl (Or.inl rfl)) (zss_one (zs_if (zt_not (zt_valP (ze_fn F_law_right hr (by decide) rfl (za_cons (ze_fn F_law_unlike hr (by decide) rfl (za_cons (zn 2) za_nil)) za_nil)))) (zss_one (zs_ret ze_bl)) zss_nil)))
      (zss_cons (zs_set (i := 4) nd rfl (Or.inr rfl) (ze_fn F_law_take hr (by decide) rfl (za_cons (zn 2) (za_cons ze_int za_nil))))
      (zss_cons (zs_set (i := 5) nd rfl (Or.inl rfl) (ze_fn F_law_all_unlike hr (by decide) rfl (za_cons (zn 4) za_nil)))
      (zss_cons (zs_setcomp (i := 6) ["_law_one"] [] rfl nd rfl (Or.inl rfl) ⟨rfl, by decide +kernel, by decide +kernel, rfl, rfl⟩ (zi_list (zn 5)) kpg_name (fun _ _ _ _ => zg_name (i := 0) (show List.Nodup (["_law_one"] : List Str) by decide +kernel) rfl (Or.inl rfl)) (fun _ _ _ _ => (zif_one (zt_cmpP op_isP (ze_fn F_paired hr (by decide) rfl (za_cons (zn 0) za_nil)) ze_non (nomark _)))) (fun _ _ _ _ => (zn 0)))
      (zss_cons (zs_setcomp (i := 7) ["_law_place", "_law_sign"] [("_law_number", 4)] rfl nd rfl (Or.inl rfl) ⟨rfl, by decide +kernel, by decide +kernel, rfl, rfl⟩ (zi_tup (ze_fn F_corners hr (by decide) rfl (za_cons ze_int za_nil))) kpg_two (fun _ _ _ _ => zg_tup rfl (zgs_cons (zg_name (i := 0) (show List.Nodup (["_law_place", "_law_sign", "_law_number"] : List Str) by decide +kernel) rfl (Or.inl rfl)) (zgs_cons (zg_name (i := 1) (show List.Nodup (["_law_place", "_law_sign", "_law_number"] : List Str) by decide +kernel) rfl (Or.inl rfl)) zgs_nil))) (fun _ _ _ _ => (zif_one (zt_cmpP (op_eqD hu) (zn 0) (zn 2) (nomark _)))) (fun _ _ _ _ => (zn 1)))
      (zss_one (zs_if (ZW.zt (zw_or (zt_cmpP (op_neD hu) (ze_comp ["_law_one"] [] rfl ⟨rfl, by decide +kernel, by decide +kernel, rfl, rfl⟩ (zi_list (zn 6)) kpg_name (fun _ _ _ _ => zg_name (i := 0) (show List.Nodup (["_law_one"] : List Str) by decide +kernel) rfl (Or.inl rfl)) (fun _ _ _ _ => zif_nil) (fun _ _ _ _ => (ze_op op_subP ze_int (ze_op op_mulQ ze_int (ze_op op_modP (zcb_len' rfl m_len (za_cons (zn 0) za_nil) rfl rfl rfl) ze_int))))) (zn 7) (nomark _)) (zw_or1 (zt_cmpP (op_neD hu) (ze_op op_modP (zcb_len rfl m_len (za_cons (zn 5) za_nil) rfl rfl) ze_int) (zcb_len rfl m_len (za_cons (zn 7) za_nil) rfl rfl) (nomark _))))) (zss_one (zs_ret ze_bl)) zss_nil)))))))))
      (zss_cons (zs_if (ZW.zt (zw_or (zt_cmpP (op_neD hu) (ze_fn F_paired hr (by decide) rfl (za_cons (ze_tup (za_cons ze_int (za_cons ze_int za_nil))) za_nil)) (ze_tup (za_cons ze_int za_nil)) (nomark _)) (zw_or (zt_cmpP op_isntP (ze_fn F_paired hr (by decide) rfl (za_cons (ze_tup (za_cons ze_int (za_cons ze_int za_nil))) za_nil)) ze_non (nomark _)) (zw_or1 (zt_cmpP op_isntP (ze_fn F_paired hr (by decide) rfl (za_cons (ze_tup (za_cons ze_int (za_cons ze_int za_nil))) za_nil)) ze_non (nomark _)))))) (zss_one (zs_ret ze_bl)) zss_nil)
      (zss_one (zs_ret (ze_andP (ze_cmpR op_isP (ze_fn F_paired hr (by decide) rfl (za_cons (ze_tup za_nil) za_nil)) ze_non (nomark _)) (ze_andP (ze_cmpR op_isP (ze_fn F_paired hr (by decide) rfl (za_cons (ze_tup (za_cons ze_int za_nil)) za_nil)) ze_non (nomark _)) (ze_one (ze_cmpR (op_eqD hu) (ze_fn F_paired hr (by decide) rfl (za_cons (ze_tup (za_cons ze_int za_nil)) za_nil)) (ze_tup (za_cons ze_int (za_cons ze_int za_nil))) (nomark _))))))))), ?_⟩
  refine ⟨_, .inl hS, ?_⟩
  rw [List.length_map]
  obtain ⟨m, em, m5⟩ : ∃ m : Int, (if 1 < (if (ns.length : Int) < 5 then (ns.length : Int) else 5) then (if (ns.length : Int) < 5 then (ns.length : Int) else 5) else 1) = m ∧ (0 ≤ m ∧ m ≤ 5) := ⟨_, rfl, by split <;> split <;> omega⟩
  refine ⟨m, congrArg (fun z => [V.int z]) em, by omega, by omega, ?_⟩
  refine for_range (fun i σ H' => i ≤ 5 ∧ Same H H' ∧ ∃ x1 x2 x3 x4 x5 x6 x7, σ = [some (.ref a), x1, x2, x3, x4, x5, x6, x7]) ⟨by decide, Same.refl _, _, _, _, _, _, _, _, rfl⟩ ?_ ?_
  · rintro i σ H0 hi ⟨_, y0, x1, x2, x3, x4, x5, x6, x7, rfl⟩
    have hi5 : i + 1 ≤ 5 := by omega
    refine ⟨a, 0 + (i : Int), ns, rfl, SqL.same y0 hS, by omega, by omega, fun p H1 hp y1 hh1 => ?_⟩
    have hpH : H p = none := fresh_back y0 hp
    have z1 := y0.trans y1
    have key : ∀ {Hx : Hp} {k : Nat}, Step p k H1 Hx → Same H Hx := fun {Hx k} st b o e' => st.1 b o (fun z => by rw [z, hpH] at e'; cases e') (z1 _ _ e')
    refine ⟨8, rfl, by decide, by decide, ?_⟩
    refine for_range (n := 8) (fun j σ H' => j ≤ 8 ∧ Step p (j * 600) H1 H' ∧ ∃ x3, σ = [some (.ref a), some (.int (0 + (i : Int))), some (.ref p), x3, x4, x5, x6, x7]) ⟨by decide, by simpa using Step.refl hh1, _, rfl⟩ ?_ ?_
    · rintro j σ H2 hj ⟨_, st2, x3, rfl⟩
      refine ⟨p, j * 600, rfl, st2.2, by omega, fun r ms H3 st3 hr3 ul => ?_⟩
      refine ⟨r, ms, rfl, hr3, ul, fun H4 y4 => ?_⟩
      exact ⟨by omega, ((st2.trans st3).same y4).mono (by omega), _, rfl⟩
    · rintro σ H2 ⟨_, st2, x3, rfl⟩
      refine ⟨p, 31, 8 * 600, rfl, st2.2, by decide, by decide, by decide, fun t31 H3 t0 t1 st3 => ?_⟩
      obtain ⟨n, en, n30⟩ : ∃ n : Nat, t31 = (n : Int) ∧ n ≤ 30 := ⟨t31.toNat, by omega, by omega⟩
      subst en
      have z3 := key (st2.trans st3)
      refine ⟨n, rfl, n30, fun L us H4 y4 hL tL => ?_⟩
      have lL := tL.length
      have le : (EV n).length ≤ 3000 := Nat.le_trans (List.length_filter_le _ _) (AU_len n30 (Nat.le_refl _))
      obtain ⟨sg1, sg2⟩ := signs n30
      refine ⟨L, rfl, ⟨_, SqL.of hL⟩, cmp_list (xs := us) (fun c zs H5 => c ≤ us.length ∧ Same H4 H5 ∧ Tps H5 zs (((EV n).take c).filter fun o => (pf o).isNone)) ⟨Nat.zero_le _, Same.refl _, by rw [List.take_zero]; exact .nil⟩ ?_ ?_ ?_⟩
      · rintro c zs H5 _ ⟨_, y5, _⟩
        exact SqL.of (y5 _ _ hL)
      · rintro c v zs H5 hv ⟨_, y5, t5⟩
        have hc : c < us.length := (List.getElem?_eq_some_iff.mp hv).1
        have hca : c < (EV n).length := by omega
        obtain ⟨ls, b, els, rfl, hb⟩ := tL.get hv
        rw [List.getElem?_eq_getElem hca] at els
        have els : (EV n)[c] = ls := Option.some.inj els
        subst els
        have l5 := t5.length
        have lf := List.length_filter_le (fun o : List Int => (pf o).isNone) ((EV n).take c)
        rw [List.length_take] at lf
        obtain ⟨eu, el⟩ := EV_un (List.getElem_mem hca)
        refine ⟨small6k (by omega), ?_⟩
        refine ⟨b, (EV n)[c], rfl, y5 _ _ hb, eu, by omega, fun v6 H6 y6 t6 => ?_⟩
        rw [f_step hca]
        cases hp : pf (EV n)[c] with
        | none =>
          rw [hp] at t6
          obtain rfl : v6 = .non := t6
          rw [show (if (none : Option (List Int)).isNone = true then [(EV n)[c]] else []) = [(EV n)[c]] from rfl]
          exact ⟨hc, y5.trans y6, (t5.same y6).snoc (y6 _ _ (y5 _ _ hb))⟩
        | some l =>
          rw [hp] at t6
          obtain ⟨r6, rfl, hr6⟩ := t6
          rw [if_neg (by simp), List.append_nil]
          exact ⟨hc, y5.trans y6, t5.same y6⟩
      · rintro zs H5 ⟨_, y5, t5⟩ D hD
        rw [lL, List.take_of_length_le (Nat.le_refl _)] at t5
        have yD := Same.new hD (.lst zs)
        have gD : upd H5 D (.lst zs) D = some (.lst zs) := upd_same
        have z5 := z3.trans (y4.trans (y5.trans yD))
        have hL5 := yD _ _ (y5 _ _ hL)
        have t5 := t5.same yD
        generalize upd H5 D (.lst zs) = H6 at yD gD z5 hL5 t5
        have lz := t5.length
        have lf := List.length_filter_le (fun o : List Int => (pf o).isNone) (EV n)
        refine ⟨30, rfl, by decide, fun C H7 cs y7 hC pC => ?_⟩
        have lc := pC.length
        have c20 := c_len
        refine ⟨C, rfl, ⟨_, SqT.of hC⟩, cmp_tup (xs := cs) (fun c zs' H8 => c ≤ cs.length ∧ H8 = H7 ∧ zs' = ((((M15.cor 30).take c).filter fun p => decide (p.1 = (n : Int))).map (·.2)).map V.int) ⟨Nat.zero_le _, rfl, rfl⟩ ?_ ?_ ?_⟩
        · rintro c zs' H8 _ ⟨_, rfl, _⟩
          exact SqT.of hC
        · rintro c v zs' H8 hv ⟨hc0, rfl, rfl⟩
          obtain ⟨pp, hpp, b, rfl, hb⟩ := pC.get hv
          have hc : c < cs.length := (List.getElem?_eq_some_iff.mp hv).1
          have lf2 := List.length_filter_le (fun p : Int × Int => decide (p.1 = (n : Int))) ((M15.cor 30).take c)
          rw [List.length_take] at lf2
          refine ⟨by rw [List.length_map, List.length_map]; exact small1000 (by have : ((30 : Nat) : Int) = 30 := rfl; rw [show (M15.cor ((30 : Nat) : Int)) = M15.cor 30 from rfl] at lc; omega), ?_⟩
          refine ⟨b, _, rfl, SqT.of hb, rfl, _, _, rfl, _, _, rfl, rfl, ?_⟩
          have hpp : (M15.cor 30)[c]? = some pp := hpp
          have tk : ((M15.cor 30).take (c + 1)).filter (fun p => decide (p.1 = (n : Int))) = ((M15.cor 30).take c).filter (fun p => decide (p.1 = (n : Int))) ++ if pp.1 = (n : Int) then [pp] else [] := by
            rw [List.take_succ, hpp, List.filter_append]
            congr 1
            show List.filter _ [pp] = _
            rw [List.filter_cons]
            by_cases h : pp.1 = (n : Int)
            · rw [if_pos (decide_eq_true h), if_pos h]; rfl
            · rw [if_neg (by simpa using h), if_neg h]; rfl
          rw [tk]
          refine iteD (fun c2 => ?_) (fun c2 => ?_)
          · have c2 : pp.1 = (n : Int) := V.int.inj c2
            refine ⟨hc, rfl, ?_⟩
            rw [if_pos c2, List.map_append, List.map_append]; rfl
          · have c2 : ¬ pp.1 = (n : Int) := fun z => c2 (congrArg V.int z)
            refine ⟨hc, rfl, ?_⟩
            rw [if_neg c2, List.append_nil]
        · rintro zs' H8 ⟨_, rfl, rfl⟩ D2 hD2
          have elc : cs.length = (M15.cor 30).length := lc
          rw [elc, List.take_of_length_le (Nat.le_refl _)]
          show _
          have esg : (((M15.cor 30).filter fun p => decide (p.1 = (n : Int))).map (·.2)) = sg n := rfl
          rw [esg]
          have yD2 := Same.new hD2 (.lst ((sg n).map V.int))
          have gD2 : upd H8 D2 (.lst ((sg n).map V.int)) D2 = some (.lst ((sg n).map V.int)) := upd_same
          have z8 := z5.trans (y7.trans yD2)
          have gD := yD2 _ _ (y7 _ _ gD)
          have hL8 := yD2 _ _ (y7 _ _ hL5)
          have t8 := t5.same (y7.trans yD2)
          generalize upd H8 D2 (.lst ((sg n).map V.int)) = H9 at yD2 gD2 z8 gD hL8 t8
          refine ⟨D, rfl, ⟨_, SqL.of gD⟩, cmp_list (xs := zs) (fun c ws H10 => c ≤ zs.length ∧ H10 = H9 ∧ ws = (((((EV n).filter fun o => (pf o).isNone).take c).map fun o => 1 - 2 * ((o.length : Int) % 2))).map V.int) ⟨Nat.zero_le _, rfl, rfl⟩ ?_ ?_ ?_⟩
          · rintro c ws H10 _ ⟨_, rfl, _⟩
            exact SqL.of gD
          · rintro c v ws H10 hv ⟨_, rfl, rfl⟩
            have hc : c < zs.length := (List.getElem?_eq_some_iff.mp hv).1
            obtain ⟨ls, b, els, rfl, hb⟩ := t8.get hv
            refine ⟨by rw [List.length_map, List.length_map, List.length_take]; exact small6k (by omega), ?_⟩
            refine ⟨_, .inr hb, ?_⟩
            rw [List.length_map]
            refine ⟨(show (0 : Int) < 2 by decide), ?_⟩
            refine ⟨mulL (by decide) (by decide), ?_⟩
            refine ⟨hc, rfl, ?_⟩
            rw [List.take_succ, els, List.map_append, List.map_append]
            rfl
          · rintro ws H10 ⟨_, rfl, rfl⟩ D3 hD3
            rw [lz, List.take_of_length_le (Nat.le_refl _), sg1]
            have yD3 := Same.new hD3 (.lst ((sg n).map V.int))
            have gD3 : upd H10 D3 (.lst ((sg n).map V.int)) D3 = some (.lst ((sg n).map V.int)) := upd_same
            have gD2 := yD3 _ _ gD2
            have hL9 := yD3 _ _ hL8
            have z9 := z8.trans yD3
            generalize upd H10 D3 (.lst ((sg n).map V.int)) = H11 at gD3 gD2 hL9 z9
            refine ⟨_, _, .lst gD3 (DatAll.ints _), .lst gD2 (DatAll.ints _), shaped_li _, shaped_li _, ?_⟩
            rw [if_pos rfl, eqv_self (shaped_li _)]
            refine ⟨_, .inl (SqL.of hL9), ?_⟩
            rw [lL]
            refine ⟨(show (0 : Int) < 2 by decide), ?_⟩
            refine ⟨_, .inl (SqL.of gD2), ?_⟩
            rw [List.length_map, ← sg2]
            refine iteB (fun c => absurd c (by simp)) (fun _ => ?_)
            exact ⟨hi5, z9, _, _, _, _, _, _, _, rfl⟩
  · rintro σ H' ⟨_, y, x1, x2, x3, x4, x5, x6, x7, rfl⟩
    refine ⟨by show 2 ≤ sizeLine; decide, fun d0 hd0 => ?_⟩
    have w0 := Same.new hd0 (.tup [V.int 2, .int 1])
    have g0 : upd H' d0 (.tup [V.int 2, .int 1]) d0 = some (.tup (([2, 1] : List Int).map V.int)) := upd_same
    generalize upd H' d0 (.tup [V.int 2, .int 1]) = G0 at w0 g0
    refine ⟨d0, _, rfl, g0, un2 (by decide) (by decide), by decide, fun v0 J0 u0 q0 => ?_⟩
    rw [show pf [2, 1] = some [3] by decide +kernel] at q0
    obtain ⟨r0, rfl, hr0⟩ := q0
    refine ⟨by show 1 ≤ sizeLine; decide, fun d1 hd1 => ?_⟩
    have w1 := Same.new hd1 (.tup [V.int 3])
    have g1 : upd J0 d1 (.tup [V.int 3]) d1 = some (.tup (([3] : List Int).map V.int)) := upd_same
    generalize upd J0 d1 (.tup [V.int 3]) = G1 at w1 g1
    refine ⟨_, _, .ints (w1 _ _ hr0), .ints g1, shaped_ints _, shaped_ints _, ?_⟩
    rw [if_pos rfl, eqv_self (shaped_ints _)]
    refine ⟨by show 2 ≤ sizeLine; decide, fun d2 hd2 => ?_⟩
    have w2 := Same.new hd2 (.tup [V.int 3, .int 2])
    have g2 : upd G1 d2 (.tup [V.int 3, .int 2]) d2 = some (.tup (([3, 2] : List Int).map V.int)) := upd_same
    generalize upd G1 d2 (.tup [V.int 3, .int 2]) = G2 at w2 g2
    refine ⟨d2, _, rfl, g2, un2 (by decide) (by decide), by decide, fun v2 J2 u2 q2 => ?_⟩
    rw [show pf [3, 2] = none by decide +kernel] at q2
    obtain rfl : v2 = .non := q2
    refine ⟨by show 2 ≤ sizeLine; decide, fun d3 hd3 => ?_⟩
    have w3 := Same.new hd3 (.tup [V.int 4, .int 3])
    have g3 : upd J2 d3 (.tup [V.int 4, .int 3]) d3 = some (.tup (([4, 3] : List Int).map V.int)) := upd_same
    generalize upd J2 d3 (.tup [V.int 4, .int 3]) = G3 at w3 g3
    refine ⟨d3, _, rfl, g3, un2 (by decide) (by decide), by decide, fun v3 J3 u3 q3 => ?_⟩
    rw [show pf [4, 3] = none by decide +kernel] at q3
    obtain rfl : v3 = .non := q3
    refine ⟨Nat.zero_le _, fun d4 hd4 => ?_⟩
    have w4 := Same.new hd4 (.tup [])
    have g4 : upd J3 d4 (.tup []) d4 = some (.tup (([] : List Int).map V.int)) := upd_same
    generalize upd J3 d4 (.tup []) = G4 at w4 g4
    refine ⟨d4, _, rfl, g4, ⟨.nil, (fun n hn => nomatch hn)⟩, by decide, fun v4 J4 u4 q4 => ?_⟩
    rw [show pf [] = none by decide +kernel] at q4
    obtain rfl : v4 = .non := q4
    refine ⟨by show 1 ≤ sizeLine; decide, fun d5 hd5 => ?_⟩
    have w5 := Same.new hd5 (.tup [V.int 1])
    have g5 : upd J4 d5 (.tup [V.int 1]) d5 = some (.tup (([1] : List Int).map V.int)) := upd_same
    generalize upd J4 d5 (.tup [V.int 1]) = G5 at w5 g5
    refine ⟨d5, _, rfl, g5, un1 (by decide), by decide, fun v5 J5 u5 q5 => ?_⟩
    rw [show pf [1] = none by decide +kernel] at q5
    obtain rfl : v5 = .non := q5
    refine ⟨by show 1 ≤ sizeLine; decide, fun d6 hd6 => ?_⟩
    have w6 := Same.new hd6 (.tup [V.int 3])
    have g6 : upd J5 d6 (.tup [V.int 3]) d6 = some (.tup (([3] : List Int).map V.int)) := upd_same
    generalize upd J5 d6 (.tup [V.int 3]) = G6 at w6 g6
    refine ⟨d6, _, rfl, g6, un1 (by decide), by decide, fun v6 J6 u6 q6 => ?_⟩
    rw [show pf [3] = some [2, 1] by decide +kernel] at q6
    obtain ⟨r6, rfl, hr6⟩ := q6
    refine ⟨by show 2 ≤ sizeLine; decide, fun d7 hd7 => ?_⟩
    have w7 := Same.new hd7 (.tup [V.int 2, .int 1])
    have g7 : upd J6 d7 (.tup [V.int 2, .int 1]) d7 = some (.tup (([2, 1] : List Int).map V.int)) := upd_same
    generalize upd J6 d7 (.tup [V.int 2, .int 1]) = G7 at w7 g7
    refine ⟨_, _, .ints (w7 _ _ hr6), .ints g7, shaped_ints _, shaped_ints _, ?_⟩
    rw [eqv_self (shaped_ints _)]
    exact q _
end
end K60
set_option Elab.async false
set_option linter.all false
set_option maxRecDepth 100000
set_option maxHeartbeats 4000000
namespace K60
open PySem L2
theorem fnA {P : Program} {w : World} {K : PySem.W.Frag} {mg : Str → Option Value} {base : Heap} {x : Str} {k : Nat} {ps : List Str} {sp : Sp} {f : Addr} {fd : FuncData} (F : FnOk P w K mg base CX0 k f fd ps sp) (b : Binds K fd ps []) (kp : PySem.W.keepIn K (.ref f) = true) (m : mg x = some (.ref f)) : FnA P w K mg base x k ps sp := ⟨⟨f, fd, F, b, kp, m⟩⟩
theorem us1 {α : Type} {p : List α → Prop} (h : ∀ a, p [a]) : ∀ us : List α, us.length = 1 → p us
  | [a], _ => h a
theorem us2 {α : Type} {p : List α → Prop} (h : ∀ a b, p [a, b]) : ∀ us : List α, us.length = 2 → p us
  | [a, b], _ => h a b
theorem all_mk {l : PySem.W.OpenLaw} {w : World} {K : PySem.W.Frag} {h : Heap} {mg : Str → Option Value} {fa f1 f2 f3 f4 f5 f6 f7 f8 f9 f10 f11 f12 f13 f14 f15 f16 : Addr} (X : K.In h) (G : h.Ns mainGlobals mg) (hfa : mg "law" = some (.ref fa))
    {od1 an1 od2 an2 od3 an3 od4 an4 od5 an5 od6 an6 od7 an7 od8 an8 od9 an9 od10 an10 od11 an11 od12 an12 od13 an13 od14 an14 od15 an15 od16 an16 : Option Addr} {sl1 sl2 sl3 sl4 sl5 sl6 sl7 sl8 sl9 sl10 sl11 sl12 sl13 sl14 sl15 sl16 : Array (Option Value)} {oc1 kV1 dc1 pm1 cd1 ct1 oc2 kV2 dc2 pm2 cd2 ct2 oc3 kV3 dc3 pm3 cd3 ct3 oc4 kV4 dc4 pm4 cd4 ct4 oc5 kV5 dc5 pm5 cd5 ct5 oc6 kV6 dc6 pm6 cd6 ct6 oc7 kV7 dc7 pm7 cd7 ct7 oc8 kV8 dc8 pm8 cd8 ct8 oc9 kV9 dc9 pm9 cd9 ct9 oc10 kV10 dc10 pm10 cd10 ct10 oc11 kV11 dc11 pm11 cd11 ct11 oc12 kV12 dc12 pm12 cd12 ct12 oc13 kV13 dc13 pm13 cd13 ct13 oc14 kV14 dc14 pm14 cd14 ct14 oc15 kV15 dc15 pm15 cd15 ct15 oc16 kV16 dc16 pm16 cd16 ct16 : Value}
    (a1 : PySem.W.nsIn K mainGlobals "falls_by" = some (some (.ref f1))) (l1 : K.lookup f1 = some ⟨oc1, od1, .func (PySem.W.fnOf "falls_by" "falls_by" (defArgs (top 4)) (defBody (top 4)) (defScope (top 4)) .none kV1 dc1 pm1 an1 cd1 ct1), sl1⟩) (c1 : PySem.W.codeIn K cd1 "falls_by" = true) (k1 : PySem.W.keepIn K (.ref f1) = true)
    (a2 : PySem.W.nsIn K mainGlobals "run_of" = some (some (.ref f2))) (l2 : K.lookup f2 = some ⟨oc2, od2, .func (PySem.W.fnOf "run_of" "run_of" (defArgs (top 6)) (defBody (top 6)) (defScope (top 6)) .none kV2 dc2 pm2 an2 cd2 ct2), sl2⟩) (c2 : PySem.W.codeIn K cd2 "run_of" = true) (k2 : PySem.W.keepIn K (.ref f2) = true)
    (a3 : PySem.W.nsIn K mainGlobals "each_moved" = some (some (.ref f3))) (l3 : K.lookup f3 = some ⟨oc3, od3, .func (PySem.W.fnOf "each_moved" "each_moved" (defArgs (top 7)) (defBody (top 7)) (defScope (top 7)) .none kV3 dc3 pm3 an3 cd3 ct3), sl3⟩) (c3 : PySem.W.codeIn K cd3 "each_moved" = true) (k3 : PySem.W.keepIn K (.ref f3) = true)
    (a4 : PySem.W.nsIn K mainGlobals "paired" = some (some (.ref f4))) (l4 : K.lookup f4 = some ⟨oc4, od4, .func (PySem.W.fnOf "paired" "paired" (defArgs (top 8)) (defBody (top 8)) (defScope (top 8)) .none kV4 dc4 pm4 an4 cd4 ct4), sl4⟩) (c4 : PySem.W.codeIn K cd4 "paired" = true) (k4 : PySem.W.keepIn K (.ref f4) = true)
    (a5 : PySem.W.nsIn K mainGlobals "corners" = some (some (.ref f5))) (l5 : K.lookup f5 = some ⟨oc5, od5, .func (PySem.W.fnOf "corners" "corners" (defArgs (top 10)) (defBody (top 10)) (defScope (top 10)) .none kV5 dc5 pm5 an5 cd5 ct5), sl5⟩) (c5 : PySem.W.codeIn K cd5 "corners" = true) (k5 : PySem.W.keepIn K (.ref f5) = true)
    (a6 : PySem.W.nsIn K mainGlobals "_law_hand" = some (some (.ref f6))) (l6 : K.lookup f6 = some ⟨oc6, od6, .func (PySem.W.fnOf "_law_hand" "_law_hand" (defArgs (top 12)) (defBody (top 12)) (defScope (top 12)) .none kV6 dc6 pm6 an6 cd6 ct6), sl6⟩) (c6 : PySem.W.codeIn K cd6 "_law_hand" = true) (k6 : PySem.W.keepIn K (.ref f6) = true)
    (a7 : PySem.W.nsIn K mainGlobals "_law_take" = some (some (.ref f7))) (l7 : K.lookup f7 = some ⟨oc7, od7, .func (PySem.W.fnOf "_law_take" "_law_take" (defArgs (top 13)) (defBody (top 13)) (defScope (top 13)) .none kV7 dc7 pm7 an7 cd7 ct7), sl7⟩) (c7 : PySem.W.codeIn K cd7 "_law_take" = true) (k7 : PySem.W.keepIn K (.ref f7) = true)
    (a8 : PySem.W.nsIn K mainGlobals "_law_falling" = some (some (.ref f8))) (l8 : K.lookup f8 = some ⟨oc8, od8, .func (PySem.W.fnOf "_law_falling" "_law_falling" (defArgs (top 14)) (defBody (top 14)) (defScope (top 14)) .none kV8 dc8 pm8 an8 cd8 ct8), sl8⟩) (c8 : PySem.W.codeIn K cd8 "_law_falling" = true) (k8 : PySem.W.keepIn K (.ref f8) = true)
    (a9 : PySem.W.nsIn K mainGlobals "_law_drawn" = some (some (.ref f9))) (l9 : K.lookup f9 = some ⟨oc9, od9, .func (PySem.W.fnOf "_law_drawn" "_law_drawn" (defArgs (top 15)) (defBody (top 15)) (defScope (top 15)) .none kV9 dc9 pm9 an9 cd9 ct9), sl9⟩) (c9 : PySem.W.codeIn K cd9 "_law_drawn" = true) (k9 : PySem.W.keepIn K (.ref f9) = true)
    (a10 : PySem.W.nsIn K mainGlobals "_law_stairs" = some (some (.ref f10))) (l10 : K.lookup f10 = some ⟨oc10, od10, .func (PySem.W.fnOf "_law_stairs" "_law_stairs" (defArgs (top 16)) (defBody (top 16)) (defScope (top 16)) .none kV10 dc10 pm10 an10 cd10 ct10), sl10⟩) (c10 : PySem.W.codeIn K cd10 "_law_stairs" = true) (k10 : PySem.W.keepIn K (.ref f10) = true)
    (a11 : PySem.W.nsIn K mainGlobals "_law_unlike" = some (some (.ref f11))) (l11 : K.lookup f11 = some ⟨oc11, od11, .func (PySem.W.fnOf "_law_unlike" "_law_unlike" (defArgs (top 17)) (defBody (top 17)) (defScope (top 17)) .none kV11 dc11 pm11 an11 cd11 ct11), sl11⟩) (c11 : PySem.W.codeIn K cd11 "_law_unlike" = true) (k11 : PySem.W.keepIn K (.ref f11) = true)
    (a12 : PySem.W.nsIn K mainGlobals "_law_same" = some (some (.ref f12))) (l12 : K.lookup f12 = some ⟨oc12, od12, .func (PySem.W.fnOf "_law_same" "_law_same" (defArgs (top 18)) (defBody (top 18)) (defScope (top 18)) .none kV12 dc12 pm12 an12 cd12 ct12), sl12⟩) (c12 : PySem.W.codeIn K cd12 "_law_same" = true) (k12 : PySem.W.keepIn K (.ref f12) = true)
    (a13 : PySem.W.nsIn K mainGlobals "_law_due" = some (some (.ref f13))) (l13 : K.lookup f13 = some ⟨oc13, od13, .func (PySem.W.fnOf "_law_due" "_law_due" (defArgs (top 19)) (defBody (top 19)) (defScope (top 19)) .none kV13 dc13 pm13 an13 cd13 ct13), sl13⟩) (c13 : PySem.W.codeIn K cd13 "_law_due" = true) (k13 : PySem.W.keepIn K (.ref f13) = true)
    (a14 : PySem.W.nsIn K mainGlobals "_law_right" = some (some (.ref f14))) (l14 : K.lookup f14 = some ⟨oc14, od14, .func (PySem.W.fnOf "_law_right" "_law_right" (defArgs (top 20)) (defBody (top 20)) (defScope (top 20)) .none kV14 dc14 pm14 an14 cd14 ct14), sl14⟩) (c14 : PySem.W.codeIn K cd14 "_law_right" = true) (k14 : PySem.W.keepIn K (.ref f14) = true)
    (a15 : PySem.W.nsIn K mainGlobals "_law_all_unlike" = some (some (.ref f15))) (l15 : K.lookup f15 = some ⟨oc15, od15, .func (PySem.W.fnOf "_law_all_unlike" "_law_all_unlike" (defArgs (top 21)) (defBody (top 21)) (defScope (top 21)) .none kV15 dc15 pm15 an15 cd15 ct15), sl15⟩) (c15 : PySem.W.codeIn K cd15 "_law_all_unlike" = true) (k15 : PySem.W.keepIn K (.ref f15) = true)
    (a16 : PySem.W.nsIn K mainGlobals "law" = some (some (.ref f16))) (l16 : K.lookup f16 = some ⟨oc16, od16, .func (PySem.W.fnOf "law" "law" (defArgs (top 22)) (defBody (top 22)) (defScope (top 22)) .none kV16 dc16 pm16 an16 cd16 ct16), sl16⟩) (c16 : PySem.W.codeIn K cd16 "law" = true) (k16 : PySem.W.keepIn K (.ref f16) = true)
    (yD : PySem.W.nsIn K cStatics "sys.int_max_str_digits" = some none)
    (z1 : PySem.W.nsIn K mainGlobals "len" = some none) (z2 : PySem.W.nsIn K mainGlobals "range" = some none) (z3 : PySem.W.nsIn K mainGlobals "tuple" = some none) (z4 : PySem.W.nsIn K mainGlobals "int" = some none) (z5 : PySem.W.nsIn K mainGlobals "sorted" = some none) (z6 : PySem.W.nsIn K mainGlobals "min" = some none) (z7 : PySem.W.nsIn K mainGlobals "set" = some none) (z8 : PySem.W.nsIn K mainGlobals "sum" = some none) (z9 : PySem.W.nsIn K mainGlobals "all" = some none) (z10 : PySem.W.nsIn K mainGlobals "bool" = some none) (z11 : PySem.W.nsIn K mainGlobals "isinstance" = some none) (z12 : PySem.W.nsIn K mainGlobals "zip" = some none) (z13 : PySem.W.nsIn K mainGlobals "enumerate" = some none) (z14 : PySem.W.nsIn K mainGlobals "abs" = some none) (z15 : PySem.W.nsIn K mainGlobals "max" = some none) :
    ∃ fd : FuncData, (∀ (s : Shared) (v : Value), BindsTo s fd ⟨[v], []⟩ [("_law_script", v)]) ∧ ∀ base : Heap, K.In base → base.Ns mainGlobals mg → FnOk l.prog w K mg base CX0 5 fa fd ["_law_script"] (sp_law K) := by
  have e := hfa.symm.trans (PySem.W.mg_of X G a16)
  cases e
  have F1 := fun_mk (st := top 4) l1 c1 k1
  have b1 := F1.binds (ps := ["parting", "d"]) fun _ _ _ _ _ _ => us2 fun _ _ => rfl
  have F2 := fun_mk (st := top 6) l2 c2 k2
  have b2 := F2.binds (ps := ["parting"]) fun _ _ _ _ _ _ => us1 fun _ => rfl
  have F3 := fun_mk (st := top 7) l3 c3 k3
  have b3 := F3.binds (ps := ["parts", "step"]) fun _ _ _ _ _ _ => us2 fun _ _ => rfl
  have F4 := fun_mk (st := top 8) l4 c4 k4
  have b4 := F4.binds (ps := ["parting"]) fun _ _ _ _ _ _ => us1 fun _ => rfl
  have F5 := fun_mk (st := top 10) l5 c5 k5
  have b5 := F5.binds (ps := ["most"]) fun _ _ _ _ _ _ => us1 fun _ => rfl
  have F6 := fun_mk (st := top 12) l6 c6 k6
  have b6 := F6.binds (ps := ["_law_script", "_law_k"]) fun _ _ _ _ _ _ => us2 fun _ _ => rfl
  have F7 := fun_mk (st := top 13) l7 c7 k7
  have b7 := F7.binds (ps := ["_law_hand_here", "_law_many"]) fun _ _ _ _ _ _ => us2 fun _ _ => rfl
  have F8 := fun_mk (st := top 14) l8 c8 k8
  have b8 := F8.binds (ps := ["_law_parts"]) fun _ _ _ _ _ _ => us1 fun _ => rfl
  have F9 := fun_mk (st := top 15) l9 c9 k9
  have b9 := F9.binds (ps := ["_law_hand_here", "_law_heavy"]) fun _ _ _ _ _ _ => us2 fun _ _ => rfl
  have F10 := fun_mk (st := top 16) l10 c10 k10
  have b10 := F10.binds (ps := ["_law_hand_here"]) fun _ _ _ _ _ _ => us1 fun _ => rfl
  have F11 := fun_mk (st := top 17) l11 c11 k11
  have b11 := F11.binds (ps := ["_law_hand_here"]) fun _ _ _ _ _ _ => us1 fun _ => rfl
  have F12 := fun_mk (st := top 18) l12 c12 k12
  have b12 := F12.binds (ps := ["_law_found", "_law_due_here"]) fun _ _ _ _ _ _ => us2 fun _ _ => rfl
  have F13 := fun_mk (st := top 19) l13 c13 k13
  have b13 := F13.binds (ps := ["_law_parting"]) fun _ _ _ _ _ _ => us1 fun _ => rfl
  have F14 := fun_mk (st := top 20) l14 c14 k14
  have b14 := F14.binds (ps := ["_law_parting"]) fun _ _ _ _ _ _ => us1 fun _ => rfl
  have F15 := fun_mk (st := top 21) l15 c15 k15
  have b15 := F15.binds (ps := ["_law_n"]) fun _ _ _ _ _ _ => us1 fun _ => rfl
  have F16 := fun_mk (st := top 22) l16 c16 k16
  have m_len := PySem.W.mg_none_of X G z1
  have m_range := PySem.W.mg_none_of X G z2
  have m_tuple := PySem.W.mg_none_of X G z3
  have m_int := PySem.W.mg_none_of X G z4
  have m_sorted := PySem.W.mg_none_of X G z5
  have m_min := PySem.W.mg_none_of X G z6
  have m_set := PySem.W.mg_none_of X G z7
  have m_sum := PySem.W.mg_none_of X G z8
  have m_all := PySem.W.mg_none_of X G z9
  have m_bool := PySem.W.mg_none_of X G z10
  have m_isinstance := PySem.W.mg_none_of X G z11
  have m_zip := PySem.W.mg_none_of X G z12
  have m_enumerate := PySem.W.mg_none_of X G z13
  have m_abs := PySem.W.mg_none_of X G z14
  have m_max := PySem.W.mg_none_of X G z15
  have g_DIG : DigK K := yD
  refine ⟨PySem.W.fnOf "law" "law" (defArgs (top 22)) (defBody (top 22)) (defScope (top 22)) .none kV16 dc16 pm16 an16 cd16 ct16, fun s v => .of_eq rfl, fun base _ _ => ?_⟩
  have A1 : FnA l.prog w K mg base "falls_by" 1 ["parting", "d"] sp_fb := fnA (ok_fb F1 m_len m_range) b1 k1 (PySem.W.mg_of X G a1)
  have A2 : FnA l.prog w K mg base "run_of" 1 ["parting"] sp_ro := fnA (ok_ro F2 m_len) b2 k2 (PySem.W.mg_of X G a2)
  have A3 : FnA l.prog w K mg base "each_moved" 1 ["parts", "step"] sp_em := fnA (ok_em F3 m_tuple) b3 k3 (PySem.W.mg_of X G a3)
  have A4 : FnA l.prog w K mg base "paired" 2 ["parting"] sp_pd := fnA (ok_pd F4 m_len A3 A1 A2) b4 k4 (PySem.W.mg_of X G a4)
  have A5 : FnA l.prog w K mg base "corners" 1 ["most"] sp_cor := fnA (ok_corners F5 m_tuple) b5 k5 (PySem.W.mg_of X G a5)
  have A6 : FnA l.prog w K mg base "_law_hand" 1 ["_law_script", "_law_k"] (sp_hand K) := fnA (ok_hand F6 m_int m_len g_DIG) b6 k6 (PySem.W.mg_of X G a6)
  have A7 : FnA l.prog w K mg base "_law_take" 1 ["_law_hand_here", "_law_many"] sp_take := fnA (ok_take F7) b7 k7 (PySem.W.mg_of X G a7)
  have A8 : FnA l.prog w K mg base "_law_falling" 1 ["_law_parts"] sp_fall := fnA (ok_fall F8 m_sorted m_tuple) b8 k8 (PySem.W.mg_of X G a8)
  have A9 : FnA l.prog w K mg base "_law_drawn" 2 ["_law_hand_here", "_law_heavy"] sp_dr := fnA (ok_dr F9 m_min A8 A7) b9 k9 (PySem.W.mg_of X G a9)
  have A10 : FnA l.prog w K mg base "_law_stairs" 2 ["_law_hand_here"] sp_st := fnA (ok_st F10 m_range A7) b10 k10 (PySem.W.mg_of X G a10)
  have A11 : FnA l.prog w K mg base "_law_unlike" 3 ["_law_hand_here"] sp_ul := fnA (ok_ul F11 m_int m_set m_sorted m_sum A9 A8 A10 A7) b11 k11 (PySem.W.mg_of X G a11)
  have A12 : FnA l.prog w K mg base "_law_same" 2 ["_law_found", "_law_due_here"] (sp_sm 2) := fnA (ok_same 2 F12 m_all m_bool m_int m_isinstance m_len m_tuple m_zip b12 k12 (PySem.W.mg_of X G a12)) b12 k12 (PySem.W.mg_of X G a12)
  have A13 : FnA l.prog w K mg base "_law_due" 1 ["_law_parting"] sp_pd := fnA (ok_du F13 m_enumerate m_int m_len m_tuple) b13 k13 (PySem.W.mg_of X G a13)
  have A14 : FnA l.prog w K mg base "_law_right" 4 ["_law_parting"] sp_ri := fnA (ok_ri F14 m_abs m_len m_set m_sum A13 A8 A12 A4) b14 k14 (PySem.W.mg_of X G a14)
  have A15 : FnA l.prog w K mg base "_law_all_unlike" 1 ["_law_n"] sp_au := fnA (ok_au F15 m_range m_sum) b15 k15 (PySem.W.mg_of X G a15)
  exact ok_law F16 m_len m_max m_min m_range A15 A6 A14 A7 A11 A5 A4
theorem walk {l : PySem.W.OpenLaw} {q : Program} {loose : List Str} {XP : (Str → Option Value) → Heap → Prop} {YP : World → Heap → Prop} {d : DefRec} {K : Params → PySem.W.Frag} (hn : l.most = some 63) (hdf : d.params.defaults = [])
    (hY : ∀ (w : World) (h : Heap), YP w h → (K w.params).In h)
    (F : ∀ (w : World) (mg : Str → Option Value) (fa : Addr) (h : Heap), (K w.params).In h → h.Ns mainGlobals mg → mg d.name = some (.ref fa) →
      ∃ fd : FuncData, (∀ (s : Shared) (u : Value), BindsTo s fd ⟨[u], []⟩ [("_law_script", u)]) ∧ ∀ base : Heap, (K w.params).In base → base.Ns mainGlobals mg → FnOk l.prog w (K w.params) mg base CX0 5 fa fd ["_law_script"] (sp_law (K w.params))) :
    PySem.W.WalkO q loose XP YP l.row.toRowW d [] (fun f vs => PySem.call f vs) :=
  L2.walk_of (n := 63) (k := 5) (x := "_law_script") (CX := fun _ => CX0) (sp := fun w => sp_law (K w.params)) hn (by decide) hdf ⟨rfl, by decide, by decide, rfl⟩ hY F (fun _ _ a ns hl _ hS => ⟨a, ns, rfl, hS, hl, fun _ => rfl⟩) fun _ _ _ _ _ z => z
end K60
namespace PySem.W.Fast
theorem tw826537572868815959 : True := ⟨⟩
theorem tw2901275702714291906 : True := ⟨⟩
theorem tw14590129483509981040 : True := ⟨⟩
theorem tw660882921718531907 : True := ⟨⟩
theorem tw10815155094020494371 : True := ⟨⟩
theorem tw15273319652946421211 : True := ⟨⟩
theorem tw12942717433617681712 : True := ⟨⟩
theorem tw5421010118445165853 : True := ⟨⟩
theorem tw9582526148889357283 : True := ⟨⟩
theorem tw17879116390522831475 : True := ⟨⟩
theorem tw10148586303255642885 : True := ⟨⟩
theorem tw3009590055492489084 : True := ⟨⟩
theorem tw4519008770950004019 : True := ⟨⟩
theorem tw2647080835472884696 : True := ⟨⟩
theorem tw4746967973608004272 : True := ⟨⟩
theorem tw5526698988164415222 : True := ⟨⟩
theorem tw3923050778563020496 : True := ⟨⟩
theorem tw5446200475071785895 : True := ⟨⟩
theorem tw9501437450752605997 : True := ⟨⟩
theorem tw10488819297710223694 : True := ⟨⟩
theorem tw17133760976772950600 : True := ⟨⟩
theorem tw17692049281726903431 : True := ⟨⟩
theorem tw5698383880895088302 : True := ⟨⟩
theorem tw12363158428268139058 : True := ⟨⟩
theorem tw13229821957993914112 : True := ⟨⟩
theorem tw9703661353056392559 : True := ⟨⟩
theorem tw5914075178121152286 : True := ⟨⟩
theorem tw4216308229413696755 : True := ⟨⟩
theorem tw17111920842177388164 : True := ⟨⟩
theorem tw17591963247610604744 : True := ⟨⟩
theorem tw4891900096219136538 : True := ⟨⟩
theorem tw10530960464770013302 : True := ⟨⟩
theorem tw6818401574758689169 : True := ⟨⟩
theorem tw8387987149013405765 : True := ⟨⟩
theorem tw8247212481515721573 : True := ⟨⟩
theorem tw15317149838085778904 : True := ⟨⟩
theorem tw17976878518731826636 : True := ⟨⟩
theorem tw13451430171388907622 : True := ⟨⟩
theorem tw707536090334914291 : True := ⟨⟩
theorem tw5365695917982703422 : True := ⟨⟩
theorem tw8933637556896870158 : True := ⟨⟩
theorem tw10044044497968113904 : True := ⟨⟩
theorem tw7399190498107348257 : True := ⟨⟩
theorem tw2333175628496075248 : True := ⟨⟩
theorem tw2184018871773240461 : True := ⟨⟩
theorem tw15920315053099390016 : True := ⟨⟩
theorem tw4626450764269800033 : True := ⟨⟩
theorem tw5737032492624882672 : True := ⟨⟩
theorem tw7314731340643932605 : True := ⟨⟩
theorem tw18020459308207831338 : True := ⟨⟩
theorem tw4914945705407469142 : True := ⟨⟩
theorem tw4467311374657860798 : True := ⟨⟩
theorem tw1814743616628766257 : True := ⟨⟩
theorem tw1448226207688566966 : True := ⟨⟩
theorem tw17696943675758052860 : True := ⟨⟩
theorem tw11824136816558338593 : True := ⟨⟩
theorem tw12627583353462842663 : True := ⟨⟩
theorem tw10423042771956159046 : True := ⟨⟩
theorem tw11648240869572395625 : True := ⟨⟩
theorem tw10701440369049168575 : True := ⟨⟩
theorem tw9002610301694905799 : True := ⟨⟩
theorem tw7789632894481859519 : True := ⟨⟩
theorem tw463231699175240347 : True := ⟨⟩
theorem tw11251112097373736888 : True := ⟨⟩
theorem tw3339610943753217275 : True := ⟨⟩
theorem tw12768766503206490370 : True := ⟨⟩
theorem tw17907480043896012978 : True := ⟨⟩
theorem tw5110207812022962225 : True := ⟨⟩
theorem tw12550679355420953470 : True := ⟨⟩
theorem tw6239854897664156230 : True := ⟨⟩
theorem tw9685159780397349323 : True := ⟨⟩
theorem tw4273999960296462165 : True := ⟨⟩
theorem tw9574886854366023852 : True := ⟨⟩
theorem tw12349056617169387351 : True := ⟨⟩
theorem tw7500787319076104780 : True := ⟨⟩
theorem tw1142714870443863052 : True := ⟨⟩
theorem tw11261971443099917051 : True := ⟨⟩
theorem tw3934790887005355655 : True := ⟨⟩
theorem tw4607968044764592150 : True := ⟨⟩
theorem tw276347629735840627 : True := ⟨⟩
theorem tw15992676049357063088 : True := ⟨⟩
theorem tw4112933033985971167 : True := ⟨⟩
theorem tw9263025073732874915 : True := ⟨⟩
theorem tw14907117492940642034 : True := ⟨⟩
theorem tw5678829324685777286 : True := ⟨⟩
theorem tw930226616210959239 : True := ⟨⟩
theorem tw12672670696227106525 : True := ⟨⟩
theorem tw11146450921441450103 : True := ⟨⟩
theorem tw10652258127730324238 : True := ⟨⟩
theorem tw12527868342602844305 : True := ⟨⟩
theorem tw14778059747962212212 : True := ⟨⟩
theorem tw15037372559014388906 : True := ⟨⟩
theorem tw17047676573976788646 : True := ⟨⟩
theorem tw17972081606978725501 : True := ⟨⟩
theorem tw12047972426379341834 : True := ⟨⟩
theorem tw9774850954639990059 : True := ⟨⟩
theorem tw3455542133577827663 : True := ⟨⟩
theorem tw11285879011465607329 : True := ⟨⟩
theorem tw15571229837379956080 : True := ⟨⟩
theorem tw6600449014330545150 : True := ⟨⟩
theorem tw9514560434405038169 : True := ⟨⟩
theorem tw13873118298595887520 : True := ⟨⟩
theorem tw8688241259093801024 : True := ⟨⟩
theorem tw13104318944123095185 : True := ⟨⟩
theorem tw6713358880127238596 : True := ⟨⟩
theorem tw15191166617598089279 : True := ⟨⟩
theorem tw15627165864679730010 : True := ⟨⟩
theorem tw17184721095611599928 : True := ⟨⟩
theorem tw9741873818081530006 : True := ⟨⟩
theorem tw13690006003478990186 : True := ⟨⟩
theorem tw14317571026986247703 : True := ⟨⟩
theorem tw1637760463579670540 : True := ⟨⟩
theorem tw13285923799015531982 : True := ⟨⟩
theorem tw13023308202122459293 : True := ⟨⟩
theorem tw3867600321884200283 : True := ⟨⟩
theorem tw17994884346060308782 : True := ⟨⟩
theorem tw14934706228025551837 : True := ⟨⟩
theorem tw14177403766573964076 : True := ⟨⟩
theorem tw13552876264111716139 : True := ⟨⟩
theorem tw1388399834567376661 : True := ⟨⟩
theorem tw14775099187483844127 : True := ⟨⟩
theorem tw17254581116335089765 : True := ⟨⟩
theorem tw8013404283803229237 : True := ⟨⟩
theorem tw2122865380239496619 : True := ⟨⟩
theorem tw15150051547477413318 : True := ⟨⟩
theorem tw3792833729658576587 : True := ⟨⟩
theorem tw16092119159999733338 : True := ⟨⟩
theorem tw1745050922552660576 : True := ⟨⟩
end PySem.W.Fast
open PySem PySem.W PyProof.Rows
set_option maxRecDepth 100000 in
set_option maxHeartbeats 0 in
theorem PySem.Challenge.cw_partrests_k60_whole_paired_holds : PySem.Challenge.rw_partrests_k60_whole_paired.Holds := by
  w_on; o_law; k_head; (case hw => w_witness2)
  k_fill
  refine K60.walk (l := PySem.Challenge.rw_partrests_k60_whole_paired) rfl rfl (fun w h Y => PySem.W.kIn_of Y) ?F
  case F =>
    intro w mg fa h KX G hmg
    refine' K60.all_mk KX G hmg ?a1 ?l1 ?c1 ?k1 ?a2 ?l2 ?c2 ?k2 ?a3 ?l3 ?c3 ?k3 ?a4 ?l4 ?c4 ?k4 ?a5 ?l5 ?c5 ?k5 ?a6 ?l6 ?c6 ?k6 ?a7 ?l7 ?c7 ?k7 ?a8 ?l8 ?c8 ?k8 ?a9 ?l9 ?c9 ?k9 ?a10 ?l10 ?c10 ?k10 ?a11 ?l11 ?c11 ?k11 ?a12 ?l12 ?c12 ?k12 ?a13 ?l13 ?c13 ?k13 ?a14 ?l14 ?c14 ?k14 ?a15 ?l15 ?c15 ?k15 ?a16 ?l16 ?c16 ?k16  ?yD ?z1 ?z2 ?z3 ?z4 ?z5 ?z6 ?z7 ?z8 ?z9 ?z10 ?z11 ?z12 ?z13 ?z14 ?z15
    (case a1 => k_is); (case l1 => k_is); (case c1 => k_is); (case k1 => k_is)
    (case a2 => k_is); (case l2 => k_is); (case c2 => k_is); (case k2 => k_is)
    (case a3 => k_is); (case l3 => k_is); (case c3 => k_is); (case k3 => k_is)
    (case a4 => k_is); (case l4 => k_is); (case c4 => k_is); (case k4 => k_is)
    (case a5 => k_is); (case l5 => k_is); (case c5 => k_is); (case k5 => k_is)
    (case a6 => k_is); (case l6 => k_is); (case c6 => k_is); (case k6 => k_is)
    (case a7 => k_is); (case l7 => k_is); (case c7 => k_is); (case k7 => k_is)
    (case a8 => k_is); (case l8 => k_is); (case c8 => k_is); (case k8 => k_is)
    (case a9 => k_is); (case l9 => k_is); (case c9 => k_is); (case k9 => k_is)
    (case a10 => k_is); (case l10 => k_is); (case c10 => k_is); (case k10 => k_is)
    (case a11 => k_is); (case l11 => k_is); (case c11 => k_is); (case k11 => k_is)
    (case a12 => k_is); (case l12 => k_is); (case c12 => k_is); (case k12 => k_is)
    (case a13 => k_is); (case l13 => k_is); (case c13 => k_is); (case k13 => k_is)
    (case a14 => k_is); (case l14 => k_is); (case c14 => k_is); (case k14 => k_is)
    (case a15 => k_is); (case l15 => k_is); (case c15 => k_is); (case k15 => k_is)
    (case a16 => k_is); (case l16 => k_is); (case c16 => k_is); (case k16 => k_is)
    (case yD => k_is)
    (case z1 => k_is)
    (case z2 => k_is)
    (case z3 => k_is)
    (case z4 => k_is)
    (case z5 => k_is)
    (case z6 => k_is)
    (case z7 => k_is)
    (case z8 => k_is)
    (case z9 => k_is)
    (case z10 => k_is)
    (case z11 => k_is)
    (case z12 => k_is)
    (case z13 => k_is)
    (case z14 => k_is)
    (case z15 => k_is)

