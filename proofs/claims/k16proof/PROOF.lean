import PyProof.Rows.All
import Wide.All
import OpenK.AllK
import Wide.FinOn
import Lean
import PyProof.EqAt
import PyProof.EqKinds
import PyProof.TupleCall
import PySem.Challenge.RW_partrests_k16_whole_all_ways_agree
set_option Elab.async false
set_option linter.all false
set_option maxRecDepth 100000
namespace L2
open PySem PySem.Spec PyProof.Rows
noncomputable abbrev Key := Sum Int Str
noncomputable def keyIs : Key → Value → Bool
  | .inl k, v => Value.isInt k v
  | .inr x, v => Value.isStrOf x v
noncomputable def keyH (w : World) : Key → Int
  | .inl k => hashInt k
  | .inr x => hashStr w x
theorem keyIs_shape : ∀ {k : Key} {v : Value}, keyIs k v = true → (∃ i t, k = Sum.inl i ∧ v = Value.int i t) ∨ (∃ x t, k = Sum.inr x ∧ v = Value.str x t)
  | .inl i, v, h => by
    obtain ⟨t, e⟩ := Value.isInt_shape (k := i) (v := v) h
    exact .inl ⟨i, t, rfl, e⟩
  | .inr x, v, h => by
    obtain ⟨t, e⟩ := Value.isStrOf_shape (x := x) (v := v) h
    exact .inr ⟨x, t, rfl, e⟩
theorem key_ll (a b : Int) : decide ((Sum.inl a : Key) = Sum.inl b) = (a == b) := by
  by_cases e : a = b
  · subst e; simp
  · have h : ¬ (Sum.inl a : Key) = Sum.inl b := fun q => e (Sum.inl.inj q)
    rw [decide_eq_false h]
    exact (beq_eq_false_iff_ne.mpr e).symm
theorem key_rr (a b : Str) : decide ((Sum.inr a : Key) = Sum.inr b) = decide (a = b) := by
  by_cases e : a = b
  · subst e; simp
  · have h : ¬ (Sum.inr a : Key) = Sum.inr b := fun q => e (Sum.inr.inj q)
    rw [decide_eq_false h, decide_eq_false e]
theorem key_lr (a : Int) (b : Str) : decide ((Sum.inl a : Key) = Sum.inr b) = false := decide_eq_false (fun q => nomatch q)
theorem key_rl (a : Str) (b : Int) : decide ((Sum.inr a : Key) = Sum.inl b) = false := decide_eq_false (fun q => nomatch q)

noncomputable def mixKind (prog : Program) (w : World) : PySem.KeyKind prog w Key where
  is := keyIs
  hash := keyH w
  inj := fun v a b ha hb => by
    rcases keyIs_shape ha with ⟨i, t, rfl, rfl⟩ | ⟨x, t, rfl, rfl⟩
    · rcases keyIs_shape hb with ⟨j, u, rfl, e⟩ | ⟨y, u, rfl, e⟩
      · injection e with e1 _; rw [e1]
      · exact nomatch e
    · rcases keyIs_shape hb with ⟨j, u, rfl, e⟩ | ⟨y, u, rfl, e⟩
      · exact nomatch e
      · injection e with e1 _; rw [e1]
  byValue := fun k v h => by
    rcases keyIs_shape h with ⟨i, t, rfl, rfl⟩ | ⟨x, t, rfl, rfl⟩ <;> rfl
  pyHash := fun hv h => by
    rcases keyIs_shape hv with ⟨i, t, rfl, rfl⟩ | ⟨x, t, rfl, rfl⟩
    · exact wpAny_pyHash_int h
    · exact wpAny_pyHash_str h
  eqBool := fun hu hv h => by
    rcases keyIs_shape hu with ⟨i, t, rfl, rfl⟩ | ⟨x, t, rfl, rfl⟩
    · rcases keyIs_shape hv with ⟨j, u, rfl, rfl⟩ | ⟨y, u, rfl, rfl⟩
      · rw [key_ll] at h; exact wpAny_eqBool_int h
      · rw [key_lr] at h; exact SeqAt.EqAt.int_str i t y u _ _ _ _ h
    · rcases keyIs_shape hv with ⟨j, u, rfl, rfl⟩ | ⟨y, u, rfl, rfl⟩
      · rw [key_rl] at h; exact SeqAt.EqAt.str_int x t j u _ _ _ _ h
      · rw [key_rr] at h; exact wpAny_eqBool_str h
  «strs» := fun k x t v h => by
    rcases keyIs_shape h with ⟨i, u, rfl, e⟩ | ⟨y, u, rfl, e⟩
    · exact nomatch e
    · injection e with e1 _
      subst e1
      cases v <;> rfl

end L2
namespace L2
open PySem PySem.Spec PyProof.Rows
inductive V where
  | non | bl (b : Bool) | int (i : Int) | str (x : Str) | byt (b : Array UInt8) | flt (b : UInt64) | ref (a : Addr) | ty (n : String)
  deriving DecidableEq

noncomputable def RelV : V → Value → Prop
  | .non, u => u = Value.none
  | .bl b, u => u = Value.bool b
  | .int i, u => ∃ t, u = Value.int i t
  | .str x, u => ∃ t, u = Value.str x t
  | .byt b, u => ∃ t, u = Value.bytes b t
  | .flt b, u => ∃ t, u = Value.float b t
  | .ref a, u => u = Value.ref a
  | .ty n, u => u = Value.type n

noncomputable abbrev Vals : List V → List Value → Prop := Paired RelV
theorem Vals.length {xs : List V} {us : List Value} (r : Vals xs us) : xs.length = us.length := Paired.length r
theorem Vals.get : ∀ {xs : List V} {us : List Value} {i : Nat} {x : V}, Vals xs us → xs[i]? = some x → ∃ u, us[i]? = some u ∧ RelV x u
  | _, _, _, _, .nil, e => by simp at e
  | _, _, 0, _, .cons r _, e => by simp at e; subst e; exact ⟨_, rfl, r⟩
  | _, _, i + 1, x, .cons _ t, e => by
    obtain ⟨u, h1, h2⟩ := Vals.get (i := i) (x := x) t (by simpa using e)
    exact ⟨u, by simpa using h1, h2⟩
theorem Vals.set {x : V} {u : Value} (r : RelV x u) : ∀ {xs : List V} {us : List Value} (i : Nat), Vals xs us → Vals (xs.set i x) (us.set i u)
  | _, _, _, .nil => .nil
  | _, _, 0, .cons _ t => .cons r t
  | _, _, i + 1, .cons q t => .cons q (Vals.set r i t)
theorem Vals.append : ∀ {xs ys : List V} {us ws : List Value}, Vals xs us → Vals ys ws → Vals (xs ++ ys) (us ++ ws)
  | _, _, _, _, .nil, s => s
  | _, _, _, _, .cons r t, s => .cons r (Vals.append t s)
theorem Vals.take : ∀ {xs : List V} {us : List Value} (n : Nat), Vals xs us → Vals (xs.take n) (us.take n)
  | _, _, 0, _ => .nil
  | _, _, _ + 1, .nil => .nil
  | _, _, n + 1, .cons r t => .cons r (Vals.take n t)
theorem Vals.drop : ∀ {xs : List V} {us : List Value} (n : Nat), Vals xs us → Vals (xs.drop n) (us.drop n)
  | _, _, 0, r => r
  | _, _, _ + 1, .nil => .nil
  | _, _, n + 1, .cons _ t => Vals.drop n t
noncomputable def TupD (h : Heap) (a : Addr) (items : Array Value) : Prop := ∃ n, h.get? a = some { cls := .type "tuple", data := .seq items n }
theorem TupD.tup {h : Heap} {a : Addr} {items : Array Value} (p : TupD h a items) : IsTup h a items := let ⟨n, e⟩ := p; ⟨_, e, rfl, n, rfl⟩
theorem TupD.new (h : Heap) (items : Array Value) : TupD (h.push { cls := .type "tuple", data := .seq items }) h.objs.size items := ⟨_, Heap.get?_push_size _ rfl⟩

noncomputable def RelO : Option V → Option Value → Prop
  | some v, some u => RelV v u
  | none, none => True
  | _, _ => False
noncomputable def KV {κ : Type} : List (κ × V) → List (κ × Value) → Prop := Paired fun (p : κ × V) (q : κ × Value) => p.1 = q.1 ∧ RelV p.2 q.2

noncomputable def kV : Key → V
  | .inl i => .int i
  | .inr x => .str x

inductive HO where
  /-- a list -/
  | lst (xs : List V)
  /-- a tuple (never changes) -/
  | tup (xs : List V)
  /-- a dict whose keys are ints and texts; one whose keys are tuples of ints and texts (the empty one is both) -/
  | dK (kvs : List (Key × V)) | dT (kvs : List (List Key × V))
  /-- a set of ints: its members, its size -/
  | set (S : Int → Bool) (n : Nat)
  /-- an instance of the class at C, its dict at dx, its attributes -/
  | ins (C dx : Addr) (fs : List (Str × V))
  /-- the dict of the instance at x -/
  | own (x : Addr)
  /-- the dict of an exception -/
  | xd (fs : List (Str × V))
  /-- a bound method, f of x -/
  | met (f x : Addr)
  /-- a range object lo, lo + 1, .. below hi -/
  | rng (lo hi : Int)
  /-- a thing that is known to the object (the script; a dict while a loop walks it): read, never written while it is so -/
  | frz (o : Obj) (u : HO)
  /-- a code object's table -/
  | tbl (ps : Array Value)
  /-- any other thing, by what is true of its one object (a def of one's own: SetO a S n := HO.ext fun h => ..) -/
  | ext (φ : Heap → Prop)

noncomputable abbrev Hp := Addr → Option HO
noncomputable def upd (H : Hp) (a : Addr) (o : HO) : Hp := fun b => if b = a then some o else H b
theorem upd_same {H : Hp} {a : Addr} {o : HO} : upd H a o a = some o := by unfold upd; rw [if_pos rfl]
theorem upd_ne {H : Hp} {a b : Addr} {o : HO} (h : b ≠ a) : upd H a o b = H b := by unfold upd; rw [if_neg h]
theorem ne_of {H : Hp} {a b : Addr} {o u : HO} (h : H a = some o) (h' : H b = some u) (d : o ≠ u) : a ≠ b := by
  intro e; subst e; rw [h] at h'; exact d (Option.some.inj h')
theorem ne_of_none {H : Hp} {a b : Addr} {o : HO} (h : H a = some o) (h' : H b = none) : a ≠ b := by
  intro e; subst e; rw [h] at h'; cases h'

section
variable (P : Program) (w : World)
noncomputable def ObjOk (H : Hp) (h : Heap) (a : Addr) : HO → Prop
  | .lst xs => xs.length ≤ sizeLine ∧ ∃ (its : List Value) (n : Nat), Vals xs its ∧ h.get? a = some { cls := .type "list", data := .seq its.toArray n }
  | .tup xs => xs.length ≤ sizeLine ∧ ∃ its : List Value, Vals xs its ∧ TupD h a its.toArray
  | .dK kvs => kvs.length ≤ sizeLine ∧ (a == sysModules) = false ∧ ∃ vs, KV kvs vs ∧ h.DictOf (mixKind P w) a vs
  | .dT kvs => kvs.length ≤ sizeLine ∧ (a == sysModules) = false ∧ ∃ xs : List (List Key × Addr × Value),
      Paired (fun (p : List Key × V) (q : List Key × Addr × Value) => p.1 = q.1 ∧ H q.2.1 = some (.tup (p.1.map kV)) ∧ RelV p.2 q.2.2) kvs xs ∧
      ∃ o es ep, h.get? a = some o ∧ o.ExactDict ∧ o.data = .dict es ep ∧ es.toList = xs.map (entryOfKey (tupleKind (mixKind P w))) ∧ (xs.map (·.1)).Nodup
  | .set S n => h.SetOf (intKind P w) a S n
  | .ins C dx fs => H dx = some (.own a) ∧ fs.length ≤ 1000 ∧ dx ≠ a ∧ h.get? a = some (PySem.W.instObj C dx) ∧
      ∃ mA, h.Ns1 dx mA ∧ (∀ f, RelO (fs.lookup f) (mA f)) ∧ PySem.Within mA (fs.map (·.1))
  | .own _ => ∃ o, h.get? a = some o
  | .xd fs => ∃ mA, h.Ns1 a mA ∧ ∀ f, RelO (fs.lookup f) (mA f)
  | .rng lo hi => ∃ t u v, h.get? a = some { cls := .type "range", data := .fields #[.int lo t, .int hi u, .int 1 v] }
  | .frz o u => h.get? a = some o ∧ ObjOk H h a u
  | .tbl ps => h.get? a = some { cls := .none, data := .fields ps }
  | .met f x => h.get? a = some (PySem.W.methodObj (.ref f) (.ref x))
  | .ext φ => φ h ∧ (∃ o, h.get? a = some o) ∧ ∀ h1 h2 : Heap, φ h1 → (∀ o, h1.get? a = some o → h2.get? a = some o) → φ h2
noncomputable def HOk (H : Hp) (h : Heap) : Prop := ∀ a o, H a = some o → ObjOk P w H h a o
end
section
variable {P : Program} {w : World} {H H' : Hp} {h h' : Heap} {a : Addr} {o : HO}
theorem ObjOk.lt (x : ObjOk P w H h a o) : a < h.objs.size := by
  cases o with
  | lst xs => obtain ⟨_, _, _, _, e⟩ := x; exact Heap.lt_size e
  | tup xs => obtain ⟨_, _, _, p⟩ := x; exact p.tup.lt
  | dK kvs => obtain ⟨_, _, _, _, o, _, _, e, _⟩ := x; exact Heap.lt_size e
  | dT kvs => obtain ⟨_, _, _, _, o, _, _, e, _⟩ := x; exact Heap.lt_size e
  | set S n => obtain ⟨o, _, _, _, e, _⟩ := x; exact Heap.lt_size e
  | ins C dx fs => obtain ⟨_, _, _, e, _⟩ := x; exact Heap.lt_size e
  | own y => obtain ⟨_, e⟩ := x; exact Heap.lt_size e
  | xd fs => obtain ⟨_, ⟨_, _, _, e, _⟩, _⟩ := x; exact Heap.lt_size e
  | rng lo hi => obtain ⟨_, _, _, e⟩ := x; exact Heap.lt_size e
  | frz ob u => obtain ⟨e, _⟩ := x; exact Heap.lt_size e
  | tbl ps => exact Heap.lt_size (show h.get? a = some _ from x)
  | met f y => exact Heap.lt_size (show h.get? a = some _ from x)
  | ext φ => obtain ⟨_, ⟨_, e⟩, _⟩ := x; exact Heap.lt_size e
theorem Paired.mapP {α β : Type} {F G : α → β → Prop} : ∀ {l₁ : List α} {l₂ : List β}, Paired F l₁ l₂ → (∀ a b, F a b → G a b) → Paired G l₁ l₂
  | _, _, .nil, _ => .nil
  | _, _, .cons r t, f => .cons (f _ _ r) (Paired.mapP t f)
theorem ObjOk.stay (x : ObjOk P w H h a o) (k : ∀ b u, (b = a ∨ H b = some (.own a)) → h.get? b = some u → h'.get? b = some u)
    (ho : ∀ b, H b = some (.own a) → H' b = some (.own a)) (ht : ∀ b xs, H b = some (.tup xs) → H' b = some (.tup xs)) : ObjOk P w H' h' a o := by
  induction o with
  | lst xs => obtain ⟨z, its, n, r, e⟩ := x; exact ⟨z, its, n, r, k _ _ (.inl rfl) e⟩
  | tup xs => obtain ⟨z, its, r, ob, e⟩ := x; exact ⟨z, its, r, ob, k _ _ (.inl rfl) e⟩
  | dK kvs => obtain ⟨z, y, vs, r, ob, es, ep, e, c⟩ := x; exact ⟨z, y, vs, r, ob, es, ep, k _ _ (.inl rfl) e, c⟩
  | dT kvs =>
    obtain ⟨z, y, xs, r, ob, es, ep, e, c⟩ := x
    exact ⟨z, y, xs, Paired.mapP r fun p q z => ⟨z.1, ht _ _ z.2.1, z.2.2⟩, ob, es, ep, k _ _ (.inl rfl) e, c⟩
  | set S n => obtain ⟨ob, es, ep, t, e, c⟩ := x; exact ⟨ob, es, ep, t, k _ _ (.inl rfl) e, c⟩
  | ins C dx fs =>
    obtain ⟨d, z, ne, e, mA, ⟨od, es, ep, e2, c⟩, r⟩ := x
    exact ⟨ho _ d, z, ne, k _ _ (.inl rfl) e, mA, ⟨od, es, ep, k _ _ (.inr d) e2, c⟩, r⟩
  | own y => obtain ⟨ob, e⟩ := x; exact ⟨ob, k _ _ (.inl rfl) e⟩
  | xd fs => obtain ⟨mA, ⟨od, es, ep, e, c⟩, r⟩ := x; exact ⟨mA, ⟨od, es, ep, k _ _ (.inl rfl) e, c⟩, r⟩
  | rng lo hi => obtain ⟨t, u, v, e⟩ := x; exact ⟨t, u, v, k _ _ (.inl rfl) e⟩
  | frz ob u ih => obtain ⟨e, q⟩ := x; exact ⟨k _ _ (.inl rfl) e, ih q⟩
  | tbl ps =>
    have e : h.get? a = some { cls := .none, data := .fields ps } := x
    show h'.get? a = some { cls := .none, data := .fields ps }
    exact k a _ (.inl rfl) e
  | met f y =>
    have e : h.get? a = some (PySem.W.methodObj (.ref f) (.ref y)) := x
    show h'.get? a = some (PySem.W.methodObj (.ref f) (.ref y))
    exact k a _ (.inl rfl) e
  | ext φ => obtain ⟨p, ⟨o, e⟩, st⟩ := x; exact ⟨st _ _ p fun o q => k _ _ (.inl rfl) q, ⟨o, k _ _ (.inl rfl) e⟩, st⟩
theorem HOk.lt (x : HOk P w H h) (e : H a = some o) : a < h.objs.size := (x a o e).lt
theorem HOk.fresh (x : HOk P w H h) (e : h.objs.size ≤ a) : H a = none := by
  cases q : H a with
  | none => rfl
  | some u => exact absurd (Nat.lt_of_lt_of_le (x.lt q) e) (Nat.lt_irrefl _)
theorem HOk.kept (x : HOk P w H h) (k : ∀ b u, h.get? b = some u → h'.get? b = some u) : HOk P w H h' := fun a o e =>
  (x a o e).stay (fun b u _ q => k b u q) (fun _ q => q) fun _ _ q => q
theorem HOk.laid (x : HOk P w H h) (k : ∀ b u, h.get? b = some u → h'.get? b = some u) (hp : h.objs.size ≤ a) (new : ObjOk P w (upd H a o) h' a o) : HOk P w (upd H a o) h' := fun b u e => by
  have hn := x.fresh hp
  by_cases hb : b = a
  · subst hb; rw [upd_same] at e; cases e; exact new
  · rw [upd_ne hb] at e
    exact (x b u e).stay (fun c v _ q => k c v q) (fun c q => by rw [upd_ne (ne_of_none q hn)]; exact q) fun c xs q => by rw [upd_ne (ne_of_none q hn)]; exact q
end
noncomputable def Rd (H : Hp) (a : Addr) (u : HO) : Prop := H a = some u ∨ ∃ o, H a = some (.frz o u)
theorem Rd.ok {P : Program} {w : World} {H : Hp} {h : Heap} {a : Addr} {u : HO} (r : Rd H a u) (x : HOk P w H h) : ObjOk P w H h a u := by
  rcases r with r | ⟨o, r⟩
  · exact x a u r
  · obtain ⟨_, q⟩ := x a _ r
    exact q
noncomputable def Mut : Option HO → Prop
  | some (.lst _) => True
  | some (.dK _) => True
  | some (.dT _) => True
  | some (.set _ _) => True
  | some (.ins _ _ _) => True
  | some (.ext _) => True
  | _ => False
section
variable {P : Program} {w : World} {H : Hp} {h h' : Heap} {x e : Addr} {o' : HO}
theorem HOk.write (ok : HOk P w H h) (mu : Mut (H x)) (he : e = x ∨ H e = some (.own x)) (k : ∀ b u, b ≠ e → h.get? b = some u → h'.get? b = some u) (heo : ∃ u, h'.get? e = some u)
    (new : ObjOk P w (upd H x o') h' x o') : HOk P w (upd H x o') h' := fun b u q => by
  have nown : ∀ c y, H c = some (.own y) → c ≠ x := fun c y r z => by subst z; rw [r] at mu; exact mu
  have ntup : ∀ c xs, H c = some (.tup xs) → c ≠ x := fun c xs r z => by subst z; rw [r] at mu; exact mu
  by_cases hb : b = x
  · subst hb; rw [upd_same] at q; cases q; exact new
  · rw [upd_ne hb] at q
    by_cases hbe : b = e
    · have q' : H b = some (.own x) := by
        rcases he with z | z
        · exact absurd (hbe.trans z) hb
        · rw [hbe]; exact z
      rw [q] at q'; cases q'
      obtain ⟨v, hv⟩ := heo
      exact ⟨v, by rw [hbe]; exact hv⟩
    · refine (ok b u q).stay (fun c v hc r => k c v ?_ r) (fun c r => by rw [upd_ne (nown c b r)]; exact r) fun c xs r => by rw [upd_ne (ntup c xs r)]; exact r
      rcases hc with rfl | hc
      · exact hbe
      · rintro rfl
        rcases he with z | z
        · exact nown c b hc z
        · rw [hc] at z; cases z; exact hb rfl
end
structure Un (fs ex : List Addr) (H H' : Hp) (h h' : Heap) : Prop where
  keep : ∀ b o, h.get? b = some o → H b = none → b ∉ fs → b ∉ ex → h'.get? b = some o
  slot : ∀ b o, h.get? b = some o → H b = none → b ∈ fs → b ∉ ex → ∃ sl, h'.get? b = some { o with slots := sl }
  free : ∀ b o, h.get? b = some o → H b = none → b ∉ ex → H' b = none
  there : ∀ b o, h.get? b = some o → b ∉ ex → ∃ o', h'.get? b = some o'
  tups : ∀ b xs, H b = some (.tup xs) → H' b = some (.tup xs)
  frzs : ∀ b o u, H b = some (.frz o u) → H' b = some (.frz o u)
  tbls : ∀ b ps, H b = some (.tbl ps) → ∃ more, H' b = some (.tbl (ps ++ more))
section
variable {fs fs' ex ex' : List Addr} {H H1 H2 : Hp} {h h1 h2 h' : Heap} {a x e : Addr} {o : HO}
theorem Un.any (u : Un fs ex H H1 h h1) {b : Addr} {ob : Obj} (q : h.get? b = some ob) (n : H b = none) (hx : b ∉ ex) : ∃ sl, h1.get? b = some { ob with slots := sl } := by
  by_cases hb : b ∈ fs
  · exact u.slot b ob q n hb hx
  · exact ⟨ob.slots, u.keep b ob q n hb hx⟩
theorem Un.kept (k : ∀ b u, h.get? b = some u → h'.get? b = some u) : Un fs ex H H h h' :=
  ⟨fun b ob q _ _ _ => k b ob q, fun b ob q _ _ _ => ⟨ob.slots, k b ob q⟩, fun _ _ _ n _ => n, fun b ob q _ => ⟨ob, k b ob q⟩, fun _ _ q => q, fun _ _ _ q => q, fun _ ps q => ⟨#[], by rw [q]; simp⟩⟩
theorem Un.refl : Un fs ex H H h h := Un.kept fun _ _ q => q
theorem Un.laid (k : ∀ b u, h.get? b = some u → h'.get? b = some u) (hp : h.objs.size ≤ a) (hn : H a = none) : Un fs ex H (upd H a o) h h' where
  keep := fun b u q _ _ _ => k b u q
  slot := fun b u q _ _ _ => ⟨u.slots, k b u q⟩
  free := fun b u q n _ => by rw [upd_ne (Nat.ne_of_lt (Nat.lt_of_lt_of_le (Heap.lt_size q) hp))]; exact n
  there := fun b u q _ => ⟨u, k b u q⟩
  tups := fun b xs q => by rw [upd_ne (ne_of_none q hn)]; exact q
  frzs := fun b u xs q => by rw [upd_ne (ne_of_none q hn)]; exact q
  tbls := fun b ps q => ⟨#[], by rw [upd_ne (ne_of_none q hn), q]; simp⟩
theorem Un.write (mu : Mut (H x)) (he : e = x ∨ H e = some (.own x)) (k : ∀ b u, b ≠ e → h.get? b = some u → h'.get? b = some u) (heo : ∃ u, h'.get? e = some u) : Un fs ex H (upd H x o) h h' := by
  have hx : ∀ b, H b = none → b ≠ x := fun b n z => by subst z; rw [n] at mu; exact mu
  have hb : ∀ b, H b = none → b ≠ e := fun b n z => by
    subst z
    rcases he with r | r
    · exact hx b n r
    · rw [n] at r; cases r
  have hm : ∀ b u, H b = some u → ¬ Mut (some u) → b ≠ x := fun b u q nm z => by subst z; rw [q] at mu; exact nm mu
  refine ⟨fun b u q n _ _ => k b u (hb b n) q, fun b u q n _ _ => ⟨u.slots, k b u (hb b n) q⟩, fun b u q n _ => by rw [upd_ne (hx b n)]; exact n, fun b u q _ => ?_,
    fun b xs q => by rw [upd_ne (hm b _ q fun z => z)]; exact q, fun b u xs q => by rw [upd_ne (hm b _ q fun z => z)]; exact q, fun b ps q => ⟨#[], by rw [upd_ne (hm b _ q fun z => z), q]; simp⟩⟩
  by_cases hbe : b = e
  · subst hbe; exact heo
  · exact ⟨u, k b u hbe q⟩
end
noncomputable def trk (h : Heap) (H : Hp) : List Addr := (List.range h.objs.size).filter fun a => (H a).isSome
noncomputable def hidT (h : Heap) (H : Hp) : Heap := PySem.W.hideAll h (trk h H)
theorem hidT_size (h : Heap) (H : Hp) : (hidT h H).objs.size = h.objs.size := PySem.W.hideAll_size _ _
theorem hidT_get {h : Heap} {H : Hp} {b : Addr} {o : Obj} (e : h.get? b = some o) (n : H b = none) : (hidT h H).get? b = some o :=
  PySem.W.hideAll_get _ e fun hm => by
    have q : (H b).isSome = true := (List.mem_filter.mp hm).2
    rw [n] at q; simp at q
theorem of_hidT {h : Heap} {H : Hp} {b : Addr} {o : Obj} (e : (hidT h H).get? b = some o) : h.get? b = some o ∧ H b = none := by
  have e' : h.get? b = some o := PySem.W.of_hideAll (trk h H) e
  refine ⟨e', ?_⟩
  cases q : H b with
  | none => rfl
  | some x =>
    have hm : b ∈ trk h H := List.mem_filter.mpr ⟨List.mem_range.mpr (Heap.lt_size e'), by simp [q]⟩
    have z : (hidT h H).get? b = none := PySem.W.hideAll_none (trk h H) hm
    rw [z] at e; cases e

end L2
namespace L2
open PySem PySem.Spec PyProof.Rows
structure Mod (K : PySem.W.Frag) (mg : Str → Option Value) (base : Heap) : Prop where
  kin : K.In base
  glob : base.Ns mainGlobals mg
  blt : ∃ mb, base.Ns builtinsNs mb ∧ ∀ x : Str, x ≠ "__name__" → mb x = bootBuiltins x
  nolimit : base.NoLimit

structure Cx where
  prog : Program
  w : World
  K : PySem.W.Frag
  mg : Str → Option Value
  base : Heap
  A : Around
  N : List Str
  s₀ : Shared
  H₀ : Hp
  env : Env
  outer : List Env
  stack : List Env
  ex : List Addr
  fn : Str → Bool
  calm : Bool
  pn : List (Addr × Obj)
  xe : Value → Shared → Prop
noncomputable def frs (l : List Env) : List Addr := l.filterMap (·.frame)
noncomputable abbrev Cx.fs (X : Cx) : List Addr := frs X.outer

noncomputable def Vis (sc : Scope) (x : Str) : Prop := sc.names.lookup x = some .local ∨ sc.names.lookup x = some .cell ∨ sc.names.lookup x = some .free
noncomputable def Loc (sc : Scope) (x : Str) : Prop := sc.names.lookup x = some .local ∨ sc.names.lookup x = some .cell
noncomputable def Look (env : Env) (h : Heap) (m : Str → Option Value) (x : Str) (u : Value) : Prop :=
  (env.kindOf x = some .local ∧ m x = some u) ∨ ((env.kindOf x = some .cell ∨ env.kindOf x = some .free) ∧ ∃ c, env.cells.lookup x = some c ∧ h.IsCell c (some u))

structure Cx.Ok (X : Cx) : Prop where
  mod : Mod X.K X.mg X.base
  kind : X.env.scope.kind = .function
  glob : X.env.globals = mainGlobals
  blt : X.env.builtins = builtinsNs
  above : X.s₀.heap.objs.size ≤ X.env.locals
  inj : ∀ x y c, X.env.cells.lookup x = some c → X.env.cells.lookup y = some c → x = y
  has : ∀ x, (X.env.kindOf x = some .cell ∨ X.env.kindOf x = some .free) → ∃ c, X.env.cells.lookup x = some c
  cab : ∀ x c, X.fn x = true → X.env.cells.lookup x = some c → X.s₀.heap.objs.size ≤ c
  hd : X.calm = true → X.A.handled = none
  frames : X.A.frames = some X.stack
  stk : X.stack = X.outer ∨ (X.stack = X.env :: X.outer ∧ X.env.frame = some X.env.locals)
  exf : ∀ b ∈ X.ex, b ≠ X.env.locals ∧ ∀ x c, X.env.cells.lookup x = some c → c ≠ b
  bs : ∀ b o, X.base.get? b = some o → X.s₀.heap.get? b = some o ∧ X.H₀ b = none
  bsz : X.base.objs.size ≤ X.s₀.heap.objs.size
  noex : ∀ b o, X.base.get? b = some o → b ∉ X.ex
  exfs : ∀ b ∈ X.ex, b ∉ X.fs
  funs : X.s₀.heap.FunFrames X.base X.outer
  frf : ∀ b ∈ X.fs, X.H₀ b = none

structure Inv (X : Cx) (pins : List (Addr × Obj)) (σ : List (Option V)) (H : Hp) (s : Shared) : Prop where
  ok : X.Ok
  os : s.os = X.s₀.os
  bare : AllBare s.gens
  base : Un X.fs X.ex X.H₀ H X.s₀.heap s.heap
  loc : ∃ m, s.heap.Ns X.env.locals m ∧ ∀ (i : Nat) (x : Str) (v : V), X.N[i]? = some x → σ[i]? = some (some v) → Vis X.env.scope x → ∃ u, RelV v u ∧ Look X.env s.heap m x u
  cell : ∀ x c, X.env.cells.lookup x = some c → ∃ v, s.heap.IsCell c v
  free : H X.env.locals = none
  freeC : ∀ x c, X.env.cells.lookup x = some c → H c = none
  pin : ∀ p ∈ X.pn ++ pins, s.heap.get? p.1 = some p.2 ∧ H p.1 = none ∧ p.1 ≠ X.env.locals ∧ p.1 ∉ X.fs ∧ ∀ v, p.2.data ≠ .cell v
  hok : HOk X.prog X.w H s.heap
  len : σ.length = X.N.length

section
variable {X : Cx} {pins : List (Addr × Obj)} {σ : List (Option V)} {H H' : Hp} {s : Shared} {h' : Heap}
theorem Cx.Ok.nofr (ok : X.Ok) {b : Addr} {o : Obj} (e : X.base.get? b = some o) : b ∉ X.fs := fun hb => by
  have := (ok.funs.mem hb).1
  rw [e] at this; cases this
theorem Inv.bs (I : Inv X pins σ H s) : ∀ b o, X.base.get? b = some o → s.heap.get? b = some o ∧ H b = none := fun b o e =>
  ⟨I.base.keep b o (I.ok.bs b o e).1 (I.ok.bs b o e).2 (I.ok.nofr e) (I.ok.noex b o e), I.base.free b o (I.ok.bs b o e).1 (I.ok.bs b o e).2 (I.ok.noex b o e)⟩
theorem Inv.bk (I : Inv X pins σ H s) : ∀ b o, X.base.get? b = some o → s.heap.get? b = some o := fun b o e => (I.bs b o e).1
theorem Inv.mod (I : Inv X pins σ H s) : Mod X.K X.mg X.base := I.ok.mod
theorem Inv.kIn (I : Inv X pins σ H s) : X.K.In s.heap := I.ok.mod.kin.keeps I.bk
theorem Inv.lt (I : Inv X pins σ H s) : X.env.locals < s.heap.objs.size := let ⟨_, hn, _⟩ := I.loc; hn.lt
theorem Inv.sz (I : Inv X pins σ H s) : X.s₀.heap.objs.size ≤ s.heap.objs.size := Nat.le_trans I.ok.above (Nat.le_of_lt I.lt)
theorem Inv.nofs (I : Inv X pins σ H s) {a : Addr} (h : s.heap.objs.size ≤ a) : a ∉ X.fs := fun hb => by
  obtain ⟨_, o, ho, _⟩ := I.ok.funs.mem hb
  exact absurd (Nat.lt_of_lt_of_le (Heap.lt_size ho) (Nat.le_trans I.sz h)) (Nat.lt_irrefl _)
theorem Inv.cne (I : Inv X pins σ H s) : ∀ x c, X.env.cells.lookup x = some c → c ≠ X.env.locals := fun x c e z => by
  obtain ⟨v, o, ho, hd⟩ := I.cell x c e
  obtain ⟨m, ⟨o', es, ep, ho', hd', _⟩, _⟩ := I.loc
  rw [z, ho'] at ho; cases ho; rw [hd'] at hd; cases hd
theorem Inv.funs (I : Inv X pins σ H s) : s.heap.FunFrames X.base X.outer := by
  have all : ∀ (l : List Env), (∀ b ∈ frs l, b ∈ X.fs) → X.s₀.heap.FunFrames X.base l → s.heap.FunFrames X.base l := by
    intro l
    induction l with
    | nil => intro _ _; trivial
    | cons env r ih =>
      intro hs hl
      obtain ⟨hk, ⟨L, o, hf, hn, ho, hd⟩, hr⟩ := hl
      have hL : L ∈ X.fs := hs L (by unfold frs; rw [List.filterMap_cons, hf]; exact List.mem_cons_self)
      obtain ⟨sl, e⟩ := I.base.slot L o ho (I.ok.frf L hL) hL fun z => I.ok.exfs L z hL
      exact ⟨hk, ⟨L, _, hf, hn, e, hd⟩, ih (fun b hb => hs b (by unfold frs; rw [List.filterMap_cons, hf]; exact List.mem_cons_of_mem _ hb)) hr⟩
  exact all X.outer (fun _ hb => hb) I.ok.funs

theorem Inv.stack (I : Inv X pins σ H s) : s.heap.FunFrames X.base X.stack := by
  rcases I.ok.stk with e | ⟨e, hf⟩
  · rw [e]; exact I.funs
  · rw [e]
    obtain ⟨m, hn, _⟩ := I.loc
    refine .cons (by rw [I.ok.kind]; decide) hf hn ?_ I.funs
    exact Heap.get?_none_of_le (Nat.le_trans I.ok.bsz I.ok.above)
theorem Inv.stkSub (I : Inv X pins σ H s) : ∀ b ∈ frs X.stack, b ∈ X.env.locals :: X.fs := fun b hb => by
  rcases I.ok.stk with e | ⟨e, hf⟩
  · rw [e] at hb; exact List.mem_cons_of_mem _ hb
  · rw [e] at hb
    unfold frs at hb
    rw [List.filterMap_cons, hf] at hb
    exact hb
theorem Inv.stkFree (I : Inv X pins σ H s) : ∀ b ∈ frs X.stack, H b = none := fun b hb => by
  rcases List.mem_cons.mp (I.stkSub b hb) with e | hb
  · rw [e]; exact I.free
  · obtain ⟨_, o, ho, _⟩ := I.ok.funs.mem hb
    exact I.base.free b o ho (I.ok.frf b hb) fun z => I.ok.exfs b z hb

theorem Inv.step {g' : Array GenState} {t' : Nat} {d' : Drawn} {ch : List Addr} (I : Inv X pins σ H s)
    (hch : ∀ b ∈ ch, (b ∈ X.ex ∨ X.s₀.heap.objs.size ≤ b) ∧ b ≠ X.env.locals ∧ (∀ x c, X.env.cells.lookup x = some c → c ≠ b) ∧ ∀ p ∈ X.pn ++ pins, p.1 ≠ b)
    (keep : ∀ b o, b ≠ X.env.locals → b ∉ X.fs → b ∉ ch → s.heap.get? b = some o → H b = none → h'.get? b = some o)
    (slot : ∀ b o, b ≠ X.env.locals → b ∈ X.fs → b ∉ ch → s.heap.get? b = some o → H b = none → ∃ sl, h'.get? b = some { o with slots := sl }) (free : ∀ b o, b ∉ ch → s.heap.get? b = some o → H b = none → H' b = none)
    (there : ∀ b o, b ∉ ch → s.heap.get? b = some o → ∃ o', h'.get? b = some o')
    (tups : ∀ b xs, H b = some (.tup xs) → H' b = some (.tup xs)) (frzs : ∀ b o u, H b = some (.frz o u) → H' b = some (.frz o u)) (tbls : ∀ b ps, H b = some (.tbl ps) → ∃ more, H' b = some (.tbl (ps ++ more)))
    (ns : ∀ m, s.heap.Ns X.env.locals m → h'.Ns X.env.locals m) (hok : HOk X.prog X.w H' h') (hg : AllBare g') :
    Inv X pins σ H' { s with heap := h', gens := g', drawn := d', toks := t' } := by
  have neL : ∀ b o, X.s₀.heap.get? b = some o → b ≠ X.env.locals := fun b o e => Nat.ne_of_lt (Nat.lt_of_lt_of_le (Heap.lt_size e) I.ok.above)
  have neC : ∀ b o, X.s₀.heap.get? b = some o → b ∉ X.ex → b ∉ ch := fun b o e hx hb => by
    rcases (hch b hb).1 with z | z
    · exact hx z
    · exact absurd (Nat.lt_of_lt_of_le (Heap.lt_size e) z) (Nat.lt_irrefl _)
  have cellK : ∀ x c, X.env.cells.lookup x = some c → ∀ v, s.heap.IsCell c v → h'.IsCell c v := fun x c e v ⟨o, ho, hd⟩ => by
    have nch : c ∉ ch := fun z => (hch c z).2.2.1 x c e rfl
    by_cases hc : c ∈ X.fs
    · obtain ⟨sl, q⟩ := slot c o (I.cne x c e) hc nch ho (I.freeC x c e)
      exact ⟨_, q, hd⟩
    · exact ⟨o, keep c o (I.cne x c e) hc nch ho (I.freeC x c e), hd⟩
  refine ⟨I.ok, I.os, hg, ⟨fun b o e n hb hx => ?_, fun b o e n hb hx => ?_, fun b o e n hx => ?_, fun b o e hx => ?_, fun b xs e => tups b xs (I.base.tups b xs e), fun b o xs e => frzs b o xs (I.base.frzs b o xs e), fun b ps e => ?_⟩, ?_, fun x c e => ?_, ?_, fun x c e => ?_, fun p hp => ?_, hok, I.len⟩
  · exact keep b o (neL b o e) hb (neC b o e hx) (I.base.keep b o e n hb hx) (I.base.free b o e n hx)
  · obtain ⟨sl, e1⟩ := I.base.slot b o e n hb hx
    obtain ⟨sl', e2⟩ := slot b _ (neL b o e) hb (neC b o e hx) e1 (I.base.free b o e n hx)
    exact ⟨sl', e2⟩
  · obtain ⟨o', e1⟩ := I.base.there b o e hx
    exact free b o' (neC b o e hx) e1 (I.base.free b o e n hx)
  · obtain ⟨o', e1⟩ := I.base.there b o e hx
    exact there b o' (neC b o e hx) e1
  · obtain ⟨m1, e1⟩ := I.base.tbls b ps e
    obtain ⟨m2, e2⟩ := tbls b _ e1
    exact ⟨m1 ++ m2, by rw [e2, Array.append_assoc]⟩
  · obtain ⟨m, hn, hl⟩ := I.loc
    refine ⟨m, ns m hn, fun i x v e1 e2 e3 => ?_⟩
    obtain ⟨u, r, l⟩ := hl i x v e1 e2 e3
    refine ⟨u, r, ?_⟩
    rcases l with l | ⟨k, c, e, z⟩
    · exact .inl l
    · exact .inr ⟨k, c, e, cellK x c e _ z⟩
  · obtain ⟨v, z⟩ := I.cell x c e
    exact ⟨v, cellK x c e v z⟩
  · obtain ⟨m, ⟨o, _, _, ho, _⟩, _⟩ := I.loc
    exact free _ o (fun z => (hch _ z).2.1 rfl) ho I.free
  · obtain ⟨v, o, ho, hd⟩ := I.cell x c e
    exact free c o (fun z => (hch c z).2.2.1 x c e rfl) ho (I.freeC x c e)
  · obtain ⟨e, n, ne, nf, d⟩ := I.pin p hp
    have nch : p.1 ∉ ch := fun z => (hch p.1 z).2.2.2 p hp rfl
    exact ⟨keep p.1 p.2 ne nf nch e n, free p.1 p.2 nch e n, ne, nf, d⟩
theorem Inv.un {t' : Nat} (I : Inv X pins σ H s) (u : Un X.fs [] H H' s.heap h') (hok : HOk X.prog X.w H' h') : Inv X pins σ H' { s with heap := h', toks := t' } := by
  obtain ⟨m, ⟨o, es, ep, ho, r⟩, _⟩ := id I.loc
  obtain ⟨sl, hL⟩ := u.any ho I.free (by simp)
  exact I.step (g' := s.gens) (d' := s.drawn) (ch := []) (fun _ z => nomatch z) (fun b o _ hb _ e n => u.keep b o e n hb (by simp)) (fun b o _ hb _ e n => u.slot b o e n hb (by simp)) (fun b o _ e n => u.free b o e n (by simp)) (fun b o _ e => u.there b o e (by simp)) u.tups u.frzs u.tbls (fun m' hm => by
    obtain ⟨o', es', ep', ho', r'⟩ := hm
    rw [ho] at ho'; cases ho'
    exact ⟨_, es', ep', hL, r'⟩) hok I.bare
theorem Inv.call {g' : Array GenState} {t' : Nat} {d' : Drawn} {ch : List Addr} (I : Inv X pins σ H s) (u : Un (frs X.stack) ch H H' s.heap h') (hok : HOk X.prog X.w H' h') (hg : AllBare g')
    (hch : ∀ b ∈ ch, (b ∈ X.ex ∨ X.s₀.heap.objs.size ≤ b) ∧ b ≠ X.env.locals ∧ (∀ x c, X.env.cells.lookup x = some c → c ≠ b) ∧ ∀ p ∈ X.pn ++ pins, p.1 ≠ b) :
    Inv X pins σ H' { s with heap := h', gens := g', drawn := d', toks := t' } := by
  obtain ⟨m, ⟨o, es, ep, ho, r⟩, _⟩ := id I.loc
  obtain ⟨sl, hL⟩ := u.any ho I.free fun z => (hch _ z).2.1 rfl
  exact I.step (ch := ch) hch (fun b o hL hb hc e n => u.keep b o e n (fun z => (List.mem_cons.mp (I.stkSub b z)).elim hL hb) hc) (fun b o _ _ hc e n => u.any e n hc) (fun b o hc e n => u.free b o e n hc) (fun b o hc e => u.there b o e hc) u.tups u.frzs u.tbls (fun m' hm => by
    obtain ⟨o', es', ep', ho', r'⟩ := hm
    rw [ho] at ho'; cases ho'
    exact ⟨_, es', ep', hL, r'⟩) hok hg
theorem Inv.turned {t' : Nat} {it : Addr} (I : Inv X pins σ H s) (k : ∀ b o, b ≠ it → s.heap.get? b = some o → h'.get? b = some o) (hn : H it = none) (hL : it ≠ X.env.locals)
    (h1 : it ∈ X.ex ∨ X.s₀.heap.objs.size ≤ it) (h2 : ∀ x c, X.env.cells.lookup x = some c → c ≠ it) (h3 : ∀ p ∈ X.pn ++ pins, p.1 ≠ it) : Inv X pins σ H { s with heap := h', toks := t' } := by
  have nit : ∀ b u, H b = some u → b ≠ it := fun b u e z => by rw [z, hn] at e; cases e
  refine I.step (g' := s.gens) (d' := s.drawn) (ch := [it]) (fun b hb => ?_) (fun b o _ _ hc e _ => k b o (fun z => hc (by simp [z])) e) (fun b o _ _ hc e _ => ⟨o.slots, k b o (fun z => hc (by simp [z])) e⟩) (fun _ _ _ _ n => n)
    (fun b o hc e => ⟨o, k b o (fun z => hc (by simp [z])) e⟩) (fun _ _ e => e) (fun _ _ _ e => e) (fun b ps e => ⟨#[], by rw [e]; simp⟩) (fun m hm => ?_) (fun b u e => ?_) I.bare
  · have e : b = it := by simpa using hb
    subst e
    exact ⟨h1, hL, h2, h3⟩
  · obtain ⟨o, es, ep, ho, r⟩ := hm
    exact ⟨o, es, ep, k _ o (Ne.symm hL) ho, r⟩
  · refine (I.hok b u e).stay (fun c v hc q => k c v ?_ q) (fun _ q => q) fun _ _ q => q
    rcases hc with z | z
    · rw [z]; exact nit b u e
    · exact nit c _ z
theorem Inv.tok (I : Inv X pins σ H s) (t : Nat) : Inv X pins σ H { s with toks := t } := I.un (h' := s.heap) (t' := t) Un.refl I.hok
theorem Inv.kept {t' : Nat} (I : Inv X pins σ H s) (k : ∀ b u, s.heap.get? b = some u → h'.get? b = some u) : Inv X pins σ H { s with heap := h', toks := t' } := I.un (Un.kept k) (I.hok.kept k)
theorem Inv.laid {a : Addr} {o : HO} {t' : Nat} (I : Inv X pins σ H s) (k : ∀ b u, s.heap.get? b = some u → h'.get? b = some u) (hp : s.heap.objs.size ≤ a) (new : ObjOk X.prog X.w (upd H a o) h' a o) :
    Inv X pins σ (upd H a o) { s with heap := h', toks := t' } := I.un (Un.laid k hp (I.hok.fresh hp)) (I.hok.laid k hp new)
theorem Inv.write {x e : Addr} {o : HO} {t' : Nat} (I : Inv X pins σ H s) (mu : Mut (H x)) (he : e = x ∨ H e = some (.own x)) (k : ∀ b u, b ≠ e → s.heap.get? b = some u → h'.get? b = some u) (heo : ∃ u, h'.get? e = some u)
    (new : ObjOk X.prog X.w (upd H x o) h' x o) : Inv X pins σ (upd H x o) { s with heap := h', toks := t' } := I.un (Un.write mu he k heo) (I.hok.write mu he k heo new)
theorem Inv.weak {σ' : List (Option V)} (I : Inv X pins σ H s) (hl : σ'.length = σ.length) (w : ∀ (i : Nat) v, σ'[i]? = some (some v) → σ[i]? = some (some v)) : Inv X pins σ' H s :=
  ⟨I.ok, I.os, I.bare, I.base, let ⟨m, hn, hl'⟩ := I.loc; ⟨m, hn, fun i x v e1 e2 e3 => hl' i x v e1 (w i v e2) e3⟩, I.cell, I.free, I.freeC, I.pin, I.hok, hl.trans I.len⟩
theorem Inv.pins_of {pins' : List (Addr × Obj)} (I : Inv X pins σ H s) (h : ∀ p ∈ pins', s.heap.get? p.1 = some p.2 ∧ H p.1 = none ∧ p.1 ≠ X.env.locals ∧ p.1 ∉ X.fs ∧ ∀ v, p.2.data ≠ .cell v) : Inv X pins' σ H s :=
  ⟨I.ok, I.os, I.bare, I.base, I.loc, I.cell, I.free, I.freeC, fun p hp => (List.mem_append.mp hp).elim (fun z => I.pin p (List.mem_append_left _ z)) (h p), I.hok, I.len⟩

theorem nodup_ix {N : List Str} (hN : N.Nodup) {i j : Nat} {x : Str} (a : N[i]? = some x) (b : N[j]? = some x) : i = j := by
  obtain ⟨h1, e1⟩ := List.getElem?_eq_some_iff.mp a
  obtain ⟨h2, e2⟩ := List.getElem?_eq_some_iff.mp b
  exact (List.getElem_inj hN).mp (e1.trans e2.symm)

theorem store_ok2 {M : Model} {A : Around} {E : Value → Shared → Prop} {i : Nat} {x : Str} {v : V} {u : Value} {Q : Unit → Shared → Prop} (I : Inv X pins σ H s) (hN : X.N.Nodup) (hi : X.N[i]? = some x) (hx : Loc X.env.scope x) (r : RelV v u)
    (h : ∀ s', Inv X pins (σ.set i (some v)) H s' → (∃ a, Heap.SameBut a s.heap s'.heap ∧ (a = X.env.locals ∨ X.env.cells.lookup x = some a)) → Q () s') (hf : X.fn x = true ∨ X.env.scope.names.lookup x = some .local := by first | exact .inl rfl | exact .inr rfl | assumption) : wpAny M A (storeName X.env x u) Q E s := by
  obtain ⟨m, hn, hl⟩ := id I.loc
  have hcls : (X.env.scope.kind == .class || (X.env.scope.kind == .module && X.env.locals != X.env.globals)) = false := by rw [I.ok.kind]; rfl
  have hiσ : i < σ.length := by rw [I.len]; exact (List.getElem?_eq_some_iff.mp hi).1
  have cne := I.cne
  have tracked : ∀ {a : Addr} {h' : Heap}, (∃ o, s.heap.get? a = some o ∧ H a = none) → Heap.SameBut a s.heap h' → HOk X.prog X.w H h' := fun {a h'} ha hs b ob e => by
    obtain ⟨_, _, hfree⟩ := ha
    refine (I.hok b ob e).stay (fun c w' hc q => (hs.2 c ?_).trans q) (fun _ q => q) fun _ _ q => q
    rintro rfl
    rcases hc with rfl | hc
    · rw [hfree] at e; cases e
    · rw [hfree] at hc; cases hc
  rcases hx with hk | hk
  · refine wpAny_storeName_local hk hn (fun h' hn' hs => ?_) hcls
    obtain ⟨oL, _, _, hoL, _⟩ := id hn
    refine h _ ⟨I.ok, I.os, I.bare, ⟨fun b o e n hb hx => ?_, fun b o e n hb hx => ?_, I.base.free, fun b o e hx => ?_, I.base.tups, I.base.frzs, I.base.tbls⟩, ⟨_, hn', fun j y v' e1 e2 e3 => ?_⟩, fun y c e => ?_, I.free, I.freeC, fun p hp => ?_, tracked ⟨oL, hoL, I.free⟩ hs, by simpa using I.len⟩ ⟨_, hs, .inl rfl⟩
    · exact (hs.2 b (Nat.ne_of_lt (Nat.lt_of_lt_of_le (Heap.lt_size e) I.ok.above))).trans (I.base.keep b o e n hb hx)
    · obtain ⟨sl, e1⟩ := I.base.slot b o e n hb hx
      exact ⟨sl, (hs.2 b (Nat.ne_of_lt (Nat.lt_of_lt_of_le (Heap.lt_size e) I.ok.above))).trans e1⟩
    · obtain ⟨o', e1⟩ := I.base.there b o e hx
      exact ⟨o', (hs.2 b (Nat.ne_of_lt (Nat.lt_of_lt_of_le (Heap.lt_size e) I.ok.above))).trans e1⟩
    · by_cases hj : j = i
      · subst hj
        rw [hi] at e1; cases e1
        rw [List.getElem?_set_self hiσ] at e2
        cases e2
        exact ⟨u, r, .inl ⟨hk, by simp⟩⟩
      · rw [List.getElem?_set_ne (Ne.symm hj)] at e2
        obtain ⟨u', r', q⟩ := hl j y v' e1 e2 e3
        refine ⟨u', r', ?_⟩
        rcases q with ⟨k, e⟩ | ⟨k, c, e, z⟩
        · refine .inl ⟨k, ?_⟩
          have : y ≠ x := fun e => hj (nodup_ix hN e1 (e ▸ hi))
          simp [this, e]
        · exact .inr ⟨k, c, e, z.sameBut hs (cne y c e)⟩
    · obtain ⟨w', z⟩ := I.cell y c e
      exact ⟨w', z.sameBut hs (cne y c e)⟩
    · obtain ⟨e, n, ne, nf, d⟩ := I.pin p hp
      exact ⟨(hs.2 p.1 ne).trans e, n, ne, nf, d⟩
  · have hfn : X.fn x = true := by
      rcases hf with z | z
      · exact z
      · rw [z] at hk; cases hk
    obtain ⟨c, hc⟩ := I.ok.has x (.inl hk)
    obtain ⟨w', z⟩ := I.cell x c hc
    refine wpAny_storeName_cell I.ok.kind hk hc z (fun h' hc' hs => ?_)
    obtain ⟨oc, hoc, hocd⟩ := id z
    refine h { s with heap := h' } ⟨I.ok, I.os, I.bare, ⟨fun b o e n hb hx => ?_, fun b o e n hb hx => ?_, I.base.free, fun b o e hx => ?_, I.base.tups, I.base.frzs, I.base.tbls⟩, ⟨m, hn.sameBut hs (Ne.symm (cne x c hc)), fun j y v' e1 e2 e3 => ?_⟩, fun y c' e => ?_, I.free, I.freeC, fun p hp => ?_, tracked ⟨oc, hoc, I.freeC x c hc⟩ hs, by simpa using I.len⟩ ⟨c, hs, .inr hc⟩
    · exact (hs.2 b (Nat.ne_of_lt (Nat.lt_of_lt_of_le (Heap.lt_size e) (I.ok.cab x c hfn hc)))).trans (I.base.keep b o e n hb hx)
    · obtain ⟨sl, e1⟩ := I.base.slot b o e n hb hx
      exact ⟨sl, (hs.2 b (Nat.ne_of_lt (Nat.lt_of_lt_of_le (Heap.lt_size e) (I.ok.cab x c hfn hc)))).trans e1⟩
    · obtain ⟨o', e1⟩ := I.base.there b o e hx
      exact ⟨o', (hs.2 b (Nat.ne_of_lt (Nat.lt_of_lt_of_le (Heap.lt_size e) (I.ok.cab x c hfn hc)))).trans e1⟩
    · by_cases hj : j = i
      · subst hj
        rw [hi] at e1; cases e1
        rw [List.getElem?_set_self hiσ] at e2
        cases e2
        exact ⟨u, r, .inr ⟨.inl hk, c, hc, hc'⟩⟩
      · rw [List.getElem?_set_ne (Ne.symm hj)] at e2
        obtain ⟨u', r', q⟩ := hl j y v' e1 e2 e3
        refine ⟨u', r', ?_⟩
        rcases q with q | ⟨k, c', e, z'⟩
        · exact .inl q
        · refine .inr ⟨k, c', e, z'.sameBut hs ?_⟩
          rintro rfl
          exact hj (nodup_ix hN e1 (I.ok.inj _ _ _ e hc ▸ hi))
    · by_cases hcc : c' = c
      · subst hcc; exact ⟨_, hc'⟩
      · obtain ⟨w2, z2⟩ := I.cell y c' e
        exact ⟨w2, z2.sameBut hs hcc⟩
    · obtain ⟨e, n, ne, nf, d⟩ := I.pin p hp
      refine ⟨(hs.2 p.1 ?_).trans e, n, ne, nf, d⟩
      intro q
      rw [q, hoc] at e
      have q' : oc = p.2 := Option.some.inj e
      exact d w' (by rw [← q']; exact hocd)
theorem store_ok {M : Model} {A : Around} {E : Value → Shared → Prop} {i : Nat} {x : Str} {v : V} {u : Value} {Q : Unit → Shared → Prop} (I : Inv X pins σ H s) (hN : X.N.Nodup) (hi : X.N[i]? = some x) (hx : Loc X.env.scope x) (r : RelV v u)
    (h : ∀ s', Inv X pins (σ.set i (some v)) H s' → Q () s') (hf : X.fn x = true ∨ X.env.scope.names.lookup x = some .local := by first | exact .inl rfl | exact .inr rfl | assumption) : wpAny M A (storeName X.env x u) Q E s :=
  store_ok2 I hN hi hx r (fun s' I' _ => h s' I') hf
theorem Inv.call' {s' : Shared} {ch : List Addr} (I : Inv X pins σ H s) (ho : s'.os = s.os) (u : Un (frs X.stack) ch H H' s.heap s'.heap) (hok : HOk X.prog X.w H' s'.heap) (hg : AllBare s'.gens)
    (hch : ∀ b ∈ ch, (b ∈ X.ex ∨ X.s₀.heap.objs.size ≤ b) ∧ b ≠ X.env.locals ∧ (∀ x c, X.env.cells.lookup x = some c → c ≠ b) ∧ ∀ p ∈ X.pn ++ pins, p.1 ≠ b) : Inv X pins σ H' s' := by
  obtain ⟨h', g', d', t', o'⟩ := s'
  have e : o' = s.os := ho
  subst e
  exact I.call (g' := g') (t' := t') (d' := d') u hok hg hch
end
noncomputable abbrev XK := Value → Option Addr → Hp → Prop
noncomputable abbrev St := List (Option V)
noncomputable abbrev VK := V → Hp → Prop
noncomputable abbrev TE := St → Hp → VK → Prop
noncomputable abbrev TT := St → Hp → (Bool → Hp → Prop) → Prop
noncomputable abbrev TA := St → Hp → (List V → Hp → Prop) → Prop
structure Ends where
  nx : St → Hp → Prop
  rt : VK
  bk : St → Hp → Prop := fun _ _ => False
  ct : St → Hp → Prop := fun _ _ => False
noncomputable abbrev TS := Ends → St → Hp → Prop

noncomputable def EP (X : Cx) (pins : List (Addr × Obj)) (σ : St) (Q : VK) (u : Value) (s' : Shared) : Prop := ∃ v H', Inv X pins σ H' s' ∧ RelV v u ∧ Q v H'
noncomputable def TP (X : Cx) (pins : List (Addr × Obj)) (σ : St) (Q : Bool → Hp → Prop) (b : Bool) (s' : Shared) : Prop := ∃ H', Inv X pins σ H' s' ∧ Q b H'
noncomputable def AP (X : Cx) (pins : List (Addr × Obj)) (σ : St) (Q : List V → Hp → Prop) (us : List Value) (s' : Shared) : Prop := ∃ vs H', Inv X pins σ H' s' ∧ Vals vs us ∧ Q vs H'
noncomputable def SP (X : Cx) (pins : List (Addr × Obj)) (D : Ends) (f : Flow) (s' : Shared) : Prop :=
  match f with
  | .next => ∃ σ' H', Inv X pins σ' H' s' ∧ D.nx σ' H'
  | .brk => ∃ σ' H', Inv X pins σ' H' s' ∧ D.bk σ' H'
  | .cont => ∃ σ' H', Inv X pins σ' H' s' ∧ D.ct σ' H'
  | .ret u => ∃ v σ' H', Inv X pins σ' H' s' ∧ RelV v u ∧ D.rt v H'

noncomputable def PE (X : Cx) (e : Expr) (t : TE) : Prop :=
  ∀ (pins : List (Addr × Obj)) (s : Shared) (σ : St) (H : Hp) (Q : VK), Inv X pins σ H s → t σ H Q → wpAny (model X.prog X.w) X.A (eval e X.env) (EP X pins σ Q) X.xe s
@[irreducible] noncomputable def ZE (X : Cx) (e : Expr) (t : TE) : Prop := PE X e t
noncomputable def PT (X : Cx) (e : Expr) (t : TT) : Prop :=
  ∀ (pins : List (Addr × Obj)) (s : Shared) (σ : St) (H : Hp) (Q : Bool → Hp → Prop), Inv X pins σ H s → t σ H Q → wpAny (model X.prog X.w) X.A (isTrue e X.env (eval e X.env)) (TP X pins σ Q) X.xe s
@[irreducible] noncomputable def ZT (X : Cx) (e : Expr) (t : TT) : Prop := PT X e t
noncomputable def PW (X : Cx) (e : Expr) (t : TT) : Prop :=
  ∀ (whole : Sem Value) (pins : List (Addr × Obj)) (s : Shared) (σ : St) (H : Hp) (Q : Bool → Hp → Prop), Inv X pins σ H s → t σ H Q → wpAny (model X.prog X.w) X.A (isTrue e X.env whole) (TP X pins σ Q) X.xe s
@[irreducible] noncomputable def ZW (X : Cx) (e : Expr) (t : TT) : Prop := PW X e t
theorem PW.pt {X : Cx} {e : Expr} {t : TT} (h : PW X e t) : PT X e t := h _
theorem ZW.zt {X : Cx} {e : Expr} {t : TT} (h : ZW X e t) : ZT X e t := by with_unfolding_all exact PW.pt h
noncomputable def PA (X : Cx) (es : List Expr) (t : TA) : Prop :=
  ∀ (pos : Pos) (pins : List (Addr × Obj)) (s : Shared) (σ : St) (H : Hp) (Q : List V → Hp → Prop), Inv X pins σ H s → t σ H Q → wpAny (model X.prog X.w) X.A (spliced (backTo pos (starEach es X.env))) (AP X pins σ Q) X.xe s
@[irreducible] noncomputable def ZA (X : Cx) (es : List Expr) (t : TA) : Prop := PA X es t
noncomputable def PS (X : Cx) (st : Stmt) (t : TS) : Prop :=
  ∀ (pins : List (Addr × Obj)) (s : Shared) (σ : St) (H : Hp) (D : Ends), Inv X pins σ H s → t D σ H → wpAny (model X.prog X.w) X.A (exec st X.env) (SP X pins D) X.xe s
@[irreducible] noncomputable def ZS (X : Cx) (st : Stmt) (t : TS) : Prop := PS X st t
noncomputable def PSs (X : Cx) (st : List Stmt) (t : TS) : Prop :=
  ∀ (pins : List (Addr × Obj)) (s : Shared) (σ : St) (H : Hp) (D : Ends), Inv X pins σ H s → t D σ H → wpAny (model X.prog X.w) X.A (execs st X.env) (SP X pins D) X.xe s
@[irreducible] noncomputable def ZSs (X : Cx) (st : List Stmt) (t : TS) : Prop := PSs X st t
theorem ZSs.p {X : Cx} {st : List Stmt} {t : TS}  (h : ZSs X st t) : PSs X st t := by unfold ZSs at h; exact h
theorem thn {α : Type} {t : Sem α} {Q Q' : α → Shared → Prop} {M : Model} {A : Around} {E : Value → Shared → Prop} {s : Shared} (h : wpAny M A t Q E s) (hQ : ∀ a s, Q a s → Q' a s) : wpAny M A t Q' E s := wpAny_mono h hQ fun _ _ x => x
end L2
namespace L2
open PySem PySem.Spec PyProof.Rows
section
variable {X : Cx}
noncomputable def tVar (i : Nat) : TE := fun σ H Q => ∃ v, σ[i]? = some (some v) ∧ Q v H
noncomputable def tC (v : V) : TE := fun _ H Q => Q v H
theorem pe_var {i : Nat} {x : Str} {pos : Pos} (hN : X.N[i]? = some x) (hv : Vis X.env.scope x) (hd : (x == ("__debug__" : Str)) = false := by decide) (hcd : (x == ("__classdict__" : Str)) = false := by decide) : PE X (.Name x pos) (tVar i) := by
  intro pins s σ H Q I h
  obtain ⟨v, e, h⟩ := h
  obtain ⟨m, hn, hl⟩ := I.loc
  obtain ⟨u, r, l⟩ := hl i x v hN e hv
  have fin : EP X pins σ Q u s := ⟨v, H, I, r, h⟩
  rcases l with ⟨hk, hm⟩ | ⟨hk, c, hc, hcell⟩
  · exact wpAny_Name (wpAny_loadName_local I.ok.kind hk hn hm fin) hd
  · rcases hk with hk | hk
    · exact wpAny_Name (wpAny_loadName_cell I.ok.kind hk hc hcell fin) hd
    · exact wpAny_Name (wpAny_loadName_free I.ok.kind hk hc hcell fin hcd) hd
theorem pe_int {i j pos} : PE X (.Constant (.int i) j pos) (tC (.int i)) := fun _ _ _ H _ I h => wpAny_Constant_int ⟨.int i, H, I.tok _, ⟨_, rfl⟩, h⟩
theorem ze_int {i j pos} : ZE X (.Constant (.int i) j pos) (tC (.int i)) := by with_unfolding_all exact pe_int 
theorem pe_bl {b j pos} : PE X (.Constant (.bool b) j pos) (tC (.bl b)) := fun _ _ _ H _ I h => Constant_bool ⟨.bl b, H, I, rfl, h⟩
theorem ze_bl {b j pos} : ZE X (.Constant (.bool b) j pos) (tC (.bl b)) := by with_unfolding_all exact pe_bl 
theorem pe_str {x j pos} : PE X (.Constant (.str x) j pos) (tC (.str x)) := fun _ _ _ H _ I h => Calls.Constant_str ⟨.str x, H, I.tok _, ⟨_, rfl⟩, h⟩
theorem ze_str {x j pos} : ZE X (.Constant (.str x) j pos) (tC (.str x)) := by with_unfolding_all exact pe_str 

noncomputable def Gl (X : Cx) (x : Str) : Prop := X.env.kindOf x = some .globalImplicit
theorem ld_glob {E : Value → Shared → Prop} {pins : List (Addr × Obj)} {s : Shared} {σ : St} {H : Hp} {x : Str} {u : Value} {pos : Pos} {Q : Value → Shared → Prop} (I : Inv X pins σ H s) (hg : Gl X x) (hm : X.mg x = some u) (h : Q u s)
    (hd : (x == ("__debug__" : Str)) = false := by decide) : wpAny (model X.prog X.w) X.A (eval (.Name x pos) X.env) Q E s :=
  Calls.Name_function_global I.ok.kind hg (Calls.loadGlobal_global (by rw [I.ok.glob]; exact I.mod.glob.keeps I.bk) hm h) hd
theorem ld_blt {E : Value → Shared → Prop} {pins : List (Addr × Obj)} {s : Shared} {σ : St} {H : Hp} {x : Str} {u : Value} {pos : Pos} {Q : Value → Shared → Prop} (I : Inv X pins σ H s) (hg : Gl X x) (hm : X.mg x = none) (hv : bootBuiltins x = some u) (h : Q u s)
    (hn : x ≠ "__name__" := by decide) (hd : (x == ("__debug__" : Str)) = false := by decide) : wpAny (model X.prog X.w) X.A (eval (.Name x pos) X.env) Q E s := by
  obtain ⟨mb, h1, h2⟩ := I.mod.blt
  exact Calls.Name_function_global I.ok.kind hg (Calls.loadGlobal_builtin (by rw [I.ok.glob]; exact I.mod.glob.keeps I.bk) hm (by rw [I.ok.blt]; exact h1.keeps I.bk) ((h2 x hn).trans hv) h) hd
variable {a b : Expr} {ta tb : TE} {pos : Pos}
variable {tA tB' : TT} {rest : List Expr}
noncomputable def tAnd (t u : TT) : TT := fun σ H Q => t σ H fun c H1 => if c = true then u σ H1 Q else Q false H1
noncomputable def tOr (t u : TT) : TT := fun σ H Q => t σ H fun c H1 => if c = true then Q true H1 else u σ H1 Q
noncomputable def tNot (t : TT) : TT := fun σ H Q => t σ H fun c H1 => Q (!c) H1
theorem pw_and1 (ha : PT X a tA) : PW X (.BoolOp .And [a] pos) tA := by
  intro wh pins s σ H Q I h
  refine isTrue_and (thn (ha pins s σ H Q I h) fun c s1 e => ?_)
  cases c with
  | true => exact isTrue_and_nil e
  | false => exact e
theorem zw_and1 (ha : ZT X a tA) : ZW X (.BoolOp .And [a] pos) tA := by with_unfolding_all exact pw_and1 ha
theorem pw_or1 (ha : PT X a tA) : PW X (.BoolOp .Or [a] pos) tA := by
  intro wh pins s σ H Q I h
  refine isTrue_or (thn (ha pins s σ H Q I h) fun c s1 e => ?_)
  cases c with
  | false => exact isTrue_or_nil e
  | true => exact e
theorem zw_or1 (ha : ZT X a tA) : ZW X (.BoolOp .Or [a] pos) tA := by with_unfolding_all exact pw_or1 ha
theorem pw_and (ha : PT X a tA) (hb : PW X (.BoolOp .And (b :: rest) pos) tB') : PW X (.BoolOp .And (a :: b :: rest) pos) (tAnd tA tB') := by
  intro wh pins s σ H Q I h
  refine isTrue_and (thn (ha pins s σ H _ I h) fun c s1 ⟨H1, I1, q1⟩ => ?_)
  cases c with
  | true => exact hb wh pins s1 σ H1 Q I1 q1
  | false => exact ⟨H1, I1, q1⟩
theorem zw_and (ha : ZT X a tA) (hb : ZW X (.BoolOp .And (b :: rest) pos) tB') : ZW X (.BoolOp .And (a :: b :: rest) pos) (tAnd tA tB') := by with_unfolding_all exact pw_and ha hb
theorem pw_or (ha : PT X a tA) (hb : PW X (.BoolOp .Or (b :: rest) pos) tB') : PW X (.BoolOp .Or (a :: b :: rest) pos) (tOr tA tB') := by
  intro wh pins s σ H Q I h
  refine isTrue_or (thn (ha pins s σ H _ I h) fun c s1 ⟨H1, I1, q1⟩ => ?_)
  cases c with
  | true => exact ⟨H1, I1, q1⟩
  | false => exact hb wh pins s1 σ H1 Q I1 q1
theorem zw_or (ha : ZT X a tA) (hb : ZW X (.BoolOp .Or (b :: rest) pos) tB') : ZW X (.BoolOp .Or (a :: b :: rest) pos) (tOr tA tB') := by with_unfolding_all exact pw_or ha hb
theorem pt_not (ha : PT X a tA) : PT X (.UnaryOp .Not a pos) (tNot tA) := by
  intro pins s σ H Q I h
  exact isTrue_not (ha pins s σ H (fun c H1 => Q (!c) H1) I h)
theorem zt_not (ha : ZT X a tA) : ZT X (.UnaryOp .Not a pos) (tNot tA) := by with_unfolding_all exact pt_not ha
theorem pe_one {op} {t : TE} (h : PE X a t) : PE X (.BoolOp op [a] pos) t := fun pins s σ H Q I hw => BoolOp_one (h pins s σ H Q I hw)
theorem ze_one {op} {t : TE} (h : ZE X a t) : ZE X (.BoolOp op [a] pos) t := by with_unfolding_all exact pe_one h
noncomputable def tIf (t : TT) (ta tb : TE) : TE := fun σ H Q => t σ H fun c H1 => if c = true then ta σ H1 Q else tb σ H1 Q
theorem pe_ifExp {c : Expr} (hc : PT X c tA) (ha : PE X a ta) (hb : PE X b tb) : PE X (.IfExp c a b pos) (tIf tA ta tb) := by
  intro pins s σ H Q I h
  refine wpAny_IfExp (thn (hc pins s σ H _ I h) fun d s1 ⟨H1, I1, q1⟩ => ?_)
  cases d with
  | true => exact ha pins s1 σ H1 Q I1 q1
  | false => exact hb pins s1 σ H1 Q I1 q1
theorem ze_ifExp {c : Expr} (hc : ZT X c tA) (ha : ZE X a ta) (hb : ZE X b tb) : ZE X (.IfExp c a b pos) (tIf tA ta tb) := by with_unfolding_all exact pe_ifExp hc ha hb
end
end L2
namespace L2
open PySem PySem.Spec PyProof.Rows
noncomputable def SqL (K : PySem.W.Frag) (H : Hp) (a : Addr) (xs : List V) : Prop :=
  Rd H a (.lst xs) ∨
    ∃ (o : Obj) (its : Array Value) (n : Nat), K.lookup a = some o ∧ o.cls = .type "list" ∧ o.dict = none ∧ o.data = .seq its n ∧ its.size ≤ sizeLine ∧ Vals xs its.toList
noncomputable def SqT (K : PySem.W.Frag) (H : Hp) (a : Addr) (xs : List V) : Prop :=
  Rd H a (.tup xs) ∨
    ∃ (o : Obj) (its : Array Value) (n : Nat), K.lookup a = some o ∧ o.cls = .type "tuple" ∧ o.data = .seq its n ∧ its.size ≤ sizeLine ∧ Vals xs its.toList
noncomputable def absV : Value → Option V
  | .none => some .non
  | .bool b => some (.bl b)
  | .int i _ => some (.int i)
  | .str x _ => some (.str x)
  | .bytes b _ => some (.byt b)
  | .float b _ => some (.flt b)
  | .ref a => some (.ref a)
  | .type n => some (.ty n)
  | _ => none
theorem RelV.abs {x : V} {u : Value} (r : RelV x u) : absV u = some x := by
  cases x with
  | non => cases r; rfl
  | bl _ => cases r; rfl
  | int _ => obtain ⟨t, rfl⟩ := r; rfl
  | str _ => obtain ⟨t, rfl⟩ := r; rfl
  | byt _ => obtain ⟨t, rfl⟩ := r; rfl
  | flt _ => obtain ⟨t, rfl⟩ := r; rfl
  | ref _ => cases r; rfl
  | ty _ => cases r; rfl
theorem RelV.inj {x y : V} {u : Value} (r : RelV x u) (q : RelV y u) : x = y := Option.some.inj (r.abs.symm.trans q.abs)
theorem Vals.inj : ∀ {xs ys : List V} {us : List Value}, Vals xs us → Vals ys us → xs = ys
  | _, _, _, .nil, .nil => rfl
  | _, _, _, .cons r t, .cons r' t' => by rw [r.inj r', Vals.inj t t']
section
variable {X : Cx} {pins : List (Addr × Obj)} {σ : St} {H : Hp} {s : Shared} {a : Addr} {xs ys : List V}
theorem SqL.of {K : PySem.W.Frag} (h : H a = some (.lst xs)) : SqL K H a xs := .inl (.inl h)
theorem SqT.of {K : PySem.W.Frag} (h : H a = some (.tup xs)) : SqT K H a xs := .inl (.inl h)
theorem Inv.list (I : Inv X pins σ H s) (h : SqL X.K H a xs) : ∃ its : List Value, Vals xs its ∧ PlainL s.heap a its.toArray ∧ xs.length ≤ sizeLine := by
  rcases h with h | ⟨o, its, n, hk, hc, hd, hs, hz, r⟩
  · obtain ⟨z, its, n, r, e⟩ := h.ok I.hok
    exact ⟨its, r, ⟨_, n, e, rfl, rfl, rfl⟩, z⟩
  · refine ⟨its.toList, r, ⟨o, n, I.kIn a o hk, hc, hd, by simpa using hs⟩, ?_⟩
    have e := r.length
    simp only [Array.length_toList] at e
    omega
theorem Inv.tuple (I : Inv X pins σ H s) (h : SqT X.K H a xs) : ∃ its : List Value, Vals xs its ∧ IsTup s.heap a its.toArray ∧ xs.length ≤ sizeLine := by
  rcases h with h | ⟨o, its, n, hk, hc, hs, hz, r⟩
  · obtain ⟨z, its, r, p⟩ := h.ok I.hok
    exact ⟨its, r, p.tup, z⟩
  · refine ⟨its.toList, r, ⟨o, I.kIn a o hk, hc, n, by simpa using hs⟩, ?_⟩
    have e := r.length
    simp only [Array.length_toList] at e
    omega
theorem Inv.list_inj (I : Inv X pins σ H s) (h : SqL X.K H a xs) (h' : SqL X.K H a ys) : xs = ys := by
  obtain ⟨its, r, ⟨o, n, e, _, _, d⟩, _⟩ := I.list h
  obtain ⟨its', r', ⟨o', n', e', _, _, d'⟩, _⟩ := I.list h'
  rw [e] at e'; cases e'
  rw [d] at d'
  injection d' with d1 _
  have : its = its' := by simpa using congrArg Array.toList d1
  subst this
  exact r.inj r'
theorem Inv.tuple_inj (I : Inv X pins σ H s) (h : SqT X.K H a xs) (h' : SqT X.K H a ys) : xs = ys := by
  obtain ⟨its, r, ⟨o, e, _, n, d⟩, _⟩ := I.tuple h
  obtain ⟨its', r', ⟨o', e', _, n', d'⟩, _⟩ := I.tuple h'
  rw [e] at e'; cases e'
  rw [d] at d'
  injection d' with d1 _
  have : its = its' := by simpa using congrArg Array.toList d1
  subst this
  exact r.inj r'
end
noncomputable abbrev Cx.wish (X : Cx) (E : Value → Shared → Prop) : Cx := { X with xe := E }
noncomputable abbrev Cx.nox (X : Cx) : Cx := X.wish fun _ _ => False
theorem Cx.Ok.wish {X : Cx} (ok : X.Ok) (E : Value → Shared → Prop) : (X.wish E).Ok :=
  ⟨ok.mod, ok.kind, ok.glob, ok.blt, ok.above, ok.inj, ok.has, ok.cab, ok.hd, ok.frames, ok.stk, ok.exf, ok.bs, ok.bsz, ok.noex, ok.exfs, ok.funs, ok.frf⟩
theorem Cx.Ok.unwish {X : Cx} {E : Value → Shared → Prop} (ok : (X.wish E).Ok) : X.Ok :=
  ⟨ok.mod, ok.kind, ok.glob, ok.blt, ok.above, ok.inj, ok.has, ok.cab, ok.hd, ok.frames, ok.stk, ok.exf, ok.bs, ok.bsz, ok.noex, ok.exfs, ok.funs, ok.frf⟩
section
variable {X : Cx} {pins : List (Addr × Obj)} {σ : St} {H : Hp} {s : Shared} {E : Value → Shared → Prop}
theorem Inv.wish (I : Inv X pins σ H s) (E : Value → Shared → Prop) : Inv (X.wish E) pins σ H s := ⟨I.ok.wish E, I.os, I.bare, I.base, I.loc, I.cell, I.free, I.freeC, I.pin, I.hok, I.len⟩
theorem Inv.unwish (I : Inv (X.wish E) pins σ H s) : Inv X pins σ H s := ⟨I.ok.unwish, I.os, I.bare, I.base, I.loc, I.cell, I.free, I.freeC, I.pin, I.hok, I.len⟩
theorem SP.unwish {D : Ends} {f : Flow} {s' : Shared} (h : SP (X.wish E) pins D f s') : SP X pins D f s' := by
  cases f with
  | next => obtain ⟨σ', H', I, q⟩ := h; exact ⟨σ', H', I.unwish, q⟩
  | brk => obtain ⟨σ', H', I, q⟩ := h; exact ⟨σ', H', I.unwish, q⟩
  | cont => obtain ⟨σ', H', I, q⟩ := h; exact ⟨σ', H', I.unwish, q⟩
  | ret u => obtain ⟨v, σ', H', I, r, q⟩ := h; exact ⟨v, σ', H', I.unwish, r, q⟩
theorem PSs.nox {st : List Stmt} {t : TS} (h : PSs X.nox st t) : PSs X st t := fun pins s σ H D I hw =>
  wpAny_mono (h pins s σ H D (I.wish _) hw) (fun _ _ q => q.unwish) fun _ _ z => False.elim z
end
section
variable {X : Cx} {st : Stmt} {rest : List Stmt} {t u : TS} {e : Expr} {te : TE} {pos : Pos}
noncomputable def tNext : TS := fun D σ H => D.nx σ H
noncomputable def tSeq (t u : TS) : TS := fun D σ H => t { D with nx := u D } σ H
theorem pss_nil : PSs X [] tNext := fun _ _ σ H _ I h => wpAny_execs_nil ⟨σ, H, I, h⟩
theorem zss_nil : ZSs X [] tNext := by with_unfolding_all exact pss_nil 
theorem pss_cons (h1 : PS X st t) (h2 : PSs X rest u) : PSs X (st :: rest) (tSeq t u) := by
  intro pins s σ H D I h
  refine wpAny_execs_cons (thn (h1 pins s σ H { D with nx := u D } I h) fun f s1 q => ?_)
  cases f with
  | next =>
    obtain ⟨σ', H', I', q⟩ := q
    exact h2 pins s1 σ' H' D I' q
  | ret v => exact q
  | brk => exact q
  | cont => exact q
theorem zss_cons (h1 : ZS X st t) (h2 : ZSs X rest u) : ZSs X (st :: rest) (tSeq t u) := by with_unfolding_all exact pss_cons h1 h2
theorem pss_one (h1 : PS X st t) : PSs X [st] t := by
  intro pins s σ H D I h
  refine wpAny_execs_cons (thn (h1 pins s σ H D I h) fun f s1 q => ?_)
  cases f with
  | next => exact wpAny_execs_nil q
  | ret v => exact q
  | brk => exact q
  | cont => exact q
theorem zss_one (h1 : ZS X st t) : ZSs X [st] t := by with_unfolding_all exact pss_one h1
theorem Inv.quiet {pins : List (Addr × Obj)} {σ : St} {H : Hp} {s : Shared} (I : Inv X pins σ H s) : interactive X.env = false := by simp [interactive, I.ok.kind]
noncomputable def tDrop (te : TE) : TS := fun D σ H => te σ H fun _ H1 => D.nx σ H1
theorem ps_expr (he : PE X e te) (hs : swapsWith e none pos.line X.env = pure false := by rfl) : PS X (.Expr e pos) (tDrop te) := by
  intro pins s σ H D I h
  exact wpAny_Expr_any (thn (he pins s σ H _ I h) fun v s1 ⟨x, H1, I1, r1, q1⟩ => ⟨σ, H1, I1, q1⟩) I.quiet hs
theorem zs_expr (he : ZE X e te) (hs : swapsWith e none pos.line X.env = pure false := by rfl) : ZS X (.Expr e pos) (tDrop te) := by with_unfolding_all exact ps_expr he hs
noncomputable def tRet (te : TE) : TS := fun D σ H => te σ H D.rt
theorem ps_ret (he : PE X e te) : PS X (.Return (some e) pos) (tRet te) := by
  intro pins s σ H D I h
  exact wpAny_Return_some (thn (he pins s σ H _ I h) fun v s1 ⟨x, H1, I1, r1, q1⟩ => ⟨x, σ, H1, I1, r1, q1⟩)
theorem zs_ret (he : ZE X e te) : ZS X (.Return (some e) pos) (tRet te) := by with_unfolding_all exact ps_ret he
noncomputable def tIfS (c : TT) (t u : TS) : TS := fun D σ H => c σ H fun b H1 => if b = true then t D σ H1 else u D σ H1
theorem ps_if {c : Expr} {a b : List Stmt} {tc : TT} (hc : PT X c tc) (ha : PSs X a t) (hb : PSs X b u) : PS X (.If c a b pos) (tIfS tc t u) := by
  intro pins s σ H D I h
  refine wpAny_If (thn (hc pins s σ H _ I h) fun d s1 ⟨H1, I1, q1⟩ => ?_)
  cases d with
  | true => exact ha pins s1 σ H1 D I1 q1
  | false => exact hb pins s1 σ H1 D I1 q1
theorem zs_if {c : Expr} {a b : List Stmt} {tc : TT} (hc : ZT X c tc) (ha : ZSs X a t) (hb : ZSs X b u) : ZS X (.If c a b pos) (tIfS tc t u) := by with_unfolding_all exact ps_if hc ha hb
noncomputable def tNever : TS := fun _ _ _ => False
theorem pss_never {sts : List Stmt} : PSs X sts tNever := fun _ _ _ _ _ _ h => h.elim
end
noncomputable abbrev TG := V → St → Hp → (St → Hp → Prop) → Prop
noncomputable abbrev TGs := List V → St → Hp → (St → Hp → Prop) → Prop
noncomputable def PG (X : Cx) (target : Expr) (t : TG) : Prop :=
  ∀ (pins : List (Addr × Obj)) (s : Shared) (σ : St) (H : Hp) (v : V) (u : Value) (Q : St → Hp → Prop), Inv X pins σ H s → RelV v u → t v σ H Q →
    wpAny (model X.prog X.w) X.A (assign target X.env u) (fun _ s' => ∃ σ' H', Inv X pins σ' H' s' ∧ Q σ' H') X.xe s
@[irreducible] noncomputable def ZG (X : Cx) (target : Expr) (t : TG) : Prop := PG X target t
noncomputable def PGs (X : Cx) (ts : List Expr) (t : TGs) : Prop :=
  ∀ (pins : List (Addr × Obj)) (s : Shared) (σ : St) (H : Hp) (vs : List V) (us : List Value) (Q : St → Hp → Prop), Inv X pins σ H s → Vals vs us → t vs σ H Q →
    wpAny (model X.prog X.w) X.A (assignInOrder ((assignEach ts X.env).map (·.2)) us) (fun _ s' => ∃ σ' H', Inv X pins σ' H' s' ∧ Q σ' H') X.xe s
@[irreducible] noncomputable def ZGs (X : Cx) (ts : List Expr) (t : TGs) : Prop := PGs X ts t
noncomputable abbrev TSet := V → V → V → Hp → (Hp → Prop) → Prop
noncomputable def PSet (X : Cx) (t : TSet) : Prop :=
  ∀ (pins : List (Addr × Obj)) (s : Shared) (σ : St) (H : Hp) (o i v : V) (ov iv u : Value) (Q : Hp → Prop), Inv X pins σ H s → RelV o ov → RelV i iv → RelV v u → t o i v H Q →
    wpAny (model X.prog X.w) X.A (setItem ov iv u) (fun _ s' => ∃ H', Inv X pins σ H' s' ∧ Q H') X.xe s
noncomputable abbrev TIp := V → V → Hp → VK → Prop
noncomputable def PIp (X : Cx) (op : Operator) (t : TIp) : Prop :=
  ∀ (pins : List (Addr × Obj)) (s : Shared) (σ : St) (H : Hp) (x y : V) (v u : Value) (Q : VK), Inv X pins σ H s → RelV x v → RelV y u → t x y H Q →
    wpAny (model X.prog X.w) X.A (inplaceOp op v u) (EP X pins σ Q) X.xe s
section
variable {X : Cx} {pos : Pos}
noncomputable def gName (i : Nat) : TG := fun v σ H Q => Q (σ.set i (some v)) H
theorem pg_name {i : Nat} {x : Str} (hN : X.N.Nodup) (hi : X.N[i]? = some x) (hx : Loc X.env.scope x) (hf : X.fn x = true ∨ X.env.scope.names.lookup x = some .local := by first | exact .inl rfl | exact .inr rfl | assumption) : PG X (.Name x pos) (gName i) := by
  intro pins s σ H v u Q I r h
  exact wpAny_assign_Name (store_ok I hN hi hx r (fun s' I' => ⟨_, H, I', h⟩) hf)
theorem zg_name {i : Nat} {x : Str} (hN : X.N.Nodup) (hi : X.N[i]? = some x) (hx : Loc X.env.scope x) (hf : X.fn x = true ∨ X.env.scope.names.lookup x = some .local := by first | exact .inl rfl | exact .inr rfl | assumption) : ZG X (.Name x pos) (gName i) := by with_unfolding_all exact pg_name hN hi hx hf
noncomputable def gNil : TGs := fun vs σ H Q => vs = [] ∧ Q σ H
noncomputable def gCons (t : TG) (u : TGs) : TGs := fun vs σ H Q => ∃ v r, vs = v :: r ∧ t v σ H fun σ' H' => u r σ' H' Q
theorem pgs_nil : PGs X [] gNil := by
  intro pins s σ H vs us Q I r h
  obtain ⟨e, h⟩ := h
  subst e
  cases r
  exact assignInOrder_nil ⟨σ, H, I, h⟩
theorem zgs_nil : ZGs X [] gNil := by with_unfolding_all exact pgs_nil 
theorem pgs_cons {e : Expr} {es : List Expr} {t : TG} {u : TGs} (h1 : PG X e t) (h2 : PGs X es u)
    (hs : (assignEach (e :: es) X.env).map (·.2) = assign e X.env :: (assignEach es X.env).map (·.2) := by rfl) : PGs X (e :: es) (gCons t u) := by
  intro pins s σ H vs us Q I r h
  obtain ⟨v, vr, e1, h⟩ := h
  subst e1
  cases r with
  | cons r rr =>
    rw [hs]
    refine assignInOrder_cons (thn (h1 pins s σ H _ _ _ I r h) fun _ s1 ⟨σ1, H1, I1, q1⟩ => ?_)
    exact h2 pins s1 σ1 H1 _ _ Q I1 rr q1
theorem zgs_cons {e : Expr} {es : List Expr} {t : TG} {u : TGs} (h1 : ZG X e t) (h2 : ZGs X es u)
    (hs : (assignEach (e :: es) X.env).map (·.2) = assign e X.env :: (assignEach es X.env).map (·.2) := by rfl) : ZGs X (e :: es) (gCons t u) := by with_unfolding_all exact pgs_cons h1 h2 hs
noncomputable def gTup (K : PySem.W.Frag) (n : Nat) (t : TGs) : TG := fun v σ H Q => ∃ a xs, v = .ref a ∧ SqT K H a xs ∧ xs.length = n ∧ t xs σ H Q
theorem pg_tup {es : List Expr} {k : Nat} {t : TGs} {n : Nat} (hc : X.calm = true) (h : PGs X es t)
    (hn : (assignEach es X.env).length = n := by rfl) (hst : (assignEach es X.env).findIdx? (·.1) = none := by rfl) : PG X (.Tuple es k pos) (gTup X.K n t) := by
  intro pins s σ H v u Q I r hw
  obtain ⟨a, xs, e1, hq, hl, hw⟩ := hw
  subst e1
  cases r
  obtain ⟨its, rv, ht, hz⟩ := I.tuple hq
  refine assign_Tuple_tuple (I.ok.hd hc) ht (by simp [hn, ← hl, rv.length]) hst fun h' hx => ?_
  have I1 : Inv X pins σ H { s with heap := h' } := I.kept (t' := s.toks) fun b o e => hx b o (Nat.ne_of_lt (Heap.lt_size e)) e
  exact h pins _ σ H xs _ Q I1 (by simpa using rv) hw
theorem zg_tup {es : List Expr} {k : Nat} {t : TGs} {n : Nat} (hc : X.calm = true) (h : ZGs X es t)
    (hn : (assignEach es X.env).length = n := by rfl) (hst : (assignEach es X.env).findIdx? (·.1) = none := by rfl) : ZG X (.Tuple es k pos) (gTup X.K n t) := by with_unfolding_all exact pg_tup hc h hn hst
noncomputable def gSub (to ti : TE) (t : TSet) : TG := fun v σ H Q => to σ H fun o H1 => ti σ H1 fun i H2 => t o i v H2 fun H3 => Q σ H3
theorem pg_sub {o i : Expr} {to ti : TE} {t : TSet} (ho : PE X o to) (hi : PE X i ti) (hs : PSet X t)
    (ha : ∀ v, assign (.Subscript o i pos) X.env v = (do
      let ov ← holding [v] (eval o X.env)
      let iv ← holding [v, ov] (eval i X.env)
      standAt pos
      holding [v, ov, iv] (setItem ov iv v)
      release [v, ov, iv] []) := by intro _; rfl) : PG X (.Subscript o i pos) (gSub to ti t) := by
  intro pins s σ H v u Q I r h
  rw [ha]
  refine wpAny_bind (wpAny_holding (thn (ho pins s σ H _ I h) fun ov s1 ⟨x, H1, I1, r1, q1⟩ => ?_))
  refine wpAny_bind (wpAny_holding (thn (hi pins s1 σ H1 _ I1 q1) fun iv s2 ⟨y, H2, I2, r2, q2⟩ => ?_))
  refine wpAny_bind (wpAny_standAt (wpAny_bind (wpAny_holding (thn (hs pins s2 σ H2 x y v ov iv u _ I2 r1 r2 r q2) fun _ s3 ⟨H3, I3, q3⟩ => ?_))))
  exact wpAny_release ⟨σ, H3, I3, q3⟩
noncomputable def tAsg (te : TE) (g : TG) : TS := fun D σ H => te σ H fun x H1 => g x σ H1 D.nx
theorem ps_asg {tg e : Expr} {te : TE} {g : TG} (he : PE X e te) (hg : PG X tg g) (hs : swapsWithSole [tg] e pos.line X.env = pure false := by rfl) (hw : swappedStores [tg] e X.env = pure none := by rfl)
    (h1 : (assignEach [tg] X.env).map (·.2) = [assign tg X.env] := by rfl) : PS X (.Assign [tg] e pos) (tAsg te g) := by
  intro pins s σ H D I h
  refine wpAny_Assign_stores (thn (he pins s σ H _ I h) fun v s1 ⟨x, H1, I1, r1, q1⟩ => ?_) hs hw
  rw [h1]
  exact thn (hg pins s1 σ H1 x v _ I1 r1 q1) fun _ s2 q => q
theorem ps_set {i : Nat} {x : Str} {e : Expr} {te : TE} {pos' : Pos} (hN : X.N.Nodup) (hi : X.N[i]? = some x) (hx : Loc X.env.scope x) (he : PE X e te) (hs : swapsWith e (some (.Name x pos')) pos.line X.env = pure false := by rfl) (hf : X.fn x = true ∨ X.env.scope.names.lookup x = some .local := by first | exact .inl rfl | exact .inr rfl | assumption) :
    PS X (.Assign [.Name x pos'] e pos) (tAsg te (gName i)) := by
  intro pins s σ H D I h
  refine wpAny_Assign_Name (thn (he pins s σ H _ I h) fun v s1 ⟨y, H1, I1, r1, q1⟩ => ?_) hs
  exact store_ok I1 hN hi hx r1 (fun s2 I2 => ⟨_, H1, I2, q1⟩) hf
theorem zs_set {i : Nat} {x : Str} {e : Expr} {te : TE} {pos' : Pos} (hN : X.N.Nodup) (hi : X.N[i]? = some x) (hx : Loc X.env.scope x) (he : ZE X e te) (hs : swapsWith e (some (.Name x pos')) pos.line X.env = pure false := by rfl) (hf : X.fn x = true ∨ X.env.scope.names.lookup x = some .local := by first | exact .inl rfl | exact .inr rfl | assumption) :
    ZS X (.Assign [.Name x pos'] e pos) (tAsg te (gName i)) := by with_unfolding_all exact ps_set hN hi hx he hs hf
noncomputable def tPar (i j : Nat) (ta : TA) : TS := fun D σ H => ta σ H fun vs H1 => ∃ v w, vs = [v, w] ∧ D.nx ((σ.set i (some v)).set j (some w)) H1
theorem ps_par {i j : Nat} {x y : Str} {a b : Expr} {ta : TA} {px py pt : Pos} {kt k2 pt2} (hc : X.calm = true) (hN : X.N.Nodup) (hi : X.N[i]? = some x) (hj : X.N[j]? = some y) (hij : i ≠ j)
    (hx : X.env.scope.names.lookup x = some .local) (hy : X.env.scope.names.lookup y = some .local) (ha : PA X [a, b] ta)
    (hw : swappedStores [.Tuple [.Name x px, .Name y py] kt pt] (.Tuple [a, b] k2 pt2) X.env = pure (some [x, y]))
    (hs : swapsWithSole [.Tuple [.Name x px, .Name y py] kt pt] (.Tuple [a, b] k2 pt2) pos.line X.env = pure false := by rfl) :
    PS X (.Assign [.Tuple [.Name x px, .Name y py] kt pt] (.Tuple [a, b] k2 pt2) pos) (tPar i j ta) := by
  intro pins s σ H D I h
  rw [exec_Assign_arm]
  refine wpAny_bind (wpAny_standAt ?_)
  rw [hs]
  refine wpAny_bind (wpAny_pure ?_)
  rw [if_neg (by decide)]
  refine wpAny_bind (Tuple_ (thn (ha _ pins s σ H _ I h) fun us s1 ⟨vs, H1, I1, r1, q1⟩ => ?_))
  obtain ⟨v, w, e1, q1⟩ := q1
  subst e1
  obtain ⟨u1, u2, rfl, rv, rw'⟩ : ∃ u1 u2, us = [u1, u2] ∧ RelV v u1 ∧ RelV w u2 := by
    cases r1 with
    | cons p q =>
      cases q with
      | cons p' q' =>
        cases q'
        exact ⟨_, _, rfl, p, p'⟩
  refine wpAny_newObj_type ?_ (by show 2 ≤ sizeLine; decide)
  have I2 : Inv X pins σ H1 { s1 with heap := s1.heap.push { cls := .type "tuple", data := .seq [u1, u2].toArray } } := I1.kept (t' := s1.toks) fun b o e => Heap.get?_push_of_some _ e
  rw [hw]
  refine wpAny_bind (wpAny_pure ?_)
  show wpAny (model X.prog X.w) X.A (do rule "assign.swapped-stores"; let items ← unpackItems (.ref s1.heap.objs.size) 2 none; assignInOrder [fun v => bindName X.env y v, fun v => bindName X.env x v] items.reverse; pure Flow.next) _ _ _
  refine wpAny_bind (wpAny_rule (wpAny_bind (unpackItems_tuple (items := #[u1, u2]) (I.ok.hd hc) (IsTup.new s1.heap _) fun h' hx' => ?_)))
  have I3 := I2.kept (h' := h') (t' := s1.toks) fun b o e => hx' b o (Nat.ne_of_lt (Heap.lt_size e)) e
  show wpAny _ _ (assignInOrder [fun v => bindName X.env y v, fun v => bindName X.env x v] [u2, u1] >>= fun _ => pure Flow.next) _ _ _
  refine wpAny_bind (assignInOrder_cons (wpAny_bindName (store_ok I3 hN hj (.inl hy) rw' (fun s2 I4 => ?_) (.inr hy))))
  refine assignInOrder_cons (wpAny_bindName (store_ok I4 hN hi (.inl hx) rv (fun s3 I5 => assignInOrder_nil (wpAny_pure ?_)) (.inr hx)))
  rw [List.set_comm _ _ (Ne.symm hij)] at I5
  exact ⟨_, H1, I5, q1⟩
theorem zs_par {i j : Nat} {x y : Str} {a b : Expr} {ta : TA} {px py pt : Pos} {kt k2 pt2} (hc : X.calm = true) (hN : X.N.Nodup) (hi : X.N[i]? = some x) (hj : X.N[j]? = some y) (hij : i ≠ j)
    (hx : X.env.scope.names.lookup x = some .local) (hy : X.env.scope.names.lookup y = some .local) (ha : ZA X [a, b] ta)
    (hw : swappedStores [.Tuple [.Name x px, .Name y py] kt pt] (.Tuple [a, b] k2 pt2) X.env = pure (some [x, y]))
    (hs : swapsWithSole [.Tuple [.Name x px, .Name y py] kt pt] (.Tuple [a, b] k2 pt2) pos.line X.env = pure false := by rfl) :
    ZS X (.Assign [.Tuple [.Name x px, .Name y py] kt pt] (.Tuple [a, b] k2 pt2) pos) (tPar i j ta) := by with_unfolding_all exact ps_par hc hN hi hj hij hx hy ha hw hs
noncomputable def tAug (i : Nat) (te : TE) (ti : TIp) : TS := fun D σ H => ∃ x, σ[i]? = some (some x) ∧ te σ H fun y H1 => ti x y H1 fun z H2 => D.nx (σ.set i (some z)) H2
theorem ps_aug {i : Nat} {x : Str} {e : Expr} {te : TE} {op : Operator} {ti : TIp} {pos' : Pos} (hN : X.N.Nodup) (hi : X.N[i]? = some x) (hx : Loc X.env.scope x) (he : PE X e te) (ho : PIp X op ti) (hf : X.fn x = true ∨ X.env.scope.names.lookup x = some .local := by first | exact .inl rfl | exact .inr rfl | assumption) :
    PS X (.AugAssign (.Name x pos') op e pos) (tAug i te ti) := by
  intro pins s σ H D I h
  obtain ⟨v, e1, h⟩ := h
  obtain ⟨m, hn, hl⟩ := I.loc
  have vis : Vis X.env.scope x := by rcases hx with k | k; exact .inl k; exact .inr (.inl k)
  obtain ⟨u, r, l⟩ := hl i x v hi e1 vis
  refine wpAny_AugAssign_Name ?_
  have go : wpAny (model X.prog X.w) X.A (eval e X.env) (fun w s₂ => wpAny (model X.prog X.w) X.A (inplaceOp op u w) (fun r s₃ => wpAny (model X.prog X.w) X.A (storeName X.env x r) (fun _ => SP X pins D .next) X.xe s₃) X.xe s₂) X.xe s := by
    refine thn (he pins s σ H _ I h) fun w s1 ⟨y, H1, I1, r1, q1⟩ => ?_
    refine thn (ho pins s1 σ H1 v y u w _ I1 r r1 q1) fun z s2 ⟨zv, H2, I2, r2, q2⟩ => ?_
    exact store_ok I2 hN hi hx r2 (fun s3 I3 => ⟨_, H2, I3, q2⟩) hf
  rcases l with ⟨hk, hm⟩ | ⟨hk, c, hc, hcell⟩
  · exact wpAny_loadName_local I.ok.kind hk hn hm go
  · rcases hk with hk | hk
    · exact wpAny_loadName_cell I.ok.kind hk hc hcell go
    · rcases hx with k | k
      · have : X.env.scope.names.lookup x = some .free := hk
        rw [k] at this; cases this
      · have : X.env.scope.names.lookup x = some .free := hk
        rw [k] at this; cases this
theorem zs_aug {i : Nat} {x : Str} {e : Expr} {te : TE} {op : Operator} {ti : TIp} {pos' : Pos} (hN : X.N.Nodup) (hi : X.N[i]? = some x) (hx : Loc X.env.scope x) (he : ZE X e te) (ho : PIp X op ti) (hf : X.fn x = true ∨ X.env.scope.names.lookup x = some .local := by first | exact .inl rfl | exact .inr rfl | assumption) :
    ZS X (.AugAssign (.Name x pos') op e pos) (tAug i te ti) := by with_unfolding_all exact ps_aug hN hi hx he ho hf
noncomputable def tAugS (to ti te : TE) (tget : V → V → Hp → VK → Prop) (tip : TIp) (tset : TSet) : TS := fun D σ H => to σ H fun o H1 => ti σ H1 fun i H2 => tget o i H2 fun x H3 => te σ H3 fun y H4 => tip x y H4 fun z H5 => tset o i z H5 fun H6 => D.nx σ H6
noncomputable def PGet (X : Cx) (t : V → V → Hp → VK → Prop) : Prop :=
  ∀ (pins : List (Addr × Obj)) (s : Shared) (σ : St) (H : Hp) (o i : V) (ov iv : Value) (Q : VK), Inv X pins σ H s → RelV o ov → RelV i iv → t o i H Q →
    wpAny (model X.prog X.w) X.A (getItem ov iv) (EP X pins σ Q) X.xe s
theorem ps_augS {o i e : Expr} {to ti te : TE} {tget : V → V → Hp → VK → Prop} {tip : TIp} {tset : TSet} {op : Operator} {tpos : Pos} (ho : PE X o to) (hi : PE X i ti) (hg : PGet X tget) (he : PE X e te) (hp : PIp X op tip) (hs : PSet X tset)
    (ha : ∀ ov iv new, augStore i ov iv new = (do holding [new, ov, iv] (setItem ov iv new); release [new, ov, iv] []; pure .next) := by intros; rfl) : PS X (.AugAssign (.Subscript o i tpos) op e pos) (tAugS to ti te tget tip tset) := by
  intro pins s σ H D I h
  refine wpAny_AugAssign_SubscriptAny (thn (ho pins s σ H _ I h) fun ov s1 ⟨x1, H1, I1, r1, q1⟩ => ?_) ha
  refine thn (hi pins s1 σ H1 _ I1 q1) fun iv s2 ⟨x2, H2, I2, r2, q2⟩ => ?_
  refine thn (hg pins s2 σ H2 x1 x2 ov iv _ I2 r1 r2 q2) fun old s3 ⟨x3, H3, I3, r3, q3⟩ => ?_
  refine thn (he pins s3 σ H3 _ I3 q3) fun v s4 ⟨x4, H4, I4, r4, q4⟩ => ?_
  refine thn (hp pins s4 σ H4 x3 x4 old v _ I4 r3 r4 q4) fun new s5 ⟨x5, H5, I5, r5, q5⟩ => ?_
  exact thn (hs pins s5 σ H5 x1 x2 x5 ov iv new _ I5 r1 r2 r5 q5) fun _ s6 ⟨H6, I6, q6⟩ => ⟨σ, H6, I6, q6⟩
theorem zs_augS {o i e : Expr} {to ti te : TE} {tget : V → V → Hp → VK → Prop} {tip : TIp} {tset : TSet} {op : Operator} {tpos : Pos} (ho : ZE X o to) (hi : ZE X i ti) (hg : PGet X tget) (he : ZE X e te) (hp : PIp X op tip) (hs : PSet X tset)
    (ha : ∀ ov iv new, augStore i ov iv new = (do holding [new, ov, iv] (setItem ov iv new); release [new, ov, iv] []; pure .next) := by intros; rfl) : ZS X (.AugAssign (.Subscript o i tpos) op e pos) (tAugS to ti te tget tip tset) := by with_unfolding_all exact ps_augS ho hi hg he hp hs ha
noncomputable def ipI (f : Int → Int → Int) : TIp := fun x y H Q => ∃ i j, x = .int i ∧ y = .int j ∧ Q (.int (f i j)) H
theorem ip_add : PIp X .Add (ipI fun i j => i + j) := by
  intro pins s σ H x y v u Q I r1 r2 h
  obtain ⟨i, j, e1, e2, q⟩ := h
  subst e1; subst e2
  obtain ⟨t, rfl⟩ := r1
  obtain ⟨t', rfl⟩ := r2
  exact iadd_int ⟨.int _, H, I.tok _, ⟨_, rfl⟩, q⟩
theorem ip_sub : PIp X .Sub (ipI fun i j => i - j) := by
  intro pins s σ H x y v u Q I r1 r2 h
  obtain ⟨i, j, e1, e2, q⟩ := h
  subst e1; subst e2
  obtain ⟨t, rfl⟩ := r1
  obtain ⟨t', rfl⟩ := r2
  exact isub_int ⟨.int _, H, I.tok _, ⟨_, rfl⟩, q⟩
end
section
variable {X : Cx} {pos : Pos}
noncomputable def tWhile (c : TT) (tb : TS) : TS := fun D σ H => ∃ W : Nat → St → Hp → Prop, (∃ m, W m σ H) ∧ ∀ m σ H, W m σ H →
  c σ H fun b H1 => if b = true then ∃ N : St → Hp → Prop, (∀ σ' H', N σ' H' → ∃ m', m' < m ∧ W m' σ' H') ∧ tb { D with nx := N, ct := N, bk := D.nx } σ H1 else D.nx σ H1
theorem ps_while {c : Expr} {body : List Stmt} {tc : TT} {tb : TS} (hp : PassesOwn (model X.prog X.w) X.A X.env X.xe) (hc : PT X c tc) (hb : PSs X body tb) : PS X (.While c body [] pos) (tWhile tc tb) := by
  intro pins s σ H D I h
  obtain ⟨W, ⟨m0, w0⟩, turn⟩ := h
  refine wpAny_While (codeAny_whileLoop (fun n s' => ∃ σ' H', Inv X pins σ' H' s' ∧ W n σ' H') ?_ m0 ⟨σ, H, I, w0⟩)
  rintro n s1 ⟨σ1, H1, I1, w1⟩
  refine wpAny_passesOwn hp (thn (hc pins s1 σ1 H1 _ I1 (turn n σ1 H1 w1)) fun b s2 ⟨H2, I2, q2⟩ => ?_)
  cases b with
  | true =>
    obtain ⟨N, hN, q2⟩ := q2
    rw [if_pos rfl]
    refine wpAny_passesOwn hp (thn (hb pins s2 σ1 H2 _ I2 q2) fun f s3 q3 => ?_)
    cases f with
    | next =>
      obtain ⟨σ3, H3, I3, n3⟩ := q3
      obtain ⟨m', hm, w3⟩ := hN σ3 H3 n3
      exact ⟨m', hm, σ3, H3, I3, w3⟩
    | cont =>
      obtain ⟨σ3, H3, I3, n3⟩ := q3
      obtain ⟨m', hm, w3⟩ := hN σ3 H3 n3
      exact ⟨m', hm, σ3, H3, I3, w3⟩
    | brk => exact q3
    | ret v => exact q3
  | false =>
    rw [if_neg Bool.false_ne_true]
    exact wpAny_execs_nil ⟨σ1, H2, I2, q2⟩
theorem zs_while {c : Expr} {body : List Stmt} {tc : TT} {tb : TS} (hp : PassesOwn (model X.prog X.w) X.A X.env X.xe) (hc : ZT X c tc) (hb : ZSs X body tb) : ZS X (.While c body [] pos) (tWhile tc tb) := by with_unfolding_all exact ps_while hp hc hb
end
structure It where
  go : Nat → Hp → Prop
  yld : Nat → Hp → V → Hp → Prop
  stop : Nat → Hp → Prop
noncomputable def FpOk (X : Cx) (pins : List (Addr × Obj)) (H : Hp) (b : Addr) : Prop :=
  H b = none ∧ b ≠ X.env.locals ∧ b ∉ X.fs ∧ (b ∈ X.ex ∨ X.s₀.heap.objs.size ≤ b) ∧ (∀ x c, X.env.cells.lookup x = some c → c ≠ b) ∧ ∀ p ∈ X.pn ++ pins, p.1 ≠ b
theorem Inv.fpOk {X : Cx} {pins : List (Addr × Obj)} {σ : St} {H H' : Hp} {s : Shared} {b : Addr} (I : Inv X pins σ H s) (hb : s.heap.objs.size ≤ b) (hn : H' b = none) : FpOk X pins H' b := by
  refine ⟨hn, Nat.ne_of_gt (Nat.lt_of_lt_of_le I.lt hb), I.nofs hb, .inr (Nat.le_trans I.sz hb), fun x c e z => ?_, fun p hp z => ?_⟩
  · obtain ⟨v, q⟩ := I.cell x c e
    exact absurd (Nat.lt_of_lt_of_le q.lt (by rw [z]; exact hb)) (Nat.lt_irrefl _)
  · exact absurd (Nat.lt_of_lt_of_le (Heap.lt_size (I.pin p hp).1) (by rw [z]; exact hb)) (Nat.lt_irrefl _)
structure Turn (P : Program) (w : World) (K : PySem.W.Frag) (tg : Expr) (J : It) (fp : List Addr) (it : Addr) (tn : Nat → Heap → Prop) : Prop where
  mem : it ∈ fp
  obj : ∀ i h, tn i h → ∀ b ∈ fp, ∃ o, h.get? b = some o ∧ ∀ v, o.data ≠ .cell v
  keep : ∀ i h h', tn i h → (∀ b ∈ fp, ∀ o, h.get? b = some o → h'.get? b = some o) → tn i h'
  item : ∀ (X : Cx), X.prog = P → X.w = w → X.K = K → X.calm = true → ∀ (i : Nat) (pins : List (Addr × Obj)) (s : Shared) (σ : St) (H : Hp) (E : Value → Shared → Prop), Inv X pins σ H s → (∀ b ∈ fp, FpOk X pins H b) → tn i s.heap → J.go i H →
    wpAny (model P w) X.A (pyNext (.ref it)) (fun r s1 => ∃ u, r = some u ∧
      wpAny (model P w) X.A (letOwnedTupleGo tg (.ref it) u) (fun _ s2 => ∃ x H', Inv X pins σ H' s2 ∧ RelV x u ∧ J.yld i H x H' ∧ tn (i + 1) s2.heap ∧ ∀ b ∈ fp, H' b = none) E s1) E s
  done : ∀ (X : Cx), X.prog = P → X.w = w → X.K = K → X.calm = true → ∀ (i : Nat) (pins : List (Addr × Obj)) (s : Shared) (σ : St) (H : Hp) (E : Value → Shared → Prop), Inv X pins σ H s → (∀ b ∈ fp, FpOk X pins H b) → tn i s.heap → J.stop i H →
    wpAny (model P w) X.A (pyNext (.ref it)) (fun r s1 => r = none ∧ Inv X pins σ H s1) E s
  self : ∀ (A : Around) (i : Nat) (s : Shared) (Q : Value → Shared → Prop) (E : Value → Shared → Prop), tn i s.heap → Q (.ref it) s → wpAny (model P w) A (pyIter (.ref it)) Q E s
noncomputable abbrev TI := St → Hp → (It → Hp → Prop) → Prop
noncomputable def PIE (X : Cx) (pins : List (Addr × Obj)) (σ : St) (tg : Expr) (R : It → Hp → Prop) (itv : Value) (s2 : Shared) : Prop :=
  ∃ (it : Addr) (fp : List Addr) (tn : Nat → Heap → Prop) (J : It) (H' : Hp), itv = .ref it ∧ Inv X pins σ H' s2 ∧ Turn X.prog X.w X.K tg J fp it tn ∧ tn 0 s2.heap ∧ (∀ b ∈ fp, FpOk X pins H' b) ∧ R J H'
noncomputable def PI (X : Cx) (tg iter : Expr) (wi : TI) : Prop :=
  ∀ (pins : List (Addr × Obj)) (s : Shared) (σ : St) (H : Hp) (R : It → Hp → Prop), Inv X pins σ H s → wi σ H R →
    wpAny (model X.prog X.w) X.A (eval iter X.env) (fun v s1 => wpAny (model X.prog X.w) X.A (pyIter v) (PIE X pins σ tg R) X.xe s1) X.xe s
@[irreducible] noncomputable def ZI (X : Cx) (tg iter : Expr) (wi : TI) : Prop := PI X tg iter wi
theorem go_of {M : Model} {A : Around} {E : Value → Shared → Prop} {s : Shared} {tg : Expr} {it : Addr} {u : Value} {o : Obj} {n : String} {vs : Array Value} {Q : Unit → Shared → Prop} (ho : s.heap.get? it = some o) (hc : o.cls = .type n) (hd : o.data = .fields vs)
    (hn : ["enumerate", "zip", "dict_itemiterator", "dict_reverseitemiterator", "odict_iterator", "itertools.zip_longest", "itertools.pairwise"].contains n = false) (hQ : Q () s) : wpAny M A (letOwnedTupleGo tg (.ref it) u) Q E s := by
  unfold letOwnedTupleGo
  cases tg <;> first
    | exact wpAny_pure hQ
    | (cases u <;> first
        | exact wpAny_pure hQ
        | (refine wpAny_bind (wpAny_load ho ?_)
           rw [hc, hd]
           show wpAny M A (if (["enumerate", "zip", "dict_itemiterator", "dict_reverseitemiterator", "odict_iterator", "itertools.zip_longest", "itertools.pairwise"].contains n && vs[0]? == some (rawInt _)) = true then _ else _) Q E s
           rw [if_neg (by intro h; rw [hn, Bool.false_and] at h; cases h)]
           exact wpAny_pure hQ))

noncomputable def Itl (K : PySem.W.Frag) (a : Addr) : It :=
  ⟨fun i H => ∃ xs x, SqL K H a xs ∧ xs[i]? = some x, fun i H x H' => H' = H ∧ ∀ xs, SqL K H a xs → xs[i]? = some x, fun i H => ∃ xs, SqL K H a xs ∧ xs.length ≤ i⟩
noncomputable def Itt (K : PySem.W.Frag) (a : Addr) : It :=
  ⟨fun i H => ∃ xs x, SqT K H a xs ∧ xs[i]? = some x, fun i H x H' => H' = H ∧ ∀ xs, SqT K H a xs → xs[i]? = some x, fun i H => ∃ xs, SqT K H a xs ∧ xs.length ≤ i⟩
noncomputable def Itr (lo : Int) (n : Nat) : It := ⟨fun i _ => i < n, fun i H x H' => H' = H ∧ x = .int (lo + i), fun i _ => n ≤ i⟩
theorem turn_list {P : Program} {w : World} {K : PySem.W.Frag} {tg : Expr} (a it : Addr) : Turn P w K tg (Itl K a) [it] it (fun i h => h.IsListIter it a i) where
  mem := by simp
  obj := fun i h st b hb => by
    have e : b = it := by simpa using hb
    subst e
    obtain ⟨o, e, c, d⟩ := st
    exact ⟨o, e, fun v z => by rw [d] at z; cases z⟩
  keep := fun i h h' st k => st.at fun o e => k it (by simp) o e
  item := by
    intro X hP hw hK hc i pins s σ H E I hf st hg
    subst hP hw hK
    obtain ⟨xs, x, hq, hx⟩ := hg
    obtain ⟨its, rv, p, hz⟩ := I.list hq
    obtain ⟨u, hu, ru⟩ := rv.get hx
    obtain ⟨f0, f1, f2, f3, f4, f5⟩ := hf it (by simp)
    refine wpAny_pyNext_list_item st p.isList (x := u) (by simpa using hu) fun h' st' sb => ?_
    have I1 : Inv X pins σ H { s with heap := h' } := I.turned (t' := s.toks) (fun b o hb e => (sb.2 b hb).trans e) f0 f1 f3 f4 f5
    obtain ⟨o, e, c, d⟩ := id st'
    exact ⟨u, rfl, go_of (s := { s with heap := h' }) e c d (by decide) ⟨x, H, I1, ru, ⟨rfl, fun ys hy => by rw [I.list_inj hy hq]; exact hx⟩, st', fun b hb => (hf b hb).1⟩⟩
  done := by
    intro X hP hw hK hc i pins s σ H E I hf st hg
    subst hP hw hK
    obtain ⟨xs, hq, hx⟩ := hg
    obtain ⟨its, rv, p, hz⟩ := I.list hq
    obtain ⟨f0, f1, f2, f3, f4, f5⟩ := hf it (by simp)
    have hl := rv.length
    exact wpAny_pyNext_list_end (I.ok.hd hc) st p.isList (by simp; omega) fun h' eb => ⟨rfl, I.turned (t' := s.toks) (fun b o hb e => eb b o hb e) f0 f1 f3 f4 f5⟩
  self := fun _ _ _ _ _ st h => wpAny_pyIter_listiter st h
theorem turn_tuple {P : Program} {w : World} {K : PySem.W.Frag} {tg : Expr} (a it : Addr) : Turn P w K tg (Itt K a) [it] it (fun i h => h.IsTupleIter it a i) where
  mem := by simp
  obj := fun i h st b hb => by
    have e : b = it := by simpa using hb
    subst e
    obtain ⟨o, e, c, d⟩ := st
    exact ⟨o, e, fun v z => by rw [d] at z; cases z⟩
  keep := fun i h h' st k => st.at fun o e => k it (by simp) o e
  item := by
    intro X hP hw hK hc i pins s σ H E I hf st hg
    subst hP hw hK
    obtain ⟨xs, x, hq, hx⟩ := hg
    obtain ⟨its, rv, p, hz⟩ := I.tuple hq
    obtain ⟨u, hu, ru⟩ := rv.get hx
    obtain ⟨f0, f1, f2, f3, f4, f5⟩ := hf it (by simp)
    refine wpAny_pyNext_tuple_item st (show s.heap.IsTuple a its.toArray from p) (x := u) (by simpa using hu) fun h' st' sb => ?_
    have I1 : Inv X pins σ H { s with heap := h' } := I.turned (t' := s.toks) (fun b o hb e => (sb.2 b hb).trans e) f0 f1 f3 f4 f5
    obtain ⟨o, e, c, d⟩ := id st'
    exact ⟨u, rfl, go_of (s := { s with heap := h' }) e c d (by decide) ⟨x, H, I1, ru, ⟨rfl, fun ys hy => by rw [I.tuple_inj hy hq]; exact hx⟩, st', fun b hb => (hf b hb).1⟩⟩
  done := by
    intro X hP hw hK hc i pins s σ H E I hf st hg
    subst hP hw hK
    obtain ⟨xs, hq, hx⟩ := hg
    obtain ⟨its, rv, p, hz⟩ := I.tuple hq
    obtain ⟨f0, f1, f2, f3, f4, f5⟩ := hf it (by simp)
    have hl := rv.length
    exact wpAny_pyNext_tuple_end (I.ok.hd hc) st (show s.heap.IsTuple a its.toArray from p) (by simp; omega) fun h' eb => ⟨rfl, I.turned (t' := s.toks) (fun b o hb e => eb b o hb e) f0 f1 f3 f4 f5⟩
  self := fun _ _ _ _ _ st h => wpAny_pyIter_tupleiter st h
theorem turn_range {P : Program} {w : World} {K : PySem.W.Frag} {tg : Expr} (it : Addr) (lo : Int) (n : Nat) : Turn P w K tg (Itr lo n) [it] it (fun i h => IsRangeIter h it (lo + (i : Nat) * 1) ((n : Int) - (i : Nat)) 1) where
  mem := by simp
  obj := fun i h st b hb => by
    have e : b = it := by simpa using hb
    subst e
    exact ⟨_, st, fun v z => by
      have z' : Data.fields _ = Data.cell v := z
      cases z'⟩
  keep := fun i h h' st k => k it (by simp) _ st
  item := by
    intro X hP hw hK hc i pins s σ H E I hf st hg
    subst hP hw hK
    obtain ⟨f0, f1, f2, f3, f4, f5⟩ := hf it (by simp)
    have W := Walks.range (prog := X.prog) (w := X.w) (I.ok.hd hc) it lo 1 n
    refine W.item i s _ _ hg st fun v h' tk hv st' kk => ?_
    obtain ⟨t, rfl⟩ := hv
    have I1 : Inv X pins σ H { s with heap := h', toks := tk } := I.turned (fun b o hb e => kk b o (by simpa using hb) e) f0 f1 f3 f4 f5
    refine ⟨_, rfl, go_of (s := { s with heap := h', toks := tk }) (n := "range_iterator") st' rfl rfl (by decide) ⟨.int (lo + i), H, I1, ⟨t, ?_⟩, ⟨rfl, rfl⟩, st', fun b hb => (hf b hb).1⟩⟩
    rw [Int.mul_one]
  done := by
    intro X hP hw hK hc i pins s σ H E I hf st hg
    subst hP hw hK
    obtain ⟨f0, f1, f2, f3, f4, f5⟩ := hf it (by simp)
    exact wpAny_pyNext_range_end (I.ok.hd hc) st (by have : n ≤ i := hg; omega) fun h' eb => ⟨rfl, I.turned (t' := s.toks) (fun b o hb e => eb b o hb e) f0 f1 f3 f4 f5⟩
  self := fun _ _ _ _ _ st h => wpAny_pyIter_rangeiter st h
end L2
namespace L2
open PySem PySem.Spec PyProof.Rows
section
variable {X : Cx} {tg : Expr}
noncomputable def iList (K : PySem.W.Frag) (tl : TE) : TI := fun σ H R => tl σ H fun x H1 => ∃ a, x = .ref a ∧ (∃ xs, SqL K H1 a xs) ∧ R (Itl K a) H1
noncomputable def iTup (K : PySem.W.Frag) (tl : TE) : TI := fun σ H R => tl σ H fun x H1 => ∃ a, x = .ref a ∧ (∃ xs, SqT K H1 a xs) ∧ R (Itt K a) H1
theorem pi_list {l : Expr} {tl : TE} (hl : PE X l tl) : PI X tg l (iList X.K tl) := by
  intro pins s σ H R I h
  refine thn (hl pins s σ H _ I h) fun v s1 ⟨x, H1, I1, r1, q1⟩ => ?_
  obtain ⟨a, e, ⟨xs, hq⟩, q⟩ := q1
  subst e
  cases r1
  obtain ⟨its, rv, p, hz⟩ := I1.list hq
  refine wpAny_pyIter_list p.isList ?_
  refine ⟨s1.heap.objs.size, [s1.heap.objs.size], _, _, H1, rfl, I1.kept (t' := s1.toks) fun b o e => Heap.get?_push_of_some _ e, turn_list a _, ⟨_, Heap.get?_push_size _ rfl, rfl, rfl⟩, fun b hb => ?_, q⟩
  have e : b = s1.heap.objs.size := by simpa using hb
  subst e
  exact I1.fpOk (Nat.le_refl _) (I1.hok.fresh (Nat.le_refl _))
theorem zi_list {l : Expr} {tl : TE} (hl : ZE X l tl) : ZI X tg l (iList X.K tl) := by with_unfolding_all exact pi_list hl
theorem pi_tup {l : Expr} {tl : TE} (hl : PE X l tl) : PI X tg l (iTup X.K tl) := by
  intro pins s σ H R I h
  refine thn (hl pins s σ H _ I h) fun v s1 ⟨x, H1, I1, r1, q1⟩ => ?_
  obtain ⟨a, e, ⟨xs, hq⟩, q⟩ := q1
  subst e
  cases r1
  obtain ⟨its, rv, p, hz⟩ := I1.tuple hq
  refine wpAny_pyIter_tuple (show s1.heap.IsTuple a its.toArray from p) ?_
  refine ⟨s1.heap.objs.size, [s1.heap.objs.size], _, _, H1, rfl, I1.kept (t' := s1.toks) fun b o e => Heap.get?_push_of_some _ e, turn_tuple a _, ⟨_, Heap.get?_push_size _ rfl, rfl, rfl⟩, fun b hb => ?_, q⟩
  have e : b = s1.heap.objs.size := by simpa using hb
  subst e
  exact I1.fpOk (Nat.le_refl _) (I1.hok.fresh (Nat.le_refl _))
theorem zi_tup {l : Expr} {tl : TE} (hl : ZE X l tl) : ZI X tg l (iTup X.K tl) := by with_unfolding_all exact pi_tup hl
theorem range_it {pins : List (Addr × Obj)} {σ : St} {H : Hp} {s : Shared} {R : It → Hp → Prop} {E : Value → Shared → Prop} {lo hi : Int} {t u v : Tok} {tk : Nat} (I : Inv X pins σ H s) (h1 : -(2 ^ 62) ≤ lo) (h2 : lo < 2 ^ 62) (h3 : -(2 ^ 62) ≤ hi) (h4 : hi < 2 ^ 62)
    (q : R (Itr lo (hi - lo).toNat) H) : wpAny (model X.prog X.w) X.A (pyIter (.ref s.heap.objs.size)) (PIE X pins σ tg R) E { s with heap := s.heap.push { cls := .type "range", data := .fields #[.int lo t, .int hi u, .int 1 v] }, toks := tk } := by
  refine wpAny_pyIter_range (IsRange.new ..) (small_one h1 h2 h3 h4) ?_
  have I1 : Inv X pins σ H { s with heap := s.heap.push { cls := .type "range", data := .fields #[.int lo t, .int hi u, .int 1 v] }, toks := tk } := I.kept fun b o e => Heap.get?_push_of_some _ e
  refine ⟨(s.heap.push { cls := .type "range", data := .fields #[.int lo t, .int hi u, .int 1 v] }).objs.size, [(s.heap.push { cls := .type "range", data := .fields #[.int lo t, .int hi u, .int 1 v] }).objs.size], _, _, H, rfl,
    I1.kept (t' := tk) fun b o e => Heap.get?_push_of_some _ e, turn_range _ lo (hi - lo).toNat, ?_, fun b hb => ?_, q⟩
  · have e1 : lo + ((0 : Nat) : Int) * 1 = lo := by simp
    have e2 : (((hi - lo).toNat : Nat) : Int) - ((0 : Nat) : Int) = Builtin.Range.rangeSize lo hi 1 := by rw [rangeSize_one]; split <;> omega
    show IsRangeIter _ _ (lo + ((0 : Nat) : Int) * 1) ((((hi - lo).toNat : Nat) : Int) - ((0 : Nat) : Int)) 1
    rw [e1, e2]
    exact Heap.get?_push_size _ rfl
  · have e : b = (s.heap.push { cls := .type "range", data := .fields #[.int lo t, .int hi u, .int 1 v] }).objs.size := by simpa using hb
    subst e
    exact I1.fpOk (Nat.le_refl _) (I1.hok.fresh (Nat.le_refl _))
noncomputable def iRng1 (ta : TA) : TI := fun σ H R => ta σ H fun vs H1 => ∃ j : Int, vs = [.int j] ∧ -(2 ^ 62) ≤ j ∧ j < 2 ^ 62 ∧ R (Itr 0 j.toNat) H1
noncomputable def iRng2 (ta : TA) : TI := fun σ H R => ta σ H fun vs H1 => ∃ i j : Int, vs = [.int i, .int j] ∧ (-(2 ^ 62) ≤ i ∧ i < 2 ^ 62 ∧ -(2 ^ 62) ≤ j ∧ j < 2 ^ 62) ∧ R (Itr i (j - i).toNat) H1
theorem pi_range1 {a : Expr} {ta : TA} {p pos : Pos} (hg : Gl X "range") (hm : X.mg "range" = none) (ha : PA X [a] ta) (hs : starEach [a] X.env = [(false, eval a X.env)] := by rfl) : PI X tg (.Call (.Name "range" p) [a] [] pos) (iRng1 ta) := by
  intro pins s σ H R I h
  refine Call_ (ld_blt I hg hm boot_range (PyProof.Rows.callWith_type1 (thn (ha pos pins s σ H _ I h) fun us s1 ⟨vs, H1, I1, r1, q1⟩ => ?_) hs rfl))
  obtain ⟨j, e, q1, q2, q⟩ := q1
  subst e
  cases r1 with
  | cons r rr =>
    cases rr
    obtain ⟨t, rfl⟩ := r
    exact call_range_1 (range_it I1 (by omega) (by omega) q1 q2 (by simpa using q))
theorem zi_range1 {a : Expr} {ta : TA} {p pos : Pos} (hg : Gl X "range") (hm : X.mg "range" = none) (ha : ZA X [a] ta) (hs : starEach [a] X.env = [(false, eval a X.env)] := by rfl) : ZI X tg (.Call (.Name "range" p) [a] [] pos) (iRng1 ta) := by with_unfolding_all exact pi_range1 hg hm ha hs
theorem pi_range2 {a b : Expr} {ta : TA} {p pos : Pos} (hg : Gl X "range") (hm : X.mg "range" = none) (ha : PA X [a, b] ta) (hs : starEach [a, b] X.env = [(false, eval a X.env), (false, eval b X.env)] := by rfl) (hs2 : starEach [b] X.env = [(false, eval b X.env)] := by rfl) :
    PI X tg (.Call (.Name "range" p) [a, b] [] pos) (iRng2 ta) := by
  intro pins s σ H R I h
  refine Call_ (ld_blt I hg hm boot_range (PyProof.Rows.callWith_type1 (thn (ha pos pins s σ H _ I h) fun us s1 ⟨vs, H1, I1, r1, q1⟩ => ?_) (by rw [hs, hs2]) (by rw [hs2]; rfl)))
  obtain ⟨i, j, e, ⟨q1, q2, q3, q4⟩, q⟩ := q1
  subst e
  cases r1 with
  | cons r rr =>
    cases rr with
    | cons r' rr =>
      cases rr
      obtain ⟨t, rfl⟩ := r
      obtain ⟨t', rfl⟩ := r'
      exact call_range_2 (range_it I1 q1 q2 q3 q4 q)
theorem zi_range2 {a b : Expr} {ta : TA} {p pos : Pos} (hg : Gl X "range") (hm : X.mg "range" = none) (ha : ZA X [a, b] ta) (hs : starEach [a, b] X.env = [(false, eval a X.env), (false, eval b X.env)] := by rfl) (hs2 : starEach [b] X.env = [(false, eval b X.env)] := by rfl) :
    ZI X tg (.Call (.Name "range" p) [a, b] [] pos) (iRng2 ta) := by with_unfolding_all exact pi_range2 hg hm ha hs hs2

noncomputable def tFor (wi : TI) (g : TG) (tb : TS) : TS := fun D σ H => wi σ H fun J H1 => ∃ W : Nat → Nat → St → Hp → Prop, (∃ m, W 0 m σ H1) ∧ ∀ i m σ H, W i m σ H →
  (J.stop i H ∧ D.nx σ H) ∨ (J.go i H ∧ ∃ N : St → Hp → Prop, (∀ σ' H', N σ' H' → ∃ m', m' < m ∧ W (i + 1) m' σ' H') ∧ ∀ x H', J.yld i H x H' → g x σ H' fun σ2 H2 => tb { D with nx := N, ct := N, bk := D.nx } σ2 H2)
noncomputable def pinsAt (fp : List Addr) (h : Heap) : List (Addr × Obj) := fp.filterMap fun b => (h.get? b).map fun o => (b, o)
theorem mem_pinsAt {fp : List Addr} {h : Heap} {b : Addr} {o : Obj} (hb : b ∈ fp) (e : h.get? b = some o) : (b, o) ∈ pinsAt fp h := List.mem_filterMap.mpr ⟨b, hb, by rw [e]; rfl⟩
theorem of_pinsAt {fp : List Addr} {h : Heap} {p : Addr × Obj} (hp : p ∈ pinsAt fp h) : p.1 ∈ fp ∧ h.get? p.1 = some p.2 := by
  obtain ⟨b, hb, e⟩ := List.mem_filterMap.mp hp
  cases q : h.get? b with
  | none => rw [q] at e; cases e
  | some o =>
    rw [q] at e
    have e' : (b, o) = p := Option.some.inj e
    subst e'
    exact ⟨hb, q⟩
theorem Inv.pinned {pins : List (Addr × Obj)} {σ : St} {H : Hp} {s : Shared} {fp : List Addr} (I : Inv X pins σ H s) (hf : ∀ b ∈ fp, FpOk X pins H b) (ho : ∀ b ∈ fp, ∃ o, s.heap.get? b = some o ∧ ∀ v, o.data ≠ .cell v) : Inv X (pins ++ pinsAt fp s.heap) σ H s :=
  I.pins_of fun p hp => (List.mem_append.mp hp).elim (fun z => I.pin p (List.mem_append_right _ z)) fun z => by
    obtain ⟨hb, e⟩ := of_pinsAt z
    obtain ⟨f0, f1, f2, _⟩ := hf p.1 hb
    obtain ⟨o, e', d⟩ := ho p.1 hb
    rw [e] at e'; cases e'
    exact ⟨e, f0, f1, f2, d⟩
theorem Inv.unpinned {pins pl : List (Addr × Obj)} {σ : St} {H : Hp} {s : Shared} (I : Inv X (pins ++ pl) σ H s) : Inv X pins σ H s := I.pins_of fun p hp => I.pin p (List.mem_append_right _ (List.mem_append_left _ hp))
theorem ps_for {iter : Expr} {body : List Stmt} {wi : TI} {g : TG} {tb : TS} {pos : Pos} (hp : PassesOwn (model X.prog X.w) X.A X.env X.xe) (hc : X.calm = true) (hi : PI X tg iter wi) (hg : PG X tg g) (hb : PSs X body tb)
    (hs : ∀ x, foldedSetIterable iter X.env x = pure x := by intro _; rfl) : PS X (.For tg iter body [] pos) (tFor wi g tb) := by
  intro pins s σ H D I h
  refine wpAny_For (thn (hi pins s σ H _ I h) fun v s1 h1 => thn h1 fun itv s2 h2 => ?_) hs
  obtain ⟨it, fp, tn, J, H2, e, I2, T, st2, f2, W, ⟨m0, w0⟩, turn⟩ := h2
  subst e
  -- what stays true of the iterator's objects through the loop
  have stat : ∀ {H' : Hp}, (∀ b ∈ fp, H' b = none) → ∀ b ∈ fp, FpOk X pins H' b := fun hn b hb => ⟨hn b hb, (f2 b hb).2⟩
  refine codeAny_forLoop_any (fun n s' => ∃ i σ' H', Inv X pins σ' H' s' ∧ tn i s'.heap ∧ (∀ b ∈ fp, H' b = none) ∧ W i n σ' H') ?_ m0 ⟨0, σ, H2, I2, st2, fun b hb => (f2 b hb).1, w0⟩
  rintro n s3 ⟨i, σ3, H3, I3, st3, fr3, w3⟩
  rcases turn i n σ3 H3 w3 with ⟨stop, qn⟩ | ⟨go, N, hN, step⟩
  · refine wpAny_passesOwn hp (thn (T.done X rfl rfl rfl hc i pins s3 σ3 H3 X.xe I3 (stat fr3) st3 stop) fun r s4 ⟨hr, I4⟩ => ?_)
    subst hr
    exact wpAny_execs_nil ⟨σ3, H3, I4, qn⟩
  · refine wpAny_passesOwn hp (thn (T.item X rfl rfl rfl hc i pins s3 σ3 H3 X.xe I3 (stat fr3) st3 go) fun r s4 ⟨u, hr, h4⟩ => ?_)
    subst hr
    refine wpAny_passesOwn hp (thn h4 fun _ s5 ⟨x, H5, I5, r5, y5, st5, fr5⟩ => ?_)
    have I5' := I5.pinned (stat fr5) (T.obj _ _ st5)
    refine wpAny_passesOwn hp (thn (hg _ s5 σ3 H5 x u _ I5' r5 (step x H5 y5)) fun _ s6 ⟨σ6, H6, I6, q6⟩ => ?_)
    refine wpAny_passesOwn hp (thn (hb _ s6 σ6 H6 _ I6 q6) fun f s7 q7 => ?_)
    have again : ∀ {σ7 : St} {H7 : Hp}, Inv X (pins ++ pinsAt fp s5.heap) σ7 H7 s7 → N σ7 H7 → ∃ m, m < n ∧ ∃ i σ' H', Inv X pins σ' H' s7 ∧ tn i s7.heap ∧ (∀ b ∈ fp, H' b = none) ∧ W i m σ' H' := fun {σ7 H7} I7 n7 => by
      obtain ⟨m', hm, w7⟩ := hN σ7 H7 n7
      refine ⟨m', hm, i + 1, σ7, H7, I7.unpinned, T.keep _ _ _ st5 fun b hb o e => (I7.pin (b, o) (List.mem_append_right _ (List.mem_append_right _ (mem_pinsAt hb e)))).1, fun b hb => ?_, w7⟩
      obtain ⟨o, e, d⟩ := T.obj _ _ st5 b hb
      exact (I7.pin (b, o) (List.mem_append_right _ (List.mem_append_right _ (mem_pinsAt hb e)))).2.1
    cases f with
    | next => obtain ⟨σ7, H7, I7, n7⟩ := q7; exact again I7 n7
    | cont => obtain ⟨σ7, H7, I7, n7⟩ := q7; exact again I7 n7
    | brk => obtain ⟨σ7, H7, I7, q7⟩ := q7; exact ⟨σ7, H7, I7.unpinned, q7⟩
    | ret v => obtain ⟨x7, σ7, H7, I7, r7, q7⟩ := q7; exact ⟨x7, σ7, H7, I7.unpinned, r7, q7⟩
theorem zs_for {iter : Expr} {body : List Stmt} {wi : TI} {g : TG} {tb : TS} {pos : Pos} (hp : PassesOwn (model X.prog X.w) X.A X.env X.xe) (hc : X.calm = true) (hi : ZI X tg iter wi) (hg : ZG X tg g) (hb : ZSs X body tb)
    (hs : ∀ x, foldedSetIterable iter X.env x = pure x := by intro _; rfl) : ZS X (.For tg iter body [] pos) (tFor wi g tb) := by with_unfolding_all exact ps_for hp hc hi hg hb hs
end
theorem for_list {K : PySem.W.Frag} {a : Addr} {xs : List V} {g : TG} {tb : TS} {D : Ends} {σ : St} {H : Hp} (Pv : Nat → St → Hp → Prop) (h0 : Pv 0 σ H) (hl : ∀ i σ H, i ≤ xs.length → Pv i σ H → SqL K H a xs)
    (hs : ∀ i x σ H, xs[i]? = some x → Pv i σ H → g x σ H fun σ2 H2 => tb { D with nx := Pv (i + 1), ct := Pv (i + 1), bk := D.nx } σ2 H2) (hd : ∀ σ H, Pv xs.length σ H → D.nx σ H) :
    ∃ W : Nat → Nat → St → Hp → Prop, (∃ m, W 0 m σ H) ∧ ∀ i m σ H, W i m σ H →
      ((Itl K a).stop i H ∧ D.nx σ H) ∨ ((Itl K a).go i H ∧ ∃ N : St → Hp → Prop, (∀ σ' H', N σ' H' → ∃ m', m' < m ∧ W (i + 1) m' σ' H') ∧ ∀ x H', (Itl K a).yld i H x H' → g x σ H' fun σ2 H2 => tb { D with nx := N, ct := N, bk := D.nx } σ2 H2) := by
  refine ⟨fun i m σ H => m = xs.length - i ∧ i ≤ xs.length ∧ Pv i σ H, ⟨xs.length, by simp, Nat.zero_le _, h0⟩, ?_⟩
  rintro i m σ H ⟨rfl, hi, p⟩
  have q := hl i σ H hi p
  by_cases hlt : i < xs.length
  · refine .inr ⟨⟨xs, xs[i], q, by simp [hlt]⟩, Pv (i + 1), fun σ' H' p' => ⟨xs.length - (i + 1), by omega, rfl, hlt, p'⟩, fun x H' y => ?_⟩
    obtain ⟨e, y⟩ := y
    subst e
    exact hs i x σ _ (y xs q) p
  · have e : i = xs.length := by omega
    subst e
    exact .inl ⟨⟨xs, q, Nat.le_refl _⟩, hd σ H p⟩
theorem for_tup {K : PySem.W.Frag} {a : Addr} {xs : List V} {g : TG} {tb : TS} {D : Ends} {σ : St} {H : Hp} (Pv : Nat → St → Hp → Prop) (h0 : Pv 0 σ H) (hl : ∀ i σ H, i ≤ xs.length → Pv i σ H → SqT K H a xs)
    (hs : ∀ i x σ H, xs[i]? = some x → Pv i σ H → g x σ H fun σ2 H2 => tb { D with nx := Pv (i + 1), ct := Pv (i + 1), bk := D.nx } σ2 H2) (hd : ∀ σ H, Pv xs.length σ H → D.nx σ H) :
    ∃ W : Nat → Nat → St → Hp → Prop, (∃ m, W 0 m σ H) ∧ ∀ i m σ H, W i m σ H →
      ((Itt K a).stop i H ∧ D.nx σ H) ∨ ((Itt K a).go i H ∧ ∃ N : St → Hp → Prop, (∀ σ' H', N σ' H' → ∃ m', m' < m ∧ W (i + 1) m' σ' H') ∧ ∀ x H', (Itt K a).yld i H x H' → g x σ H' fun σ2 H2 => tb { D with nx := N, ct := N, bk := D.nx } σ2 H2) := by
  refine ⟨fun i m σ H => m = xs.length - i ∧ i ≤ xs.length ∧ Pv i σ H, ⟨xs.length, by simp, Nat.zero_le _, h0⟩, ?_⟩
  rintro i m σ H ⟨rfl, hi, p⟩
  have q := hl i σ H hi p
  by_cases hlt : i < xs.length
  · refine .inr ⟨⟨xs, xs[i], q, by simp [hlt]⟩, Pv (i + 1), fun σ' H' p' => ⟨xs.length - (i + 1), by omega, rfl, hlt, p'⟩, fun x H' y => ?_⟩
    obtain ⟨e, y⟩ := y
    subst e
    exact hs i x σ _ (y xs q) p
  · have e : i = xs.length := by omega
    subst e
    exact .inl ⟨⟨xs, q, Nat.le_refl _⟩, hd σ H p⟩
theorem for_range {lo : Int} {n : Nat} {g : TG} {tb : TS} {D : Ends} {σ : St} {H : Hp} (Pv : Nat → St → Hp → Prop) (h0 : Pv 0 σ H)
    (hs : ∀ i σ H, i < n → Pv i σ H → g (.int (lo + i)) σ H fun σ2 H2 => tb { D with nx := Pv (i + 1), ct := Pv (i + 1), bk := D.nx } σ2 H2) (hd : ∀ σ H, Pv n σ H → D.nx σ H) :
    ∃ W : Nat → Nat → St → Hp → Prop, (∃ m, W 0 m σ H) ∧ ∀ i m σ H, W i m σ H →
      ((Itr lo n).stop i H ∧ D.nx σ H) ∨ ((Itr lo n).go i H ∧ ∃ N : St → Hp → Prop, (∀ σ' H', N σ' H' → ∃ m', m' < m ∧ W (i + 1) m' σ' H') ∧ ∀ x H', (Itr lo n).yld i H x H' → g x σ H' fun σ2 H2 => tb { D with nx := N, ct := N, bk := D.nx } σ2 H2) := by
  refine ⟨fun i m σ H => m = n - i ∧ i ≤ n ∧ Pv i σ H, ⟨n, by simp, Nat.zero_le _, h0⟩, ?_⟩
  rintro i m σ H ⟨rfl, hi, p⟩
  by_cases hlt : i < n
  · refine .inr ⟨hlt, Pv (i + 1), fun σ' H' p' => ⟨n - (i + 1), by omega, rfl, hlt, p'⟩, fun x H' y => ?_⟩
    obtain ⟨e, y⟩ := y
    subst e y
    exact hs i σ _ hlt p
  · have e : i = n := by omega
    subst e
    exact .inl ⟨Nat.le_refl _, hd σ H p⟩
end L2
namespace L2
open PySem PySem.Spec PyProof.Rows
noncomputable abbrev R2 := V → V → Hp → VK → Prop
noncomputable def OpR (X : Cx) (f : Value → Value → Sem Value) (r : R2) : Prop :=
  ∀ (pins : List (Addr × Obj)) (s : Shared) (σ : St) (H : Hp) (x y : V) (v u : Value) (Q : VK), Inv X pins σ H s → RelV x v → RelV y u → r x y H Q →
    wpAny (model X.prog X.w) X.A (f v u) (EP X pins σ Q) X.xe s
noncomputable def UnR (X : Cx) (f : Value → Sem Value) (r : V → Hp → VK → Prop) : Prop :=
  ∀ (pins : List (Addr × Obj)) (s : Shared) (σ : St) (H : Hp) (x : V) (v : Value) (Q : VK), Inv X pins σ H s → RelV x v → r x H Q →
    wpAny (model X.prog X.w) X.A (f v) (EP X pins σ Q) X.xe s
noncomputable def CallR (X : Cx) (f : Value) (r : List V → Hp → VK → Prop) : Prop :=
  ∀ (pins : List (Addr × Obj)) (s : Shared) (σ : St) (H : Hp) (xs : List V) (us : List Value) (Q : VK), Inv X pins σ H s → Vals xs us → r xs H Q →
    wpAny (model X.prog X.w) X.A (call f us) (EP X pins σ Q) X.xe s
noncomputable def tOp (r : R2) (ta tb : TE) : TE := fun σ H Q => ta σ H fun x H1 => tb σ H1 fun y H2 => r x y H2 Q
noncomputable def tUn (r : V → Hp → VK → Prop) (ta : TE) : TE := fun σ H Q => ta σ H fun x H1 => r x H1 Q
noncomputable def rI (C : Int → Int → Prop) (g : Int → Int → V) : R2 := fun x y H Q => ∃ i j, x = .int i ∧ y = .int j ∧ C i j ∧ Q (g i j) H
noncomputable def rI0 (g : Int → Int → V) : R2 := fun x y H Q => ∃ i j, x = .int i ∧ y = .int j ∧ Q (g i j) H
noncomputable def rU (g : Int → V) : V → Hp → VK → Prop := fun x H Q => ∃ i, x = .int i ∧ Q (g i) H

section
variable {X : Cx} {a b c : Expr} {ta tb tc : TE} {pos : Pos}
theorem binT (ha : PE X a ta) (hb : PE X b tb) {pins : List (Addr × Obj)} {s : Shared} {σ : St} {H : Hp} {R : V → V → Hp → Prop} (I : Inv X pins σ H s)
    (h : ta σ H fun x H1 => tb σ H1 fun y H2 => R x y H2) {Q : Value → Shared → Prop} {f : Value → Value → Sem Value}
    (hf : ∀ v u s2 x y H2, Inv X pins σ H2 s2 → RelV x v → RelV y u → R x y H2 → wpAny (model X.prog X.w) X.A (f v u) Q X.xe s2) :
    wpAny (model X.prog X.w) X.A (eval a X.env) (fun v s₁ => wpAny (model X.prog X.w) X.A (eval b X.env) (fun u s₂ => wpAny (model X.prog X.w) X.A (f v u) Q X.xe s₂) X.xe s₁) X.xe s := by
  refine thn (ha pins s σ H _ I h) fun v s1 ⟨x, H1, I1, r1, q1⟩ => ?_
  refine thn (hb pins s1 σ H1 _ I1 q1) fun u s2 ⟨y, H2, I2, r2, q2⟩ => ?_
  exact hf v u s2 x y H2 I2 r1 r2 q2

theorem pe_op {op : Operator} {r : R2} (ho : OpR X (binaryOp op) r) (ha : PE X a ta) (hb : PE X b tb) : PE X (.BinOp a op b pos) (tOp r ta tb) := by
  intro pins s σ H Q I h
  exact wpAny_BinOp (binT ha hb I h fun v u s2 x y H2 I2 rx ry q => ho pins s2 σ H2 x y v u Q I2 rx ry q)
theorem ze_op {op : Operator} {r : R2} (ho : OpR X (binaryOp op) r) (ha : ZE X a ta) (hb : ZE X b tb) : ZE X (.BinOp a op b pos) (tOp r ta tb) := by with_unfolding_all exact pe_op ho ha hb
theorem pe_un {op : UnaryOp} {r : V → Hp → VK → Prop} (ho : UnR X (unaryOp op) r) (ha : PE X a ta) : PE X (.UnaryOp op a pos) (tUn r ta) := by
  intro pins s σ H Q I h
  exact UnaryOp_ (thn (ha pins s σ H _ I h) fun v s1 ⟨x, H1, I1, r1, q1⟩ => ho pins s1 σ H1 x v Q I1 r1 q1)
theorem ze_un {op : UnaryOp} {r : V → Hp → VK → Prop} (ho : UnR X (unaryOp op) r) (ha : ZE X a ta) : ZE X (.UnaryOp op a pos) (tUn r ta) := by with_unfolding_all exact pe_un ho ha
theorem opI {f : Value → Value → Sem Value} {C : Int → Int → Prop} {g : Int → Int → Int}
    (rule : ∀ (i j : Int) (t u : Tok) (s : Shared) (Q : Value → Shared → Prop) (E : Value → Shared → Prop), C i j → Q (.int (g i j) s.toks) { s with toks := s.toks + 1 } → wpAny (model X.prog X.w) X.A (f (.int i t) (.int j u)) Q E s) :
    OpR X f (rI C fun i j => .int (g i j)) := by
  intro pins s σ H x y v u Q I rx ry h
  obtain ⟨i, j, rfl, rfl, hc, q⟩ := h
  obtain ⟨t, rfl⟩ := rx
  obtain ⟨t', rfl⟩ := ry
  exact rule i j t t' s _ _ hc ⟨.int (g i j), H, I.tok _, ⟨_, rfl⟩, q⟩
theorem opI0 {f : Value → Value → Sem Value} {g : Int → Int → Int}
    (rule : ∀ (i j : Int) (t u : Tok) (s : Shared) (Q : Value → Shared → Prop) (E : Value → Shared → Prop), Q (.int (g i j) s.toks) { s with toks := s.toks + 1 } → wpAny (model X.prog X.w) X.A (f (.int i t) (.int j u)) Q E s) :
    OpR X f (rI0 fun i j => .int (g i j)) := by
  intro pins s σ H x y v u Q I rx ry h
  obtain ⟨i, j, rfl, rfl, q⟩ := h
  obtain ⟨t, rfl⟩ := rx
  obtain ⟨t', rfl⟩ := ry
  exact rule i j t t' s _ _ ⟨.int (g i j), H, I.tok _, ⟨_, rfl⟩, q⟩
theorem opB0 {f : Value → Value → Sem Value} {g : Int → Int → Bool}
    (rule : ∀ (i j : Int) (t u : Tok) (s : Shared) (Q : Value → Shared → Prop) (E : Value → Shared → Prop), Q (.bool (g i j)) s → wpAny (model X.prog X.w) X.A (f (.int i t) (.int j u)) Q E s) :
    OpR X f (rI0 fun i j => .bl (g i j)) := by
  intro pins s σ H x y v u Q I rx ry h
  obtain ⟨i, j, rfl, rfl, q⟩ := h
  obtain ⟨t, rfl⟩ := rx
  obtain ⟨t', rfl⟩ := ry
  exact rule i j t t' s _ _ ⟨.bl (g i j), H, I, rfl, q⟩

noncomputable def CDiv (i j : Int) : Prop := 0 < j ∧ j < 1073741824
noncomputable def CPow (i j : Int) : Prop := 0 ≤ j ∧ j ≤ 1000000 ∧ i.natAbs < 2 ^ 64
theorem op_add : OpR X (binaryOp .Add) (rI0 fun i j => .int (i + j)) := opI0 fun _ _ _ _ _ _ _ q => add_int q
theorem op_sub : OpR X (binaryOp .Sub) (rI0 fun i j => .int (i - j)) := opI0 fun _ _ _ _ _ _ _ q => sub_int q
theorem op_fdiv : OpR X (binaryOp .FloorDiv) (rI CDiv fun i j => .int (i / j)) := opI fun i j _ _ _ _ _ hc q => by
  have h1 : (0 : Int) < j := hc.1
  have h2 : j < 1073741824 := hc.2
  exact floordiv_int (by omega) (by rw [Int.fdiv_eq_ediv_of_nonneg i (by omega)]; exact q) (.inl (PyProof.noPylong_small (by omega)))
theorem op_mod : OpR X (binaryOp .Mod) (rI (fun _ j => 0 < j) fun i j => .int (i % j)) := opI fun i j _ _ _ _ _ hc q => by
  have h1 : (0 : Int) < j := hc
  exact mod_int' (by omega) (by rw [Int.fmod_eq_emod_of_nonneg i (by omega)]; exact q)
theorem op_pow : OpR X (binaryOp .Pow) (rI CPow fun i j => .int (i ^ j.toNat)) := opI fun _ _ _ _ _ _ _ hc q => pow_int_small hc.1 hc.2.1 hc.2.2 q
theorem unI {f : Value → Sem Value} {g : Int → Int}
    (rule : ∀ (i : Int) (t : Tok) (s : Shared) (Q : Value → Shared → Prop) (E : Value → Shared → Prop), Q (.int (g i) s.toks) { s with toks := s.toks + 1 } → wpAny (model X.prog X.w) X.A (f (.int i t)) Q E s) :
    UnR X f (rU fun i => .int (g i)) := by
  intro pins s σ H x v Q I rx h
  obtain ⟨i, rfl, q⟩ := h
  obtain ⟨t, rfl⟩ := rx
  exact rule i t s _ _ ⟨.int (g i), H, I.tok _, ⟨_, rfl⟩, q⟩
theorem un_neg : UnR X (unaryOp .USub) (rU fun i => .int (-i)) := unI fun _ _ _ _ _ q => neg_int q
end
noncomputable def scal : V → V → Bool
  | .non, .non => true | .non, .int _ => true | .int _, .non => true | .non, .bl _ => true | .bl _, .non => true | .non, .str _ => true | .str _, .non => true
  | .int _, .int _ => true | .bl _, .bl _ => true | .str _, .str _ => true | .byt _, .byt _ => true
  | .int _, .str _ => true | .str _, .int _ => true | .bl _, .str _ => true | .str _, .bl _ => true
  | _, _ => false
noncomputable def rEq : R2 := fun x y H Q => scal x y = true ∧ Q (.bl (decide (x = y))) H
noncomputable def rNe : R2 := fun x y H Q => scal x y = true ∧ Q (.bl (!decide (x = y))) H

theorem dec_int {i j : Int} : decide (V.int i = V.int j) = (i == j) := by
  rw [Bool.eq_iff_iff]
  simp
theorem dec_bl {i j : Bool} : decide (V.bl i = V.bl j) = (i == j) := by
  rw [Bool.eq_iff_iff]
  simp
theorem dec_str {i j : Str} : decide (V.str i = V.str j) = (i == j) := by
  rw [Bool.eq_iff_iff]
  simp
theorem dec_byt {i j : Array UInt8} : decide (V.byt i = V.byt j) = (i.toList == j.toList) := by
  rw [Bool.eq_iff_iff]
  cases i
  cases j
  simp

section
variable {X : Cx} {a b c : Expr} {ta tb tc : TE} {pos : Pos}
theorem fin_bl {pins : List (Addr × Obj)} {σ : St} {H : Hp} {s : Shared} {Q : VK} {k k' : Bool} (I : Inv X pins σ H s) (q : Q (.bl k) H) (e : k = k') : EP X pins σ Q (.bool k') s := by
  subst e
  exact ⟨.bl k, H, I, rfl, q⟩
theorem op_eq : OpR X (compareOp .Eq) rEq := by
  intro pins s σ H x y v u Q I rx ry h
  obtain ⟨hs, q⟩ := h
  cases x with
  | non =>
    cases rx
    cases y with
    | non => cases ry; exact PySem.EqNone.eq_none_none (fin_bl I q (by simp))
    | bl j => cases ry; exact PySem.EqNone.eq_none_bool (fin_bl I q (by simp))
    | int j => obtain ⟨t', rfl⟩ := ry; exact PySem.EqNone.eq_none_int (fin_bl I q (by simp))
    | str j => obtain ⟨t', rfl⟩ := ry; exact PySem.EqNone.eq_none_str (fin_bl I q (by simp))
    | _ => exact absurd (show false = true from hs) Bool.false_ne_true
  | bl i =>
    cases rx
    cases y with
    | non => cases ry; exact PySem.EqNone.eq_bool_none (fin_bl I q (by simp))
    | bl j => cases ry; exact eq_bool (fin_bl I q dec_bl)
    | str j => obtain ⟨t', rfl⟩ := ry; exact PySem.EqMixed.eq_bool_str (fin_bl I q (by simp))
    | _ => exact absurd (show false = true from hs) Bool.false_ne_true
  | int i =>
    obtain ⟨t, rfl⟩ := rx
    cases y with
    | non => cases ry; exact PySem.EqNone.eq_int_none (fin_bl I q (by simp))
    | int j => obtain ⟨t', rfl⟩ := ry; exact eq_int (fin_bl I q dec_int)
    | str j => obtain ⟨t', rfl⟩ := ry; exact PySem.EqMixed.eq_int_str (fin_bl I q (by simp))
    | _ => exact absurd (show false = true from hs) Bool.false_ne_true
  | str i =>
    obtain ⟨t, rfl⟩ := rx
    cases y with
    | non => cases ry; exact PySem.EqNone.eq_str_none (fin_bl I q (by simp))
    | bl j => cases ry; exact PySem.EqMixed.eq_str_bool (fin_bl I q (by simp))
    | int j => obtain ⟨t', rfl⟩ := ry; exact PySem.EqMixed.eq_str_int (fin_bl I q (by simp))
    | str j => obtain ⟨t', rfl⟩ := ry; exact eq_str (fin_bl I q dec_str)
    | _ => exact absurd (show false = true from hs) Bool.false_ne_true
  | byt i =>
    obtain ⟨t, rfl⟩ := rx
    cases y with
    | byt j => obtain ⟨t', rfl⟩ := ry; exact PySem.W.eq_bytes (fin_bl I q dec_byt)
    | _ => exact absurd (show false = true from hs) Bool.false_ne_true
  | _ => cases y <;> exact absurd (show false = true from hs) Bool.false_ne_true
theorem op_ne : OpR X (compareOp .NotEq) rNe := by
  intro pins s σ H x y v u Q I rx ry h
  obtain ⟨hs, q⟩ := h
  cases x with
  | non =>
    cases rx
    cases y with
    | non => cases ry; exact PySem.EqNone.ne_none_none (fin_bl I q (by simp))
    | bl j => cases ry; exact PySem.EqNone.ne_none_bool (fin_bl I q (by simp))
    | int j => obtain ⟨t', rfl⟩ := ry; exact PySem.EqNone.ne_none_int (fin_bl I q (by simp))
    | str j => obtain ⟨t', rfl⟩ := ry; exact PySem.EqNone.ne_none_str (fin_bl I q (by simp))
    | _ => exact absurd (show false = true from hs) Bool.false_ne_true
  | bl i =>
    cases rx
    cases y with
    | non => cases ry; exact PySem.EqNone.ne_bool_none (fin_bl I q (by simp))
    | bl j => cases ry; exact ne_bool (fin_bl I q (congrArg not dec_bl))
    | str j => obtain ⟨t', rfl⟩ := ry; exact PySem.EqMixed.ne_bool_str (fin_bl I q (by simp))
    | _ => exact absurd (show false = true from hs) Bool.false_ne_true
  | int i =>
    obtain ⟨t, rfl⟩ := rx
    cases y with
    | non => cases ry; exact PySem.EqNone.ne_int_none (fin_bl I q (by simp))
    | int j => obtain ⟨t', rfl⟩ := ry; exact ne_int (fin_bl I q (congrArg not dec_int))
    | str j => obtain ⟨t', rfl⟩ := ry; exact PySem.EqMixed.ne_int_str (fin_bl I q (by simp))
    | _ => exact absurd (show false = true from hs) Bool.false_ne_true
  | str i =>
    obtain ⟨t, rfl⟩ := rx
    cases y with
    | non => cases ry; exact PySem.EqNone.ne_str_none (fin_bl I q (by simp))
    | bl j => cases ry; exact PySem.EqMixed.ne_str_bool (fin_bl I q (by simp))
    | int j => obtain ⟨t', rfl⟩ := ry; exact PySem.EqMixed.ne_str_int (fin_bl I q (by simp))
    | str j => obtain ⟨t', rfl⟩ := ry; exact ne_str (fin_bl I q (congrArg not dec_str))
    | _ => exact absurd (show false = true from hs) Bool.false_ne_true
  | byt i =>
    obtain ⟨t, rfl⟩ := rx
    cases y with
    | byt j => obtain ⟨t', rfl⟩ := ry; exact PySem.W.ne_bytes (fin_bl I q (congrArg not dec_byt))
    | _ => exact absurd (show false = true from hs) Bool.false_ne_true
  | _ => cases y <;> exact absurd (show false = true from hs) Bool.false_ne_true

theorem op_lt : OpR X (compareOp .Lt) (rI0 fun i j => .bl (decide (i < j))) := opB0 fun _ _ _ _ _ _ _ q => lt_int q
theorem op_le : OpR X (compareOp .LtE) (rI0 fun i j => .bl (decide (i ≤ j))) := opB0 fun _ _ _ _ _ _ _ q => le_int q
theorem op_gt : OpR X (compareOp .Gt) (rI0 fun i j => .bl (decide (j < i))) := opB0 fun _ _ _ _ _ _ _ q => gt_int q
theorem op_ge : OpR X (compareOp .GtE) (rI0 fun i j => .bl (decide (j ≤ i))) := opB0 fun _ _ _ _ _ _ _ q => ge_int q
theorem nomark (b : Expr) {op : CmpOp} (h : op ≠ .In := by decide) (h2 : op ≠ .NotIn := by decide) : behindInMarks op b = false := by
  have e1 : (op == CmpOp.In) = false := by cases op <;> first | rfl | exact absurd rfl h
  have e2 : (op == CmpOp.NotIn) = false := by cases op <;> first | rfl | exact absurd rfl h2
  cases b <;> simp [behindInMarks, e1, e2]
theorem pe_cmpR {op : CmpOp} {r : R2} (ho : OpR X (compareOp op) r) (ha : PE X a ta) (hb : PE X b tb) (hm : behindInMarks op b = false) : PE X (.Compare a [op] [b] pos) (tOp r ta tb) := by
  intro pins s σ H Q I h
  exact wpAny_Compare1 (binT ha hb I h fun v u s2 x y H2 I2 rx ry q => ho pins s2 σ H2 x y v u Q I2 rx ry q) hm
theorem ze_cmpR {op : CmpOp} {r : R2} (ho : OpR X (compareOp op) r) (ha : ZE X a ta) (hb : ZE X b tb) (hm : behindInMarks op b = false) : ZE X (.Compare a [op] [b] pos) (tOp r ta tb) := by with_unfolding_all exact pe_cmpR ho ha hb hm
theorem line63 : (sizeLine : Nat) < 2 ^ 63 := by rw [sizeLine_eq]; decide
theorem op_add_str : OpR X (binaryOp .Add) (fun x y H Q => ∃ i j, x = .str i ∧ y = .str j ∧ i.length + j.length ≤ sizeLine ∧ Q (.str (i ++ j)) H) := by
  intro pins s σ H x y v u Q I rx ry h
  obtain ⟨i, j, rfl, rfl, hz, q⟩ := h
  obtain ⟨t, rfl⟩ := rx
  obtain ⟨t', rfl⟩ := ry
  exact add_str (fun t' tk => ⟨.str (i ++ j), H, I.tok _, ⟨_, rfl⟩, q⟩) hz
theorem vals1 {x : V} {us : List Value} (r : Vals [x] us) : ∃ u, us = [u] ∧ RelV x u := by
  cases r with
  | cons r1 r2 => cases r2; exact ⟨_, rfl, r1⟩
theorem vals2 {x y : V} {us : List Value} (r : Vals [x, y] us) : ∃ u w', us = [u, w'] ∧ RelV x u ∧ RelV y w' := by
  cases r with
  | cons r1 r2 =>
    cases r2 with
    | cons r3 r4 => cases r4; exact ⟨_, _, rfl, r1, r3⟩
theorem call_abs : CallR X (.builtin "abs") (fun xs H Q => ∃ i, xs = [.int i] ∧ Q (.int (if i < 0 then -i else i)) H) := by
  intro pins s σ H xs us Q I r h
  obtain ⟨i, rfl, q⟩ := h
  obtain ⟨u, rfl, t, rfl⟩ := vals1 r
  exact call_abs_int fun u tk => ⟨.int (if i < 0 then -i else i), H, I.tok _, ⟨_, rfl⟩, q⟩
theorem call_max2 (hc : X.calm = true) : CallR X (.builtin "max") (fun xs H Q => ∃ i j, xs = [.int i, .int j] ∧ Q (.int (if j > i then j else i)) H) := by
  intro pins s σ H xs us Q I r h
  obtain ⟨i, j, rfl, q⟩ := h
  obtain ⟨u, w', rfl, ⟨t, rfl⟩, ⟨t', rfl⟩⟩ := vals2 r
  refine max_two_ints (I.ok.hd hc) fun h' tk k => ⟨_, H, I.kept k, ?_, q⟩
  by_cases hj : j > i
  · rw [if_pos hj, if_pos hj]; exact ⟨_, rfl⟩
  · rw [if_neg hj, if_neg hj]; exact ⟨_, rfl⟩
theorem call_min2 (hc : X.calm = true) : CallR X (.builtin "min") (fun xs H Q => ∃ i j, xs = [.int i, .int j] ∧ Q (.int (if j < i then j else i)) H) := by
  intro pins s σ H xs us Q I r h
  obtain ⟨i, j, rfl, q⟩ := h
  obtain ⟨u, w', rfl, ⟨t, rfl⟩, ⟨t', rfl⟩⟩ := vals2 r
  refine min_two_ints (I.ok.hd hc) fun h' tk k => ⟨_, H, I.kept k, ?_, q⟩
  by_cases hj : j < i
  · rw [if_pos hj, if_pos hj]; exact ⟨_, rfl⟩
  · rw [if_neg hj, if_neg hj]; exact ⟨_, rfl⟩
end
end L2
namespace L2
open PySem PySem.Spec PyProof.Rows
section
variable {prog : Program} {w : World} {A : Around} {E : Value → Shared → Prop} {s : Shared} {K : PySem.W.Frag} {x dx C f : Addr} {mA : Str → Option Value} {name : Str} {v : Value}
end
section
variable {P : Program} {w : World} {H H' : Hp} {h h' : Heap} {a C dx : Addr} {fs fs' : List (Str × V)}
end
section
variable {X : Cx} {pins : List (Addr × Obj)} {σ : St} {H : Hp} {s : Shared} {a C dx : Addr} {fs : List (Str × V)} {f : Str} {v : V} {A : Around} {E : Value → Shared → Prop}
end
section
variable {X : Cx} {o e value : Expr} {f : Str} {pos pos' tpos : Pos} {ta tv : TE}
end
section
variable {X : Cx} {pins : List (Addr × Obj)} {σ : St} {H : Hp} {s : Shared} {A : Around} {E : Value → Shared → Prop} {Q : Value → Shared → Prop} {c : Value} {b : Bool}
end
end L2
namespace L2
open PySem PySem.Spec PyProof.Rows
structure Room (k : Nat) (A : Around) : Prop where
  hd : A.handled = none
  dp : A.depth + 3 * k + 5 < recursionLimit
  un : A.units + 16 * k + 200 < cLine
  gd : A.guards = some []
theorem Room.mono {j k : Nat} {A : Around} (r : Room k A) (h : j ≤ k) : Room j A := ⟨r.hd, by have := r.dp; omega, by have := r.un; omega, r.gd⟩
theorem Room.deeper {k : Nat} {A : Around} (r : Room (k + 1) A) (env : Env) : Room k (A.deeper env) :=
  ⟨r.hd, by have := r.dp; show A.depth + 1 + 3 * k + 5 < _; omega, by have := r.un; show A.units + 3 + 16 * k + 200 < _; omega, r.gd⟩
theorem Room.depth {k : Nat} {A : Around} (r : Room k A) : A.depth < recursionLimit := by have := r.dp; omega
theorem Room.units {k : Nat} {A : Around} (r : Room k A) : A.units + 64 < cLine := by have := r.un; omega
noncomputable def tNil : TA := fun _ H Q => Q [] H
noncomputable def tCons (ta : TE) (tr : TA) : TA := fun σ H Q => ta σ H fun x H1 => tr σ H1 fun xs H2 => Q (x :: xs) H2
section
variable {X : Cx} {e : Expr} {es : List Expr} {te : TE} {t : TA} {pos : Pos}
theorem pa_nil : PA X [] tNil := fun _ _ _ _ H Q I h => Calls.spliced_nil ⟨[], H, I, .nil, h⟩
theorem za_nil : ZA X [] tNil := by with_unfolding_all exact pa_nil 
theorem pa_cons (ha : PE X e te) (hr : PA X es t) (hs : starEach (e :: es) X.env = (false, eval e X.env) :: starEach es X.env := by rfl) : PA X (e :: es) (tCons te t) := by
  intro pos pins s σ H Q I h
  rw [hs]
  show wpAny _ _ (spliced ((false, eval e X.env) :: backTo pos (starEach es X.env))) _ _ s
  refine Calls.spliced_cons (thn (ha pins s σ H _ I h) fun u s1 ⟨x, H1, I1, r1, q1⟩ => ?_)
  exact thn (hr pos pins s1 σ H1 _ I1 q1) fun us s2 ⟨xs, H2, I2, r2, q2⟩ => ⟨x :: xs, H2, I2, .cons r1 r2, q2⟩
theorem za_cons (ha : ZE X e te) (hr : ZA X es t) (hs : starEach (e :: es) X.env = (false, eval e X.env) :: starEach es X.env := by rfl) : ZA X (e :: es) (tCons te t) := by with_unfolding_all exact pa_cons ha hr hs

noncomputable def tTup (t : TA) : TE := fun σ H Q => t σ H fun xs H1 => xs.length ≤ sizeLine ∧ ∀ p, H1 p = none → Q (.ref p) (upd H1 p (.tup xs))
noncomputable def tLst (t : TA) : TE := fun σ H Q => t σ H fun xs H1 => xs.length ≤ sizeLine ∧ ∀ p, H1 p = none → Q (.ref p) (upd H1 p (.lst xs))
theorem pe_tup {x1} (h : PA X es t) : PE X (.Tuple es x1 pos) (tTup t) := by
  intro pins s σ H Q I hq
  refine wpAny_Tuple_spliced (thn (h pos pins s σ H _ I hq) fun us s1 ⟨xs, H1, I1, r, z, q⟩ => ⟨by rw [← r.length]; exact z, ?_⟩)
  have hf : H1 s1.heap.objs.size = none := I1.hok.fresh (Nat.le_refl _)
  refine ⟨.ref s1.heap.objs.size, upd H1 s1.heap.objs.size (.tup xs), I1.laid (t' := s1.toks) (fun b u e => Heap.get?_push_of_some _ e) (Nat.le_refl _) ?_, rfl, q _ hf⟩
  exact ⟨z, us, r, ⟨_, Heap.get?_push_size _ rfl⟩⟩
theorem ze_tup {x1} (h : ZA X es t) : ZE X (.Tuple es x1 pos) (tTup t) := by with_unfolding_all exact pe_tup h
theorem pe_lst (h : PA X es t) : PE X (.List es pos) (tLst t) := by
  intro pins s σ H Q I hq
  refine wpAny_List_spliced (thn (h pos pins s σ H _ I hq) fun us s1 ⟨xs, H1, I1, r, z, q⟩ => ⟨by rw [← r.length]; exact z, ?_⟩)
  have hf : H1 s1.heap.objs.size = none := I1.hok.fresh (Nat.le_refl _)
  refine ⟨.ref s1.heap.objs.size, upd H1 s1.heap.objs.size (.lst xs), I1.laid (t' := s1.toks) (fun b u e => Heap.get?_push_of_some _ e) (Nat.le_refl _) ?_, rfl, q _ hf⟩
  exact ⟨z, us, 0, r, Heap.get?_push_size _ rfl⟩
theorem ze_lst (h : ZA X es t) : ZE X (.List es pos) (tLst t) := by with_unfolding_all exact pe_lst h
end
noncomputable abbrev Sp := List V → Hp → VK → XK → Prop
noncomputable abbrev CXT := List Env → Hp → Shared → XK → Value → Shared → Prop

structure Env0 (P : Program) (w : World) (K : PySem.W.Frag) (mg : Str → Option Value) (base : Heap) (A : Around) (outer : List Env) (s : Shared) (H : Hp) : Prop where
  frames : A.frames = some outer
  mod : Mod K mg base
  bs : ∀ b o, base.get? b = some o → s.heap.get? b = some o ∧ H b = none
  bsz : base.objs.size ≤ s.heap.objs.size
  funs : s.heap.FunFrames base outer
  frf : ∀ b ∈ frs outer, H b = none
  hok : HOk P w H s.heap
  bare : AllBare s.gens
noncomputable def CE (outer : List Env) (P : Program) (w : World) (H : Hp) (s : Shared) (Q : VK) (u : Value) (s' : Shared) : Prop :=
  ∃ v H', s'.os = s.os ∧ AllBare s'.gens ∧ Un (frs outer) [] H H' s.heap s'.heap ∧ HOk P w H' s'.heap ∧ RelV v u ∧ Q v H'
noncomputable def CR (CX : CXT) (outer : List Env) (P : Program) (w : World) (H : Hp) (s : Shared) (Q : VK) (E : XK) (r : Result) (s' : Shared) : Prop :=
  match r with
  | .ok (.ret u) => CE outer P w H s Q u s'
  | .ok _ => False
  | .error e => CX outer H s E e s'
structure FnOk (P : Program) (w : World) (K : PySem.W.Frag) (mg : Str → Option Value) (base : Heap) (CX : CXT) (k : Nat) (f : Addr) (fd : FuncData) (ps : List Str) (sp : Sp) : Prop where
  len : ∀ vs H Q E, sp vs H Q E → vs.length = ps.length
  run : ∀ (A : Around) (outer : List Env) (s : Shared) (H : Hp) (args : Args) (us : List Value) (vs : List V) (Q : VK) (E : XK), Room k A → Env0 P w K mg base A outer s H → BindsTo s fd args (ps.zip us) → Vals vs us → sp vs H Q E →
    codeAny (model P w) A (.call (.ref f) args) (CR CX outer P w H s Q E) s
theorem FnOk.mono {P : Program} {w : World} {K : PySem.W.Frag} {mg : Str → Option Value} {base : Heap} {CX : CXT} {j k : Nat} {f : Addr} {fd : FuncData} {ps : List Str} {sp : Sp} (F : FnOk P w K mg base CX j f fd ps sp) (h : j ≤ k) :
    FnOk P w K mg base CX k f fd ps sp := ⟨F.len, fun A outer s H args us vs Q E hr => F.run A outer s H args us vs Q E (hr.mono h)⟩
section
variable {X : Cx} {pins : List (Addr × Obj)} {σ : St} {H : Hp} {s s' : Shared}
theorem Inv.env0 (I : Inv X pins σ H s) : Env0 X.prog X.w X.K X.mg X.base X.A X.stack s H :=
  ⟨I.ok.frames, I.ok.mod, I.bs, Nat.le_trans I.ok.bsz I.sz, I.stack, I.stkFree, I.hok, I.bare⟩
theorem Inv.after {Q : VK} {u : Value} (I : Inv X pins σ H s) (h : CE X.stack X.prog X.w H s Q u s') : EP X pins σ Q u s' := by
  obtain ⟨v, H', os, bare, un, hok, r, q⟩ := h
  obtain ⟨hh, g, d, t, os'⟩ := s'
  obtain rfl : os' = s.os := os
  exact ⟨v, H', I.call (h' := hh) (g' := g) (d' := d) (t' := t) (ch := []) un hok bare (fun b z => absurd z (by simp)), r, q⟩
end
noncomputable def tCall (sp : Sp) (dvs : List V) (E : XK) (t : TA) : TE := fun σ H Q => t σ H fun vs H1 => sp (vs ++ dvs) H1 Q E
noncomputable def Binds (K : PySem.W.Frag) (fd : FuncData) (ps : List Str) (ds : List Value) : Prop :=
  ∀ (s : Shared) (us : List Value), K.In s.heap → (us ++ ds).length = ps.length → BindsTo s fd ⟨us, []⟩ (ps.zip (us ++ ds))
theorem Binds.all {K : PySem.W.Frag} {fd : FuncData} {ps : List Str} (h : ∀ us : List Value, us.length = ps.length → bindArgs fd ⟨us, []⟩ = pure (ps.zip us)) : Binds K fd ps [] := fun s us _ hl => by
  rw [List.append_nil] at hl ⊢
  exact .of_eq (h us hl)

noncomputable def Passes (CX : CXT) (X : Cx) (E : XK) : Prop := ∀ (pins : List (Addr × Obj)) (σ : St) (H : Hp) (s : Shared) (e : Value) (s' : Shared), Inv X pins σ H s → CX X.stack H s E e s' → X.xe e s'

section
variable {X : Cx} {CX : CXT} {k : Nat} {f C : Addr} {fd : FuncData} {ps : List Str} {sp : Sp} {dvs : List V} {ds : List Value} {E : XK} {x m : Str} {p pos apos : Pos} {e o : Expr} {es : List Expr} {ta : TE} {t : TA}
theorem run_fn {pins : List (Addr × Obj)} {σ : St} {H : Hp} {s : Shared} {Q : VK} {us : List Value} {vs : List V} (F : FnOk X.prog X.w X.K X.mg X.base CX k f fd ps sp) (hr : Room k X.A) (hb : Binds X.K fd ps ds) (hd : Vals dvs ds) (hx : Passes CX X E)
    (I : Inv X pins σ H s) (r : Vals vs us) (h : sp (vs ++ dvs) H Q E) : wpAny (model X.prog X.w) X.A (call (.ref f) us) (EP X pins σ Q) X.xe s := by
  have r2 : Vals (vs ++ dvs) (us ++ ds) := r.append hd
  have hl : (us ++ ds).length = ps.length := by rw [← r2.length]; exact F.len _ _ _ _ h
  refine wpAny_call (codeAny_mono (F.run X.A X.stack s H ⟨us, []⟩ (us ++ ds) (vs ++ dvs) Q E hr I.env0 (hb s us I.kIn hl) r2 h) fun r s' hq => ?_)
  cases r with
  | error e => exact hx pins σ H s e s' I hq
  | ok fl =>
    cases fl with
    | ret u => exact I.after hq
    | next => exact False.elim hq
    | brk => exact False.elim hq
    | cont => exact False.elim hq

theorem pe_call (F : FnOk X.prog X.w X.K X.mg X.base CX k f fd ps sp) (hr : Room k X.A) (hg : Gl X x) (hm : X.mg x = some (.ref f)) (hk : PySem.W.keepIn X.K (.ref f) = true) (hb : Binds X.K fd ps ds) (hd : Vals dvs ds) (hx : Passes CX X E)
    (ha : PA X (e :: es) t) (hdb : (x == ("__debug__" : Str)) = false := by decide) (he : starEach (e :: es) X.env = (false, eval e X.env) :: starEach es X.env := by rfl) (hpl : (backTo pos (starEach es X.env)).any (·.1) = false := by rfl) :
    PE X (.Call (.Name x p) (e :: es) [] pos) (tCall sp dvs E t) := by
  intro pins s σ H Q I h
  refine wpAny_Call_Name_kw (ld_glob I hg hm ?_ hdb)
  refine PySem.W.callWith_K (h₀ := X.base) I.ok.mod.kin hk (thn (ha pos pins s σ H _ I h) fun us s1 ⟨vs, H1, I1, r, q⟩ => ⟨I1.kIn, ?_⟩) he hpl
  exact run_fn F hr hb hd hx I1 r q
end
section
variable {X : Cx} {CX : CXT} {k : Nat} {f C : Addr} {fd : FuncData} {ps ks : List Str} {sp : Sp} {E : XK} {x m : Str} {p pos apos kpos : Pos} {e o : Expr} {es : List Expr} {kws : List Keyword} {te ta : TE} {t tk : TA} {nm : Option Str}
variable {g : List Value → List Value → List Value} {gV : List V → List V → List V}
end
structure FnScope (N P : List Str) (sc : Scope) : Prop where
  kind : sc.kind = .function
  co : sc.isCoroutine = false
  gen : sc.isGenerator = false
  nd : N.Nodup
  pre : N.take P.length = P
  par : ∀ x ∈ P, sc.names.lookup x = some .local ∨ sc.names.lookup x = some .cell
  nofree : ∀ y ∈ sc.names, y.2 ≠ .free

theorem bindL_out {kindOf : Str → Option NameKind} {x : Str} : ∀ {binds : List (Str × Value)} {m : Str → Option Value}, (∀ v, (x, v) ∉ binds) → bindL kindOf binds m x = m x
  | [], _, _ => rfl
  | (n, v) :: r, m, h => by
    unfold bindL
    rw [bindL_out fun w hw => h w (List.mem_cons_of_mem _ hw)]
    split
    · have : x ≠ n := by rintro rfl; exact h v List.mem_cons_self
      simp [this]
    · rfl
theorem bindC_out {kindOf : Str → Option NameKind} {x : Str} : ∀ {binds : List (Str × Value)} {m : Str → Option Value}, (∀ v, (x, v) ∉ binds) → bindC kindOf binds m x = m x
  | [], _, _ => rfl
  | (n, v) :: r, m, h => by
    unfold bindC
    rw [bindC_out fun w hw => h w (List.mem_cons_of_mem _ hw)]
    split
    · rfl
    · have : x ≠ n := by rintro rfl; exact h v List.mem_cons_self
      simp [this]
theorem bindL_get {kindOf : Str → Option NameKind} {x : Str} {v : Value} : ∀ {P : List Str} {vs : List Value} {i : Nat} {m : Str → Option Value}, P.Nodup → P[i]? = some x → vs[i]? = some v → kindOf x = some .local →
    bindL kindOf (P.zip vs) m x = some v
  | [], _, _, _, _, h, _, _ => by simp at h
  | _ :: _, [], _, _, _, _, h, _ => by simp at h
  | p :: P, w :: vs, 0, m, nd, h1, h2, hk => by
    simp at h1 h2; subst h1; subst h2
    show bindL kindOf ((p, w) :: P.zip vs) m p = _
    unfold bindL
    rw [bindL_out fun v hv => (List.nodup_cons.mp nd).1 (List.of_mem_zip hv).1, if_pos hk]
    simp
  | p :: P, w :: vs, i + 1, m, nd, h1, h2, hk => by
    show bindL kindOf ((p, w) :: P.zip vs) m x = _
    unfold bindL
    exact bindL_get (i := i) (List.nodup_cons.mp nd).2 (by simpa using h1) (by simpa using h2) hk
theorem bindC_get {kindOf : Str → Option NameKind} {x : Str} {v : Value} : ∀ {P : List Str} {vs : List Value} {i : Nat} {m : Str → Option Value}, P.Nodup → P[i]? = some x → vs[i]? = some v → kindOf x ≠ some .local →
    bindC kindOf (P.zip vs) m x = some v
  | [], _, _, _, _, h, _, _ => by simp at h
  | _ :: _, [], _, _, _, _, h, _ => by simp at h
  | p :: P, w :: vs, 0, m, nd, h1, h2, hk => by
    simp at h1 h2; subst h1; subst h2
    show bindC kindOf ((p, w) :: P.zip vs) m p = _
    unfold bindC
    rw [bindC_out fun v hv => (List.nodup_cons.mp nd).1 (List.of_mem_zip hv).1, if_neg hk]
    simp
  | p :: P, w :: vs, i + 1, m, nd, h1, h2, hk => by
    show bindC kindOf ((p, w) :: P.zip vs) m x = _
    unfold bindC
    exact bindC_get (i := i) (List.nodup_cons.mp nd).2 (by simpa using h1) (by simpa using h2) hk

noncomputable def start (N : List Str) (vs : List V) : St := vs.map some ++ List.replicate (N.length - vs.length) none

noncomputable def cxOf (CX : CXT) (P : Program) (w : World) (K : PySem.W.Frag) (mg : Str → Option Value) (base : Heap) (N : List Str) (qual : Str) (scope : Scope) (f : Addr) (cd : Value) (A : Around) (outer : List Env) (s : Shared) (H : Hp) (E : XK) : Cx where
  prog := P
  w := w
  K := K
  mg := mg
  base := base
  A := A.deeper (envOfC qual scope s.heap.objs.size f cd)
  N := N
  s₀ := s
  H₀ := H
  env := envOfC qual scope s.heap.objs.size f cd
  outer := outer
  stack := envOfC qual scope s.heap.objs.size f cd :: outer
  ex := []
  calm := true
  fn := fun _ => true
  pn := []
  xe := fun e s' => wpAny (model P w) (A.deeper (envOfC qual scope s.heap.objs.size f cd)) (leaving (envOfC qual scope s.heap.objs.size f cd) e) (fun _ s'' => CX outer H s E e s'') (fun e' s'' => CX outer H s E e' s'') s'

theorem cell_has {sc : Scope} {n : Nat} {x : Str} (h : sc.names.lookup x = some .cell) : ∃ c, (cellsFrom n sc.names []).lookup x = some c := by
  have q := PySem.W.cellsFrom_some sc.names n [] (.inl h)
  exact Option.isSome_iff_exists.mp q

theorem inv_start {CX : CXT} {P : Program} {w : World} {K : PySem.W.Frag} {mg : Str → Option Value} {base : Heap} {N ps : List Str} {qual : Str} {scope : Scope} {f : Addr} {cd : Value} {A : Around} {outer : List Env} {s s1 : Shared} {H : Hp} {E : XK} {us : List Value} {vs : List V}
    (S : FnScope N ps scope) (hd : A.handled = none) (e0 : Env0 P w K mg base A outer s H) (hl : vs.length = ps.length) (r : Vals vs us)
    (x : InCallC s s.heap.objs.size (bindL (envOfC qual scope s.heap.objs.size f cd).kindOf (ps.zip us) fun _ => none) (cellsFrom (s.heap.objs.size + 1) scope.names []) (bindC (envOfC qual scope s.heap.objs.size f cd).kindOf (ps.zip us) fun _ => none) s1) :
    Inv (cxOf CX P w K mg base N qual scope f cd A outer s H E) [] (start N vs) H s1 := by
  have hpl : ps.length ≤ N.length := by have := congrArg List.length S.pre; rw [List.length_take] at this; omega
  obtain ⟨h1, tk, rfl, hk⟩ := x.done
  have noA : ∀ b : Addr, b ∉ (cxOf CX P w K mg base N qual scope f cd A outer s H E).ex := fun b z => absurd (show b ∈ ([] : List Addr) from z) (by simp)
  refine ⟨⟨e0.mod, S.kind, rfl, rfl, Nat.le_refl _, fun y z c h1 h2 => ?_, fun y hy => ?_, fun y c _ h => ?_, fun _ => hd, Around.frames_deeper e0.frames, .inr ⟨rfl, rfl⟩, fun b z => absurd z (noA b), e0.bs, e0.bsz, fun b _ _ => noA b, fun b z => absurd z (noA b), e0.funs, e0.frf⟩,
    rfl, e0.bare, Un.kept hk, ⟨_, x.toInCall.ns, fun i y v h1 h2 h3 => ?_⟩, fun y c h => ⟨_, x.cell y c h⟩, e0.hok.fresh (Nat.le_refl _), fun y c h => ?_, fun p hp => absurd (show p ∈ ([] : List (Addr × Obj)) from hp) (by simp), e0.hok.kept hk, ?_⟩
  · exact name_of_addr x.apart (PySem.mem_of_lookup h1) (PySem.mem_of_lookup h2)
  · have hy : scope.names.lookup y = some .cell ∨ scope.names.lookup y = some .free := hy
    rcases hy with hy | hy
    · exact cell_has hy
    · exact absurd rfl (S.nofree _ (PySem.mem_of_lookup hy))
  · exact Nat.le_of_lt (x.above y c (PySem.mem_of_lookup h))
  · have hi : i < vs.length := by
      unfold start at h2
      by_cases hi : i < vs.length
      · exact hi
      · rw [List.getElem?_append_right (by simpa using hi)] at h2
        rw [List.getElem?_replicate] at h2
        split at h2 <;> cases h2
    have ha : vs[i]? = some v := by
      unfold start at h2
      rw [List.getElem?_append_left (by simpa using hi), List.getElem?_map] at h2
      cases e : vs[i]? with
      | none => rw [e] at h2; cases h2
      | some a => rw [e] at h2; cases h2; rfl
    obtain ⟨u, hu, rv⟩ := r.get ha
    have hp : ps[i]? = some y := by
      rw [← S.pre, List.getElem?_take_of_lt (by omega)]; exact h1
    have ndP : ps.Nodup := by rw [← S.pre]; exact S.nd.sublist (List.take_sublist _ _)
    refine ⟨u, rv, ?_⟩
    rcases S.par y (List.mem_of_getElem? hp) with k | k
    · exact .inl ⟨k, bindL_get ndP hp hu k⟩
    · obtain ⟨c, e⟩ := cell_has (n := s.heap.objs.size + 1) k
      refine .inr ⟨.inl k, c, e, ?_⟩
      have q := x.cell y c e
      rw [bindC_get ndP hp hu (by show scope.names.lookup y ≠ _; rw [k]; decide)] at q
      exact q
  · exact e0.hok.fresh (Nat.le_of_lt (x.above y c (PySem.mem_of_lookup h)))
  · unfold start
    show _ = N.length
    rw [List.length_append, List.length_map, List.length_replicate]
    omega

theorem fn_of {CX : CXT} {P : Program} {w : World} {K : PySem.W.Frag} {mg : Str → Option Value} {base : Heap} {k : Nat} {f : Addr} {name qual : Str} {params : Arguments} {body : List Stmt} {scope : Scope} {dV kV doc pm cdv ct oc : Value} {an od : Option Addr}
    {osl : Array (Option Value)} {N ps : List Str} {sp : Sp} (lk : K.lookup f = some ⟨oc, od, .func (PySem.W.fnOf name qual params body scope dV kV doc pm an cdv ct), osl⟩) (hcd : PySem.W.codeIn K cdv qual = true) (S : FnScope N ps scope)
    (len : ∀ vs H Q E, sp vs H Q E → vs.length = ps.length)
    (hbody : ∀ (A : Around) (outer : List Env) (s : Shared) (H : Hp) (vs : List V) (Q : VK) (E : XK), Room k (A.deeper (envOfC qual scope s.heap.objs.size f cdv)) → sp vs H Q E →
      ∃ t, PSs (cxOf CX P w K mg base N qual scope f cdv A outer s H E) body t ∧ t { nx := fun _ H' => Q .non H', rt := Q } (start N vs) H) :
    FnOk P w K mg base CX (k + 1) f (PySem.W.fnOf name qual params body scope dV kV doc pm an cdv ct) ps sp := by
  refine ⟨len, fun A outer s H args us vs Q E hr e0 hb r hsp => ?_⟩
  have hl := len _ _ _ _ hsp
  have KX : K.In s.heap := e0.mod.kin.keeps fun b o e => (e0.bs b o e).1
  have lim : s.heap.NoLimit := e0.mod.nolimit.keeps fun b o e => (e0.bs b o e).1
  have hkind : ∀ y ∈ ps.zip us, scope.names.lookup y.1 = some .local ∨ (scope.names.lookup y.1 = some .cell ∧ ((cellsFrom (s.heap.objs.size + 1) scope.names []).lookup y.1).isSome = true) := fun ⟨n, v⟩ hy => by
    rcases S.par n (List.of_mem_zip hy).1 with q | q
    · exact .inl q
    · exact .inr ⟨q, PySem.W.cellsFrom_some _ _ _ (.inl q)⟩
  refine codeAny_call_function hr.depth (KX _ _ lk) rfl S.co S.gen rfl (PySem.W.codeRec_of KX hcd) (hb _ _ _ _ ?_)
  refine wpAny_newFunctionEnv_cells S.kind hkind fun env he s1 x => ?_
  subst he
  refine ⟨lim.keeps x.toInCall.keep, codeAny_func ?_⟩
  obtain ⟨t, ht, hq⟩ := hbody A outer s H vs Q E (hr.deeper _) hsp
  have I : Inv (cxOf CX P w K mg base N qual scope f cdv A outer s H E) [] (start N vs) H s1 := inv_start S hr.hd e0 hl r x
  refine wpAny_mono (ht [] s1 (start N vs) H _ I hq) (fun fl s' hs => ?_) fun e s' hs => hs
  have fin : ∀ {σ' : St} {H' : Hp} {v : V} {u : Value}, Inv (cxOf CX P w K mg base N qual scope f cdv A outer s H E) [] σ' H' s' → RelV v u → Q v H' → CE outer P w H s Q u s' :=
    fun {σ' H' v u} J rv q => ⟨v, H', J.os, J.bare, J.base, J.hok, rv, q⟩
  cases fl with
  | ret u =>
    obtain ⟨v, σ', H', J, rv, q⟩ := hs
    exact fin J rv q
  | next =>
    obtain ⟨σ', H', J, q⟩ := hs
    exact fin (v := V.non) (u := Value.none) J rfl q
  | brk =>
    obtain ⟨_, _, _, q⟩ := hs
    exact False.elim q
  | cont =>
    obtain ⟨_, _, _, q⟩ := hs
    exact False.elim q
end L2
namespace L2
open PySem PySem.Spec PyProof.Rows
section
variable {X : Cx} {x : Str} {p pos : Pos} {e : Expr} {es : List Expr} {t : TA} {id T : String} {r : List V → Hp → VK → Prop}
noncomputable def tCB (r : List V → Hp → VK → Prop) (t : TA) : TE := fun σ H Q => t σ H fun vs H1 => r vs H1 Q
theorem pe_callB (hc : CallR X (.builtin id) r) (hg : Gl X x) (hm : X.mg x = none) (hv : bootBuiltins x = some (.builtin id)) (ha : PA X (e :: es) t) (hn : x ≠ "__name__" := by decide) (hdb : (x == ("__debug__" : Str)) = false := by decide)
    (he : starEach (e :: es) X.env = (false, eval e X.env) :: starEach es X.env := by rfl) (hpl : (backTo pos (starEach es X.env)).any (·.1) = false := by rfl) : PE X (.Call (.Name x p) (e :: es) [] pos) (tCB r t) := by
  intro pins s σ H Q I h
  refine wpAny_Call_Name_kw (ld_blt I hg hm hv ?_ hn hdb)
  exact PyProof.Rows.callWith_builtin1 (thn (ha pos pins s σ H _ I h) fun us s1 ⟨vs, H1, I1, r1, q1⟩ => hc pins s1 σ H1 vs us Q I1 r1 q1) he hpl
theorem pe_callTy (hc : CallR X (.type T) r) (hg : Gl X x) (hm : X.mg x = none) (hv : bootBuiltins x = some (.type T)) (ha : PA X (e :: es) t) (hn : x ≠ "__name__" := by decide) (hdb : (x == ("__debug__" : Str)) = false := by decide)
    (he : starEach (e :: es) X.env = (false, eval e X.env) :: starEach es X.env := by rfl) (hpl : (backTo pos (starEach es X.env)).any (·.1) = false := by rfl) : PE X (.Call (.Name x p) (e :: es) [] pos) (tCB r t) := by
  intro pins s σ H Q I h
  refine wpAny_Call_Name_kw (ld_blt I hg hm hv ?_ hn hdb)
  exact PyProof.Rows.callWith_type1 (thn (ha pos pins s σ H _ I h) fun us s1 ⟨vs, H1, I1, r1, q1⟩ => hc pins s1 σ H1 vs us Q I1 r1 q1) he hpl
end
end L2
namespace HT
open PySem PyProof.Rows
section
open PySem.SeqAt
open PySem.AutoSeq1 (wpAny_loadPart')
open PySem.MeetsSeq PySem.MeetsSeq2 PySem.MeetsSeq3
end
section
variable {prog : Program} {w : World} {A : Around} {E : Value → Shared → Prop} {s : Shared}
theorem cat_tup {t b : Addr} {vs ws : List Value} {Q : Value → Shared → Prop} (ht : IsTup s.heap t vs.toArray) (hb : IsTup s.heap b ws.toArray) (hv : vs ≠ [])
    (h1 : ws = [] → Q (.ref t) s) (h2 : ws ≠ [] → Q (.ref s.heap.objs.size) { s with heap := s.heap.push { cls := .type "tuple", data := .seq (vs ++ ws).toArray } })
    (hsz : vs.length + ws.length ≤ sizeLine) : wpAny (model prog w) A (binaryOp .Add (.ref t) (.ref b)) Q E s := by
  obtain ⟨⟨cls, dd, data, sl⟩, ho, hc, n, hd⟩ := id ht
  obtain ⟨⟨cls2, dd2, data2, sl2⟩, ho2, hc2, n2, hd2⟩ := id hb
  simp only at hc hd hc2 hd2
  subst hc hd hc2 hd2
  have e : vs.toArray ++ ws.toArray = (vs ++ ws).toArray := by simp
  by_cases hw : ws = []
  · exact concat_meets ⟨_, ho, rfl⟩ ⟨_, ho2, rfl⟩ noFill_tuple_add seq_tuple_add PySem.F.slot_tuple_add PySem.F.entry_tuple_add (PySem.F.args_tuple_add_2 _ _)
      (tuple_addW1 t b vs.toArray ws.toArray n n2 dd dd2 sl sl2 (by simpa using hv) (by simp [hw])) ⟨ho, ho2, h1 hw⟩
  · refine concat_meets ⟨_, ho, rfl⟩ ⟨_, ho2, rfl⟩ noFill_tuple_add seq_tuple_add PySem.F.slot_tuple_add PySem.F.entry_tuple_add (PySem.F.args_tuple_add_2 _ _)
      (tuple_addW2 t b vs.toArray ws.toArray n n2 dd dd2 sl sl2 (by simpa using hv) (by simpa using hw) (by rw [List.size_toArray, List.size_toArray]; exact hsz)) ⟨ho, ho2, ?_⟩
    rw [e]
    exact h2 hw

noncomputable def sIx (n d : Nat) : Option Int → Nat
  | none => d
  | some v => if v < 0 then (v + (n : Int)).toNat else min v.toNat n
theorem sIx_none (n d : Nat) : sIx n d none = d := rfl
theorem sIx_nat (n d k : Nat) : sIx n d (some (k : Int)) = min k n := by
  show (if (k : Int) < 0 then ((k : Int) + (n : Int)).toNat else min (k : Int).toNat n) = min k n
  rw [if_neg (by omega), Int.toNat_natCast]
theorem sIx_le (n d : Nat) (hd : d ≤ n) (o : Option Int) : sIx n d o ≤ n := by
  cases o with
  | none => exact hd
  | some v =>
    show (if v < 0 then (v + (n : Int)).toNat else min v.toNat n) ≤ n
    by_cases hv : v < 0
    · rw [if_pos hv]; omega
    · rw [if_neg hv]; exact Nat.min_le_right _ _
theorem clip_eq (v : Int) (n d : Nat) : (if v < 0 then max (v + (n : Int)) 0 else min v (n : Int)) = ((sIx n d (some v) : Nat) : Int) := by
  show (if v < 0 then max (v + (n : Int)) 0 else min v (n : Int)) = (((if v < 0 then (v + (n : Int)).toNat else min v.toNat n) : Nat) : Int)
  by_cases hv : v < 0
  · simp only [if_pos hv]; omega
  · simp only [if_neg hv]; omega
theorem adjust_gen (lo hi : Option Int) (n : Nat) : Builtin.Slice.sliceAdjust lo hi 1 (n : Int) = (((sIx n 0 lo : Nat) : Int), ((sIx n n hi : Nat) : Int)) := by
  have h1 : ¬ ((1 : Int) < 0) := by omega
  unfold Builtin.Slice.sliceAdjust
  simp only [h1, if_false]
  refine Prod.ext ?_ ?_
  · cases lo with
    | none => rfl
    | some v => exact clip_eq v n 0
  · cases hi with
    | none => rfl
    | some v => exact clip_eq v n n
theorem places_gen (i j : Nat) : Builtin.Slice.slicePlaces (i : Int) (j : Int) 1 = j - i := by
  unfold Builtin.Slice.slicePlaces
  have h1 : (1 : Int) > 0 := by omega
  simp only [h1, if_true, Int.ediv_one]
  split <;> omega
theorem slicePart_ {v : Value} {o : Option Int} {Q : Option Int → Shared → Prop} (p : IsPart v o) (h : Q o s) : wpAny (model prog w) A (Builtin.Slice.slicePartIndex v) Q E s := by
  cases p with
  | none => exact slicePart_none h
  | int i t => exact slicePart_int h
theorem sliceApplied_gen {sl : Addr} {vl vu : Value} {lo hi : Option Int} {n : Nat} {Q : Int × Int × Nat → Shared → Prop} (hs : s.heap.IsSliceOf sl vl vu .none) (pl : IsPart vl lo) (pu : IsPart vu hi)
    (h : Q (((sIx n 0 lo : Nat) : Int), 1, sIx n n hi - sIx n 0 lo) s) : wpAny (model prog w) A (Builtin.Slice.sliceApplied (.ref sl) (pure (n : Int))) Q E s := by
  obtain ⟨os, hos, hcs, hds⟩ := id hs
  unfold Builtin.Slice.sliceApplied Builtin.Slice.sliceFields
  refine wpAny_bind (wpAny_bind (wpAny_field hos hds (x := vl) rfl (wpAny_bind (wpAny_field hos hds (x := vu) rfl (wpAny_bind (wpAny_field hos hds (x := .none) rfl (wpAny_pure ?_)))))))
  refine wpAny_bind (slicePart_none ?_)
  show wpAny _ _ (if ((1 : Int) == 0) = true then _ else _) _ _ s
  rw [if_neg (by decide)]
  refine wpAny_bind (slicePart_ pl (wpAny_bind (slicePart_ pu (wpAny_bind (wpAny_pure ?_)))))
  show wpAny _ _ (match Builtin.Slice.sliceAdjust lo hi 1 (n : Int) with | (lo, hi) => pure (lo, (1 : Int), Builtin.Slice.slicePlaces lo hi 1)) _ _ s
  rw [adjust_gen lo hi n]
  show wpAny _ _ (pure (((sIx n 0 lo : Nat) : Int), (1 : Int), Builtin.Slice.slicePlaces ((sIx n 0 lo : Nat) : Int) ((sIx n n hi : Nat) : Int) 1)) _ _ s
  rw [places_gen]
  exact wpAny_pure h
theorem pick_gen (xs : Array Value) (i k : Nat) : ((List.range k).filterMap fun (m : Nat) => xs[((i : Int) + (m : Int) * 1).toNat]?).toArray = ((xs.toList.drop i).take k).toArray := by
  have e : (fun (m : Nat) => xs[((i : Int) + (m : Int) * 1).toNat]?) = fun m => xs[i + m]? := by
    funext m
    have : ((i : Int) + (m : Int) * 1).toNat = i + m := by omega
    rw [this]
  rw [e]
  have := pick_run xs i k
  rw [List.filterMap_map] at this
  have e2 : ((fun x => xs[x]?) ∘ fun x => i + x) = fun m => xs[i + m]? := rfl
  rw [e2] at this
  rw [this]

theorem getItem_tuple_cut {t sl : Addr} {items : Array Value} {vl vu : Value} {lo hi : Option Int} {Q : Value → Shared → Prop} (ht : IsTup s.heap t items) (hs : s.heap.IsSliceOf sl vl vu .none) (pl : IsPart vl lo) (pu : IsPart vu hi)
    (hw : ¬ (sIx items.size 0 lo = 0 ∧ sIx items.size items.size hi = items.size))
    (h : Q (.ref s.heap.objs.size) { s with heap := s.heap.push { cls := .type "tuple", data := .seq ((items.toList.drop (sIx items.size 0 lo)).take (sIx items.size items.size hi - sIx items.size 0 lo)).toArray } })
    (hsz : items.size ≤ sizeLine) : wpAny (model prog w) A (getItem (.ref t) (.ref sl)) Q E s := by
  have htake : sizeOk (.seq ((items.toList.drop (sIx items.size 0 lo)).take (sIx items.size items.size hi - sIx items.size 0 lo)).toArray) := by
    show ((items.toList.drop (sIx items.size 0 lo)).take (sIx items.size items.size hi - sIx items.size 0 lo)).toArray.size ≤ sizeLine
    rw [List.size_toArray, List.length_take, List.length_drop, Array.length_toList]
    omega
  have hj : sIx items.size items.size hi ≤ items.size := sIx_le _ _ (Nat.le_refl _) hi
  obtain ⟨os, hos, hcs, hds⟩ := id hs
  have hTs : s.TypeIs (.ref sl) "slice" := ⟨os, hos, hcs⟩
  unfold getItem
  try with_reducible refine wpAny_holding ?_
  first | refine wpAny_bind (wpAny_pure ?_) | skip
  refine wpAny_bind (wpAny_sequenceKey ht.typeIs (by decide) ?_)
  refine wpAny_bind (wpAny_callSpecial?_slot (name := Str.ofString "__getitem__") ht.typeIs PyProof.Rows.slot_tuple_getitem
    (wpAny_call_entry PyProof.Rows.slot_tuple_getitem ht.typeIs entry_tuple_getitem ?_ (args_tuple_getitem _ _)))
  show wpAny _ _ (Builtin.Tuple.tupleItemsOf (.ref t) >>= _) _ _ s
  refine wpAny_bind (tupleItemsOf_ ht ?_)
  refine wpAny_bind (wpAny_typeOf hTs ?_)
  rw [if_pos (by decide)]
  refine wpAny_bind (sliceApplied_gen hs pl pu ?_)
  have hno : ¬ ((((sIx items.size 0 lo : Nat) : Int) == 0 && (1 : Int) == 1 && (sIx items.size items.size hi - sIx items.size 0 lo) == items.size) = true) := by
    intro q
    rw [Bool.and_eq_true, Bool.and_eq_true] at q
    have q1 : ((sIx items.size 0 lo : Nat) : Int) = 0 := eq_of_beq q.1.1
    have q2 : sIx items.size items.size hi - sIx items.size 0 lo = items.size := eq_of_beq q.2
    exact hw ⟨by omega, by omega⟩
  show wpAny _ _ (if (((sIx items.size 0 lo : Nat) : Int) == 0 && (1 : Int) == 1 && (sIx items.size items.size hi - sIx items.size 0 lo) == items.size) = true then _ else _) _ _ s
  rw [if_neg hno, pick_gen]
  first
    | exact wpAny_bind (m := Builtin.Tuple.tupleExact _) (wpAny_newObj_type (wpAny_pure ⟨_, rfl, wpAny_pure h⟩) htake)
    | exact wpAny_bind (m := Builtin.Tuple.tupleExact _) (wpAny_newObj_type (wpAny_bind (wpAny_pure (wpAny_pure ⟨_, rfl, wpAny_pure h⟩))) htake)
    | exact wpAny_bind (wpAny_bind (m := Builtin.Tuple.tupleExact _) (wpAny_newObj_type (wpAny_pure (wpAny_pure ⟨_, rfl, wpAny_pure h⟩)) htake))
    | exact wpAny_bind (wpAny_bind (m := Builtin.Tuple.tupleExact _) (wpAny_newObj_type (wpAny_pure ⟨_, rfl, wpAny_pure h⟩) htake))
end
end HT
namespace L2
open PySem PySem.Spec PyProof.Rows
noncomputable abbrev TO := St → Hp → (Option Int → Hp → Prop) → Prop
noncomputable def PO (X : Cx) (e : Option Expr) (t : TO) : Prop :=
  ∀ (pins : List (Addr × Obj)) (s : Shared) (σ : St) (H : Hp) (Q : Option Int → Hp → Prop), Inv X pins σ H s → t σ H Q →
    wpAny (model X.prog X.w) X.A (evalPart e X.env) (fun u s' => ∃ o H', Inv X pins σ H' s' ∧ IsPart u o ∧ Q o H') X.xe s
@[irreducible] noncomputable def ZO (X : Cx) (e : Option Expr) (t : TO) : Prop := PO X e t
noncomputable def tNoPart : TO := fun _ H Q => Q none H
noncomputable def tPart (t : TE) : TO := fun σ H Q => t σ H fun x H1 => ∃ i, x = .int i ∧ Q (some i) H1

section
variable {X : Cx} {e : Expr} {te : TE} {lo hi : Option Expr} {tl th : TO} {pos p2 : Pos}
theorem po_none : PO X none tNoPart := by
  intro pins s σ H Q I h
  rw [evalPart_none]
  exact wpAny_pure ⟨none, H, I, .none, h⟩
theorem zo_none : ZO X none tNoPart := by with_unfolding_all exact po_none 
theorem po_some (h : PE X e te) : PO X (some e) (tPart te) := by
  intro pins s σ H Q I hw
  rw [evalPart_some]
  refine thn (h pins s σ H _ I hw) fun u s1 ⟨x, H1, I1, r1, q1⟩ => ?_
  obtain ⟨i, rfl, q⟩ := q1
  obtain ⟨t, rfl⟩ := r1
  exact ⟨some i, H1, I1, .int i t, q⟩
theorem zo_some (h : ZE X e te) : ZO X (some e) (tPart te) := by with_unfolding_all exact po_some h

noncomputable def SlR (X : Cx) (r : V → Option Int → Option Int → Hp → VK → Prop) : Prop :=
  ∀ (pins : List (Addr × Obj)) (s : Shared) (σ : St) (H : Hp) (x : V) (v vl vu : Value) (lo hi : Option Int) (sl : Addr) (Q : VK), Inv X pins σ H s → RelV x v → s.heap.IsSliceOf sl vl vu .none → IsPart vl lo → IsPart vu hi → r x lo hi H Q →
    ∃ T id, typeLookup (.type T) "__getitem__" = pure (some (.builtin id)) ∧ s.TypeIs v T ∧ wpAny (model X.prog X.w) X.A (getItem v (.ref sl)) (EP X pins σ Q) X.xe s
noncomputable def tSl (r : V → Option Int → Option Int → Hp → VK → Prop) (te : TE) (tl th : TO) : TE := fun σ H Q => te σ H fun x H1 => tl σ H1 fun l H2 => th σ H2 fun u H3 => r x l u H3 Q
theorem pe_slice {r : V → Option Int → Option Int → Hp → VK → Prop} (hr : SlR X r) (he : PE X e te) (hl : PO X lo tl) (hu : PO X hi th) : PE X (.Subscript e (.Slice lo hi none p2) pos) (tSl r te tl th) := by
  intro pins s σ H Q I h
  refine Subscript_ (thn (he pins s σ H _ I h) fun v s1 ⟨x, H1, I1, r1, q1⟩ => ?_)
  refine wpAny_Slice (thn (hl pins s1 σ H1 _ I1 q1) fun vl s2 ⟨l, H2, I2, pl, q2⟩ => thn (hu pins s2 σ H2 _ I2 q2) fun vu s3 ⟨u, H3, I3, pu, q3⟩ => ?_)
  rw [evalPart_none]
  refine wpAny_pure ?_
  have I4 : Inv X pins σ H3 { s3 with heap := s3.heap.push { cls := .type "slice", data := .fields #[vl, vu, .none] } } := I3.kept (t' := s3.toks) fun b ob q => Heap.get?_push_of_some _ q
  obtain ⟨T, id, hT, ht, hg⟩ := hr pins { s3 with heap := s3.heap.push { cls := .type "slice", data := .fields #[vl, vu, .none] } } σ H3 x v vl vu l u s3.heap.objs.size Q I4 r1 (Heap.IsSliceOf.new ..) pl pu q3
  show wpAny (model X.prog X.w) X.A (subscriptTail e (.Slice lo hi none p2) v (.ref s3.heap.objs.size)) (EP X pins σ Q) X.xe { s3 with heap := s3.heap.push { cls := .type "slice", data := .fields #[vl, vu, .none] } }
  exact tail_any (ops := [.ref s3.heap.objs.size, v]) ht hT hg (by with_unfolding_all rfl)
theorem ze_slice {r : V → Option Int → Option Int → Hp → VK → Prop} (hr : SlR X r) (he : ZE X e te) (hl : ZO X lo tl) (hu : ZO X hi th) : ZE X (.Subscript e (.Slice lo hi none p2) pos) (tSl r te tl th) := by with_unfolding_all exact pe_slice hr he hl hu

noncomputable def cutV (xs : List V) (lo hi : Option Int) : List V := (xs.drop (HT.sIx xs.length 0 lo)).take (HT.sIx xs.length xs.length hi - HT.sIx xs.length 0 lo)
theorem cutV_length (xs : List V) (lo hi : Option Int) : (cutV xs lo hi).length ≤ xs.length := by
  unfold cutV
  rw [List.length_take, List.length_drop]
  omega
noncomputable def rSlT (K : PySem.W.Frag) : V → Option Int → Option Int → Hp → VK → Prop := fun x lo hi H Q => ∃ a xs, x = .ref a ∧ SqT K H a xs ∧
  ¬ (HT.sIx xs.length 0 lo = 0 ∧ HT.sIx xs.length xs.length hi = xs.length) ∧ ∀ p, H p = none → Q (.ref p) (upd H p (.tup (cutV xs lo hi)))
theorem sl_tup : SlR X (rSlT X.K) := by
  intro pins s σ H x v vl vu lo hi sl Q I rx hs pl pu h
  obtain ⟨a, xs, rfl, hx, hw, q⟩ := h
  cases rx
  obtain ⟨its, r, ht, hz⟩ := I.tuple hx
  have hlen : its.toArray.size = xs.length := by rw [List.size_toArray]; exact r.length.symm
  refine ⟨"tuple", _, PyProof.Rows.slot_tuple_getitem.lookup, ht.typeIs, ?_⟩
  refine HT.getItem_tuple_cut ht hs pl pu (by rw [hlen]; exact hw) ?_ (by rw [hlen]; exact hz)
  rw [hlen]
  refine ⟨.ref s.heap.objs.size, _, I.laid (t' := s.toks) (o := .tup (cutV xs lo hi)) (fun b ob q => Heap.get?_push_of_some _ q) (Nat.le_refl _) ?_, rfl, q _ (I.hok.fresh (Nat.le_refl _))⟩
  exact ⟨Nat.le_trans (cutV_length xs lo hi) hz, _, (r.drop (HT.sIx xs.length 0 lo)).take (HT.sIx xs.length xs.length hi - HT.sIx xs.length 0 lo), TupD.new _ _⟩

noncomputable def rCatT (K : PySem.W.Frag) : R2 := fun x y H Q => ∃ a b xs ys, x = .ref a ∧ y = .ref b ∧ SqT K H a xs ∧ SqT K H b ys ∧ xs ≠ [] ∧ xs.length + ys.length ≤ sizeLine ∧
  (ys = [] → Q (.ref a) H) ∧ (ys ≠ [] → ∀ p, H p = none → Q (.ref p) (upd H p (.tup (xs ++ ys))))
theorem Vals.nil_iff {xs : List V} {us : List Value} (r : Vals xs us) : us = [] ↔ xs = [] := by
  cases r with
  | nil => simp
  | cons _ _ => simp
theorem op_catT : OpR X (binaryOp .Add) (rCatT X.K) := by
  intro pins s σ H x y v u Q I rx ry h
  obtain ⟨a, b, xs, ys, rfl, rfl, ha, hb, hx, hz, q1, q2⟩ := h
  cases rx
  cases ry
  obtain ⟨its, r1, p1, _⟩ := I.tuple ha
  obtain ⟨its2, r2, p2, _⟩ := I.tuple hb
  refine HT.cat_tup p1 p2 (fun z => hx (r1.nil_iff.mp z)) (fun z => ⟨.ref a, H, I, rfl, q1 (r2.nil_iff.mp z)⟩) (fun z => ?_) (by rw [← r1.length, ← r2.length]; exact hz)
  refine ⟨.ref s.heap.objs.size, _, I.laid (t' := s.toks) (o := .tup (xs ++ ys)) (fun b ob q => Heap.get?_push_of_some _ q) (Nat.le_refl _) ?_, rfl, q2 (fun w => z (r2.nil_iff.mpr w)) _ (I.hok.fresh (Nat.le_refl _))⟩
  exact ⟨by rw [List.length_append]; exact hz, _, r1.append r2, TupD.new _ _⟩
end
end L2
namespace L2
open PySem PySem.Spec PyProof.Rows
noncomputable def ixN (n : Nat) (i : Int) : Option Nat := if 0 ≤ i then (if i < n then some i.toNat else none) else if -(n : Int) ≤ i then some (i + n).toNat else none
noncomputable def atI {α : Type} (xs : List α) (i : Int) : Option α := (ixN xs.length i).bind fun j => xs[j]?
theorem ixN_seq {n : Nat} {i : Int} {j : Nat} (h : ixN n i = some j) : seqIndex? i n = some j ∧ j < n ∧ -(n : Int) ≤ i ∧ i < n := by
  unfold ixN at h
  by_cases h0 : 0 ≤ i
  · rw [if_pos h0] at h
    by_cases h1 : i < n
    · rw [if_pos h1] at h
      have e : i.toNat = j := Option.some.inj h
      exact ⟨by rw [seqIndex_of h0 h1, e], by omega, by omega, h1⟩
    · rw [if_neg h1] at h; cases h
  · rw [if_neg h0] at h
    by_cases h1 : -(n : Int) ≤ i
    · rw [if_pos h1] at h
      have e : (i + n).toNat = j := Option.some.inj h
      exact ⟨by rw [seqIndex_neg (by omega) h1, e], by omega, h1, by omega⟩
    · rw [if_neg h1] at h; cases h
theorem atI_get {α : Type} {xs : List α} {i : Int} {v : α} (h : atI xs i = some v) : ∃ j, seqIndex? i xs.length = some j ∧ xs[j]? = some v ∧ j < xs.length ∧ -(xs.length : Int) ≤ i ∧ i < xs.length := by
  unfold atI at h
  cases e : ixN xs.length i with
  | none => rw [e] at h; cases h
  | some j =>
    rw [e] at h
    obtain ⟨h1, h2, h3, h4⟩ := ixN_seq e
    exact ⟨j, h1, h, h2, h3, h4⟩
theorem atI_nat {α : Type} {xs : List α} {j : Nat} {v : α} (h : xs[j]? = some v) : atI xs (j : Int) = some v := by
  have hj : j < xs.length := (List.getElem?_eq_some_iff.mp h).1
  have e : ixN xs.length (j : Int) = some j := by
    unfold ixN
    rw [if_pos (by omega), if_pos (by omega)]; simp
  unfold atI; rw [e]; exact h
noncomputable def PlainIx (b : Expr) : Prop := ∀ o i, subscripted b false o i = operate [o, i] (getItem o i)
noncomputable def IxR (X : Cx) (r : R2) : Prop :=
  ∀ (value slice : Expr) (pins : List (Addr × Obj)) (s : Shared) (σ : St) (H : Hp) (x y : V) (v u : Value) (Q : VK), Inv X pins σ H s → RelV x v → RelV y u → r x y H Q →
    subscripted slice false v u = operate [v, u] (getItem v u) → wpAny (model X.prog X.w) X.A (subscriptTail value slice v u) (EP X pins σ Q) X.xe s
noncomputable def MtR (X : Cx) (id : String) (r : V → List V → Hp → VK → Prop) : Prop :=
  ∀ (pins : List (Addr × Obj)) (s : Shared) (σ : St) (H : Hp) (x : V) (xs : List V) (v : Value) (us : List Value) (Q : VK), Inv X pins σ H s → RelV x v → Vals xs us → r x xs H Q →
    wpAny (model X.prog X.w) X.A (call (.builtin id) (v :: us)) (EP X pins σ Q) X.xe s
section
variable {X : Cx} {a b : Expr} {ta tb : TE} {pos : Pos}
theorem pe_ix {r : R2} (hr : IxR X r) (ha : PE X a ta) (hb : PE X b tb) (hs : PlainIx b) : PE X (.Subscript a b pos) (tOp r ta tb) := by
  intro pins s σ H Q I h
  exact Subscript_ (binT ha hb I h fun v u s2 x y H2 I2 rx ry q => hr a b pins s2 σ H2 x y v u Q I2 rx ry q (hs _ _))
theorem ze_ix {r : R2} (hr : IxR X r) (ha : ZE X a ta) (hb : ZE X b tb) (hs : PlainIx b) : ZE X (.Subscript a b pos) (tOp r ta tb) := by with_unfolding_all exact pe_ix hr ha hb hs

noncomputable def rIxL (K : PySem.W.Frag) : R2 := fun x y H Q => ∃ p xs i v, x = .ref p ∧ y = .int i ∧ SqL K H p xs ∧ atI xs i = some v ∧ Q v H
noncomputable def rIxT (K : PySem.W.Frag) : R2 := fun x y H Q => ∃ p xs i v, x = .ref p ∧ y = .int i ∧ SqT K H p xs ∧ atI xs i = some v ∧ Q v H
theorem ix_list : IxR X (rIxL X.K) := by
  intro value slice pins s σ H x y v u Q I rx ry h hs
  obtain ⟨p, xs, i, z, rfl, rfl, hq, he, q⟩ := h
  cases rx
  obtain ⟨t, rfl⟩ := ry
  obtain ⟨its, r, pl, hz⟩ := I.list hq
  obtain ⟨j, h1, h2, h3, h4, h5⟩ := atI_get he
  obtain ⟨w, ew, rw'⟩ := r.get h2
  have hl := r.length
  have hn := line63
  have fin : EP X pins σ Q w s := ⟨z, H, I, rw', q⟩
  by_cases h0 : 0 ≤ i
  · have hj : i.toNat = j := by
      rw [seqIndex_of h0 h5] at h1
      exact Option.some.inj h1
    exact item_listR pl.isList h0 (by omega) (by rw [hj]; simpa using ew) fin hs
  · have hj : (i + (its.toArray.size : Int)).toNat = j := by
      rw [seqIndex_neg (by omega) h4] at h1
      rw [List.size_toArray, ← hl]
      exact Option.some.inj h1
    exact subscriptTail_builtinR (x := w) pl.isList.typeIs slot_list_getitem.lookup
      (wpAny_getItem_list_neg (Q := fun r s' => r = w ∧ EP X pins σ Q r s') pl.isList (by omega) (by rw [List.size_toArray] <;> omega) (by omega) (by rw [hj]; simpa using ew) ⟨rfl, fin⟩) hs
theorem ix_tup : IxR X (rIxT X.K) := by
  intro value slice pins s σ H x y v u Q I rx ry h hs
  obtain ⟨p, xs, i, z, rfl, rfl, hq, he, q⟩ := h
  cases rx
  obtain ⟨t, rfl⟩ := ry
  obtain ⟨its, r, pl, hz⟩ := I.tuple hq
  obtain ⟨j, h1, h2, h3, h4, h5⟩ := atI_get he
  obtain ⟨w, ew, rw'⟩ := r.get h2
  have hl := r.length
  have hn := line63
  have fin : EP X pins σ Q w s := ⟨z, H, I, rw', q⟩
  exact subscriptTail_builtinR (x := w) pl.typeIs slot_tuple_getitem.lookup
    (getItem_tuple (j := j) (Q := fun r s' => r = w ∧ EP X pins σ Q r s') pl (by omega) (by omega) (by rw [List.size_toArray, ← hl]; exact h1) (by simpa using ew) ⟨rfl, fin⟩) hs
theorem mapSeq_set (its : List Value) (n j : Nat) (u : Value) : Obj.mapSeq (·.setIfInBounds j u) { cls := .type "list", data := .seq its.toArray n } = { cls := .type "list", data := .seq (its.set j u).toArray n } := by
  simp [Obj.mapSeq]
theorem Inv.lst {pins : List (Addr × Obj)} {σ : St} {H : Hp} {s : Shared} {p : Addr} {xs : List V} (I : Inv X pins σ H s) (h : H p = some (.lst xs)) :
    ∃ (its : List Value) (n : Nat), Vals xs its ∧ s.heap.get? p = some { cls := .type "list", data := .seq its.toArray n } ∧ xs.length ≤ sizeLine := by
  obtain ⟨z, its, n, r, e⟩ := I.hok p _ h
  exact ⟨its, n, r, e, z⟩
theorem Inv.lstUpd {pins : List (Addr × Obj)} {σ : St} {H : Hp} {s : Shared} {p : Addr} {xs ys : List V} {its its' : List Value} {n n' : Nat} {f : Obj → Obj} (I : Inv X pins σ H s) (h : H p = some (.lst xs))
    (ho : s.heap.get? p = some { cls := .type "list", data := .seq its.toArray n }) (hf : f { cls := .type "list", data := .seq its.toArray n } = { cls := .type "list", data := .seq its'.toArray n' }) (r : Vals ys its') (hz : ys.length ≤ sizeLine) (t : Nat) :
    Inv X pins σ (upd H p (.lst ys)) { s with heap := s.heap.update p f, toks := t } := by
  have e : (s.heap.update p f).get? p = some { cls := .type "list", data := .seq its'.toArray n' } := by
    rw [Heap.get?_update_self f ho (by rw [hf] <;> rfl), hf]
  refine I.write (x := p) (e := p) (by rw [h]; trivial) (.inl rfl) (fun b u hb q => (Heap.get?_update_other _ _ (Ne.symm hb)).trans q) ⟨_, e⟩ ?_
  exact ⟨hz, its', n', r, e⟩
noncomputable def rSetL : V → V → V → Hp → (Hp → Prop) → Prop := fun o i v H Q => ∃ p xs k j, o = .ref p ∧ i = .int k ∧ H p = some (.lst xs) ∧ ixN xs.length k = some j ∧ Q (upd H p (.lst (xs.set j v)))
theorem set_list : PSet X rSetL := by
  intro pins s σ H o i v ov iv u Q I ro ri rv h
  obtain ⟨p, xs, k, j, rfl, rfl, hp, hj, q⟩ := h
  cases ro
  obtain ⟨t, rfl⟩ := ri
  obtain ⟨its, n, r, ho, hz⟩ := I.lst hp
  obtain ⟨h1, h2, h3, h4⟩ := ixN_seq hj
  have hl := r.length
  have hn := line63
  have I' : Inv X pins σ (upd H p (.lst (xs.set j v))) { s with heap := s.heap.update p (Obj.mapSeq (·.setIfInBounds j u)) } :=
    I.lstUpd hp ho (mapSeq_set its n j u) (r.set rv j) (by rw [List.length_set]; exact hz) s.toks
  by_cases h0 : 0 ≤ k
  · have hk : k.toNat = j := by
      rw [seqIndex_of h0 h4] at h1
      exact Option.some.inj h1
    exact PySem.W.ki_setAt ho h0 (by omega) (by rw [List.size_toArray, ← hl]; exact h4) (by rw [hk]; exact ⟨_, I', q⟩)
  · have hk : (k + (its.toArray.size : Int)).toNat = j := by
      rw [seqIndex_neg (by omega) h3] at h1
      rw [List.size_toArray, ← hl]
      exact Option.some.inj h1
    exact PySem.W.ki_setBack ho (by omega) (by rw [List.size_toArray, ← hl]; exact h3) (by omega) (by rw [hk]; exact ⟨_, I', q⟩)

theorem slice_bounds (lo hi : Option Int) (n : Nat) : (sliceBounds lo hi none n).1 = ((HT.sIx n 0 lo : Nat) : Int) ∧ (sliceBounds lo hi none n).2.1 = ((HT.sIx n n hi : Nat) : Int) ∧ (sliceBounds lo hi none n).2.2 = 1 := by
  refine ⟨?_, ?_, rfl⟩
  · cases lo with
    | none => simp [sliceBounds, HT.sIx]
    | some i =>
      simp only [sliceBounds, HT.sIx, Option.getD_none, show (1 : Int) > 0 by decide, if_true]
      by_cases h : i < 0
      · simp only [h, if_true] <;> omega
      · simp only [h, if_false] <;> omega
  · cases hi with
    | none => simp [sliceBounds, HT.sIx]
    | some i =>
      simp only [sliceBounds, HT.sIx, Option.getD_none, show (1 : Int) > 0 by decide, if_true]
      by_cases h : i < 0
      · simp only [h, if_true] <;> omega
      · simp only [h, if_false] <;> omega
theorem slicePick_cut (its : List Value) (lo hi : Option Int) : slicePick its.toArray lo hi none = ((its.drop (HT.sIx its.length 0 lo)).take (HT.sIx its.length its.length hi - HT.sIx its.length 0 lo)).toArray := by
  obtain ⟨h1, h2, h3⟩ := slice_bounds lo hi its.toArray.size
  unfold slicePick
  rw [h1, h2, h3]
  simp only [sliceRange_one, pick_run, List.size_toArray] <;> rfl
noncomputable def rSlL (K : PySem.W.Frag) : V → Option Int → Option Int → Hp → VK → Prop := fun x lo hi H Q => ∃ a xs, x = .ref a ∧ SqL K H a xs ∧ ∀ p, H p = none → Q (.ref p) (upd H p (.lst (cutV xs lo hi)))
theorem sl_list : SlR X (rSlL X.K) := by
  intro pins s σ H x v vl vu lo hi sl Q I rx hs pl pu h
  obtain ⟨a, xs, rfl, hx, q⟩ := h
  cases rx
  obtain ⟨its, r, ht, hz⟩ := I.list hx
  have hlen := r.length
  refine ⟨"list", _, slot_list_getitem.lookup, ht.isList.typeIs, ?_⟩
  refine wpAny_getItem_list_slice ht.isList hs pl pu .none (by simp) ?_ (by rw [List.size_toArray] <;> omega)
  rw [slicePick_cut, ← hlen]
  refine ⟨.ref s.heap.objs.size, _, I.laid (t' := s.toks) (o := .lst (cutV xs lo hi)) (fun b ob q => Heap.get?_push_of_some _ q) (Nat.le_refl _) ?_, rfl, q _ (I.hok.fresh (Nat.le_refl _))⟩
  exact ⟨Nat.le_trans (cutV_length xs lo hi) hz, _, 0, (r.drop (HT.sIx xs.length 0 lo)).take (HT.sIx xs.length xs.length hi - HT.sIx xs.length 0 lo), Heap.get?_push_size _ rfl⟩

noncomputable def flatV : V → Bool
  | .non => true
  | .bl _ => true
  | .int _ => true
  | .str _ => true
  | _ => false
noncomputable def eqV : V → V → Bool
  | .non, .non => true
  | .bl a, .bl b => a == b
  | .bl a, .int b => (if a then 1 else 0) == b
  | .int a, .bl b => a == (if b then 1 else 0)
  | .int a, .int b => a == b
  | .str a, .str b => a == b
  | _, _ => false
theorem eqAt_V {A : Around} {s : Shared} {y x : V} {u v : Value} (ry : RelV y u) (rx : RelV x v) (fy : flatV y = true) (fx : flatV x = true) : SeqAt.EqAt A s u v (eqV y x) := by
  cases y with
  | non =>
    cases ry
    cases x with
    | non => cases rx; exact SeqAt.EqAt.same _
    | bl b => cases rx; exact SeqAt.EqAt.none_bool b
    | int b => obtain ⟨t, rfl⟩ := rx; exact SeqAt.EqAt.none_int b t
    | str b => obtain ⟨t, rfl⟩ := rx; exact SeqAt.EqAt.none_str b t
    | _ => exact absurd (show false = true from fx) Bool.false_ne_true
  | bl a =>
    cases ry
    cases x with
    | non => cases rx; exact SeqAt.EqAt.bool_none a
    | bl b => cases rx; exact SeqAt.EqAt.bool_bool a b
    | int b => obtain ⟨t, rfl⟩ := rx; exact SeqAt.EqAt.bool_int a b t
    | str b => obtain ⟨t, rfl⟩ := rx; exact SeqAt.EqAt.bool_str a b t
    | _ => exact absurd (show false = true from fx) Bool.false_ne_true
  | int a =>
    obtain ⟨t', rfl⟩ := ry
    cases x with
    | non => cases rx; exact SeqAt.EqAt.int_none a t'
    | bl b => cases rx; exact SeqAt.EqAt.int_bool a t' b
    | int b => obtain ⟨t, rfl⟩ := rx; exact SeqAt.EqAt.int_int a t' b t
    | str b => obtain ⟨t, rfl⟩ := rx; exact SeqAt.EqAt.int_str a t' b t
    | _ => exact absurd (show false = true from fx) Bool.false_ne_true
  | str a =>
    obtain ⟨t', rfl⟩ := ry
    cases x with
    | non => cases rx; exact SeqAt.EqAt.str_none a t'
    | bl b => cases rx; exact SeqAt.EqAt.str_bool a t' b
    | int b => obtain ⟨t, rfl⟩ := rx; exact SeqAt.EqAt.str_int a t' b t
    | str b => obtain ⟨t, rfl⟩ := rx; exact SeqAt.EqAt.str_str a t' b t
    | _ => exact absurd (show false = true from fx) Bool.false_ne_true
  | _ => exact absurd (show false = true from fy) Bool.false_ne_true
noncomputable def eqU (x : V) (u : Value) : Bool := match u with
  | .none => eqV .non x
  | .bool b => eqV (.bl b) x
  | .int i _ => eqV (.int i) x
  | .str z _ => eqV (.str z) x
  | _ => false
theorem eqU_of {x y : V} {u : Value} (r : RelV y u) (f : flatV y = true) : eqU x u = eqV y x := by
  cases y with
  | non => cases r; rfl
  | bl b => cases r; rfl
  | int i => obtain ⟨t, rfl⟩ := r; rfl
  | str z => obtain ⟨t, rfl⟩ := r; rfl
  | _ => exact absurd (show false = true from f) Bool.false_ne_true
theorem any_eqU {x : V} : ∀ {xs : List V} {us : List Value}, Vals xs us → xs.all flatV = true → us.any (eqU x) = xs.any fun y => eqV y x
  | _, _, .nil, _ => rfl
  | y :: xs, u :: us, .cons r t, f => by
    rw [List.all_cons, Bool.and_eq_true] at f
    rw [List.any_cons, List.any_cons, eqU_of r f.1, any_eqU t f.2]
theorem mem_eqAt {A : Around} {s : Shared} {x : V} {v : Value} (rx : RelV x v) (fx : flatV x = true) : ∀ {xs : List V} {us : List Value}, Vals xs us → xs.all flatV = true → ∀ u ∈ us, SeqAt.EqAt A s u v (eqU x u)
  | _, _, .nil, _ => fun u hu => by cases hu
  | y :: xs, u :: us, .cons r t, f => fun u' hu => by
    rw [List.all_cons, Bool.and_eq_true] at f
    rcases List.mem_cons.mp hu with rfl | hu
    · rw [eqU_of r f.1]; exact eqAt_V r rx f.1 fx
    · exact mem_eqAt rx fx t f.2 u' hu
noncomputable def inV (x : V) (xs : List V) : Bool := xs.any fun y => eqV y x
noncomputable def rIn (K : PySem.W.Frag) (neg : Bool) : R2 := fun x y H Q => ∃ p xs, y = .ref p ∧ (SqL K H p xs ∨ SqT K H p xs) ∧ flatV x = true ∧ xs.all flatV = true ∧ Q (.bl (if neg then !inV x xs else inV x xs)) H
theorem op_in_seq : OpR X (compareOp .In) (rIn X.K false) := by
  intro pins s σ H x y v u Q I rx ry h
  obtain ⟨p, xs, rfl, hq, fx, fs, q⟩ := h
  cases ry
  rcases hq with hq | hq
  · obtain ⟨its, r, pl, hz⟩ := I.list hq
    refine SeqAt.in_listAt (eqU x) pl.isList (fun w hw => mem_eqAt rx fx r fs w (by simpa using hw)) ⟨.bl _, H, I, rfl, ?_⟩
    rw [show its.toArray.any (eqU x) = its.any (eqU x) by simp, any_eqU r fs]
    exact q
  · obtain ⟨its, r, pl, hz⟩ := I.tuple hq
    refine SeqAt.in_tupleAt (eqU x) pl (fun w hw => mem_eqAt rx fx r fs w (by simpa using hw)) ⟨.bl _, H, I, rfl, ?_⟩
    rw [show its.toArray.any (eqU x) = its.any (eqU x) by simp, any_eqU r fs]
    exact q
theorem call_len_seq : CallR X (.builtin "len") (fun xs H Q => ∃ p ys, xs = [.ref p] ∧ (SqL X.K H p ys ∨ SqT X.K H p ys) ∧ Q (.int ys.length) H) := by
  intro pins s σ H xs us Q I r h
  obtain ⟨p, ys, rfl, hq, q⟩ := h
  obtain ⟨u, rfl, rx⟩ := vals1 r
  cases rx
  have hn := line63
  rcases hq with hq | hq
  · obtain ⟨its, r', pl, hz⟩ := I.list hq
    have hlen := r'.length
    exact Calls.call_len_list pl.isList (by simp only [List.size_toArray] <;> omega) ⟨.int ys.length, H, I.tok _, ⟨s.toks + 1, by rw [List.size_toArray, hlen]⟩, q⟩
  · obtain ⟨its, r', pl, hz⟩ := I.tuple hq
    have hlen := r'.length
    exact len_tuple pl (by simp only [List.size_toArray] <;> omega) ⟨.int ys.length, H, I.tok _, ⟨s.toks + 1, by rw [List.size_toArray, hlen]⟩, q⟩
theorem call_list_of : CallR X (.type "list") (fun xs H Q => ∃ p ys, xs = [.ref p] ∧ (SqL X.K H p ys ∨ SqT X.K H p ys) ∧ ∀ l, H l = none → Q (.ref l) (upd H l (.lst ys))) := by
  intro pins s σ H xs us Q I r h
  obtain ⟨p, ys, rfl, hq, q⟩ := h
  obtain ⟨u, rfl, rx⟩ := vals1 r
  cases rx
  have fin : ∀ (its : List Value), Vals ys its → ys.length ≤ sizeLine → ∀ (h' : Heap) (c' : Nat), (∀ b o', s.heap.get? b = some o' → h'.get? b = some o') →
      h'.get? s.heap.objs.size = some { cls := .type "list", dict := none, data := .seq its.toArray c', slots := #[] } → EP X pins σ Q (.ref s.heap.objs.size) { s with heap := h' } := fun its r' hz h' c' kp e =>
    ⟨.ref s.heap.objs.size, _, I.laid (t' := s.toks) kp (Nat.le_refl _) (show ObjOk X.prog X.w _ h' _ (.lst ys) from ⟨hz, its, c', r', e⟩), rfl, q _ (I.hok.fresh (Nat.le_refl _))⟩
  rcases hq with hq | hq
  · obtain ⟨its, r', pl, hz⟩ := I.list hq
    have hlen := r'.length
    obtain ⟨o, ho, hc, n, hd⟩ := pl.isList
    exact call_list_seq p (.inl rfl) ho hc hd (fun h' c' kp e => fin its r' hz h' c' kp e) (by simp only [List.size_toArray] <;> omega)
  · obtain ⟨its, r', pl, hz⟩ := I.tuple hq
    have hlen := r'.length
    obtain ⟨o, ho, hc, n, hd⟩ := pl
    exact call_list_seq p (.inr rfl) ho hc hd (fun h' c' kp e => fin its r' hz h' c' kp e) (by simp only [List.size_toArray] <;> omega)
theorem call_tuple_of : CallR X (.type "tuple") (fun xs H Q => ∃ p ys, xs = [.ref p] ∧ ((SqL X.K H p ys ∧ ∀ l, H l = none → Q (.ref l) (upd H l (.tup ys))) ∨ (SqT X.K H p ys ∧ Q (.ref p) H))) := by
  intro pins s σ H xs us Q I r h
  obtain ⟨p, ys, rfl, h⟩ := h
  obtain ⟨u, rfl, rx⟩ := vals1 r
  cases rx
  rcases h with ⟨hq, q⟩ | ⟨hq, q⟩
  · obtain ⟨its, r', pl, hz⟩ := I.list hq
    have hlen := r'.length
    refine call_tuple_list pl.isList (fun h' kp => ?_) (by simp only [List.size_toArray] <;> omega)
    have I1 : Inv X pins σ H { s with heap := h' } := I.kept (t' := s.toks) kp
    have I2 : Inv X pins σ (upd H h'.objs.size (.tup ys)) { s with heap := h'.push { cls := .type "tuple", data := .seq its.toArray } } :=
      I1.laid (t' := s.toks) (fun b o e => Heap.get?_push_of_some _ e) (Nat.le_refl _) (show ObjOk X.prog X.w _ _ _ (.tup ys) from ⟨hz, its, r', TupD.new _ _⟩)
    exact ⟨.ref h'.objs.size, _, I2, rfl, q _ (I1.hok.fresh (Nat.le_refl _))⟩
  · obtain ⟨its, r', pl, hz⟩ := I.tuple hq
    exact call_tuple_same pl ⟨.ref p, H, I, rfl, q⟩

noncomputable def tyV (K : PySem.W.Frag) (T : String) (x : V) (H : Hp) : Prop := match x with
  | .str _ => T = "str"
  | .int _ => T = "int"
  | .ref p => (T = "list" ∧ ∃ xs, SqL K H p xs) ∨ (T = "tuple" ∧ ∃ o, K.lookup p = some o ∧ o.cls = .type "tuple" ∧ o.dict = none) ∨
      (T = "dict" ∧ ((∃ kvs, H p = some (.dK kvs)) ∨ ∃ kvs, H p = some (.dT kvs))) ∨ (T = "set" ∧ ∃ S n, H p = some (.set S n)) ∨ (T = "tuple" ∧ ∃ xs, H p = some (.tup xs))
  | _ => False
theorem tyV_is {pins : List (Addr × Obj)} {σ : St} {H : Hp} {s : Shared} {T : String} {x : V} {v : Value} (I : Inv X pins σ H s) (r : RelV x v) (ty : tyV X.K T x H) :
    s.TypeIs v T ∧ ∀ a, v = .ref a → ∃ ob, s.heap.get? a = some ob ∧ ob.dict = none := by
  cases x with
  | str z =>
    obtain ⟨t, rfl⟩ := r
    cases (show T = "str" from ty)
    exact ⟨typeIs_str s z t, fun _ e => nomatch e⟩
  | int i =>
    obtain ⟨t, rfl⟩ := r
    cases (show T = "int" from ty)
    exact ⟨typeIs_int s i t, fun _ e => nomatch e⟩
  | ref p =>
    cases r
    rcases ty with ⟨rfl, xs, hq⟩ | ⟨rfl, o, hk, hc, hd⟩ | ⟨rfl, hk⟩ | ⟨rfl, S, n, hk⟩ | ⟨rfl, xs, hk⟩
    · obtain ⟨its, _, pl, _⟩ := I.list hq
      refine ⟨pl.isList.typeIs, fun a e => ?_⟩
      cases e
      obtain ⟨o, n, e, c, hd, _⟩ := pl
      exact ⟨o, e, hd⟩
    · refine ⟨⟨o, I.kIn p o hk, hc⟩, fun a e => ?_⟩
      cases e
      exact ⟨o, I.kIn _ o hk, hd⟩
    · have z : ∃ o, s.heap.get? p = some o ∧ o.ExactDict := by
        rcases hk with ⟨kvs, hk⟩ | ⟨kvs, hk⟩
        · obtain ⟨_, _, _, _, o, _, _, e, ex, _⟩ := I.hok p _ hk
          exact ⟨o, e, ex⟩
        · obtain ⟨_, _, _, _, o, _, _, e, ex, _⟩ := I.hok p _ hk
          exact ⟨o, e, ex⟩
      obtain ⟨o, e, ex⟩ := z
      refine ⟨⟨o, e, ex.1⟩, fun a e2 => ?_⟩
      cases e2
      exact ⟨o, e, ex.2.1⟩
    · obtain ⟨o, _, _, _, e, ex, _⟩ := I.hok p _ hk
      refine ⟨⟨o, e, ex.1⟩, fun a e2 => ?_⟩
      cases e2
      exact ⟨o, e, ex.2.1⟩
    · obtain ⟨_, _, _, n, e⟩ := I.hok p _ hk
      refine ⟨⟨_, e, rfl⟩, fun a e2 => ?_⟩
      cases e2
      exact ⟨_, e, rfl⟩
  | _ => exact False.elim ty
noncomputable def tBM (K : PySem.W.Frag) (T : String) (r : V → List V → Hp → VK → Prop) (to : TE) (t : TA) : TE := fun σ H Q => to σ H fun x H1 => tyV K T x H1 ∧ t σ H1 fun xs H2 => r x xs H2 Q
variable {o e : Expr} {es : List Expr} {to : TE} {t : TA} {name : Str} {apos cpos : Pos} {T id : String} {r : V → List V → Hp → VK → Prop}
theorem pe_bm (pa : PlainAttrs T) (slot : Slot T name id) (hty : typeOf (.builtin id) = pure (.type "method_descriptor")) (hm : MtR X id r) (ho : PE X o to) (ha : PA X (e :: es) t)
    (hbase : attributeBase o name X.env (eval o X.env) = eval o X.env := by rfl)
    (hfew : ((backTo cpos (starEach (e :: es) X.env)).all (fun x => !x.1) && (backToKw cpos (keywordEach [] X.env)).all (fun x => x.1.isSome)
      && decide ((e :: es).length + ([] : List Keyword).length + (if ([] : List Keyword).isEmpty then 0 else 1) < 30)) = true := by rfl)
    (hline : (apos.endLine == cpos.line) = true := by rfl) (hs : starEach (e :: es) X.env = (false, eval e X.env) :: starEach es X.env := by rfl) (hplain : (backTo cpos (starEach es X.env)).any (·.1) = false := by rfl) :
    PE X (.Call (.Attribute o name apos) (e :: es) [] cpos) (tBM X.K T r to t) := by
  intro pins s σ H Q I h
  refine wpAny_Call_method_late hbase hfew hline rfl (thn (ho pins s σ H _ I h) fun v s1 ⟨x, H1, I1, r1, ty, q1⟩ => ?_)
  obtain ⟨h1, h2⟩ := tyV_is I1 r1 ty
  refine ⟨T, id, pa, slot, hty, h1, h2, ?_⟩
  have hA := ha cpos pins s1 σ H1 _ I1 q1
  rw [hs] at hA ⊢
  refine Calls.callWith_builtin (by show (false || (backTo cpos (starEach es X.env)).any (·.1)) = false; rw [hplain] <;> rfl) (Calls.evalArgs_plain ?_)
  exact thn hA fun us s2 ⟨vs, H2, I2, r2, q2⟩ => hm pins s2 σ H2 x vs v us Q I2 r1 r2 q2
/- xs.append(e), list.index on a module's tuple .. are MtR facts of 06m -/
end
end L2
namespace L2
open PySem PySem.Spec PyProof.Rows
noncomputable def MtM (X : Cx) (id : String) (r : V → List V → Hp → VK → Prop) : Prop :=
  ∀ (pins : List (Addr × Obj)) (s : Shared) (σ : St) (H : Hp) (x : V) (xs : List V) (v : Value) (us : List Value) (Q : VK), Inv X pins σ H s → RelV x v → Vals xs us → r x xs H Q →
    wpAny (model X.prog X.w) X.A (call (.builtin id) (v :: us)) (EP X pins σ Q) X.xe s

theorem Vals.one : ∀ {x : V} {us : List Value}, Vals [x] us → ∃ u, us = [u] ∧ RelV x u
  | _, _, .cons r .nil => ⟨_, rfl, r⟩
theorem Vals.reverse {xs : List V} {us : List Value} (h : Vals xs us) : Vals xs.reverse us.reverse := by
  induction h with
  | nil => exact .nil
  | cons r t ih => rw [List.reverse_cons, List.reverse_cons]; exact Vals.append ih (.cons r .nil)
theorem Vals.rep {xs : List V} {us : List Value} (h : Vals xs us) : ∀ k : Nat, Vals (List.replicate k xs).flatten (List.replicate k us).flatten
  | 0 => .nil
  | k + 1 => by
    rw [List.replicate_succ, List.replicate_succ, List.flatten_cons, List.flatten_cons]
    exact Vals.append h (Vals.rep h k)
theorem foldl_rep (its : List Value) : ∀ (k : Nat) (acc : List Value),
    List.foldl (fun x1 x2 => x1 ++ x2) acc.toArray (List.replicate k its.toArray) = (acc ++ (List.replicate k its).flatten).toArray
  | 0, acc => by simp
  | k + 1, acc => by
    have e : acc.toArray ++ its.toArray = (acc ++ its).toArray := by simp
    have e2 : (acc ++ its) ++ (List.replicate k its).flatten = acc ++ (List.replicate (k + 1) its).flatten := by
      rw [List.replicate_succ, List.flatten_cons, List.append_assoc]
    rw [← e2, ← foldl_rep its k (acc ++ its), ← e, List.replicate_succ, List.foldl_cons]

section
variable {X : Cx} {pins : List (Addr × Obj)} {σ : St} {H : Hp} {s : Shared} {l b : Addr} {xs ys zs : List V}
theorem Inv.lset {its its' : List Value} {n : Nat} {f : Array Value → Array Value} {t' : Nat} (I : Inv X pins σ H s) (hH : H l = some (.lst xs))
    (e : s.heap.get? l = some { cls := .type "list", data := .seq its.toArray n }) (hf : f its.toArray = its'.toArray) (hv : Vals ys its') (hz : ys.length ≤ sizeLine) :
    Inv X pins σ (upd H l (.lst ys)) { s with heap := s.heap.update l (Obj.mapSeq f), toks := t' } := by
  have q := PySem.IsL.update e f
  rw [hf] at q
  refine I.write (x := l) (e := l) (by rw [hH]; exact trivial) (.inl rfl) (fun b' u hb hu => (Heap.get?_update_other s.heap (Obj.mapSeq f) (Ne.symm hb)).trans hu) ⟨_, q⟩ ?_
  exact ⟨hz, its', _, hv, q⟩
theorem Inv.lnew {its : List Value} {t' : Nat} (I : Inv X pins σ H s) (hv : Vals ys its) (hz : ys.length ≤ sizeLine) :
    Inv X pins σ (upd H s.heap.objs.size (.lst ys)) { s with heap := s.heap.push { cls := .type "list", data := .seq its.toArray }, toks := t' } :=
  I.laid (fun _ _ q => Heap.get?_push_of_some _ q) (Nat.le_refl _) ⟨hz, its, 0, hv, Heap.get?_push_size _ rfl⟩
theorem Inv.fresh (I : Inv X pins σ H s) : H s.heap.objs.size = none := I.hok.fresh (Nat.le_refl _)
theorem Inv.lstM (I : Inv X pins σ H s) (hH : H l = some (.lst xs)) : xs.length ≤ sizeLine ∧ ∃ (its : List Value) (n : Nat), Vals xs its ∧ xs.length = its.length ∧ s.heap.get? l = some { cls := .type "list", data := .seq its.toArray n } := by
  obtain ⟨z, its, n, r, e⟩ := I.hok l _ hH
  exact ⟨z, its, n, r, r.length, e⟩

theorem notLongL {n : Nat} (h : n ≤ sizeLine) : Builtin.List.listTooLong n = false := by
  unfold Builtin.List.listTooLong
  exact decide_eq_false (by omega)
end
section
variable {X : Cx}
noncomputable def rAppend : V → List V → Hp → VK → Prop := fun x vs H Q => ∃ l xs y, x = .ref l ∧ vs = [y] ∧ H l = some (.lst xs) ∧ xs.length < sizeLine ∧ Q .non (upd H l (.lst (xs ++ [y])))
theorem mt_append : MtM X "list.append" rAppend := by
  intro pins s σ H x vs v us Q I rx rv h
  obtain ⟨l, xs, y, rfl, rfl, hH, hz, q⟩ := h
  cases rx
  obtain ⟨u, rfl, ru⟩ := rv.one
  obtain ⟨z, its, n, r, hl, e⟩ := I.lstM hH
  refine call_meets F.slot_list_append ⟨_, e, rfl⟩ F.entry_list_append (F.args_list_append_2 _ _) (PySem.list_append l its.toArray n u (by rw [List.size_toArray]; omega)) ⟨e, ?_⟩
  refine ⟨.non, _, I.lset (its' := its ++ [u]) hH e (by simp) (r.append (.cons ru .nil)) ?_, rfl, q⟩
  rw [List.length_append, List.length_singleton]
  omega

noncomputable def rCat : R2 := fun x y H Q => ∃ l b xs zs, x = .ref l ∧ y = .ref b ∧ H l = some (.lst xs) ∧ H b = some (.lst zs) ∧ xs.length + zs.length ≤ sizeLine ∧ ∀ p, H p = none → Q (.ref p) (upd H p (.lst (xs ++ zs)))
theorem op_cat : OpR X (binaryOp .Add) rCat := by
  intro pins s σ H x y v u Q I rx ry h
  obtain ⟨l, b, xs, zs, rfl, rfl, hH, hB, hz, q⟩ := h
  cases rx
  cases ry
  obtain ⟨z, its, n, r, hl, e⟩ := I.lstM hH
  obtain ⟨z2, its2, n2, r2, hl2, e2⟩ := I.lstM hB
  refine PySem.P.add_list e e2 ?_ (by rw [List.size_toArray, List.size_toArray]; omega)
  have ea : its.toArray ++ its2.toArray = (its ++ its2).toArray := by simp
  rw [ea]
  exact ⟨.ref _, _, I.lnew (t' := s.toks) (r.append r2) (by rw [List.length_append]; omega), rfl, q _ I.fresh⟩
noncomputable def rRep : R2 := fun x y H Q => ∃ l k xs, x = .ref l ∧ y = .int k ∧ H l = some (.lst xs) ∧ -(2 ^ 63) ≤ k ∧ k < 2 ^ 63 ∧ xs.length * k.toNat ≤ sizeLine ∧
  ∀ p, H p = none → Q (.ref p) (upd H p (.lst (List.replicate k.toNat xs).flatten))
theorem len_rep {α : Type} (xs : List α) (k : Nat) : (List.replicate k xs).flatten.length = k * xs.length := by
  induction k with
  | zero => simp
  | succ k ih => rw [List.replicate_succ, List.flatten_cons, List.length_append, ih, Nat.succ_mul, Nat.add_comm]
theorem op_rep : OpR X (binaryOp .Mult) rRep := by
  intro pins s σ H x y v u Q I rx ry h
  obtain ⟨l, k, xs, rfl, rfl, hH, h1, h2, hz, q⟩ := h
  cases rx
  obtain ⟨t, rfl⟩ := ry
  obtain ⟨z, its, n, r, hl, e⟩ := I.lstM hH
  have hlen : its.toArray.size * k.toNat ≤ sizeLine := by rw [List.size_toArray, ← hl]; exact hz
  have hcap : ¬ its.toArray.size * k.toNat > (2 ^ 63 - 1) / 8 := by
    have : (sizeLine : Nat) ≤ (2 ^ 63 - 1) / 8 := by decide
    omega
  have hfit : ¬ (!Builtin.List.listFitsIndex k) = true := by
    rw [fitsIndex_both h1 h2]
    exact Bool.false_ne_true
  have hlong : ¬ Builtin.List.listTooLong (its.toArray.size * k.toNat) = true := by
    rw [notLongL hlen]
    exact Bool.false_ne_true
  have hnew : List.foldl (fun x1 x2 => x1 ++ x2) #[] (List.replicate (if its.toArray.isEmpty = true then 0 else k.toNat) its.toArray) = (List.replicate k.toNat its).flatten.toArray := by
    have f0 : ∀ m : Nat, List.foldl (fun x1 x2 => x1 ++ x2) #[] (List.replicate m its.toArray) = (List.replicate m its).flatten.toArray := fun m => by
      have := foldl_rep its m []
      rw [List.nil_append] at this
      exact this
    rw [f0]
    cases its with
    | nil => simp
    | cons a r' => rw [if_neg (by simp)]
  refine wpAny_binaryOp_repeat_ref (T := "list") (U := "int") (by decide) ⟨_, e, rfl⟩ (fun s' => typeIs_int s' k t) noFill_list_mul F.fills_int_mul F.slot_int_rmul repeat_list F.slot_int_index.lookup
    (call_meets F.slot_int_rmul (typeIs_int s k t) F.entry_int_rmul (F.args_int_rmul_2 _ _) (int___rmul___int_list k t l its.toArray n)
      ⟨e, rfl, ⟨_, e, rfl⟩, call_meets F.slot_list_mul ⟨_, e, rfl⟩ F.entry_list_mul (F.args_list_mul_2 _ _) (AutoListH.list___mul___list_int_3 l its.toArray n k t hfit hcap hlong) ⟨e, ?_⟩⟩)
  rw [hnew]
  exact ⟨.ref _, _, I.lnew (t' := s.toks) (r.rep k.toNat) (by rw [len_rep, Nat.mul_comm]; exact hz), rfl, q _ I.fresh⟩

end
section
variable {prog : Program} {w : World} {A : Around} {E : Value → Shared → Prop} {s : Shared}
end
section
variable {X : Cx}
end
end L2
namespace Att
open PySem PySem.W PySem.Calls PyProof.Rows
theorem ints_of_wellAll {P : Params} {h : Heap} : ∀ (ns : List Int) (vs : List Value), WellAll P h vs (ns.map WData.int) → IntsAre vs ns := by
  intro ns
  induction ns with
  | nil =>
    intro vs w
    rw [List.map_nil] at w
    cases w
    exact .nil
  | cons n ns ih =>
    intro vs w
    rw [List.map_cons] at w
    cases w with
    | cons a b =>
      cases a
      exact .cons _ _ (ih _ b)

theorem script_of {l : OpenLaw} {n : Nat} (hn : l.most = some n) {P : Params} {h : Heap} {args : List WData} {vals : List Value}
    (hpre : l.row.toRowW.claim.pre args = true) (hwl : WellAll P h vals args) :
    ∃ a vs ns, vals = [Value.ref a] ∧ args = [WData.list (ns.map WData.int)] ∧ h.get? a = some { cls := .type "list", data := .seq vs.toArray } ∧ IntsAre vs ns ∧ ns.length ≤ n := by
  have hsh : WShape.hasAll [] args [.list .int] = true := (pre_splitW hpre).1
  have hc : l.pre.holds [] { args := args } = true := (pre_splitW hpre).2
  obtain ⟨d, r, rfl, h1, h2⟩ := hasAllW_cons hsh
  obtain rfl := hasAllW_nil h2
  obtain ⟨xs, rfl, h3⟩ := hasW_list h1
  obtain ⟨ns, rfl⟩ := items_int h3
  have hlen : ns.length ≤ n := by
    unfold OpenLaw.pre at hc
    have h4 : (WTm.not (.lt (.lit (.int (n : Int))) (.len (.arg 0)))).holds [] { args := [.list (ns.map .int)] } = true := by
      have h4 := (holds_andW hc).1
      rw [hn] at h4
      exact h4
    have h5 := condW_of h4 (w_not (w_lt w_lit (w_len_list (w_arg rfl))))
    rw [List.length_map] at h5
    refine Nat.le_of_not_lt fun q => ?_
    have q' : (n : Int) < ((ns.length : Nat) : Int) := by omega
    first
      | (rw [decide_eq_true q'] at h5; exact absurd h5 (by decide))
      | (simp at h5; omega)
  cases hwl with
  | cons w1 w2 =>
    cases w2
    cases w1 with
    | list ho hall => exact ⟨_, _, ns, rfl, rfl, ho, ints_of_wellAll ns _ hall, hlen⟩

theorem post_true (l : OpenLaw) (args : List WData) : l.row.toRowW.claim.post args (.bool true) args = true :=
  postW_of (r := l.row.toRowW) (X := (true == true))
    (show WShape.has [] (.bool true) .bool = true by first | rfl | decide | simp [WShape.has, WShape.arms, WShape.armsAll])
    (show (WTm.eq .res (.lit (.bool true))).value [] { args := args, res := some (.bool true), after := args } = some (.bool (true == true)) from w_eq_bool (w_res rfl) w_lit) rfl

theorem attach_call {l : OpenLaw} {n : Nat} {q : Program} {loose : List Str} {XP : (Str → Option Value) → Heap → Prop} {YP : World → Heap → Prop} {d : DefRec}
    (hn : l.most = some n) (hdf : d.params.defaults = [])
    (call : ∀ (w : World) (s₀ s₁ : Shared) (mg mb : Str → Option Value) (fa : Addr) (o : Obj) (pm cd doc : Value) (a : Addr) (vs : List Value) (ns : List Int),
      Ground q loose [] XP w s₀ mg mb s₁.heap → YP w s₁.heap →
      s₁.heap.get? fa = some o → o.data = .func (docDef d.name d.params d.body d.scope pm cd doc) → s₁.heap.CodeRec cd d.name → mg d.name = some (.ref fa) →
      s₁.heap.get? a = some { cls := .type "list", data := .seq vs.toArray } → IntsAre vs ns → ns.length ≤ n → s₁.gens = #[] →
      codeAny (model l.prog w) callerA (.call (.ref fa) ⟨[.ref a], []⟩) (fun r s' => r = .ok (.ret (.bool true)) ∧ OldK s₁.heap s'.heap ∧ s'.os = s₁.os ∧ AllBare s'.gens) s₁) :
    WalkO q loose XP YP l.row.toRowW d [] (fun f vs => PySem.call f vs) := by
  intro w s₀ s₁ mg mb G Y fa o pm cd doc dV kV ho hd hcd hD hmg hg args vals as hpre hlay hrd hwl hlo
  obtain rfl : dV = .none := Dflts.none hD hdf
  obtain rfl : kV = .none := Dflts.noKw hD
  obtain ⟨a, vs, ns, rfl, rfl, hobj, hints, hlen⟩ := script_of hn hpre hwl
  refine enter_call (codeAny_mono (call w s₀ s₁ mg mb fa o pm cd doc a vs ns G Y ho (fd_plain hd) hcd hmg hobj hints hlen hg) fun r s' hq => ?_)
  obtain ⟨rfl, h2, h3, h4⟩ := hq
  exact ⟨.inl ⟨.bool true, .bool true, [], rfl, fun _ => rfl, .bool true, post_true l _, fun _ => ⟨List.Pairwise.nil, fun _ hm => (nomatch hm)⟩⟩, h2, h3, h4⟩

section
variable {prog : Program} {w : World} {A : Around} {E : Value → Shared → Prop} {s : Shared} {K : Frag}
end
end Att
namespace L2
open PySem PySem.Spec PyProof.Rows
theorem vals_ints : ∀ {vs : List Value} {ns : List Int}, IntsAre vs ns → Vals (ns.map V.int) vs
  | _, _, .nil => .nil
  | _, _, .cons n t h => .cons ⟨t, rfl⟩ (vals_ints h)

noncomputable def Only (H : Hp) : Prop := ∀ b, H b = none ∨ ∃ o xs, H b = some (.frz o (.lst xs))

theorem law_call {P : Program} {w : World} {K : PySem.W.Frag} {mg mb : Str → Option Value} {CX : CXT} {k : Nat} {fa a : Addr} {fd : FuncData} {x : Str} {sp : Sp} {s₁ : Shared} {vs : List Value} {ns : List Int}
    (KX : K.In s₁.heap) (hns : s₁.heap.Ns mainGlobals mg) (hb : s₁.heap.Ns builtinsNs mb) (hbb : ∀ x : Str, x ≠ "__name__" → mb x = bootBuiltins x) (hlim : s₁.heap.NoLimit) (hg : s₁.gens = #[])
    (ha : s₁.heap.get? a = some { cls := .type "list", data := .seq vs.toArray }) (hi : IntsAre vs ns) (hl : ns.length ≤ sizeLine) (hr : Room k callerA)
    (F : ∀ base : Heap, K.In base → base.Ns mainGlobals mg → FnOk P w K mg base CX k fa fd [x] sp) (hbind : ∀ (s : Shared) (u : Value), BindsTo s fd ⟨[u], []⟩ [(x, u)])
    (hsp : ∀ H : Hp, Only H → SqL K H a (ns.map V.int) → sp [.ref a] H (fun v _ => v = .bl true) fun _ _ _ => False)
    (hCX : ∀ H e s', CX [] H s₁ (fun _ _ _ => False) e s' → False) :
    codeAny (model P w) callerA (.call (.ref fa) ⟨[.ref a], []⟩) (fun r s' => r = .ok (.ret (.bool true)) ∧ OldK s₁.heap s'.heap ∧ s'.os = s₁.os ∧ AllBare s'.gens) s₁ := by
  have rv := vals_ints hi
  have lenV := hi.length
  -- from an abstract heap in which nothing but the script may be tracked
  have core : ∀ H : Hp, Only H → SqL K H a (ns.map V.int) → HOk P w H s₁.heap → (∀ b, H b ≠ none → b = a) → (H a ≠ none → K.lookup a = none) →
      codeAny (model P w) callerA (.call (.ref fa) ⟨[.ref a], []⟩) (fun r s' => r = .ok (.ret (.bool true)) ∧ OldK s₁.heap s'.heap ∧ s'.os = s₁.os ∧ AllBare s'.gens) s₁ := by
    intro H hO hS hok hA hK
    have base_of : ∀ {b : Addr} {o : Obj}, s₁.heap.get? b = some o → H b = none → (hidT s₁.heap H).get? b = some o := fun e n => hidT_get e n
    have noA : ∀ {b : Addr} {o : Obj} {es : Array DictEntry} {ep : Nat}, s₁.heap.get? b = some o → o.data = .dict es ep → H b = none := fun {b o es ep} e d => by
      cases q : H b with
      | none => rfl
      | some u =>
        have e' : b = a := hA b (by rw [q]; simp)
        subst e'
        rw [ha] at e; cases e
        have d' : Data.seq vs.toArray _ = Data.dict es ep := d
        cases d'
    have nsK : ∀ {b : Addr} {m : Str → Option Value}, s₁.heap.Ns b m → (hidT s₁.heap H).Ns b m := fun {b m} ⟨o, es, ep, e, d, r⟩ => ⟨o, es, ep, base_of e (noA e d), d, r⟩
    have hKb : K.In (hidT s₁.heap H) := fun b o e => base_of (KX b o e) (by
      cases q : H b with
      | none => rfl
      | some u =>
        have e' : b = a := hA b (by rw [q]; simp)
        subst e'
        rw [hK (by rw [q]; simp)] at e; cases e)
    have hM : Mod K mg (hidT s₁.heap H) := ⟨hKb, nsK hns, ⟨mb, nsK hb, hbb⟩, let ⟨mc, h1, h2⟩ := hlim; ⟨mc, nsK h1, h2⟩⟩
    have e0 : Env0 P w K mg (hidT s₁.heap H) callerA [] s₁ H := ⟨rfl, hM, fun b o e => of_hidT e, Nat.le_of_eq (hidT_size _ _), trivial, fun b hb => absurd (show b ∈ ([] : List Addr) from hb) (by simp), hok, .of_eq hg⟩
    refine codeAny_mono ((F _ hKb (nsK hns)).run callerA [] s₁ H ⟨[.ref a], []⟩ [.ref a] [.ref a] _ _ hr e0 (hbind s₁ (.ref a)) (.cons rfl .nil) (hsp H hO hS)) fun r s' h => ?_
    cases r with
    | error e => exact (hCX H e s' h).elim
    | ok fl =>
      cases fl with
      | next => exact False.elim h
      | brk => exact False.elim h
      | cont => exact False.elim h
      | ret u =>
        obtain ⟨v, H', os, bare, un, hok', r', q⟩ := h
        have q' : v = .bl true := q
        subst q'
        obtain rfl : u = Value.bool true := r'
        refine ⟨rfl, OldK.of_keep fun b o e => ?_, os, bare⟩
        cases q : H b with
        | none => exact un.keep b o e q (by intro z; exact absurd (show b ∈ ([] : List Addr) from z) (by simp)) (by simp)
        | some u =>
          rcases hO b with z | ⟨ob, xs, z⟩
          · rw [q] at z; cases z
          · have z2 := un.frzs b ob _ z
            obtain ⟨e1, _⟩ := hok b _ z
            obtain ⟨e2, _⟩ := hok' b _ z2
            rw [e] at e1; cases e1
            exact e2
  cases hk : K.lookup a with
  | some o =>
    -- the script is one of the module's own objects
    have e := KX a o hk
    rw [ha] at e
    cases e
    refine core (fun _ => none) (fun _ => .inl rfl) (.inr ⟨_, vs.toArray, _, hk, rfl, rfl, rfl, by rw [List.size_toArray, lenV]; exact hl, by simpa using rv⟩) (fun b u z => by have z' : (none : Option HO) = some u := z; cases z') (fun b z => absurd rfl z) fun z => absurd rfl z
  | none =>
    refine core (fun b => if b = a then some (.frz { cls := .type "list", data := .seq vs.toArray } (.lst (ns.map V.int))) else none) (fun b => ?_) (.inl (.inr ⟨{ cls := .type "list", data := .seq vs.toArray }, if_pos rfl⟩)) (fun b u z => ?_) (fun b z => ?_) fun _ => hk
    · by_cases hb : b = a
      · exact .inr ⟨_, _, if_pos hb⟩
      · exact .inl (if_neg hb)
    · by_cases hb : b = a
      · have z' := (if_pos hb).symm.trans z
        cases z'
        subst hb
        exact ⟨ha, by rw [List.length_map]; exact hl, vs, _, rv, ha⟩
      · have z' := (if_neg hb).symm.trans z
        cases z'
    · by_cases hb : b = a
      · exact hb
      · exact absurd (if_neg hb) z
end L2
namespace L2
open PySem PySem.Spec PyProof.Rows
theorem walk_of {l : PySem.W.OpenLaw} {n k : Nat} {q : Program} {loose : List Str} {XP : (Str → Option Value) → Heap → Prop} {YP : World → Heap → Prop} {d : DefRec} {K : Params → PySem.W.Frag} {CX : World → CXT} {sp : World → Sp} {x : Str}
    (hn : l.most = some n) (hn2 : n ≤ sizeLine) (hdf : d.params.defaults = []) (hr : Room k callerA)
    (hY : ∀ (w : World) (h : Heap), YP w h → (K w.params).In h)
    (F : ∀ (w : World) (mg : Str → Option Value) (fa : Addr) (h : Heap), (K w.params).In h → h.Ns mainGlobals mg → mg d.name = some (.ref fa) →
      ∃ fd : FuncData, (∀ (s : Shared) (u : Value), BindsTo s fd ⟨[u], []⟩ [(x, u)]) ∧
        ∀ base : Heap, (K w.params).In base → base.Ns mainGlobals mg → FnOk l.prog w (K w.params) mg base (CX w) k fa fd [x] (sp w))
    (hsp : ∀ (w : World) (H : Hp) (a : Addr) (ns : List Int), ns.length ≤ n → Only H → SqL (K w.params) H a (ns.map V.int) → sp w [.ref a] H (fun v _ => v = .bl true) fun _ _ _ => False)
    (hCX : ∀ (w : World) (H : Hp) (s : Shared) (e : Value) (s' : Shared), CX w [] H s (fun _ _ _ => False) e s' → False) :
    PySem.W.WalkO q loose XP YP l.row.toRowW d [] (fun f vs => PySem.call f vs) := by
  refine Att.attach_call hn hdf fun w s₀ s₁ mg mb fa o pm cd doc a vs ns G Y ho hd hcd hmg hobj hints hlen hg => ?_
  have KX := hY w _ Y
  obtain ⟨fd, hb, hF⟩ := F w mg fa _ KX G.T.g hmg
  exact law_call KX G.T.g G.T.b G.T.builtins G.T.nolimit hg hobj hints (Nat.le_trans hlen hn2) hr hF hb (fun H hO hS => hsp w H a ns hlen hO hS) fun H e s' => hCX w H s₁ e s'
end L2
/- THE LAST THEOREM (shape; LID, My.* are yours):
   My.Adr: a structure of the addresses that your layer names (classes, functions); My.Txt K t: a structure (Prop) of the equations over K;
   My.txt_mk : {K} {implicit addresses ..} (e1 : nsIn K mainGlobals "law" = some (some (.ref f))) (e2 : K.lookup f = some ⟨oc, od, .func (fnOf "law" "law" params body scope dV kV doc pm an cdv ct), sl⟩) (e3 : codeIn K cdv "law" = true) .. : ∃ t, My.Txt K t
(the tactic k_is has no namespace: write k_is) -/
namespace L2
open PySem PySem.Spec PyProof.Rows
noncomputable def defArgs (s : Stmt) : Arguments := match s with
  | .FunctionDef _ a _ _ _ _ _ _ _ _ => a
  | _ => { posonlyargs := [], args := [], vararg := none, kwonlyargs := [], kw_defaults := [], kwarg := none, defaults := [] }
noncomputable def defBody (s : Stmt) : List Stmt := match s with
  | .FunctionDef _ _ b _ _ _ _ _ _ _ => b
  | _ => []
noncomputable def defScope (s : Stmt) : Scope := match s with
  | .FunctionDef _ _ _ _ _ _ sc _ _ _ => sc
  | _ => { kind := .function, names := [], isGenerator := false, isCoroutine := false }

noncomputable abbrev CX0 : CXT := fun _ _ _ _ _ _ => False
noncomputable abbrev E0 : XK := fun _ _ _ => False
theorem pass0 {X : Cx} : Passes CX0 X E0 := fun _ _ _ _ _ _ _ h => h.elim

structure Fun (K : PySem.W.Frag) (x qual : Str) (st : Stmt) (f : Addr) (fd : FuncData) : Prop where
  ex : ∃ (oc : Value) (od : Option Addr) (kV doc pm : Value) (an : Option Addr) (cdv ct : Value) (osl : Array (Option Value)),
    fd = PySem.W.fnOf x qual (defArgs st) (defBody st) (defScope st) .none kV doc pm an cdv ct ∧ K.lookup f = some ⟨oc, od, .func fd, osl⟩ ∧ PySem.W.codeIn K cdv qual = true
  kp : PySem.W.keepIn K (.ref f) = true
section
variable {P : Program} {w : World} {K : PySem.W.Frag} {mg : Str → Option Value} {base : Heap}
theorem Fun.ok {x qual : Str} {st : Stmt} {f : Addr} {fd : FuncData} {N ps : List Str} {k : Nat} {sp : Sp} (F : Fun K x qual st f fd) (S : FnScope N ps (defScope st)) (len : ∀ vs H Q E, sp vs H Q E → vs.length = ps.length)
    (hbody : ∀ (cdv : Value) (A : Around) (outer : List Env) (s : Shared) (H : Hp) (vs : List V) (Q : VK) (E : XK), Room k (A.deeper (envOfC qual (defScope st) s.heap.objs.size f cdv)) → sp vs H Q E →
      ∃ t, PSs (cxOf CX0 P w K mg base N qual (defScope st) f cdv A outer s H E).nox (defBody st) t ∧ t { nx := fun _ H' => Q .non H', rt := Q } (start N vs) H) : FnOk P w K mg base CX0 (k + 1) f fd ps sp := by
  obtain ⟨oc, od, kV, doc, pm, an, cdv, ct, osl, rfl, lk, hcd⟩ := F.ex
  refine fn_of lk hcd S len fun A outer s H vs Q E hr hsp => ?_
  obtain ⟨t, h, q⟩ := hbody cdv A outer s H vs Q E hr hsp
  exact ⟨t, h.nox, q⟩
theorem Fun.okz {x qual : Str} {st : Stmt} {f : Addr} {fd : FuncData} {N ps : List Str} {k : Nat} {sp : Sp} (F : Fun K x qual st f fd) (S : FnScope N ps (defScope st)) (len : ∀ vs H Q E, sp vs H Q E → vs.length = ps.length)
    (hbody : ∀ (cdv : Value) (A : Around) (outer : List Env) (s : Shared) (H : Hp) (vs : List V) (Q : VK) (E : XK), Room k (A.deeper (envOfC qual (defScope st) s.heap.objs.size f cdv)) → sp vs H Q E →
      ∃ t, ZSs (cxOf CX0 P w K mg base N qual (defScope st) f cdv A outer s H E).nox (defBody st) t ∧ t { nx := fun _ H' => Q .non H', rt := Q } (start N vs) H) : FnOk P w K mg base CX0 (k + 1) f fd ps sp :=
  F.ok S len fun cdv A outer s H vs Q E hr h => let ⟨t, h1, h2⟩ := hbody cdv A outer s H vs Q E hr h; ⟨t, h1.p, h2⟩
theorem Fun.binds {x qual : Str} {st : Stmt} {f : Addr} {fd : FuncData} {ps : List Str} (F : Fun K x qual st f fd)
    (h : ∀ (kV doc pm : Value) (an : Option Addr) (cdv ct : Value) (us : List Value), us.length = ps.length → bindArgs (PySem.W.fnOf x qual (defArgs st) (defBody st) (defScope st) .none kV doc pm an cdv ct) ⟨us, []⟩ = pure (ps.zip us)) : Binds K fd ps [] := by
  obtain ⟨oc, od, kV, doc, pm, an, cdv, ct, osl, rfl, lk, hcd⟩ := F.ex
  exact .all (h kV doc pm an cdv ct)
theorem fun_mk {x qual : Str} {st : Stmt} {f : Addr} {oc : Value} {od an : Option Addr} {osl : Array (Option Value)} {kV doc pm cdv ct : Value} (l : K.lookup f = some ⟨oc, od, .func (PySem.W.fnOf x qual (defArgs st) (defBody st) (defScope st) .none kV doc pm an cdv ct), osl⟩)
    (c : PySem.W.codeIn K cdv qual = true) (k : PySem.W.keepIn K (.ref f) = true) : Fun K x qual st f (PySem.W.fnOf x qual (defArgs st) (defBody st) (defScope st) .none kV doc pm an cdv ct) := ⟨⟨oc, od, kV, doc, pm, an, cdv, ct, osl, rfl, l, c⟩, k⟩
end
theorem small1000 {n : Nat} (h : n ≤ 1000) : n < sizeLine := Nat.lt_of_le_of_lt h (by decide)

section
variable {X : Cx}
end
theorem iteF {A B : Prop} (h : B) : if false = true then A else B := by
  rw [if_neg Bool.false_ne_true]
  exact h
theorem iteT {A B : Prop} (h : A) : if true = true then A else B := by
  rw [if_pos rfl]
  exact h
noncomputable def Same (H H' : Hp) : Prop := ∀ b o, H b = some o → H' b = some o
theorem Same.refl (H : Hp) : Same H H := fun _ _ h => h
theorem Same.trans {H H1 H2 : Hp} (a : Same H H1) (b : Same H1 H2) : Same H H2 := fun c o h => b c o (a c o h)
end L2
set_option Elab.async false
set_option linter.all false
set_option maxRecDepth 100000
set_option maxHeartbeats 4000000
namespace L2
open PySem PySem.Spec PyProof.Rows
noncomputable def clsOf (env : Env) : List (Str × NameKind) → List (Str × Addr) → List (Str × Addr)
  | [], cs => cs
  | y :: r, cs => clsOf env r (if (y.2 == .free) = true then (y.1, (env.cells.lookup y.1).getD 0) :: cs else cs)
theorem closure_ok {env : Env} {scope : Scope} (h : ∀ y ∈ scope.names, y.2 = .free → ∃ c, env.cells.lookup y.1 = some c) : closureFor scope env = pure (clsOf env scope.names []) := by
  simp only [closureFor]
  generalize scope.names = ns at h
  have go : ∀ (ns : List (Str × NameKind)) (cs : List (Str × Addr)), (∀ y ∈ ns, y.2 = .free → ∃ c, env.cells.lookup y.1 = some c) →
      (forIn ns cs fun (x : Str × NameKind) (r : List (Str × Addr)) => (if (x.2 == NameKind.free) = true then do let a ← cellOf env x.1; pure (ForInStep.yield ((x.1, a) :: r)) else pure (ForInStep.yield r) : Sem (ForInStep (List (Str × Addr))))) = (pure (clsOf env ns cs) : Sem (List (Str × Addr))) := by
    intro ns
    induction ns with
    | nil => intro cs _; rfl
    | cons y r ih =>
      intro cs hy
      rw [List.forIn_cons]
      have hr := fun z hz => hy z (List.mem_cons_of_mem _ hz)
      by_cases hf : (y.2 == NameKind.free) = true
      · obtain ⟨c, hc⟩ := hy y List.mem_cons_self (by simpa using hf)
        have e : cellOf env y.1 = pure c := by unfold cellOf; rw [hc]
        rw [if_pos hf, e]
        refine Eq.trans (ih ((y.1, c) :: cs) hr) (congrArg pure ?_)
        show _ = clsOf env r (if (y.2 == .free) = true then (y.1, (env.cells.lookup y.1).getD 0) :: cs else cs)
        rw [if_pos hf, hc]
        rfl
      · rw [if_neg hf]
        refine Eq.trans (ih cs hr) (congrArg pure ?_)
        show _ = clsOf env r (if (y.2 == .free) = true then (y.1, (env.cells.lookup y.1).getD 0) :: cs else cs)
        rw [if_neg hf]
  have e := go ns [] h
  exact (congrArg (fun (t : Sem (List (Str × Addr))) => t >>= fun cs => pure cs) e).trans rfl
theorem clsOf_look {env : Env} : ∀ (ns : List (Str × NameKind)) (cs : List (Str × Addr)), (∀ y ∈ ns, y.2 = .free → ∃ c, env.cells.lookup y.1 = some c) → (∀ n c, cs.lookup n = some c → env.cells.lookup n = some c) →
    ∀ n c, (clsOf env ns cs).lookup n = some c → env.cells.lookup n = some c
  | [], cs, _, hc => hc
  | y :: r, cs, hy, hc => by
    refine clsOf_look r _ (fun z hz => hy z (List.mem_cons_of_mem _ hz)) fun n c e => ?_
    by_cases hf : (y.2 == NameKind.free) = true
    · rw [if_pos hf, List.lookup_cons] at e
      obtain ⟨c', hc'⟩ := hy y List.mem_cons_self (by simpa using hf)
      cases hn : n == y.1 with
      | true =>
        rw [hn] at e
        have en : n = y.1 := by simpa using hn
        rw [hc'] at e
        rw [en, hc']
        exact e
      | false => rw [hn] at e; exact hc n c e
    · rw [if_neg hf] at e
      exact hc n c e
theorem clsOf_has {env : Env} : ∀ (ns : List (Str × NameKind)) (cs : List (Str × Addr)) (n : Str), ((n, NameKind.free) ∈ ns ∨ ∃ c, cs.lookup n = some c) → ∃ c, (clsOf env ns cs).lookup n = some c
  | [], cs, n, h => by
    rcases h with h | h
    · cases h
    · exact h
  | y :: r, cs, n, h => by
    refine clsOf_has r _ n ?_
    rcases h with h | ⟨c, h⟩
    · rcases List.mem_cons.mp h with e | h
      · refine .inr ⟨(env.cells.lookup n).getD 0, ?_⟩
        have e2 : y.2 = .free := by rw [← e]
        have e1 : y.1 = n := by rw [← e]
        rw [if_pos (by rw [e2]; rfl), e1, List.lookup_cons]
        simp
      · exact .inl h
    · refine .inr ?_
      by_cases hf : (y.2 == NameKind.free) = true
      · rw [if_pos hf, List.lookup_cons]
        cases hn : n == y.1 with
        | true => exact ⟨_, rfl⟩
        | false => exact ⟨c, h⟩
      · rw [if_neg hf]; exact ⟨c, h⟩
noncomputable def rlOf (env : Env) (y : Str × NameKind) : Str × NameKind := if (y.2 == NameKind.free && env.scope.kind == .function && env.kindOf y.1 == some .cell) = true then (y.1, NameKind.cell) else (y.1, y.2)
theorem rl_look {env : Env} : ∀ {names : List (Str × NameKind)} {x : Str} {k' : NameKind}, (names.map (rlOf env)).lookup x = some k' →
    ∃ k, (x, k) ∈ names ∧ names.lookup x = some k ∧ (k' = k ∨ (k = .free ∧ k' = .cell))
  | [], _, _, h => by simp at h
  | (n, k) :: r, x, k', h => by
    have ih := @rl_look env r x k'
    rw [List.map_cons] at h
    unfold rlOf at h
    dsimp only at h
    cases hx : x == n with
    | true =>
      have en : x = n := by simpa using hx
      refine ⟨k, by rw [en]; exact List.mem_cons_self, by simp [List.lookup_cons, hx], ?_⟩
      by_cases hc : (k == NameKind.free && env.scope.kind == .function && env.kindOf n == some .cell) = true
      · rw [if_pos hc, List.lookup_cons, hx] at h
        have hk : k = .free := by
          have := (Bool.and_eq_true_iff.mp (Bool.and_eq_true_iff.mp hc).1).1
          simpa using this
        exact .inr ⟨hk, by cases h; rfl⟩
      · rw [if_neg hc, List.lookup_cons, hx] at h
        exact .inl (by cases h; rfl)
    | false =>
      have h' : (r.map (rlOf env)).lookup x = some k' := by
        by_cases hc : (k == NameKind.free && env.scope.kind == .function && env.kindOf n == some .cell) = true
        · rw [if_pos hc, List.lookup_cons, hx] at h; exact h
        · rw [if_neg hc, List.lookup_cons, hx] at h; exact h
      obtain ⟨k, h1, h2, h3⟩ := ih h'
      exact ⟨k, List.mem_cons_of_mem _ h1, by rw [List.lookup_cons, hx]; exact h2, h3⟩
theorem rl_has {env : Env} : ∀ {names : List (Str × NameKind)} {x : Str} {k : NameKind}, names.lookup x = some k → ∃ k', (names.map (rlOf env)).lookup x = some k'
  | [], _, _, h => by simp at h
  | (n, k0) :: r, x, k, h => by
    have ih := @rl_has env r x k
    rw [List.map_cons]
    have e1 : (rlOf env (n, k0)).1 = n := by unfold rlOf; split <;> rfl
    have e0 : rlOf env (n, k0) = (n, (rlOf env (n, k0)).2) := by rw [Prod.ext_iff]; exact ⟨e1, rfl⟩
    rw [e0, List.lookup_cons]
    cases hx : x == n with
    | true => exact ⟨_, rfl⟩
    | false =>
      rw [List.lookup_cons, hx] at h
      exact ih h

noncomputable def cmpX (X : Cx) (nv : List Str) (ix : List (Str × Nat)) (scope : Scope) (C : Addr) (s₀ : Shared) (H₀ : Hp) (fp : List Addr) : Cx :=
  { X with N := nv ++ ix.map (·.1), s₀ := s₀, H₀ := H₀, env := compEnvC scope (clsOf X.env scope.names []) C X.env, outer := X.stack, stack := X.stack, ex := fp, fn := fun _ => false, pn := [], xe := fun _ _ => False }
noncomputable def frV (σ : St) (ix : List (Str × Nat)) : St := ix.map fun p => (σ[p.2]?).join
noncomputable def st0 (nv : List Str) (ix : List (Str × Nat)) (σ : St) : St := nv.map (fun _ => none) ++ frV σ ix
structure CompOk (X : Cx) (nv : List Str) (ix : List (Str × Nat)) (scope : Scope) : Prop where
  kind : scope.kind = .function
  nocell : ∀ y ∈ scope.names, y.2 ≠ .cell
  names : ∀ y ∈ scope.names, y.2 = .local → scope.names.lookup y.1 = some .local
  free : (scope.names.all fun y => !(y.2 == NameKind.free) || (X.env.kindOf y.1 == some NameKind.cell || X.env.kindOf y.1 == some NameKind.free)) = true
  ix : (ix.all fun p => (scope.names.lookup p.1 == some NameKind.free) && (X.N[p.2]? == some p.1)) = true
section
variable {X : Cx} {nv : List Str} {ix : List (Str × Nat)} {scope : Scope} {pins : List (Addr × Obj)} {σ : St} {H : Hp} {s : Shared}
theorem CompOk.fk (co : CompOk X nv ix scope) {y : Str × NameKind} (hy : y ∈ scope.names) (hf : y.2 = .free) : X.env.kindOf y.1 = some .cell ∨ X.env.kindOf y.1 = some .free := by
  have q := List.all_eq_true.mp co.free y hy
  rw [hf] at q
  simpa using q
theorem CompOk.cells (co : CompOk X nv ix scope) (ok : X.Ok) : ∀ y ∈ scope.names, y.2 = .free → ∃ c, X.env.cells.lookup y.1 = some c := fun y hy hf => ok.has y.1 (co.fk hy hf)
theorem CompOk.look (co : CompOk X nv ix scope) (ok : X.Ok) {n : Str} {c : Addr} (h : (clsOf X.env scope.names []).lookup n = some c) : X.env.cells.lookup n = some c :=
  clsOf_look _ _ (co.cells ok) (fun _ _ e => by cases e) n c h
theorem CompOk.ixp (co : CompOk X nv ix scope) {p : Str × Nat} (hp : p ∈ ix) : scope.names.lookup p.1 = some .free ∧ X.N[p.2]? = some p.1 := by
  have q := Bool.and_eq_true_iff.mp (List.all_eq_true.mp co.ix p hp)
  exact ⟨by simpa using q.1, by simpa using q.2⟩
theorem lookup_mem {α : Type} : ∀ {l : List (Str × α)} {n : Str} {k : α}, l.lookup n = some k → (n, k) ∈ l
  | [], _, _, h => by cases h
  | (m, j) :: r, n, k, h => by
    rw [List.lookup_cons] at h
    cases e : n == m with
    | true => rw [e] at h; cases h; have : n = m := by simpa using e
              rw [this]; exact List.mem_cons_self
    | false => rw [e] at h; exact List.mem_cons_of_mem _ (lookup_mem h)
theorem cmpX_ok (co : CompOk X nv ix scope) (I : Inv X pins σ H s) {fp : List Addr} {C : Addr} (hC : s.heap.objs.size ≤ C) (hf : ∀ b ∈ fp, FpOk X pins H b) (hlt : ∀ b ∈ fp, b < s.heap.objs.size) : (cmpX X nv ix scope C s H fp).Ok where
  mod := I.mod
  kind := co.kind
  glob := I.ok.glob
  blt := I.ok.blt
  above := hC
  inj := fun x y c a b => I.ok.inj x y c (co.look I.ok a) (co.look I.ok b)
  has := fun x hk => by
    have z : ∃ k, (x, k) ∈ scope.names ∧ k = .free := by
      rcases hk with hk | hk
      · obtain ⟨k, h1, _, h3⟩ := rl_look (env := X.env) (names := scope.names) hk
        rcases h3 with h3 | ⟨h3, _⟩
        · exact absurd h3.symm (co.nocell _ h1)
        · exact ⟨k, h1, h3⟩
      · obtain ⟨k, h1, _, h3⟩ := rl_look (env := X.env) (names := scope.names) hk
        rcases h3 with h3 | ⟨_, h3⟩
        · exact ⟨k, h1, h3.symm⟩
        · cases h3
    obtain ⟨k, h1, rfl⟩ := z
    exact clsOf_has _ _ x (.inl h1)
  cab := fun x c h _ => by cases h
  hd := I.ok.hd
  frames := I.ok.frames
  stk := .inl rfl
  exf := fun b hb => ⟨Nat.ne_of_lt (Nat.lt_of_lt_of_le (hlt b hb) hC), fun x c e => (hf b hb).2.2.2.2.1 x c (co.look I.ok e)⟩
  bs := fun b o e => I.bs b o e
  bsz := Nat.le_trans I.ok.bsz I.sz
  noex := fun b o e hb => by
    rcases (hf b hb).2.2.2.1 with z | z
    · exact I.ok.noex b o e z
    · exact absurd (Nat.lt_of_lt_of_le (Heap.lt_size e) (Nat.le_trans I.ok.bsz z)) (Nat.lt_irrefl _)
  exfs := fun b hb hs => by
    rcases List.mem_cons.mp (I.stkSub b hs) with e | h
    · exact (hf b hb).2.1 e
    · exact (hf b hb).2.2.1 h
  funs := I.stack
  frf := I.stkFree
noncomputable abbrev lobj (its : List Value) (k : Nat) : Obj := { cls := .type "list", data := .seq its.toArray k }
theorem join_some {o : Option (Option V)} {v : V} (h : o.join = some v) : o = some (some v) := by
  cases o with
  | none => cases h
  | some o' => exact congrArg some h
theorem cmp_start (co : CompOk X nv ix scope) (I : Inv X pins σ H s) {fp : List Addr} {h₁ : Heap} {tk : Nat} {m : Str → Option Value} (hf : ∀ b ∈ fp, FpOk X pins H b) (hlt : ∀ b ∈ fp, b < s.heap.objs.size)
    (hn : h₁.Ns (s.heap.objs.size + 1) m) (old : ∀ b o, s.heap.get? b = some o → h₁.get? b = some o) (hD : h₁.get? s.heap.objs.size = some (lobj [] 0)) :
    Inv (cmpX X nv ix scope (s.heap.objs.size + 1) s H fp) [(s.heap.objs.size, lobj [] 0)] (st0 nv ix σ) H { s with heap := h₁, toks := tk } where
  ok := cmpX_ok co I (Nat.le_succ _) hf hlt
  os := rfl
  bare := I.bare
  base := Un.kept old
  loc := by
    refine ⟨m, hn, fun i x v e1 e2 hv => ?_⟩
    obtain ⟨m₀, _, hl⟩ := I.loc
    have e1' : (nv ++ ix.map (·.1))[i]? = some x := e1
    unfold st0 at e2
    by_cases hi : i < nv.length
    · rw [List.getElem?_append_left (by rw [List.length_map]; exact hi), List.getElem?_map] at e2
      cases q : nv[i]? with
      | none => rw [q] at e2; cases e2
      | some z => rw [q] at e2; cases e2
    · have hi' : nv.length ≤ i := Nat.not_lt.mp hi
      rw [List.getElem?_append_right hi', List.getElem?_map] at e1'
      rw [List.getElem?_append_right (by rw [List.length_map]; exact hi'), List.length_map] at e2
      unfold frV at e2
      rw [List.getElem?_map] at e2
      cases q : ix[i - nv.length]? with
      | none => rw [q] at e1'; cases e1'
      | some p =>
        rw [q] at e1' e2
        have hp : p ∈ ix := List.mem_of_getElem? q
        have ex : p.1 = x := Option.some.inj e1'
        have ev : σ[p.2]? = some (some v) := join_some (Option.some.inj e2)
        obtain ⟨f1, f2⟩ := co.ixp hp
        have hk := co.fk (lookup_mem f1) rfl
        obtain ⟨u, r, l⟩ := hl p.2 p.1 v f2 ev (hk.elim (fun z => .inr (.inl z)) fun z => .inr (.inr z))
        refine ⟨u, r, .inr ⟨?_, ?_⟩⟩
        · obtain ⟨k', hk'⟩ := rl_has (env := X.env) f1
          obtain ⟨k, h1, h2, h3⟩ := rl_look hk'
          rw [f1] at h2
          cases h2
          rw [← ex]
          rcases h3 with h3 | ⟨_, h3⟩
          · exact .inr (hk'.trans (congrArg some h3))
          · exact .inl (hk'.trans (congrArg some h3))
        · obtain ⟨c, hc⟩ := clsOf_has (env := X.env) scope.names [] p.1 (.inl (lookup_mem f1))
          refine ⟨c, by rw [← ex]; exact hc, ?_⟩
          have hc' := co.look I.ok hc
          rcases l with ⟨z, _⟩ | ⟨_, c', z1, o, z2, z3⟩
          · have z' : X.env.kindOf p.1 = some .local := z
            rcases hk with hk | hk
            · have hk' : X.env.kindOf p.1 = some .cell := hk
              rw [z'] at hk'; cases hk'
            · have hk' : X.env.kindOf p.1 = some .free := hk
              rw [z'] at hk'; cases hk'
          · rw [hc'] at z1
            cases z1
            exact ⟨o, old _ _ z2, z3⟩
  cell := fun x c e => by
    obtain ⟨v, o, h1, h2⟩ := I.cell x c (co.look I.ok e)
    exact ⟨v, o, old _ _ h1, h2⟩
  free := I.hok.fresh (Nat.le_succ _)
  freeC := fun x c e => I.freeC x c (co.look I.ok e)
  pin := fun p hp => by
    have e : p = (s.heap.objs.size, lobj [] 0) := by simpa [cmpX] using hp
    subst e
    refine ⟨hD, I.hok.fresh (Nat.le_refl _), Nat.ne_of_lt (Nat.lt_succ_self _), fun hb => ?_, fun v z => by cases z⟩
    rcases List.mem_cons.mp (I.stkSub _ hb) with e | h
    · exact absurd I.lt (by rw [← e]; exact Nat.lt_irrefl _)
    · exact I.nofs (Nat.le_refl _) h
  hok := I.hok.kept old
  len := by
    show (nv.map (fun _ => none) ++ frV σ ix).length = (nv ++ ix.map (·.1)).length
    unfold frV
    simp
theorem Inv.track {D : Addr} {ys its : List _} {k : Nat} (I : Inv X pins σ H s) (rv : Vals ys its) (hz : ys.length ≤ sizeLine) (e : s.heap.get? D = some (lobj its k)) (hn : H D = none) (hd : FpOk X pins H D) : Inv X pins σ (upd H D (.lst ys)) s := by
  have nD : ∀ b u, H b = some u → b ≠ D := fun b u q z => by rw [z, hn] at q; cases q
  obtain ⟨h1, h2, h3, h4, h5, h6⟩ := hd
  refine I.step (s := s) (h' := s.heap) (g' := s.gens) (t' := s.toks) (d' := s.drawn) (ch := [D]) (fun b hb => ?_) (fun b o _ _ _ q _ => q) (fun b o _ _ _ q _ => ⟨o.slots, q⟩) (fun b o hb _ q => ?_) (fun b o _ q => ⟨o, q⟩)
    (fun b xs q => by rw [upd_ne (nD b _ q)]; exact q) (fun b o u q => by rw [upd_ne (nD b _ q)]; exact q) (fun b ps q => ⟨#[], by rw [upd_ne (nD b _ q), q]; simp⟩) (fun m hm => hm) (fun b u q => ?_) I.bare
  · have e : b = D := by simpa using hb
    subst e
    exact ⟨h4, h2, h5, h6⟩
  · rw [upd_ne (fun z => hb (by simp [z]))]; exact q
  · by_cases hb : b = D
    · subst hb
      rw [upd_same] at q
      cases q
      exact ⟨hz, its, k, rv, e⟩
    · rw [upd_ne hb] at q
      exact (I.hok b u q).stay (fun c v _ r => r) (fun c r => by rw [upd_ne (nD c _ r)]; exact r) fun c xs r => by rw [upd_ne (nD c _ r)]; exact r
theorem cmp_end {ps2 : List (Addr × Obj)} {σ2 : St} {H' : Hp} {s' : Shared} {fp : List Addr} {C : Addr} (I : Inv X pins σ H s) (hf : ∀ b ∈ fp, FpOk X pins H b) (Ic : Inv (cmpX X nv ix scope C s H fp) ps2 σ2 H' s') : Inv X pins σ H' s' :=
  I.call' (ch := fp) Ic.os Ic.base Ic.hok Ic.bare fun b hb => ⟨(hf b hb).2.2.2.1, (hf b hb).2.1, (hf b hb).2.2.2.2.1, (hf b hb).2.2.2.2.2⟩

noncomputable def PIf (X : Cx) (ifs : List Expr) (t : TT) : Prop :=
  ∀ (pins : List (Addr × Obj)) (s : Shared) (σ : St) (H : Hp) (Q : Bool → Hp → Prop), Inv X pins σ H s → t σ H Q →
    wpAny (model X.prog X.w) X.A (forIn ifs true fun c r => if r = true then do let ok ← isTrue c X.env (eval c X.env); pure (ForInStep.yield ok) else pure (ForInStep.yield r)) (TP X pins σ Q) X.xe s
@[irreducible] noncomputable def ZIf (X : Cx) (ifs : List Expr) (t : TT) : Prop := PIf X ifs t
noncomputable def tYes : TT := fun _ H Q => Q true H
theorem pif_nil : PIf X [] tYes := fun _ _ _ H _ I h => wpAny_tests_nil ⟨H, I, h⟩
theorem zif_nil : ZIf X [] tYes := by with_unfolding_all exact pif_nil 
theorem pif_one {c : Expr} {t : TT} (h : PT X c t) : PIf X [c] t := fun pins s σ H Q I q => wpAny_tests_one (h pins s σ H Q I q)
theorem zif_one {c : Expr} {t : TT} (h : ZT X c t) : ZIf X [c] t := by with_unfolding_all exact pif_one h
end
section
variable {prog : Program} {w : World} {A : Around} {E : Value → Shared → Prop} {R : Result → Shared → Prop} {s : Shared}
theorem compLoop_go {elt target iter : Expr} {ifs : List Expr} {scope : Scope} {pos : Pos} {it acc : Value} {env : Env} (I : Nat → Shared → Prop)
    (turn : ∀ n s, I n s → wpAny (model prog w) A (pyNext it) (fun r s₁ => match r with
      | none => R (.ok .next) s₁
      | some v => wpAny (model prog w) A (letOwnedTupleGo target it v) (fun _ s₁' => wpAny (model prog w) A (assign target env v) (fun _ s₂ =>
          wpAny (model prog w) A (forIn ifs true fun c r => if r = true then do let ok ← isTrue c env (eval c env); pure (ForInStep.yield ok) else pure (ForInStep.yield r)) (fun ok s₃ =>
            if ok = true then wpAny (model prog w) A (eval elt env) (fun x s₄ =>
              wpAny (model prog w) A (call (.builtin "list.append") [acc, x]) (fun _ s₅ => ∃ m, m < n ∧ I m s₅) (fun _ _ => False) s₄) (fun _ _ => False) s₃
            else ∃ m, m < n ∧ I m s₃) (fun _ _ => False) s₂) (fun _ _ => False) s₁') (fun _ _ => False) s₁) (fun _ _ => False) s)
    (n : Nat) (h : I n s) :
    codeAny (model prog w) A (.compLoop (.ListComp elt [⟨target, iter, ifs, 0⟩] scope pos) 0 it acc env) R s := by
  refine codeAny_loop rfl I (fun n s hI => ?_) n h
  show wpAny _ A ((compTurn (.ListComp elt [⟨target, iter, ifs, 0⟩] scope pos) 0 it acc env).onRaise (fun x => do noteFrame x env; theTreesLotGoes x)) _ _ s
  refine wpAny_noted ?_
  rw [compTurn_list]
  refine wpAny_bind (wpAny_standAt (wpAny_bind (wpAny_mono (turn n s hI) (fun r s₁ h₁ => ?_) fun _ _ h' => h'.elim)))
  cases r with
  | none => exact wpAny_pure h₁
  | some v =>
    refine wpAny_bind (wpAny_mono h₁ (fun _ s₁' h₁' => ?_) fun _ _ h' => h'.elim)
    refine wpAny_bind (wpAny_mono h₁' (fun _ s₂ h₂ => wpAny_bind (wpAny_mono h₂ (fun ok s₃ h₃ => ?_) fun _ _ h' => h'.elim)) fun _ _ h' => h'.elim)
    cases ok with
    | false => exact wpAny_pure ⟨rfl, h₃⟩
    | true =>
      exact wpAny_bind (wpAny_bind (wpAny_mono h₃ (fun x s₄ h₄ => wpAny_bind (wpAny_mono h₄ (fun _ s₅ h₅ => wpAny_pure (wpAny_pure ⟨rfl, h₅⟩)) fun _ _ h' => h'.elim)) fun _ _ h' => h'.elim))
end
section
variable {X : Cx} {nv : List Str} {ix : List (Str × Nat)} {scope : Scope} {pins : List (Addr × Obj)} {σ : St} {H : Hp} {s : Shared} {elt tg iter : Expr} {ifs : List Expr} {pos : Pos}
noncomputable def Kp (σ σ2 : St) : Prop := σ.length = σ2.length ∧ ∀ (i : Nat) v, σ[i]? = some (some v) → σ2[i]? = some (some v)
noncomputable def KpG (nv : List Str) (g : TG) : Prop := ∀ (fr : St) (v : V) (H : Hp) (Q : St → Hp → Prop), g v (nv.map (fun _ => none) ++ fr) H Q → g v (nv.map (fun _ => none) ++ fr) H fun σ2 H2 => Kp (nv.map (fun _ => none) ++ fr) σ2 ∧ Q σ2 H2
theorem kpg_name {x : Str} : KpG [x] (gName 0) := fun fr v H Q h => by
  refine ⟨⟨by simp, fun i w e => ?_⟩, h⟩
  cases i with
  | zero => cases e
  | succ i => exact e
noncomputable def CmpW (nv : List Str) (ix : List (Str × Nat)) (g : TG) (ti : TT) (te : TE) (σ : St) (J : It) (Fin : List V → Hp → Prop) (H1 : Hp) : Prop :=
  ∃ W : Nat → Nat → List V → Hp → Prop, (∃ m, W 0 m [] H1) ∧ ∀ i m ys H, W i m ys H →
    (J.stop i H ∧ Fin ys H) ∨ (J.go i H ∧ ys.length < sizeLine ∧ ∃ N : List V → Hp → Prop, (∀ ys' H', N ys' H' → ∃ m', m' < m ∧ W (i + 1) m' ys' H') ∧
      ∀ x H', J.yld i H x H' → g x (st0 nv ix σ) H' fun σ2 H2 => ti σ2 H2 fun b H3 => if b = true then te σ2 H3 fun y H4 => N (ys ++ [y]) H4 else N ys H3)
theorem comp_run {J : It} {fp : List Addr} {it : Addr} {tn : Nat → Heap → Prop} {g : TG} {ti : TT} {te : TE} {Fin : List V → Hp → Prop} {E : Value → Shared → Prop} {RR : Value → Addr → Result → Shared → Prop}
    (co : CompOk X nv ix scope) (hc : X.calm = true) (I : Inv X pins σ H s) (T : Turn X.prog X.w X.K tg J fp it tn) (st : tn 0 s.heap) (hf : ∀ b ∈ fp, FpOk X pins H b)
    (kg : KpG nv g) (hg : ∀ C s₀ H₀ fp, PG (cmpX X nv ix scope C s₀ H₀ fp) tg g) (hi : ∀ C s₀ H₀ fp, PIf (cmpX X nv ix scope C s₀ H₀ fp) ifs ti) (he : ∀ C s₀ H₀ fp, PE (cmpX X nv ix scope C s₀ H₀ fp) elt te)
    (q : CmpW nv ix g ti te σ J Fin H)
    (fin : ∀ D C s' H' ys, Inv X pins σ (upd H' D (.lst ys)) s' → H' D = none → Fin ys H' → (∃ m, s'.heap.Ns C m) → FpOk X pins (upd H' D (.lst ys)) C → RR (.ref D) C (.ok .next) s') :
    wpAny (model X.prog X.w) X.A (newList []) (fun acc s₃ => wpAny (model X.prog X.w) X.A (newFunctionEnv scope X.env.globals (clsOf X.env scope.names []) [] X.env.qual none .none (some X.env)) (fun cenv s₄ =>
      codeAny (model X.prog X.w) X.A (.compStart (.ListComp elt [⟨tg, iter, ifs, 0⟩] scope pos) 0 (.ref it) acc { cenv with scope := relabel scope X.env }) (RR acc cenv.locals) s₄) E s₃) E s := by
  obtain ⟨W, ⟨m0, w0⟩, turn⟩ := q
  refine wpAny_newObj_type (wpAny_newFunctionEnv co.nocell (by intro y hy; simp at hy) (fun h₁ hns₁ hsb₁ => ?_) co.kind)
  dsimp only at hns₁ hsb₁ ⊢
  generalize hH2 : s.heap.push { cls := .type "list", dict := none, data := .seq ([] : List Value).toArray } = H2 at hns₁ hsb₁ ⊢
  have hC : H2.objs.size = s.heap.objs.size + 1 := by rw [← hH2, Heap.size_push]
  rw [hC] at hns₁ hsb₁ ⊢
  have hDC : s.heap.objs.size ≠ s.heap.objs.size + 1 := Nat.ne_of_lt (Nat.lt_succ_self _)
  have below : ∀ b, b < s.heap.objs.size → b ≠ s.heap.objs.size + 1 ∧ b ≠ s.heap.objs.size := fun b hb => ⟨Nat.ne_of_lt (Nat.lt_succ_of_lt hb), Nat.ne_of_lt hb⟩
  have old : ∀ b o, s.heap.get? b = some o → h₁.get? b = some o := fun b o e => hsb₁.extBut b o (below b (Heap.lt_size e)).1 (Heap.get?_push_of_some _ (hH2 ▸ Heap.get?_push_of_some _ e))
  have hacc : h₁.get? s.heap.objs.size = some (lobj [] 0) := hsb₁.extBut _ _ hDC (Heap.get?_push_of_some _ (hH2 ▸ Heap.get?_push_size _ rfl))
  have hlt : ∀ b ∈ fp, b < s.heap.objs.size := fun b hb => by
    obtain ⟨o, e, _⟩ := T.obj 0 _ st b hb
    exact Heap.lt_size e
  have I₁ := fun tk => cmp_start (tk := tk) co I hf hlt hns₁ old hacc
  have st₁ : tn 0 h₁ := T.keep 0 _ _ st fun b _ o e => old b o e
  have fpD : ∀ {H' : Hp}, H' s.heap.objs.size = none → FpOk X pins H' s.heap.objs.size := fun hn => I.fpOk (Nat.le_refl _) hn
  have loop : ∀ tk : Nat, codeAny (model X.prog X.w) X.A (.compLoop (.ListComp elt [⟨tg, iter, ifs, 0⟩] scope pos) 0 (.ref it) (.ref s.heap.objs.size) (compEnvC scope (clsOf X.env scope.names []) (s.heap.objs.size + 1) X.env))
      (RR (.ref s.heap.objs.size) (s.heap.objs.size + 1)) { s with heap := h₁, toks := tk } := by
    intro tk
    refine compLoop_go (fun n s' => ∃ i H' ys its k, Inv (cmpX X nv ix scope (s.heap.objs.size + 1) s H fp) [(s.heap.objs.size, lobj its k)] (st0 nv ix σ) H' s' ∧ Vals ys its ∧ ys.length ≤ sizeLine ∧ tn i s'.heap ∧ (∀ b ∈ fp, H' b = none) ∧ W i n ys H')
      ?_ m0 ⟨0, H, [], [], 0, I₁ tk, .nil, Nat.zero_le _, st₁, fun b hb => (hf b hb).1, w0⟩
    rintro n s3 ⟨i, H3, ys, its, k, I3, rv, hz, st3, fr3, w3⟩
    have fpc : ∀ {H' : Hp} {its : List Value} {k : Nat}, (∀ b ∈ fp, H' b = none) → ∀ b ∈ fp, FpOk (cmpX X nv ix scope (s.heap.objs.size + 1) s H fp) [(s.heap.objs.size, lobj its k)] H' b := fun {H' its k} hn b hb => by
      refine ⟨hn b hb, (below b (hlt b hb)).1, fun hs => ?_, .inl hb, fun x c e => (hf b hb).2.2.2.2.1 x c (co.look I.ok e), fun p hp z => ?_⟩
      · rcases List.mem_cons.mp (I.stkSub b hs) with e | h
        · exact (hf b hb).2.1 e
        · exact (hf b hb).2.2.1 h
      · have e : p = (s.heap.objs.size, lobj its k) := by simpa [cmpX] using hp
        subst e
        exact (below b (hlt b hb)).2 z.symm
    have pD := fun {ps : List (Addr × Obj)} {σ' : St} {H' : Hp} {s' : Shared} (I' : Inv (cmpX X nv ix scope (s.heap.objs.size + 1) s H fp) ((s.heap.objs.size, lobj its k) :: ps) σ' H' s') =>
      I'.pin (s.heap.objs.size, lobj its k) (List.mem_append_right _ List.mem_cons_self)
    rcases turn i n ys H3 w3 with ⟨stop, fin0⟩ | ⟨go, hlt', N, hN, step⟩
    · refine thn (T.done (cmpX X nv ix scope (s.heap.objs.size + 1) s H fp) rfl rfl rfl hc i _ s3 _ H3 _ I3 (fpc fr3) st3 stop) fun r s4 ⟨hr, I4⟩ => ?_
      subst hr
      obtain ⟨p1, p2, _⟩ := pD I4
      have I5 := (cmp_end I hf I4).track rv hz p1 p2 (fpD p2)
      obtain ⟨mC, hmC, _⟩ := I4.loc
      exact fin _ _ s4 H3 ys I5 p2 fin0 ⟨mC, hmC⟩ (I.fpOk (Nat.le_succ _) (by rw [upd_ne (Ne.symm hDC)]; exact I4.free))
    · refine thn (T.item (cmpX X nv ix scope (s.heap.objs.size + 1) s H fp) rfl rfl rfl hc i _ s3 _ H3 _ I3 (fpc fr3) st3 go) fun r s4 ⟨u, hr, h4⟩ => ?_
      subst hr
      refine thn h4 fun _ s5 ⟨x, H5, I5, r5, y5, st5, fr5⟩ => ?_
      have I5' := I5.pinned (fpc fr5) (T.obj _ _ st5)
      refine thn (hg _ _ _ _ _ s5 _ H5 x u _ I5' r5 (kg _ _ _ _ (step x H5 y5))) fun _ s6 ⟨σ6, H6, I6, kp, q6⟩ => ?_
      refine thn (hi _ _ _ _ _ s6 σ6 H6 _ I6 q6) fun b s7 ⟨H7, I7, q7⟩ => ?_
      have again : ∀ {s7 : Shared} {H7 : Hp} {ys' its' : List _} {k' : Nat}, Inv (cmpX X nv ix scope (s.heap.objs.size + 1) s H fp) ([(s.heap.objs.size, lobj its' k')] ++ pinsAt fp s5.heap) σ6 H7 s7 → Vals ys' its' → ys'.length ≤ sizeLine → N ys' H7 →
          ∃ m, m < n ∧ ∃ i H' ys its k, Inv (cmpX X nv ix scope (s.heap.objs.size + 1) s H fp) [(s.heap.objs.size, lobj its k)] (st0 nv ix σ) H' s7 ∧ Vals ys its ∧ ys.length ≤ sizeLine ∧ tn i s7.heap ∧ (∀ b ∈ fp, H' b = none) ∧ W i m ys H' := fun {s7 H7 ys' its' k'} I8 rv' hz' n8 => by
        obtain ⟨m', hm, w8⟩ := hN _ _ n8
        have pn := fun (b : Addr) (o : Obj) (hb : b ∈ fp) (e : s5.heap.get? b = some o) => I8.pin (b, o) (List.mem_append_right _ (List.mem_append_right _ (mem_pinsAt hb e)))
        refine ⟨m', hm, i + 1, H7, ys', its', k', (I8.unpinned).weak kp.1 kp.2, rv', hz', T.keep _ _ _ st5 fun b hb o e => (pn b o hb e).1, fun b hb => ?_, w8⟩
        obtain ⟨o, e, d⟩ := T.obj _ _ st5 b hb
        exact (pn b o hb e).2.1
      cases b with
      | false =>
        rw [if_neg Bool.false_ne_true] at q7 ⊢
        exact again I7 rv hz q7
      | true =>
        rw [if_pos rfl] at q7 ⊢
        refine thn (he _ _ _ _ _ s7 σ6 H7 _ I7 q7) fun u8 s8 ⟨y, H8, I8, r8, q8⟩ => ?_
        obtain ⟨p1, p2, p3, p4, p5⟩ := pD I8
        refine append_at (hsz := by rw [List.size_toArray, ← rv.length]; exact Nat.le_of_lt hlt') p1 fun h9 hs9 hD9 => ?_
        have I9 : Inv (cmpX X nv ix scope (s.heap.objs.size + 1) s H fp) (pinsAt fp s5.heap) σ6 H8 { s8 with heap := h9 } := by
          have Iu : Inv (cmpX X nv ix scope (s.heap.objs.size + 1) s H fp) (pinsAt fp s5.heap) σ6 H8 s8 := I8.pins_of fun p hp => I8.pin p (List.mem_append_right _ (List.mem_append_right _ hp))
          refine Iu.turned (t' := s8.toks) (it := s.heap.objs.size) (fun b o hb e => (hs9.2 b hb).trans e) p2 p3 (.inr (Nat.le_refl _)) (fun x c e z => ?_) fun p hp z => ?_
          · obtain ⟨v, o, e1, _⟩ := I.cell x c (co.look I.ok e)
            exact absurd (Heap.lt_size e1) (by rw [z]; exact Nat.lt_irrefl _)
          · have hp' : p ∈ pinsAt fp s5.heap := by simpa [cmpX] using hp
            obtain ⟨hb, _⟩ := of_pinsAt hp'
            exact (below _ (hlt _ hb)).2 z
        have I10 : Inv (cmpX X nv ix scope (s.heap.objs.size + 1) s H fp) ([(s.heap.objs.size, lobj (its ++ [u8]) (k + 1))] ++ pinsAt fp s5.heap) σ6 H8 { s8 with heap := h9 } :=
          I9.pins_of fun p hp => by
            rcases List.mem_append.mp hp with hp | hp
            · have e : p = (s.heap.objs.size, lobj (its ++ [u8]) (k + 1)) := by simpa using hp
              subst e
              refine ⟨?_, p2, p3, p4, fun v z => by cases z⟩
              rw [List.push_toArray] at hD9
              exact hD9
            · exact I9.pin p (List.mem_append_right _ hp)
        exact again I10 (rv.append (.cons r8 .nil)) (by rw [List.length_append, List.length_singleton]; exact hlt') q8
  exact codeAny_compStart_list (loop _) (T.self _ 0 _ _ _ st₁ (loop _))

noncomputable def tComp (nv : List Str) (ix : List (Str × Nat)) (wi : TI) (g : TG) (ti : TT) (te : TE) : TE := fun σ H Q => wi σ H fun J H1 => CmpW nv ix g ti te σ J (fun ys H2 => ∀ D, H2 D = none → Q (.ref D) (upd H2 D (.lst ys))) H1
theorem pe_comp {wi : TI} {g : TG} {ti : TT} {te : TE} (nv : List Str) (ix : List (Str × Nat)) (hc : X.calm = true) (co : CompOk X nv ix scope) (hit : PI X tg iter wi) (kg : KpG nv g) (hg : ∀ C s₀ H₀ fp, PG (cmpX X nv ix scope C s₀ H₀ fp) tg g)
    (hi : ∀ C s₀ H₀ fp, PIf (cmpX X nv ix scope C s₀ H₀ fp) ifs ti) (he : ∀ C s₀ H₀ fp, PE (cmpX X nv ix scope C s₀ H₀ fp) elt te)
    (hs : ∀ x, foldedSetIterable iter X.env x = pure x := by intro _; rfl) : PE X (.ListComp elt [⟨tg, iter, ifs, 0⟩] scope pos) (tComp nv ix wi g ti te) := by
  intro pins s σ H Q I h
  rw [eval_ListComp]
  refine wpAny_comprehension_free (use := none) rfl hs (closure_ok (co.cells I.ok)) co.kind co.names (thn (hit pins s σ H _ I h) fun v s1 h1 => thn h1 fun itv s2 h2 => ?_)
  obtain ⟨it, fp, tn, J, H2, e, I2, T, st2, f2, q⟩ := h2
  subst e
  refine comp_run co hc I2 T st2 f2 kg hg hi he q fun D C s' H' ys I' hD fin ⟨m, hm⟩ hC => ?_
  obtain ⟨c0, c1, c2, c3, c4, c5⟩ := hC
  exact ⟨m, hm, fun h' hs' => ⟨.ref D, _, I'.turned (t' := s'.toks) (fun b o hb e => (hs'.2 b hb).trans e) c0 c1 c3 c4 c5, rfl, fin D hD⟩⟩
theorem ze_comp {wi : TI} {g : TG} {ti : TT} {te : TE} (nv : List Str) (ix : List (Str × Nat)) (hc : X.calm = true) (co : CompOk X nv ix scope) (hit : ZI X tg iter wi) (kg : KpG nv g) (hg : ∀ C s₀ H₀ fp, ZG (cmpX X nv ix scope C s₀ H₀ fp) tg g)
    (hi : ∀ C s₀ H₀ fp, ZIf (cmpX X nv ix scope C s₀ H₀ fp) ifs ti) (he : ∀ C s₀ H₀ fp, ZE (cmpX X nv ix scope C s₀ H₀ fp) elt te)
    (hs : ∀ x, foldedSetIterable iter X.env x = pure x := by intro _; rfl) : ZE X (.ListComp elt [⟨tg, iter, ifs, 0⟩] scope pos) (tComp nv ix wi g ti te) := by with_unfolding_all exact pe_comp nv ix hc co hit kg hg hi he hs
end
section
variable {nv : List Str} {ix : List (Str × Nat)} {σ : St} {H : Hp} {g : TG} {ti : TT} {te : TE} {Fin : List V → Hp → Prop} {K : PySem.W.Frag} {a : Addr} {xs : List V}
theorem cmp_range {lo : Int} {n : Nat} (Pv : Nat → List V → Hp → Prop) (h0 : Pv 0 [] H)
    (hs : ∀ i ys H, i < n → Pv i ys H → ys.length < sizeLine ∧ g (.int (lo + i)) (st0 nv ix σ) H fun σ2 H2 => ti σ2 H2 fun b H3 => if b = true then te σ2 H3 fun y H4 => Pv (i + 1) (ys ++ [y]) H4 else Pv (i + 1) ys H3)
    (hd : ∀ ys H, Pv n ys H → Fin ys H) : CmpW nv ix g ti te σ (Itr lo n) Fin H := by
  refine ⟨fun i m ys H => m = n - i ∧ i ≤ n ∧ Pv i ys H, ⟨n, by simp, Nat.zero_le _, h0⟩, ?_⟩
  rintro i m ys H ⟨rfl, hi, p⟩
  by_cases hlt : i < n
  · refine .inr ⟨hlt, (hs i ys H hlt p).1, Pv (i + 1), fun σ' H' p' => ⟨n - (i + 1), by omega, rfl, hlt, p'⟩, fun x H' y => ?_⟩
    obtain ⟨e', y⟩ := y
    subst e' y
    exact (hs i ys _ hlt p).2
  · have e : i = n := by omega
    subst e
    exact .inl ⟨Nat.le_refl _, hd ys H p⟩
end
end L2
set_option Elab.async false
set_option linter.all false
set_option maxRecDepth 100000
set_option maxHeartbeats 4000000
namespace L2
open PySem PySem.Spec PyProof.Rows
theorem Same.new {H : Hp} {p : Addr} (h : H p = none) (o : HO) : Same H (upd H p o) := fun b u q => by rw [upd_ne (ne_of_none q h)]; exact q

section
variable {X : Cx} {a b c : Expr} {ta tb tc : TE} {pos : Pos}
theorem op_mulB : OpR X (binaryOp .Mult) (rI (fun i j => IntMulOk i j) fun i j => .int (i * j)) := opI fun _ _ _ _ _ _ _ hc q => mul_int q hc

noncomputable def RvR (X : Cx) (r : V → Hp → VK → Prop) : Prop :=
  ∀ (pins : List (Addr × Obj)) (s : Shared) (σ : St) (H : Hp) (x : V) (v vk : Value) (sl : Addr) (Q : VK), Inv X pins σ H s → RelV x v → s.heap.IsSliceOf sl .none .none vk → IsPart vk (some (-1)) → r x H Q →
    ∃ T id, typeLookup (.type T) "__getitem__" = pure (some (.builtin id)) ∧ s.TypeIs v T ∧ wpAny (model X.prog X.w) X.A (getItem v (.ref sl)) (EP X pins σ Q) X.xe s
noncomputable def tRv (r : V → Hp → VK → Prop) (te : TE) : TE := fun σ H Q => te σ H fun x H1 => r x H1 Q
theorem pe_rev {e : Expr} {te : TE} {p1 p2 p3 : Pos} {k : Nat} {r : V → Hp → VK → Prop} (hr : RvR X r) (he : PE X e te) : PE X (.Subscript e (.Slice none none (some (.UnaryOp .USub (.Constant (.int 1) k p1) p2)) p3) pos) (tRv r te) := by
  intro pins s σ H Q I h
  refine Subscript_ (thn (he pins s σ H _ I h) fun v s1 ⟨x, H1, I1, r1, q1⟩ => ?_)
  refine wpAny_Slice ?_
  rw [evalPart_none]
  refine wpAny_pure ?_
  refine wpAny_pure ?_
  rw [evalPart_some]
  refine UnaryOp_ (wpAny_Constant_int (neg_int ?_))
  have I4 : ∀ (tk : Nat) (u : Tok), Inv X pins σ H1 { s1 with heap := s1.heap.push { cls := .type "slice", data := .fields #[.none, .none, .int (-1) u] }, toks := tk } := fun tk u => I1.kept fun b ob q => Heap.get?_push_of_some _ q
  obtain ⟨T, id, hT, ht, hg⟩ := hr pins _ σ H1 x v _ s1.heap.objs.size Q (I4 _ _) r1 (Heap.IsSliceOf.new ..) (IsPart.int (-1) _) q1
  exact tail_any (ops := [v, .ref s1.heap.objs.size]) ht hT hg (by with_unfolding_all rfl)
theorem ze_rev {e : Expr} {te : TE} {p1 p2 p3 : Pos} {k : Nat} {r : V → Hp → VK → Prop} (hr : RvR X r) (he : ZE X e te) : ZE X (.Subscript e (.Slice none none (some (.UnaryOp .USub (.Constant (.int 1) k p1) p2)) p3) pos) (tRv r te) := by with_unfolding_all exact pe_rev hr he
noncomputable def rRvL (K : PySem.W.Frag) : V → Hp → VK → Prop := fun x H Q => ∃ a xs, x = .ref a ∧ SqL K H a xs ∧ ∀ p, H p = none → Q (.ref p) (upd H p (.lst xs.reverse))
theorem rv_list : RvR X (rRvL X.K) := by
  intro pins s σ H x v vk sl Q I rx hs pk h
  obtain ⟨a, xs, rfl, hx, q⟩ := h
  cases rx
  obtain ⟨its, r, ht, hz⟩ := I.list hx
  have hlen := r.length
  refine ⟨"list", _, slot_list_getitem.lookup, ht.isList.typeIs, ?_⟩
  refine wpAny_getItem_list_slice ht.isList hs .none .none pk (by decide) ?_ (by rw [List.size_toArray] <;> omega)
  rw [PySem.W.krv_pick]
  refine ⟨.ref s.heap.objs.size, _, I.laid (t' := s.toks) (o := .lst xs.reverse) (fun b ob q => Heap.get?_push_of_some _ q) (Nat.le_refl _) ?_, rfl, q _ (I.hok.fresh (Nat.le_refl _))⟩
  exact ⟨by rw [List.length_reverse]; exact hz, its.reverse, 0, r.reverse, Heap.get?_push_size _ rfl⟩

end
end L2
set_option Elab.async false
set_option linter.all false
set_option maxRecDepth 100000
set_option maxHeartbeats 4000000
namespace L2
open PySem PySem.Spec PyProof.Rows
section
variable {prog : Program} {w : World} {A : Around} {E : Value → Shared → Prop} {s : Shared}
theorem getItem_tuple_whole {t sl : Addr} {items : Array Value} {vl vu : Value} {lo hi : Option Int} {Q : Value → Shared → Prop} (ht : IsTup s.heap t items) (hs : s.heap.IsSliceOf sl vl vu .none) (pl : IsPart vl lo) (pu : IsPart vu hi)
    (hw : HT.sIx items.size 0 lo = 0 ∧ HT.sIx items.size items.size hi = items.size)
    (h : Q (.ref t) s) : wpAny (model prog w) A (getItem (.ref t) (.ref sl)) Q E s := by
  obtain ⟨os, hos, hcs, hds⟩ := id hs
  have hTs : s.TypeIs (.ref sl) "slice" := ⟨os, hos, hcs⟩
  unfold getItem
  try with_reducible refine wpAny_holding ?_
  first | refine wpAny_bind (wpAny_pure ?_) | skip
  refine wpAny_bind (wpAny_sequenceKey ht.typeIs (by decide) ?_)
  refine wpAny_bind (wpAny_callSpecial?_slot (name := Str.ofString "__getitem__") ht.typeIs PyProof.Rows.slot_tuple_getitem
    (wpAny_call_entry PyProof.Rows.slot_tuple_getitem ht.typeIs entry_tuple_getitem ?_ (args_tuple_getitem _ _)))
  show wpAny _ _ (Builtin.Tuple.tupleItemsOf (.ref t) >>= _) _ _ s
  refine wpAny_bind (tupleItemsOf_ ht ?_)
  refine wpAny_bind (wpAny_typeOf hTs ?_)
  rw [if_pos (by decide)]
  refine wpAny_bind (HT.sliceApplied_gen hs pl pu ?_)
  have hyes : ((((HT.sIx items.size 0 lo : Nat) : Int) == 0 && (1 : Int) == 1 && (HT.sIx items.size items.size hi - HT.sIx items.size 0 lo) == items.size) = true) := by
    rw [hw.1, hw.2]
    simp
  show wpAny _ _ (if (((HT.sIx items.size 0 lo : Nat) : Int) == 0 && (1 : Int) == 1 && (HT.sIx items.size items.size hi - HT.sIx items.size 0 lo) == items.size) = true then _ else _) _ _ s
  rw [if_pos hyes]
  refine wpAny_bind (m := Builtin.Tuple.tupleIsExact _) ?_
  unfold Builtin.Tuple.tupleIsExact
  refine wpAny_bind (wpAny_typeOf ht.typeIs (wpAny_pure ?_))
  rw [if_pos (by decide)]
  exact wpAny_bind (wpAny_rule (wpAny_pure ⟨_, rfl, wpAny_pure h⟩))
theorem filterMap_eq {α β : Type} {f g : α → Option β} : ∀ {l : List α}, (∀ a ∈ l, f a = g a) → l.filterMap f = l.filterMap g
  | [], _ => rfl
  | a :: r, h => by
    rw [List.filterMap_cons, List.filterMap_cons, h a List.mem_cons_self, filterMap_eq fun b hb => h b (List.mem_cons_of_mem _ hb)]
theorem rev_pick (xs : Array Value) : ((List.range xs.size).filterMap fun (m : Nat) => xs[(((xs.size : Int) - 1) + (m : Int) * (-1)).toNat]?).toArray = xs.toList.reverse.toArray := by
  have h := PySem.W.krv_pick xs
  unfold slicePick at h
  rw [PySem.W.krv_bounds] at h
  have h' : ((sliceRange ((xs.size : Int) - 1) (-1) (-1)).filterMap (xs[·]?)).toArray = xs.toList.reverse.toArray := h
  rw [PySem.W.krv_sliceRange, List.filterMap_map] at h'
  rw [← h']
  congr 1
  refine filterMap_eq fun m hm => ?_
  have := List.mem_range.mp hm
  show xs[_]? = xs[xs.size - 1 - m]?
  congr 1
  omega
theorem sliceApplied_rev {sl : Addr} {vk : Value} {n : Nat} {Q : Int × Int × Nat → Shared → Prop} (hs : s.heap.IsSliceOf sl .none .none vk) (pk : IsPart vk (some (-1)))
    (h : Q ((n : Int) - 1, -1, n) s) : wpAny (model prog w) A (Builtin.Slice.sliceApplied (.ref sl) (pure (n : Int))) Q E s := by
  obtain ⟨os, hos, hcs, hds⟩ := id hs
  unfold Builtin.Slice.sliceApplied Builtin.Slice.sliceFields
  refine wpAny_bind (wpAny_bind (wpAny_field hos hds (x := .none) rfl (wpAny_bind (wpAny_field hos hds (x := .none) rfl (wpAny_bind (wpAny_field hos hds (x := vk) rfl (wpAny_pure ?_)))))))
  refine wpAny_bind (HT.slicePart_ pk ?_)
  show wpAny _ _ (if ((-1 : Int) == 0) = true then _ else _) _ _ s
  rw [if_neg (by decide)]
  refine wpAny_bind (slicePart_none (wpAny_bind (slicePart_none (wpAny_bind (wpAny_pure ?_)))))
  show wpAny _ _ (match Builtin.Slice.sliceAdjust none none (-1) (n : Int) with | (lo, hi) => pure (lo, (-1 : Int), Builtin.Slice.slicePlaces lo hi (-1))) _ _ s
  have e1 : Builtin.Slice.sliceAdjust none none (-1) (n : Int) = ((n : Int) - 1, -1) := by rfl
  rw [e1]
  show wpAny _ _ (pure ((n : Int) - 1, (-1 : Int), Builtin.Slice.slicePlaces ((n : Int) - 1) (-1) (-1))) _ _ s
  have e2 : Builtin.Slice.slicePlaces ((n : Int) - 1) (-1) (-1) = n := by
    unfold Builtin.Slice.slicePlaces
    rw [if_neg (by decide)]
    have e3 : (- -1 : Int) = 1 := by decide
    rw [e3, Int.ediv_one]
    split <;> omega
  rw [e2]
  exact wpAny_pure h
theorem getItem_tuple_rev {t sl : Addr} {items : Array Value} {vk : Value} {Q : Value → Shared → Prop} (ht : IsTup s.heap t items) (hs : s.heap.IsSliceOf sl .none .none vk) (pk : IsPart vk (some (-1)))
    (h : Q (.ref s.heap.objs.size) { s with heap := s.heap.push { cls := .type "tuple", data := .seq items.toList.reverse.toArray } })
    (hsz : items.size ≤ sizeLine) : wpAny (model prog w) A (getItem (.ref t) (.ref sl)) Q E s := by
  have htake : sizeOk (.seq items.toList.reverse.toArray) := by
    show items.toList.reverse.toArray.size ≤ sizeLine
    rw [List.size_toArray, List.length_reverse, Array.length_toList]
    exact hsz
  obtain ⟨os, hos, hcs, hds⟩ := id hs
  have hTs : s.TypeIs (.ref sl) "slice" := ⟨os, hos, hcs⟩
  unfold getItem
  try with_reducible refine wpAny_holding ?_
  first | refine wpAny_bind (wpAny_pure ?_) | skip
  refine wpAny_bind (wpAny_sequenceKey ht.typeIs (by decide) ?_)
  refine wpAny_bind (wpAny_callSpecial?_slot (name := Str.ofString "__getitem__") ht.typeIs PyProof.Rows.slot_tuple_getitem
    (wpAny_call_entry PyProof.Rows.slot_tuple_getitem ht.typeIs entry_tuple_getitem ?_ (args_tuple_getitem _ _)))
  show wpAny _ _ (Builtin.Tuple.tupleItemsOf (.ref t) >>= _) _ _ s
  refine wpAny_bind (tupleItemsOf_ ht ?_)
  refine wpAny_bind (wpAny_typeOf hTs ?_)
  rw [if_pos (by decide)]
  refine wpAny_bind (sliceApplied_rev hs pk ?_)
  have hno : ¬ ((((items.size : Int) - 1) == 0 && (-1 : Int) == 1 && items.size == items.size) = true) := by
    intro q
    rw [Bool.and_eq_true, Bool.and_eq_true] at q
    exact absurd q.1.2 (by decide)
  show wpAny _ _ (if (((items.size : Int) - 1) == 0 && (-1 : Int) == 1 && items.size == items.size) = true then _ else _) _ _ s
  rw [if_neg hno, rev_pick]
  first
    | exact wpAny_bind (m := Builtin.Tuple.tupleExact _) (wpAny_newObj_type (wpAny_pure ⟨_, rfl, wpAny_pure h⟩) htake)
    | exact wpAny_bind (m := Builtin.Tuple.tupleExact _) (wpAny_newObj_type (wpAny_bind (wpAny_pure (wpAny_pure ⟨_, rfl, wpAny_pure h⟩))) htake)
    | exact wpAny_bind (wpAny_bind (m := Builtin.Tuple.tupleExact _) (wpAny_newObj_type (wpAny_pure (wpAny_pure ⟨_, rfl, wpAny_pure h⟩)) htake))
    | exact wpAny_bind (wpAny_bind (m := Builtin.Tuple.tupleExact _) (wpAny_newObj_type (wpAny_pure ⟨_, rfl, wpAny_pure h⟩) htake))
end
section
variable {X : Cx} {a b c : Expr} {ta tb tc : TE} {pos : Pos}
noncomputable def rSlP (K : PySem.W.Frag) : V → Option Int → Option Int → Hp → VK → Prop := fun x lo hi H Q => ∃ a, x = .ref a ∧ ((∃ xs, H a = some (.tup xs) ∧ ∀ r H', Same H H' → H' r = some (.tup (cutV xs lo hi)) → Q (.ref r) H') ∨
  ∃ xs, SqL K H a xs ∧ ∀ p, H p = none → Q (.ref p) (upd H p (.lst (cutV xs lo hi))))
theorem sl_P : SlR X (rSlP X.K) := by
  intro pins s σ H x v vl vu lo hi sl Q I rx hs pl pu h
  obtain ⟨a, rfl, ⟨xs, hx, q⟩ | ⟨xs, hx, q⟩⟩ := h
  · by_cases hw : HT.sIx xs.length 0 lo = 0 ∧ HT.sIx xs.length xs.length hi = xs.length
    · cases rx
      obtain ⟨its, r, ht, hz⟩ := I.tuple (SqT.of hx)
      have hlen : its.toArray.size = xs.length := by rw [List.size_toArray]; exact r.length.symm
      refine ⟨"tuple", _, PyProof.Rows.slot_tuple_getitem.lookup, ht.typeIs, ?_⟩
      refine getItem_tuple_whole ht hs pl pu (by rw [hlen]; exact hw) ⟨.ref a, H, I, rfl, q a H (Same.refl H) ?_⟩
      rw [hx]
      unfold cutV
      rw [hw.1, hw.2, List.drop_zero, Nat.sub_zero, List.take_of_length_le (Nat.le_refl _)]
    · exact sl_tup pins s σ H _ v vl vu lo hi sl Q I rx hs pl pu ⟨a, xs, rfl, SqT.of hx, hw, fun p hp => q p _ (Same.new hp _) upd_same⟩
  · exact sl_list pins s σ H _ v vl vu lo hi sl Q I rx hs pl pu ⟨a, xs, rfl, hx, q⟩
noncomputable def rRvP (K : PySem.W.Frag) : V → Hp → VK → Prop := fun x H Q => ∃ a, x = .ref a ∧ ((∃ xs, H a = some (.tup xs) ∧ ∀ p, H p = none → Q (.ref p) (upd H p (.tup xs.reverse))) ∨ ∃ xs, SqL K H a xs ∧ ∀ p, H p = none → Q (.ref p) (upd H p (.lst xs.reverse)))
theorem rv_P : RvR X (rRvP X.K) := by
  intro pins s σ H x v vk sl Q I rx hs pk h
  obtain ⟨a, rfl, ⟨xs, hx, q⟩ | ⟨xs, hx, q⟩⟩ := h
  · cases rx
    obtain ⟨its, r, ht, hz⟩ := I.tuple (SqT.of hx)
    have hlen := r.length
    refine ⟨"tuple", _, PyProof.Rows.slot_tuple_getitem.lookup, ht.typeIs, ?_⟩
    refine getItem_tuple_rev ht hs pk ?_ (by rw [List.size_toArray, ← hlen]; exact hz)
    refine ⟨.ref s.heap.objs.size, _, I.laid (t' := s.toks) (o := .tup xs.reverse) (fun b ob q => Heap.get?_push_of_some _ q) (Nat.le_refl _) ?_, rfl, q _ (I.hok.fresh (Nat.le_refl _))⟩
    exact ⟨by rw [List.length_reverse]; exact hz, its.reverse, r.reverse, TupD.new _ _⟩
  · exact rv_list pins s σ H _ v vk sl Q I rx hs pk ⟨a, xs, rfl, hx, q⟩

theorem PE.imp {e : Expr} {t t' : TE} (h : PE X e t) (i : ∀ σ H Q, t' σ H Q → t σ H Q) : PE X e t' := fun pins s σ H Q I q => h pins s σ H Q I (i σ H Q q)
theorem OpR.imp {f : Value → Value → Sem Value} {r r' : R2} (h : OpR X f r) (i : ∀ x y H Q, r' x y H Q → r x y H Q) : OpR X f r' := fun pins s σ H x y v u Q I rx ry q => h pins s σ H x y v u Q I rx ry (i x y H Q q)
noncomputable def tV (i : Nat) : TE := fun σ H Q => match σ[i]? with | some (some v) => Q v H | _ => False
theorem tV_var {i : Nat} (σ : St) (H : Hp) (Q : VK) (h : tV i σ H Q) : tVar i σ H Q := by
  unfold tV at h
  split at h
  · exact ⟨_, by assumption, h⟩
  · exact h.elim
theorem pn (i : Nat) {x : Str} {pos : Pos} (hN : X.N[i]? = some x := by rfl) (hv : Vis X.env.scope x := by first | exact Or.inl rfl | exact Or.inr (Or.inl rfl) | exact Or.inr (Or.inr rfl)) (hd : (x == ("__debug__" : Str)) = false := by decide)
    (hcd : (x == ("__classdict__" : Str)) = false := by decide) : PE X (.Name x pos) (tV i) := (pe_var hN hv hd hcd).imp tV_var
theorem zn (i : Nat) {x : Str} {pos : Pos} (hN : X.N[i]? = some x := by rfl) (hv : Vis X.env.scope x := by first | exact Or.inl rfl | exact Or.inr (Or.inl rfl) | exact Or.inr (Or.inr rfl)) (hd : (x == ("__debug__" : Str)) = false := by decide)
    (hcd : (x == ("__classdict__" : Str)) = false := by decide) : ZE X (.Name x pos) (tV i) := by with_unfolding_all exact pn i hN hv hd hcd
noncomputable def rAddP (K : PySem.W.Frag) : R2 := fun x y H Q => match x, y with
  | .int i, .int j => Q (.int (i + j)) H
  | .str i, .str j => i.length + j.length ≤ sizeLine ∧ Q (.str (i ++ j)) H
  | .ref a, .ref b => (∃ xs ys, H a = some (.lst xs) ∧ H b = some (.lst ys) ∧ xs.length + ys.length ≤ sizeLine ∧ ∀ p, H p = none → Q (.ref p) (upd H p (.lst (xs ++ ys)))) ∨
      ∃ xs ys, H a = some (.tup xs) ∧ H b = some (.tup ys) ∧ xs.length + ys.length ≤ sizeLine ∧ ∀ r H', Same H H' → H' r = some (.tup (xs ++ ys)) → Q (.ref r) H'
  | _, _ => False
theorem op_catA' : OpR X (binaryOp .Add) (fun x y H Q => ∃ a b xs ys, x = .ref a ∧ y = .ref b ∧ H a = some (.tup xs) ∧ H b = some (.tup ys) ∧ xs.length + ys.length ≤ sizeLine ∧ ∀ r H', Same H H' → H' r = some (.tup (xs ++ ys)) → Q (.ref r) H') := by
  intro pins s σ H x y v u Q I rx ry h
  obtain ⟨a, b, xs, ys, rfl, rfl, ha, hb, hz, q⟩ := h
  by_cases hx : xs = []
  · subst hx
    cases rx
    cases ry
    obtain ⟨its, r1, p1, _⟩ := I.tuple (SqT.of ha)
    obtain ⟨its2, r2, p2, _⟩ := I.tuple (SqT.of hb)
    cases r1
    obtain ⟨⟨cls, dd, data, sl⟩, ho, hc, n, hd⟩ := id p1
    obtain ⟨⟨cls2, dd2, data2, sl2⟩, ho2, hc2, n2, hd2⟩ := id p2
    simp only at hc hd hc2 hd2
    subst hc hd hc2 hd2
    exact concat_meets ⟨_, ho, rfl⟩ ⟨_, ho2, rfl⟩ noFill_tuple_add seq_tuple_add PySem.F.slot_tuple_add PySem.F.entry_tuple_add (PySem.F.args_tuple_add_2 _ _)
      (tuple_addW0 a b _ _ n n2 dd dd2 sl sl2 (by rfl)) ⟨ho, ho2, ⟨.ref b, H, I, rfl, q b H (Same.refl H) hb⟩⟩
  · refine op_catT pins s σ H _ _ v u Q I rx ry ⟨a, b, xs, ys, rfl, rfl, SqT.of ha, SqT.of hb, hx, hz, fun e => ?_, fun e p hp => ?_⟩
    · subst e
      exact q a H (Same.refl H) (by rw [List.append_nil]; exact ha)
    · exact q p _ (Same.new hp _) upd_same
theorem op_addP : OpR X (binaryOp .Add) (rAddP X.K) := by
  intro pins s σ H x y v u Q I rx ry h
  unfold rAddP at h
  split at h
  · exact op_add pins s σ H _ _ v u Q I rx ry ⟨_, _, rfl, rfl, h⟩
  · exact op_add_str pins s σ H _ _ v u Q I rx ry ⟨_, _, rfl, rfl, h⟩
  · rcases h with ⟨xs, ys, h1, h2, h3, q⟩ | ⟨xs, ys, h1, h2, h3, q⟩
    · exact op_cat pins s σ H _ _ v u Q I rx ry ⟨_, _, xs, ys, rfl, rfl, h1, h2, h3, q⟩
    · exact op_catA' pins s σ H _ _ v u Q I rx ry ⟨_, _, xs, ys, rfl, rfl, h1, h2, h3, q⟩
  · exact h.elim
noncomputable def rP (C : Int → Int → Prop) (g : Int → Int → V) : R2 := fun x y H Q => match x, y with | .int i, .int j => C i j ∧ Q (g i j) H | _, _ => False
noncomputable def rP0 (g : Int → Int → V) : R2 := fun x y H Q => match x, y with | .int i, .int j => Q (g i j) H | _, _ => False
theorem rP_rI {C : Int → Int → Prop} {g : Int → Int → V} (x y : V) (H : Hp) (Q : VK) (h : rP C g x y H Q) : rI C g x y H Q := by
  unfold rP at h
  split at h
  · exact ⟨_, _, rfl, rfl, h⟩
  · exact h.elim
theorem rP0_rI0 {g : Int → Int → V} (x y : V) (H : Hp) (Q : VK) (h : rP0 g x y H Q) : rI0 g x y H Q := by
  unfold rP0 at h
  split at h
  · exact ⟨_, _, rfl, rfl, h⟩
  · exact h.elim
theorem op_subP : OpR X (binaryOp .Sub) (rP0 fun i j => .int (i - j)) := op_sub.imp rP0_rI0
theorem op_modP : OpR X (binaryOp .Mod) (rP (fun _ j => 0 < j) fun i j => .int (i % j)) := op_mod.imp rP_rI
theorem op_fdivP : OpR X (binaryOp .FloorDiv) (rP CDiv fun i j => .int (i / j)) := op_fdiv.imp rP_rI
theorem op_powP : OpR X (binaryOp .Pow) (rP CPow fun i j => .int (i ^ j.toNat)) := op_pow.imp rP_rI
theorem op_ltP : OpR X (compareOp .Lt) (rP0 fun i j => .bl (decide (i < j))) := op_lt.imp rP0_rI0
theorem op_leP : OpR X (compareOp .LtE) (rP0 fun i j => .bl (decide (i ≤ j))) := op_le.imp rP0_rI0
theorem op_gtP : OpR X (compareOp .Gt) (rP0 fun i j => .bl (decide (j < i))) := op_gt.imp rP0_rI0
theorem op_geP : OpR X (compareOp .GtE) (rP0 fun i j => .bl (decide (j ≤ i))) := op_ge.imp rP0_rI0
end
end L2
set_option Elab.async false
set_option linter.all false
set_option maxRecDepth 100000
set_option maxHeartbeats 4000000
namespace L2
open PySem PySem.Spec PyProof.Rows
mutual
inductive DatV (H : Hp) : V → PyData → Prop where
  | non : DatV H .non .none
  | bl (b : Bool) : DatV H (.bl b) (.bool b)
  | int (i : Int) : DatV H (.int i) (.int i)
  | str (x : Str) : DatV H (.str x) (.str x)
  | lst {a : Addr} {xs : List V} {ds : List PyData} (e : H a = some (.lst xs)) (r : DatAll H xs ds) : DatV H (.ref a) (.list ds)
  | tup {a : Addr} {xs : List V} {ds : List PyData} (e : H a = some (.tup xs)) (r : DatAll H xs ds) : DatV H (.ref a) (.tuple ds)
inductive DatAll (H : Hp) : List V → List PyData → Prop where
  | nil : DatAll H [] []
  | cons {x : V} {d : PyData} {xs : List V} {ds : List PyData} (h : DatV H x d) (r : DatAll H xs ds) : DatAll H (x :: xs) (d :: ds)
end
theorem DatAll.ints {H : Hp} : ∀ ns : List Int, DatAll H (ns.map V.int) (ns.map PyData.int)
  | [] => .nil
  | n :: r => .cons (.int n) (DatAll.ints r)
section
variable {X : Cx} {pins : List (Addr × Obj)} {σ : St} {H : Hp} {s : Shared}
mutual
theorem DatV.reads (I : Inv X pins σ H s) : ∀ {x : V} {d : PyData} {v : Value}, DatV H x d → RelV x v → ∃ as, Reads s.heap v d as
  | _, _, _, .non, r => by cases r; exact ⟨_, .none⟩
  | _, _, _, .bl b, r => by cases r; exact ⟨_, .bool b⟩
  | _, _, _, .int i, r => by obtain ⟨t, rfl⟩ := r; exact ⟨_, .int i t⟩
  | _, _, _, .str x, r => by obtain ⟨t, rfl⟩ := r; exact ⟨_, .str x t⟩
  | _, _, _, .lst e q, r => by
    cases r
    obtain ⟨_, its, n, rv, h⟩ := I.lstM e
    obtain ⟨_, h⟩ := h
    obtain ⟨as, z⟩ := DatAll.reads I q rv
    exact ⟨_, reads_list_at h rfl rfl z⟩
  | _, _, _, .tup e q, r => by
    cases r
    obtain ⟨its, rv, ⟨o, h1, h2, n, h3⟩, _⟩ := I.tuple (SqT.of e)
    obtain ⟨as, z⟩ := DatAll.reads I q rv
    exact ⟨_, reads_tuple_at h1 h2 h3 z⟩
theorem DatAll.reads (I : Inv X pins σ H s) : ∀ {xs : List V} {ds : List PyData} {vs : List Value}, DatAll H xs ds → Vals xs vs → ∃ as, ReadsAll s.heap vs ds as
  | _, _, _, .nil, r => by cases r; exact ⟨_, .nil⟩
  | _, _, _, .cons h q, r => by
    cases r with
    | cons r1 r2 =>
      obtain ⟨as, z⟩ := DatV.reads I h r1
      obtain ⟨bs, y⟩ := DatAll.reads I q r2
      exact ⟨_, .cons z y⟩
end
end
section
variable {X : Cx} {a b c : Expr} {ta tb tc : TE} {pos : Pos}
noncomputable def rEqD (neg : Bool) : R2 := fun x y H Q => match scal x y with
  | true => Q (.bl (if neg then !decide (x = y) else decide (x = y))) H
  | false => ∃ d e, DatV H x d ∧ DatV H y e ∧ SeqAt.shaped d = true ∧ SeqAt.shaped e = true ∧ Q (.bl (if neg then !PyData.eqv d e else PyData.eqv d e)) H
theorem op_eqD (hu : X.A.units + 64 < cLine) : OpR X (compareOp .Eq) (rEqD false) := by
  intro pins s σ H x y v u Q I rx ry h
  unfold rEqD at h
  split at h
  · exact op_eq pins s σ H x y v u Q I rx ry ⟨by assumption, h⟩
  · obtain ⟨d, e, h1, h2, h3, h4, q⟩ := h
    obtain ⟨as, r1⟩ := h1.reads I rx
    obtain ⟨bs, r2⟩ := h2.reads I ry
    exact eq_dataH r1 r2 h3 h4 hu ⟨.bl _, H, I, rfl, q⟩
theorem op_neD (hu : X.A.units + 64 < cLine) : OpR X (compareOp .NotEq) (rEqD true) := by
  intro pins s σ H x y v u Q I rx ry h
  unfold rEqD at h
  split at h
  · exact op_ne pins s σ H x y v u Q I rx ry ⟨by assumption, h⟩
  · obtain ⟨d, e, h1, h2, h3, h4, q⟩ := h
    obtain ⟨as, r1⟩ := h1.reads I rx
    obtain ⟨bs, r2⟩ := h2.reads I ry
    exact ne_dataH r1 r2 h3 h4 hu ⟨.bl _, H, I, rfl, q⟩
noncomputable def tBlP (t : TE) : TT := fun σ H Q => t σ H fun x H1 => match x with | .bl c => Q c H1 | _ => False
theorem blP {x : V} {P : Bool → Prop} (h : match x with | .bl c => P c | _ => False) : ∃ c, x = .bl c ∧ P c := by
  cases x <;> first | exact ⟨_, rfl, h⟩ | exact h.elim
theorem pt_cmpP {op : CmpOp} {r : R2} (ho : OpR X (compareOp op) r) (ha : PE X a ta) (hb : PE X b tb) (hm : behindInMarks op b = false) : PT X (.Compare a [op] [b] pos) (tBlP (tOp r ta tb)) := by
  intro pins s σ H Q I h
  refine wpAny_isTrue_Compare1 (binT ha hb I h fun v u s2 x y H2 I2 rx ry q => ?_) hm
  refine thn (ho pins s2 σ H2 x y v u _ I2 rx ry q) fun z s3 ⟨w', H3, I3, r3, q3⟩ => ?_
  obtain ⟨k, rfl, q3⟩ := blP q3
  cases r3
  exact wpAny_truthy_bool ⟨H3, I3, q3⟩
theorem zt_cmpP {op : CmpOp} {r : R2} (ho : OpR X (compareOp op) r) (ha : ZE X a ta) (hb : ZE X b tb) (hm : behindInMarks op b = false) : ZT X (.Compare a [op] [b] pos) (tBlP (tOp r ta tb)) := by with_unfolding_all exact pt_cmpP ho ha hb hm
theorem pt_valP {e : Expr} {t : TE} (h : PE X e t) (he : ∀ whole, isTrue e X.env whole = (do let v ← whole; standAt e.pos; holding [v] (truthy v)) := by intro _; rfl) : PT X e (tBlP t) := by
  intro pins s σ H Q I q
  refine isTrue_plain (thn (h pins s σ H _ I q) fun v s1 ⟨x, H1, I1, r1, q1⟩ => ?_) (he _)
  obtain ⟨k, rfl, q1⟩ := blP q1
  cases r1
  exact wpAny_truthy_bool ⟨H1, I1, q1⟩
theorem zt_valP {e : Expr} {t : TE} (h : ZE X e t) (he : ∀ whole, isTrue e X.env whole = (do let v ← whole; standAt e.pos; holding [v] (truthy v)) := by intro _; rfl) : ZT X e (tBlP t) := by with_unfolding_all exact pt_valP h he
noncomputable def tAndP (ta tb : TE) : TE := fun σ H Q => ta σ H fun x H1 => match x with | .bl c => if c = true then tb σ H1 Q else Q (.bl false) H1 | _ => False
variable {rest : List Expr}
theorem pe_andP (ha : PE X a ta) (hb : PE X (.BoolOp .And (b :: rest) pos) tb) : PE X (.BoolOp .And (a :: b :: rest) pos) (tAndP ta tb) := by
  intro pins s σ H Q I h
  refine BoolOp_and (thn (ha pins s σ H _ I h) fun v s1 ⟨x, H1, I1, r1, q1⟩ => ?_)
  obtain ⟨c, rfl, q1⟩ := blP q1
  cases r1
  refine wpAny_truthy_bool ?_
  cases c with
  | true => exact hb pins s1 σ H1 Q I1 q1
  | false => exact ⟨.bl false, H1, I1, rfl, q1⟩
theorem ze_andP (ha : ZE X a ta) (hb : ZE X (.BoolOp .And (b :: rest) pos) tb) : ZE X (.BoolOp .And (a :: b :: rest) pos) (tAndP ta tb) := by with_unfolding_all exact pe_andP ha hb
noncomputable def rIxP (K : PySem.W.Frag) : R2 := fun x y H Q => match x, y with
  | .ref p, .int i => (∃ xs, (SqL K H p xs ∨ H p = some (.tup xs)) ∧ ∃ v, atI xs i = some v ∧ Q v H)
  | _, _ => False
theorem ix_P : IxR X (rIxP X.K) := by
  intro value slice pins s σ H x y v u Q I rx ry h hs
  unfold rIxP at h
  split at h
  · obtain ⟨xs, h1 | h1, w, e, q⟩ := h
    · exact ix_list value slice pins s σ H _ _ v u Q I rx ry ⟨_, xs, _, w, rfl, rfl, h1, e, q⟩ hs
    · exact ix_tup value slice pins s σ H _ _ v u Q I rx ry ⟨_, xs, _, w, rfl, rfl, SqT.of h1, e, q⟩ hs
  · exact h.elim

theorem CallR.imp {f : Value} {r r' : List V → Hp → VK → Prop} (h : CallR X f r) (i : ∀ xs H Q, r' xs H Q → r xs H Q) : CallR X f r' := fun pins s σ H xs us Q I rs q => h pins s σ H xs us Q I rs (i xs H Q q)
noncomputable def rLenP (K : PySem.W.Frag) : List V → Hp → VK → Prop := fun xs H Q => match xs with
  | [.ref p] => ∃ ys, (SqL K H p ys ∨ H p = some (.tup ys)) ∧ Q (.int ys.length) H
  | _ => False
theorem call_lenP : CallR X (.builtin "len") (rLenP X.K) := call_len_seq.imp fun xs H Q h => by
  unfold rLenP at h
  split at h
  · obtain ⟨ys, h1 | h1, q⟩ := h
    · exact ⟨_, ys, rfl, .inl h1, q⟩
    · exact ⟨_, ys, rfl, .inr (SqT.of h1), q⟩
  · exact h.elim
noncomputable def rTupP (K : PySem.W.Frag) : List V → Hp → VK → Prop := fun xs H Q => match xs with
  | [.ref p] => ∃ ys, (SqL K H p ys ∨ H p = some (.tup ys)) ∧ ∀ r H', Same H H' → H' r = some (.tup ys) → Q (.ref r) H'
  | _ => False
theorem call_tupP : CallR X (.type "tuple") (rTupP X.K) := call_tuple_of.imp fun xs H Q h => by
  unfold rTupP at h
  split at h
  · obtain ⟨ys, h1 | h1, q⟩ := h
    · exact ⟨_, ys, rfl, .inl ⟨h1, fun l hl => q l _ (Same.new hl _) upd_same⟩⟩
    · exact ⟨_, ys, rfl, .inr ⟨SqT.of h1, q _ H (Same.refl H) h1⟩⟩
  · exact h.elim
noncomputable def rLstP (K : PySem.W.Frag) : List V → Hp → VK → Prop := fun xs H Q => match xs with
  | [.ref p] => ∃ ys, (SqL K H p ys ∨ H p = some (.tup ys)) ∧ ∀ l, H l = none → Q (.ref l) (upd H l (.lst ys))
  | _ => False
theorem call_lstP : CallR X (.type "list") (rLstP X.K) := call_list_of.imp fun xs H Q h => by
  unfold rLstP at h
  split at h
  · obtain ⟨ys, h1 | h1, q⟩ := h
    · exact ⟨_, ys, rfl, .inl h1, q⟩
    · exact ⟨_, ys, rfl, .inr (SqT.of h1), q⟩
  · exact h.elim
noncomputable def rMinP : List V → Hp → VK → Prop := fun xs H Q => match xs with
  | [.int i, .int j] => Q (.int (if j < i then j else i)) H
  | _ => False
theorem call_minP (hc : X.calm = true) : CallR X (.builtin "min") rMinP := (call_min2 hc).imp fun xs H Q h => by
  unfold rMinP at h
  split at h
  · exact ⟨_, _, rfl, h⟩
  · exact h.elim

structure FnA (P : Program) (w : World) (K : PySem.W.Frag) (mg : Str → Option Value) (base : Heap) (x : Str) (k : Nat) (ps : List Str) (sp : Sp) : Prop where
  ex : ∃ f fd, FnOk P w K mg base CX0 k f fd ps sp ∧ Binds K fd ps [] ∧ PySem.W.keepIn K (.ref f) = true ∧ mg x = some (.ref f)
noncomputable def tFn (sp : Sp) (t : TA) : TE := fun σ H Q => t σ H fun vs H1 => sp vs H1 Q E0
theorem pe_fn {x : Str} {k k' : Nat} {ps : List Str} {sp : Sp} {e : Expr} {es : List Expr} {t : TA} {p : Pos} (F : FnA X.prog X.w X.K X.mg X.base x k ps sp) (hr : Room k' X.A) (hk : k ≤ k') (hg : Gl X x)
    (ha : PA X (e :: es) t) (hdb : (x == ("__debug__" : Str)) = false := by decide) (he : starEach (e :: es) X.env = (false, eval e X.env) :: starEach es X.env := by rfl) (hpl : (backTo pos (starEach es X.env)).any (·.1) = false := by rfl) :
    PE X (.Call (.Name x p) (e :: es) [] pos) (tFn sp t) := by
  obtain ⟨f, fd, F1, b1, k1, m1⟩ := F.ex
  refine (pe_call (F1.mono hk) hr hg m1 k1 b1 .nil pass0 ha hdb he hpl).imp fun σ H Q h => ?_
  have e : (fun (vs : List V) (H1 : Hp) => sp (vs ++ []) H1 Q E0) = fun vs H1 => sp vs H1 Q E0 := by
    funext vs H1
    rw [List.append_nil]
  show t σ H fun vs H1 => sp (vs ++ []) H1 Q E0
  rw [e]
  exact h
theorem ze_fn {x : Str} {k k' : Nat} {ps : List Str} {sp : Sp} {e : Expr} {es : List Expr} {t : TA} {p : Pos} (F : FnA X.prog X.w X.K X.mg X.base x k ps sp) (hr : Room k' X.A) (hk : k ≤ k') (hg : Gl X x)
    (ha : ZA X (e :: es) t) (hdb : (x == ("__debug__" : Str)) = false := by decide) (he : starEach (e :: es) X.env = (false, eval e X.env) :: starEach es X.env := by rfl) (hpl : (backTo pos (starEach es X.env)).any (·.1) = false := by rfl) :
    ZE X (.Call (.Name x p) (e :: es) [] pos) (tFn sp t) := by with_unfolding_all exact pe_fn F hr hk hg ha hdb he hpl
end
end L2
set_option Elab.async false
set_option linter.all false
set_option maxRecDepth 100000
set_option maxHeartbeats 4000000
namespace L2
open PySem PySem.Spec PyProof.Rows
theorem iteD {p : Prop} [Decidable p] {A B : Prop} (h1 : p → A) (h2 : ¬ p → B) : if decide p = true then A else B := by
  by_cases h : p
  · rw [decide_eq_true h]; exact iteT (h1 h)
  · rw [decide_eq_false h]; exact iteF (h2 h)
theorem iteB {b : Bool} {A B : Prop} (h1 : b = true → A) (h2 : b = false → B) : if b = true then A else B := by
  cases b with
  | true => exact iteT (h1 rfl)
  | false => exact iteF (h2 rfl)
theorem boot_min' : bootBuiltins "min" = some (.builtin "min") := by decide +kernel
theorem boot_tuple' : bootBuiltins "tuple" = some (.type "tuple") := by decide +kernel
theorem boot_list' : bootBuiltins "list" = some (.type "list") := by decide +kernel
end L2
namespace L2
open PySem PySem.Spec PyProof.Rows
noncomputable def tPar3 (i j k : Nat) (ta : TA) : TS := fun D σ H => ta σ H fun vs H1 => match vs with | [v, w, z] => D.nx (((σ.set i (some v)).set j (some w)).set k (some z)) H1 | _ => False
theorem ps_par3 {X : Cx} {pos : Pos} {i j k : Nat} {x y z : Str} {a b c : Expr} {ta : TA} {px py pz pt : Pos} {kt k2 pt2} (hc : X.calm = true) (hN : X.N.Nodup) (hi : X.N[i]? = some x) (hj : X.N[j]? = some y) (hk : X.N[k]? = some z) (hij : i ≠ j) (hik : i ≠ k) (hjk : j ≠ k)
    (hx : X.env.scope.names.lookup x = some .local) (hy : X.env.scope.names.lookup y = some .local) (hz : X.env.scope.names.lookup z = some .local) (ha : PA X [a, b, c] ta)
    (hw : swappedStores [.Tuple [.Name x px, .Name y py, .Name z pz] kt pt] (.Tuple [a, b, c] k2 pt2) X.env = pure (some [x, y, z]))
    (hs : swapsWithSole [.Tuple [.Name x px, .Name y py, .Name z pz] kt pt] (.Tuple [a, b, c] k2 pt2) pos.line X.env = pure false := by rfl) :
    PS X (.Assign [.Tuple [.Name x px, .Name y py, .Name z pz] kt pt] (.Tuple [a, b, c] k2 pt2) pos) (tPar3 i j k ta) := by
  intro pins s σ H D I h
  rw [exec_Assign_arm]
  refine wpAny_bind (wpAny_standAt ?_)
  rw [hs]
  refine wpAny_bind (wpAny_pure ?_)
  rw [if_neg (by decide)]
  refine wpAny_bind (Tuple_ (thn (ha _ pins s σ H _ I h) fun us s1 ⟨vs, H1, I1, r1, q1⟩ => ?_))
  obtain ⟨v, w, t, e1, q1⟩ : ∃ v w t, vs = [v, w, t] ∧ D.nx (((σ.set i (some v)).set j (some w)).set k (some t)) H1 := by
    match vs, q1 with
    | [v, w, t], q1 => exact ⟨v, w, t, rfl, q1⟩
    | [], q1 => exact q1.elim
    | [_], q1 => exact q1.elim
    | [_, _], q1 => exact q1.elim
    | _ :: _ :: _ :: _ :: _, q1 => exact q1.elim
  subst e1
  obtain ⟨u1, u2, u3, rfl, rv, rw', rz⟩ : ∃ u1 u2 u3, us = [u1, u2, u3] ∧ RelV v u1 ∧ RelV w u2 ∧ RelV t u3 := by
    cases r1 with
    | cons p q =>
      cases q with
      | cons p' q' =>
        cases q' with
        | cons p2 q2 =>
          cases q2
          exact ⟨_, _, _, rfl, p, p', p2⟩
  refine wpAny_newObj_type ?_ (by show 3 ≤ sizeLine; decide)
  have I2 : Inv X pins σ H1 { s1 with heap := s1.heap.push { cls := .type "tuple", data := .seq [u1, u2, u3].toArray } } := I1.kept (t' := s1.toks) fun b o e => Heap.get?_push_of_some _ e
  rw [hw]
  refine wpAny_bind (wpAny_pure ?_)
  show wpAny (model X.prog X.w) X.A (do rule "assign.swapped-stores"; let items ← unpackItems (.ref s1.heap.objs.size) 3 none; assignInOrder [fun v => bindName X.env z v, fun v => bindName X.env y v, fun v => bindName X.env x v] items.reverse; pure Flow.next) _ _ _
  refine wpAny_bind (wpAny_rule (wpAny_bind (unpackItems_tuple (items := #[u1, u2, u3]) (I.ok.hd hc) (IsTup.new s1.heap _) fun h' hx' => ?_)))
  have I3 := I2.kept (h' := h') (t' := s1.toks) fun b o e => hx' b o (Nat.ne_of_lt (Heap.lt_size e)) e
  show wpAny _ _ (assignInOrder [fun v => bindName X.env z v, fun v => bindName X.env y v, fun v => bindName X.env x v] [u3, u2, u1] >>= fun _ => pure Flow.next) _ _ _
  refine wpAny_bind (assignInOrder_cons (wpAny_bindName (store_ok I3 hN hk (.inl hz) rz (fun s2 I4 => ?_) (.inr hz))))
  refine assignInOrder_cons (wpAny_bindName (store_ok I4 hN hj (.inl hy) rw' (fun s3 I5 => ?_) (.inr hy)))
  refine assignInOrder_cons (wpAny_bindName (store_ok I5 hN hi (.inl hx) rv (fun s4 I6 => assignInOrder_nil (wpAny_pure ?_)) (.inr hx)))
  have e : ((σ.set k (some t)).set j (some w)).set i (some v) = ((σ.set i (some v)).set j (some w)).set k (some t) := by
    rw [List.set_comm _ _ (Ne.symm hij), List.set_comm _ _ (Ne.symm hik), List.set_comm _ _ (Ne.symm hjk)]
  rw [e] at I6
  exact ⟨_, H1, I6, q1⟩
theorem zs_par3 {X : Cx} {pos : Pos} {i j k : Nat} {x y z : Str} {a b c : Expr} {ta : TA} {px py pz pt : Pos} {kt k2 pt2} (hc : X.calm = true) (hN : X.N.Nodup) (hi : X.N[i]? = some x) (hj : X.N[j]? = some y) (hk : X.N[k]? = some z) (hij : i ≠ j) (hik : i ≠ k) (hjk : j ≠ k)
    (hx : X.env.scope.names.lookup x = some .local) (hy : X.env.scope.names.lookup y = some .local) (hz : X.env.scope.names.lookup z = some .local) (ha : ZA X [a, b, c] ta)
    (hw : swappedStores [.Tuple [.Name x px, .Name y py, .Name z pz] kt pt] (.Tuple [a, b, c] k2 pt2) X.env = pure (some [x, y, z]))
    (hs : swapsWithSole [.Tuple [.Name x px, .Name y py, .Name z pz] kt pt] (.Tuple [a, b, c] k2 pt2) pos.line X.env = pure false := by rfl) :
    ZS X (.Assign [.Tuple [.Name x px, .Name y py, .Name z pz] kt pt] (.Tuple [a, b, c] k2 pt2) pos) (tPar3 i j k ta) := by with_unfolding_all exact ps_par3 hc hN hi hj hk hij hik hjk hx hy hz ha hw hs
end L2
namespace L2
open PySem PySem.Spec PyProof.Rows
section
variable {X : Cx} {e : Expr} {es : List Expr} {t : TA} {p pos : Pos}
theorem pcb_len (hg : Gl X "len") (hm : X.mg "len" = none) (ha : PA X (e :: es) t) (he : starEach (e :: es) X.env = (false, eval e X.env) :: starEach es X.env) (hpl : (backTo pos (starEach es X.env)).any (·.1) = false) :
    PE X (.Call (.Name "len" p) (e :: es) [] pos) (tCB (rLenP X.K) t) := pe_callB call_lenP hg hm PySem.boot_len ha (by decide) (by decide) he hpl
theorem zcb_len (hg : Gl X "len") (hm : X.mg "len" = none) (ha : ZA X (e :: es) t) (he : starEach (e :: es) X.env = (false, eval e X.env) :: starEach es X.env) (hpl : (backTo pos (starEach es X.env)).any (·.1) = false) :
    ZE X (.Call (.Name "len" p) (e :: es) [] pos) (tCB (rLenP X.K) t) := by with_unfolding_all exact pcb_len hg hm ha he hpl
theorem pcb_min (hc : X.calm = true) (hg : Gl X "min") (hm : X.mg "min" = none) (ha : PA X (e :: es) t) (he : starEach (e :: es) X.env = (false, eval e X.env) :: starEach es X.env) (hpl : (backTo pos (starEach es X.env)).any (·.1) = false) :
    PE X (.Call (.Name "min" p) (e :: es) [] pos) (tCB rMinP t) := pe_callB (call_minP hc) hg hm boot_min' ha (by decide) (by decide) he hpl
theorem zcb_min (hc : X.calm = true) (hg : Gl X "min") (hm : X.mg "min" = none) (ha : ZA X (e :: es) t) (he : starEach (e :: es) X.env = (false, eval e X.env) :: starEach es X.env) (hpl : (backTo pos (starEach es X.env)).any (·.1) = false) :
    ZE X (.Call (.Name "min" p) (e :: es) [] pos) (tCB rMinP t) := by with_unfolding_all exact pcb_min hc hg hm ha he hpl
theorem pcb_tuple (hg : Gl X "tuple") (hm : X.mg "tuple" = none) (ha : PA X (e :: es) t) (he : starEach (e :: es) X.env = (false, eval e X.env) :: starEach es X.env) (hpl : (backTo pos (starEach es X.env)).any (·.1) = false) :
    PE X (.Call (.Name "tuple" p) (e :: es) [] pos) (tCB (rTupP X.K) t) := pe_callTy call_tupP hg hm boot_tuple' ha (by decide) (by decide) he hpl
theorem zcb_tuple (hg : Gl X "tuple") (hm : X.mg "tuple" = none) (ha : ZA X (e :: es) t) (he : starEach (e :: es) X.env = (false, eval e X.env) :: starEach es X.env) (hpl : (backTo pos (starEach es X.env)).any (·.1) = false) :
    ZE X (.Call (.Name "tuple" p) (e :: es) [] pos) (tCB (rTupP X.K) t) := by with_unfolding_all exact pcb_tuple hg hm ha he hpl
theorem pcb_list (hg : Gl X "list") (hm : X.mg "list" = none) (ha : PA X (e :: es) t) (he : starEach (e :: es) X.env = (false, eval e X.env) :: starEach es X.env) (hpl : (backTo pos (starEach es X.env)).any (·.1) = false) :
    PE X (.Call (.Name "list" p) (e :: es) [] pos) (tCB (rLstP X.K) t) := pe_callTy call_lstP hg hm boot_list' ha (by decide) (by decide) he hpl
theorem zcb_list (hg : Gl X "list") (hm : X.mg "list" = none) (ha : ZA X (e :: es) t) (he : starEach (e :: es) X.env = (false, eval e X.env) :: starEach es X.env) (hpl : (backTo pos (starEach es X.env)).any (·.1) = false) :
    ZE X (.Call (.Name "list" p) (e :: es) [] pos) (tCB (rLstP X.K) t) := by with_unfolding_all exact pcb_list hg hm ha he hpl
end
end L2
set_option Elab.async false
set_option linter.all false
set_option maxRecDepth 100000
set_option maxHeartbeats 4000000
namespace L2
open PySem PySem.Spec PyProof.Rows
end L2
set_option Elab.async false
set_option linter.all false
set_option maxRecDepth 100000
set_option maxHeartbeats 4000000
namespace L2
open PySem PySem.Spec PyProof.Rows
section
variable {X : Cx}
theorem Inv.moved {wr : List Addr} {pins : List (Addr × Obj)} {σ : St} {H : Hp} {s s' : Shared} {h2 : Heap} {t2 : Nat} (I : Inv X pins σ H s) (m : Moved wr (fun a b => b = a) { s with heap := h2, toks := t2 } s') (hk : ∀ b o, s.heap.get? b = some o → b ∉ wr ∧ h2.get? b = some o) : Inv X pins σ H s' := by
  have e : s' = { s with heap := s'.heap, toks := s'.toks } := by
    obtain ⟨_, h2, h3, h4, _⟩ := m
    cases s'
    simp only at h2 h3 h4
    subst h2 h3 h4
    rfl
  rw [e]
  exact I.kept fun b o q => m.heap b o (hk b o q).1 (hk b o q).2
noncomputable def rSumP (K : PySem.W.Frag) : List V → Hp → VK → Prop := fun xs H Q => match xs with
  | [.ref p] => ∃ ns : List Int, (SqL K H p (ns.map V.int) ∨ H p = some (.tup (ns.map V.int))) ∧ Q (.int ns.sum) H
  | _ => False
theorem preSum_ext {f g : Nat → Int} : ∀ n, (∀ i, i < n → f i = g i) → preSum f n = preSum g n
  | 0, _ => rfl
  | n + 1, h => by
    show preSum f n + f n = preSum g n + g n
    rw [preSum_ext n fun i hi => h i (by omega), h n (by omega)]
theorem preSum_succ (f : Nat → Int) : ∀ n, preSum f (n + 1) = f 0 + preSum (fun i => f (i + 1)) n
  | 0 => by show (0 : Int) + f 0 = f 0 + 0; omega
  | n + 1 => by
    show preSum f (n + 1) + f (n + 1) = f 0 + (preSum (fun i => f (i + 1)) n + f (n + 1))
    rw [preSum_succ f n]; omega
theorem preSum_list : ∀ ns : List Int, preSum (fun i => ns.getD i 0) ns.length = ns.sum
  | [] => rfl
  | n :: r => by
    rw [List.length_cons, preSum_succ, List.sum_cons]
    have e : preSum (fun i => (n :: r).getD (i + 1) 0) r.length = preSum (fun i => r.getD i 0) r.length := preSum_ext _ fun i _ => by simp
    rw [e, preSum_list r]
    rfl
theorem ints_at {ns : List Int} {its : List Value} (rv : Vals (ns.map V.int) its) {i : Nat} {v : Value} (h : its.toArray[i]? = some v) : ∃ t, v = .int (ns.getD i 0) t := by
  have h' : its[i]? = some v := by simpa using h
  have hl : its.length = ns.length := by rw [← rv.length, List.length_map]
  have hi : i < ns.length := by rw [← hl]; exact (List.getElem?_eq_some_iff.mp h').1
  obtain ⟨w', e1, t, e2⟩ := rv.get (i := i) (x := .int ns[i]) (by rw [List.getElem?_map, List.getElem?_eq_getElem hi]; rfl)
  rw [h'] at e1
  cases e1
  refine ⟨t, ?_⟩
  rw [e2, List.getD_eq_getElem?_getD, List.getElem?_eq_getElem hi]
  rfl
theorem call_sumP (hc : X.calm = true) : CallR X (.builtin "sum") (rSumP X.K) := by
  intro pins s σ H xs us Q I r h
  unfold rSumP at h
  split at h
  · rename_i p
    obtain ⟨ns, hq, q⟩ := h
    obtain ⟨u, rfl, rx⟩ := vals1 r
    cases rx
    have hh : X.A.in1.handled = none := I.ok.hd hc
    rcases hq with hq | hq
    · obtain ⟨its, rv, pl, hz⟩ := I.list hq
      have hlt : p < s.heap.objs.size := by
        obtain ⟨_, e, _⟩ := pl.isList
        exact Heap.lt_size e
      refine call_sum_walkAnyS (wpAny_pyIter_list pl.isList ?_)
      refine ⟨s.heap.objs.size, _, _, _, _, _, _, fun i => ns.getD i 0, rfl, (Walks.list hh s.heap.objs.size p (Nat.ne_of_lt hlt) its.toArray).toS, ⟨⟨_, Heap.get?_push_size _ rfl, rfl, rfl⟩, pl.isList.push _⟩, ?_, fun i v hv => ints_at rv hv, fun s' t' m => ?_⟩
      · intro b hb
        rw [Heap.size_push]
        rcases List.mem_cons.mp hb with rfl | hb
        · exact Nat.lt_succ_self _
        · rcases List.mem_cons.mp hb with rfl | hb
          · exact Nat.lt_succ_of_lt hlt
          · cases hb
      · have I1 : Inv X pins σ H s' := I.moved m fun b o e => ⟨by simpa using Nat.ne_of_lt (Heap.lt_size e), Heap.get?_push_of_some _ e⟩
        refine ⟨.int _, H, I1, ⟨t', rfl⟩, ?_⟩
        rw [List.size_toArray, ← rv.length, List.length_map, preSum_list]
        exact q
    · obtain ⟨its, rv, pl, hz⟩ := I.tuple (SqT.of hq)
      have hlt : p < s.heap.objs.size := pl.lt
      refine call_sum_walkAnyS (wpAny_pyIter_tuple (show s.heap.IsTuple p its.toArray from pl) ?_)
      refine ⟨s.heap.objs.size, _, _, _, _, _, _, fun i => ns.getD i 0, rfl, (Walks.tuple hh s.heap.objs.size p (Nat.ne_of_lt hlt) its.toArray).toS, ⟨⟨_, Heap.get?_push_size _ rfl, rfl, rfl⟩, ?_⟩, ?_, fun i v hv => ints_at rv hv, fun s' t' m => ?_⟩
      · exact IsTup.keeps pl fun b o e => Heap.get?_push_of_some _ e
      · intro b hb
        rw [Heap.size_push]
        rcases List.mem_cons.mp hb with rfl | hb
        · exact Nat.lt_succ_self _
        · rcases List.mem_cons.mp hb with rfl | hb
          · exact Nat.lt_succ_of_lt hlt
          · cases hb
      · have I1 : Inv X pins σ H s' := I.moved m fun b o e => ⟨by simpa using Nat.ne_of_lt (Heap.lt_size e), Heap.get?_push_of_some _ e⟩
        refine ⟨.int _, H, I1, ⟨t', rfl⟩, ?_⟩
        rw [List.size_toArray, ← rv.length, List.length_map, preSum_list]
        exact q
  · exact h.elim
noncomputable def rMax1P (K : PySem.W.Frag) : List V → Hp → VK → Prop := fun xs H Q => match xs with
  | [.int i, .int j] => Q (.int (if j > i then j else i)) H
  | [.ref p] => ∃ ns : List Int, (SqL K H p (ns.map V.int) ∨ H p = some (.tup (ns.map V.int))) ∧ ns ≠ [] ∧ ∀ M, M ∈ ns → (∀ n ∈ ns, n ≤ M) → Q (.int M) H
  | _ => False
theorem best_is {ns : List Int} (h : ns ≠ []) : ns.getD (argBest (fun i j => decide (ns.getD i 0 > ns.getD j 0)) (ns.length - 1)) 0 ∈ ns ∧ ∀ n ∈ ns, n ≤ ns.getD (argBest (fun i j => decide (ns.getD i 0 > ns.getD j 0)) (ns.length - 1)) 0 := by
  have hp : 0 < ns.length := List.length_pos_iff.mpr h
  obtain ⟨h1, h2⟩ := argBest_gt (fun i => ns.getD i 0) (ns.length - 1)
  have hlt : argBest (fun i j => decide (ns.getD i 0 > ns.getD j 0)) (ns.length - 1) < ns.length := by omega
  refine ⟨?_, fun n hn => ?_⟩
  · rw [List.getD_eq_getElem?_getD, List.getElem?_eq_getElem hlt]
    exact List.getElem_mem hlt
  · obtain ⟨i, hi, rfl⟩ := List.mem_iff_getElem.mp hn
    have := h2 i (by omega)
    have e : ns.getD i 0 = ns[i] := by rw [List.getD_eq_getElem?_getD, List.getElem?_eq_getElem hi]; rfl
    rw [e] at this
    exact this
theorem call_maxP (hc : X.calm = true) : CallR X (.builtin "max") (rMax1P X.K) := by
  intro pins s σ H xs us Q I r h
  unfold rMax1P at h
  split at h
  · exact call_max2 hc pins s σ H _ us Q I r ⟨_, _, rfl, h⟩
  · rename_i p
    obtain ⟨ns, hq, hne, q⟩ := h
    obtain ⟨u, rfl, rx⟩ := vals1 r
    cases rx
    have hh : X.A.in1.handled = none := I.ok.hd hc
    have hb := best_is hne
    rcases hq with hq | hq
    · obtain ⟨its, rv, pl, hz⟩ := I.list hq
      have hlen : its.length = ns.length := by rw [← rv.length, List.length_map]
      have hlt : p < s.heap.objs.size := by
        obtain ⟨_, e, _⟩ := pl.isList
        exact Heap.lt_size e
      refine call_max_walk (wpAny_pyIter_list pl.isList ?_)
      refine ⟨s.heap.objs.size, _, _, _, _, _, _, rfl, Walks.list hh s.heap.objs.size p (Nat.ne_of_lt hlt) its.toArray, ⟨⟨_, Heap.get?_push_size _ rfl, rfl, rfl⟩, pl.isList.push _⟩, ?_, ?_, CmpOf.ints_gt (fun i => ns.getD i 0) (fun i v hv => ints_at rv hv), fun v h' tk hv hk => ?_⟩
      · intro b hb
        rw [Heap.size_push]
        rcases List.mem_cons.mp hb with rfl | hb
        · exact Nat.lt_succ_self _
        · rcases List.mem_cons.mp hb with rfl | hb
          · exact Nat.lt_succ_of_lt hlt
          · cases hb
      · rw [List.size_toArray, hlen]; exact List.length_pos_iff.mpr hne
      · obtain ⟨t, rfl⟩ := ints_at rv hv
        refine ⟨.int _, H, I.kept fun b o e => hk b o (by simpa using Nat.ne_of_lt (Heap.lt_size e)) (Heap.get?_push_of_some _ e), ⟨t, rfl⟩, ?_⟩
        rw [List.size_toArray, hlen]
        exact q _ hb.1 hb.2
    · obtain ⟨its, rv, pl, hz⟩ := I.tuple (SqT.of hq)
      have hlen : its.length = ns.length := by rw [← rv.length, List.length_map]
      have hlt : p < s.heap.objs.size := pl.lt
      refine call_max_walk (wpAny_pyIter_tuple (show s.heap.IsTuple p its.toArray from pl) ?_)
      refine ⟨s.heap.objs.size, _, _, _, _, _, _, rfl, Walks.tuple hh s.heap.objs.size p (Nat.ne_of_lt hlt) its.toArray, ⟨⟨_, Heap.get?_push_size _ rfl, rfl, rfl⟩, IsTup.keeps pl fun b o e => Heap.get?_push_of_some _ e⟩, ?_, ?_, CmpOf.ints_gt (fun i => ns.getD i 0) (fun i v hv => ints_at rv hv), fun v h' tk hv hk => ?_⟩
      · intro b hb
        rw [Heap.size_push]
        rcases List.mem_cons.mp hb with rfl | hb
        · exact Nat.lt_succ_self _
        · rcases List.mem_cons.mp hb with rfl | hb
          · exact Nat.lt_succ_of_lt hlt
          · cases hb
      · rw [List.size_toArray, hlen]; exact List.length_pos_iff.mpr hne
      · obtain ⟨t, rfl⟩ := ints_at rv hv
        refine ⟨.int _, H, I.kept fun b o e => hk b o (by simpa using Nat.ne_of_lt (Heap.lt_size e)) (Heap.get?_push_of_some _ e), ⟨t, rfl⟩, ?_⟩
        rw [List.size_toArray, hlen]
        exact q _ hb.1 hb.2
  · exact h.elim
theorem noFill_tuple_mul : fillsNumberSlot (.type "tuple") "mul" = pure false :=
  PySem.fillsNumberSlot_seq (id := "tuple.__mul__") (r := some (.builtin "tuple.__rmul__")) F.slot_tuple_mul.lookup (by decide +kernel) F.slot_tuple_rmul.lookup (by decide +kernel)
theorem repeat_tuple : seqRepeat? (.type "tuple") = pure (some (.builtin "tuple.__mul__")) := by
  unfold seqRepeat?
  rw [PySem.seqSlot_of (T := "tuple") (name := "__mul__") (id := "tuple.__mul__") F.slot_tuple_mul.lookup (by decide +kernel), PySem.seqSlot_of (T := "tuple") (name := "__rmul__") (id := "tuple.__rmul__") F.slot_tuple_rmul.lookup (by decide +kernel)]
  rfl

theorem int_rmul_tuple (a : Int) (t : Tok) (l : Addr) (items : Array Value) (n : Nat) :
    Meets (Builtin.«int.__rmul__» ⟨[.int a t, .ref l], []⟩) (fun _ R s => s.heap.get? l = some { cls := .type "tuple", dict := none, data := .seq items n, slots := #[] } ∧ R (.ok (.ret Value.notImplemented)) s) :=
  .of_wp fun prog w A R s h => by obtain ⟨hp, g, d, tk, os⟩ := s; obtain ⟨hl, h⟩ := h; wp_walk; exact ⟨_, rfl, h⟩
theorem tuple_mul_same (l : Addr) (items : Array Value) (n : Nat) (x : Int) (u : Tok) (h1 : (decide (x < -(2 ^ 63)) || decide (x ≥ 2 ^ 63)) = false) (h2 : (items.isEmpty || x == 1) = true) :
    Meets (Builtin.«tuple.__mul__» ⟨[.ref l, .int x u], []⟩) (fun _ R s => s.heap.get? l = some { cls := .type "tuple", dict := none, data := .seq items n, slots := #[] } ∧ R (.ok (.ret (.ref l))) s) :=
  .of_wp fun prog w A R s h => by
    obtain ⟨hp, g, d, tk, os⟩ := s; obtain ⟨hl, h⟩ := h
    wp_walk; refine wpAny_ite_false (by rw [h1]; rfl) ?_; wp_walk; exact ⟨_, rfl, h⟩
theorem tuple_mul_none (l : Addr) (items : Array Value) (n : Nat) (x : Int) (u : Tok) (h1 : (decide (x < -(2 ^ 63)) || decide (x ≥ 2 ^ 63)) = false) (h2 : (items.isEmpty || x == 1) = false) (h3 : (decide (x ≤ 0) || items.isEmpty) = true) :
    Meets (Builtin.«tuple.__mul__» ⟨[.ref l, .int x u], []⟩) (fun _ R s => s.heap.get? l = some { cls := .type "tuple", dict := none, data := .seq items n, slots := #[] } ∧ R (.ok (.ret (.ref s.heap.objs.size))) { s with heap := s.heap.push { cls := .type "tuple", data := .seq #[] } }) :=
  .of_wp fun prog w A R s h => by
    obtain ⟨hp, g, d, tk, os⟩ := s; obtain ⟨hl, h⟩ := h
    wp_walk; refine wpAny_ite_false (by rw [h1]; rfl) ?_; wp_walk; exact ⟨_, rfl, h⟩
theorem tuple_mul_many (l : Addr) (items : Array Value) (n : Nat) (x : Int) (u : Tok) (h1 : (decide (x < -(2 ^ 63)) || decide (x ≥ 2 ^ 63)) = false) (h2 : (items.isEmpty || x == 1) = false) (h3 : (decide (x ≤ 0) || items.isEmpty) = false) (h4 : decide ((items.size : Int) * x > (2 ^ 63 - 1) / 8) = false) (h5 : Builtin.Tuple.tupleTooMany ((items.size : Int) * x) = false) (hz : ((List.replicate x.toNat items).foldl (· ++ ·) #[]).size ≤ sizeLine) :
    Meets (Builtin.«tuple.__mul__» ⟨[.ref l, .int x u], []⟩) (fun _ R s => s.heap.get? l = some { cls := .type "tuple", dict := none, data := .seq items n, slots := #[] } ∧ R (.ok (.ret (.ref s.heap.objs.size))) { s with heap := s.heap.push { cls := .type "tuple", data := .seq ((List.replicate x.toNat items).foldl (· ++ ·) #[]) } }) :=
  .of_wp fun prog w A R s h => by
    obtain ⟨hp, g, d, tk, os⟩ := s; obtain ⟨hl, h⟩ := h
    wp_walk; refine wpAny_ite_false (by rw [h1]; rfl) ?_; wp_walk; refine wpAny_ite_false h4 ?_; wp_walk; exact ⟨_, rfl, h⟩
end
end L2
set_option Elab.async false
set_option linter.all false
set_option maxRecDepth 100000
set_option maxHeartbeats 4000000
namespace L2
open PySem PySem.Spec PyProof.Rows
section
variable {X : Cx}
noncomputable def rMulQ : R2 := fun x y H Q => match x, y with
  | .int i, .int j => IntMulOk i j ∧ Q (.int (i * j)) H
  | .ref a, .int k => (-(2 ^ 63) ≤ k ∧ k < 2 ^ 63) ∧ ((∃ xs, H a = some (.lst xs) ∧ xs.length * k.toNat ≤ sizeLine ∧ ∀ p, H p = none → Q (.ref p) (upd H p (.lst (List.replicate k.toNat xs).flatten))) ∨
      ∃ xs, H a = some (.tup xs) ∧ xs.length * k.toNat ≤ sizeLine ∧ ∀ r H', Same H H' → H' r = some (.tup (List.replicate k.toNat xs).flatten) → Q (.ref r) H')
  | _, _ => False
theorem op_mulQ : OpR X (binaryOp .Mult) rMulQ := by
  intro pins s σ H x y v u Q I rx ry h
  unfold rMulQ at h
  split at h
  · exact op_mulB pins s σ H _ _ v u Q I rx ry ⟨_, _, rfl, rfl, h⟩
  · obtain ⟨⟨hk1, hk2⟩, ⟨xs, h1, h4, q⟩ | ⟨xs, hH, hz, q⟩⟩ := h
    · exact op_rep pins s σ H _ _ v u Q I rx ry ⟨_, _, xs, rfl, rfl, h1, hk1, hk2, h4, q⟩
    rename_i l k
    cases rx
    obtain ⟨t, rfl⟩ := ry
    obtain ⟨z, its, r, n, e⟩ := I.hok l _ hH
    have hl : its.length = xs.length := r.length.symm
    have hemp : its.toArray.isEmpty = xs.isEmpty := by
      cases r <;> rfl
    have g1 : (decide (k < -(2 ^ 63)) || decide (k ≥ 2 ^ 63)) = false := by
      rw [Bool.or_eq_false_iff]
      exact ⟨decide_eq_false (by omega), decide_eq_false (by omega)⟩
    refine wpAny_binaryOp_repeat_ref (T := "tuple") (U := "int") (by decide) ⟨_, e, rfl⟩ (fun s' => typeIs_int s' k t) noFill_tuple_mul F.fills_int_mul F.slot_int_rmul repeat_tuple F.slot_int_index.lookup
      (call_meets F.slot_int_rmul (typeIs_int s k t) F.entry_int_rmul (F.args_int_rmul_2 _ _) (int_rmul_tuple k t l its.toArray n) ⟨e, rfl, ⟨_, e, rfl⟩, ?_⟩)
    by_cases c1 : (its.toArray.isEmpty || k == 1) = true
    · refine call_meets F.slot_tuple_mul ⟨_, e, rfl⟩ F.entry_tuple_mul (F.args_tuple_mul_2 _ _) (tuple_mul_same l its.toArray n k t g1 c1) ⟨e, ?_⟩
      refine ⟨.ref l, H, I, rfl, q l H (Same.refl H) ?_⟩
      rw [hH]
      rw [Bool.or_eq_true] at c1
      rcases c1 with c1 | c1
      · rw [hemp, List.isEmpty_iff] at c1
        subst c1
        have : (List.replicate k.toNat ([] : List V)).flatten = [] := by
          induction k.toNat with
          | zero => rfl
          | succ m ih => rw [List.replicate_succ, List.flatten_cons, ih]; rfl
        rw [this]
      · have : k = 1 := by simpa using c1
        subst this
        show some (HO.tup xs) = some (.tup (List.replicate 1 xs).flatten)
        simp
    · have c1' : (its.toArray.isEmpty || k == 1) = false := by simpa using c1
      have he : its.toArray.isEmpty = false := (Bool.or_eq_false_iff.mp c1').1
      by_cases c2 : k ≤ 0
      · refine call_meets F.slot_tuple_mul ⟨_, e, rfl⟩ F.entry_tuple_mul (F.args_tuple_mul_2 _ _) (tuple_mul_none l its.toArray n k t g1 c1' (by rw [decide_eq_true c2]; rfl)) ⟨e, ?_⟩
        have e0 : (List.replicate k.toNat xs).flatten = [] := by
          have : k.toNat = 0 := by omega
          rw [this]; rfl
        have I2 : Inv X pins σ (upd H s.heap.objs.size (.tup [])) { s with heap := s.heap.push { cls := .type "tuple", data := .seq #[] } } :=
          I.laid (t' := s.toks) (o := .tup []) (fun b ob q => Heap.get?_push_of_some _ q) (Nat.le_refl _) ⟨Nat.zero_le _, [], .nil, TupD.new _ _⟩
        exact ⟨.ref s.heap.objs.size, _, I2, rfl, q _ _ (Same.new (I.hok.fresh (Nat.le_refl _)) _) (by rw [e0]; exact upd_same)⟩
      · have hcast : (its.toArray.size : Int) * k = ((xs.length * k.toNat : Nat) : Int) := by
          rw [List.size_toArray, hl]
          have : k = (k.toNat : Int) := by omega
          conv => lhs; rw [this]
          norm_cast
        have hb : (sizeLine : Nat) ≤ (2 ^ 63 - 1) / 8 := by decide
        have g4 : decide ((its.toArray.size : Int) * k > (2 ^ 63 - 1) / 8) = false := by
          refine decide_eq_false ?_
          rw [hcast]
          omega
        have g5 : Builtin.Tuple.tupleTooMany ((its.toArray.size : Int) * k) = false := by
          unfold Builtin.Tuple.tupleTooMany
          rw [hcast]
          exact decide_eq_false (by omega)
        have f0 : List.foldl (fun x1 x2 => x1 ++ x2) #[] (List.replicate k.toNat its.toArray) = (List.replicate k.toNat its).flatten.toArray := by
          have := foldl_rep its k.toNat []
          rw [List.nil_append] at this
          exact this
        refine call_meets F.slot_tuple_mul ⟨_, e, rfl⟩ F.entry_tuple_mul (F.args_tuple_mul_2 _ _) (tuple_mul_many l its.toArray n k t g1 c1' (by rw [decide_eq_false c2, he]; rfl) g4 g5 (by rw [f0, List.size_toArray, len_rep, hl, Nat.mul_comm]; exact hz)) ⟨e, ?_⟩
        rw [f0]
        have I2 : Inv X pins σ (upd H s.heap.objs.size (.tup (List.replicate k.toNat xs).flatten)) { s with heap := s.heap.push { cls := .type "tuple", data := .seq (List.replicate k.toNat its).flatten.toArray } } :=
          I.laid (t' := s.toks) (o := .tup (List.replicate k.toNat xs).flatten) (fun b ob q => Heap.get?_push_of_some _ q) (Nat.le_refl _) ⟨by rw [len_rep, Nat.mul_comm]; exact hz, _, r.rep k.toNat, TupD.new _ _⟩
        exact ⟨.ref s.heap.objs.size, _, I2, rfl, q _ _ (Same.new (I.hok.fresh (Nat.le_refl _)) _) upd_same⟩
  · exact h.elim
noncomputable def Itrs (lo c : Int) (n : Nat) : It := ⟨fun i _ => i < n, fun i H x H' => H' = H ∧ x = .int (lo + i * c), fun i _ => n ≤ i⟩
theorem turn_rangeS {P : Program} {w : World} {K : PySem.W.Frag} {tg : Expr} (it : Addr) (lo c : Int) (n : Nat) : Turn P w K tg (Itrs lo c n) [it] it (fun i h => IsRangeIter h it (lo + (i : Nat) * c) ((n : Int) - (i : Nat)) c) where
  mem := by simp
  obj := fun i h st b hb => by
    have e : b = it := by simpa using hb
    subst e
    exact ⟨_, st, fun v z => by
      have z' : Data.fields _ = Data.cell v := z
      cases z'⟩
  keep := fun i h h' st k => k it (by simp) _ st
  item := by
    intro X hP hw hK hc i pins s σ H E I hf st hg
    subst hP hw hK
    obtain ⟨f0, f1, f2, f3, f4, f5⟩ := hf it (by simp)
    have W := Walks.range (prog := X.prog) (w := X.w) (I.ok.hd hc) it lo c n
    refine W.item i s _ _ hg st fun v h' tk hv st' kk => ?_
    obtain ⟨t, rfl⟩ := hv
    have I1 : Inv X pins σ H { s with heap := h', toks := tk } := I.turned (fun b o hb e => kk b o (by simpa using hb) e) f0 f1 f3 f4 f5
    exact ⟨_, rfl, go_of (s := { s with heap := h', toks := tk }) (n := "range_iterator") st' rfl rfl (by decide) ⟨.int (lo + i * c), H, I1, ⟨t, rfl⟩, ⟨rfl, rfl⟩, st', fun b hb => (hf b hb).1⟩⟩
  done := by
    intro X hP hw hK hc i pins s σ H E I hf st hg
    subst hP hw hK
    obtain ⟨f0, f1, f2, f3, f4, f5⟩ := hf it (by simp)
    exact wpAny_pyNext_range_end (I.ok.hd hc) st (by have : n ≤ i := hg; omega) fun h' eb => ⟨rfl, I.turned (t' := s.toks) (fun b o hb e => eb b o hb e) f0 f1 f3 f4 f5⟩
  self := fun _ _ _ _ _ st h => wpAny_pyIter_rangeiter st h
theorem size_nonneg {a b c : Int} (hc : c ≠ 0) : 0 ≤ Builtin.Range.rangeSize a b c := by
  unfold Builtin.Range.rangeSize
  split
  · split
    · have := Int.ediv_nonneg (a := b - a - 1) (b := c) (by omega) (by omega); omega
    · omega
  · split
    · have := Int.ediv_nonneg (a := a - b - 1) (b := -c) (by omega) (by omega); omega
    · omega
noncomputable def iRng3 {tg : Expr} (ta : TA) : TI := fun σ H R => ta σ H fun vs H1 => ∃ i j c : Int, vs = [.int i, .int j, .int c] ∧ (c ≠ 0 ∧ (c < 2 ^ 29 ∧ -(2 ^ 29) < c) ∧ Builtin.Range.small i j c = true) ∧ R (Itrs i c (Builtin.Range.rangeSize i j c).toNat) H1
theorem pi_range3 {tg : Expr} {a b d : Expr} {ta : TA} {p pos : Pos} (hg : Gl X "range") (hm : X.mg "range" = none) (ha : PA X [a, b, d] ta) (hs : starEach [a, b, d] X.env = [(false, eval a X.env), (false, eval b X.env), (false, eval d X.env)] := by rfl) (hs2 : starEach [b, d] X.env = [(false, eval b X.env), (false, eval d X.env)] := by rfl) :
    PI X tg (.Call (.Name "range" p) [a, b, d] [] pos) (iRng3 (tg := tg) ta) := by
  intro pins s σ H R I h
  refine Call_ (ld_blt I hg hm boot_range (PyProof.Rows.callWith_type1 (thn (ha pos pins s σ H _ I h) fun us s1 ⟨vs, H1, I1, r1, q1⟩ => ?_) (by rw [hs, hs2]) (by rw [hs2]; rfl)))
  obtain ⟨i, j, c, e, ⟨hc0, ⟨hcb, hcb2⟩, hsm⟩, q⟩ := q1
  subst e
  cases r1 with
  | cons r rr =>
    cases rr with
    | cons r' rr =>
      cases rr with
      | cons r'' rr =>
        cases rr
        obtain ⟨t, rfl⟩ := r
        obtain ⟨t', rfl⟩ := r'
        obtain ⟨t'', rfl⟩ := r''
        refine PySem.call_range_3 hc0 ?_ (Or.inl (PyProof.noPylong_small (by omega)))
        refine wpAny_pyIter_range (IsRange.new ..) hsm ?_
        have I2 : Inv X pins σ H1 { s1 with heap := s1.heap.push { cls := .type "range", data := .fields #[.int i t, .int j t', .int c t''] } } := I1.kept (t' := s1.toks) fun b o e => Heap.get?_push_of_some _ e
        refine ⟨(s1.heap.push { cls := .type "range", data := .fields #[.int i t, .int j t', .int c t''] }).objs.size, [(s1.heap.push { cls := .type "range", data := .fields #[.int i t, .int j t', .int c t''] }).objs.size], _, _, H1, rfl,
          I2.kept (t' := s1.toks) fun b o e => Heap.get?_push_of_some _ e, turn_rangeS _ i c (Builtin.Range.rangeSize i j c).toNat, ?_, fun b hb => ?_, q⟩
        · have e1 : i + ((0 : Nat) : Int) * c = i := by simp
          have e2 : (((Builtin.Range.rangeSize i j c).toNat : Nat) : Int) - ((0 : Nat) : Int) = Builtin.Range.rangeSize i j c := by have := size_nonneg (a := i) (b := j) hc0; omega
          show IsRangeIter _ _ (i + ((0 : Nat) : Int) * c) ((((Builtin.Range.rangeSize i j c).toNat : Nat) : Int) - ((0 : Nat) : Int)) c
          rw [e1, e2]
          exact Heap.get?_push_size _ rfl
        · have e : b = (s1.heap.push { cls := .type "range", data := .fields #[.int i t, .int j t', .int c t''] }).objs.size := by simpa using hb
          subst e
          exact I2.fpOk (Nat.le_refl _) (I2.hok.fresh (Nat.le_refl _))
theorem zi_range3 {tg : Expr} {a b d : Expr} {ta : TA} {p pos : Pos} (hg : Gl X "range") (hm : X.mg "range" = none) (ha : ZA X [a, b, d] ta) (hs : starEach [a, b, d] X.env = [(false, eval a X.env), (false, eval b X.env), (false, eval d X.env)] := by rfl) (hs2 : starEach [b, d] X.env = [(false, eval b X.env), (false, eval d X.env)] := by rfl) :
    ZI X tg (.Call (.Name "range" p) [a, b, d] [] pos) (iRng3 (tg := tg) ta) := by with_unfolding_all exact pi_range3 hg hm ha hs hs2
theorem for_rangeS {lo c : Int} {n : Nat} {g : TG} {tb : TS} {D : Ends} {σ : St} {H : Hp} (Pv : Nat → St → Hp → Prop) (h0 : Pv 0 σ H)
    (hs : ∀ i σ H, i < n → Pv i σ H → g (.int (lo + i * c)) σ H fun σ2 H2 => tb { D with nx := Pv (i + 1), ct := Pv (i + 1), bk := D.nx } σ2 H2) (hd : ∀ σ H, Pv n σ H → D.nx σ H) :
    ∃ W : Nat → Nat → St → Hp → Prop, (∃ m, W 0 m σ H) ∧ ∀ i m σ H, W i m σ H →
      ((Itrs lo c n).stop i H ∧ D.nx σ H) ∨ ((Itrs lo c n).go i H ∧ ∃ N : St → Hp → Prop, (∀ σ' H', N σ' H' → ∃ m', m' < m ∧ W (i + 1) m' σ' H') ∧ ∀ x H', (Itrs lo c n).yld i H x H' → g x σ H' fun σ2 H2 => tb { D with nx := N, ct := N, bk := D.nx } σ2 H2) := by
  refine ⟨fun i m σ H => m = n - i ∧ i ≤ n ∧ Pv i σ H, ⟨n, by simp, Nat.zero_le _, h0⟩, ?_⟩
  rintro i m σ H ⟨rfl, hi, p⟩
  by_cases hlt : i < n
  · refine .inr ⟨hlt, Pv (i + 1), fun σ' H' p' => ⟨n - (i + 1), by omega, rfl, hlt, p'⟩, fun x H' y => ?_⟩
    obtain ⟨e, y⟩ := y
    subst e y
    exact hs i σ _ hlt p
  · have e : i = n := by omega
    subst e
    exact .inl ⟨Nat.le_refl _, hd σ H p⟩
theorem size_down {a b : Int} : (Builtin.Range.rangeSize a b (-1)).toNat = (a - b).toNat := by
  unfold Builtin.Range.rangeSize
  rw [if_neg (by decide)]
  split
  · have : (- -1 : Int) = 1 := by decide
    rw [this, Int.ediv_one]; omega
  · omega
theorem small_down {a b : Int} (ha : -(2 ^ 62) ≤ a) (ha' : a < 2 ^ 62) (hb : -(2 ^ 62) ≤ b) (hb' : b < 2 ^ 62) : Builtin.Range.small a b (-1) = true := by
  have e : Builtin.Range.rangeSize a b (-1) = if a > b then a - b else 0 := by
    unfold Builtin.Range.rangeSize
    rw [if_neg (by decide)]
    have : (- -1 : Int) = 1 := by decide
    rw [this]
    split
    · rw [Int.ediv_one]; omega
    · rfl
  unfold Builtin.Range.small
  rw [e]
  simp only [Builtin.Range.rangeFitsLong, Bool.and_eq_true, Bool.or_eq_true, decide_eq_true_eq, beq_iff_eq, show ¬ ((-1 : Int) > 0) by decide, if_false]
  split <;> omega
end
section
variable {X : Cx} {e : Expr} {es : List Expr} {t : TA} {p pos : Pos}
theorem boot_sum' : bootBuiltins "sum" = some (.builtin "sum") := by decide +kernel
theorem boot_max' : bootBuiltins "max" = some (.builtin "max") := by decide +kernel
theorem boot_abs' : bootBuiltins "abs" = some (.builtin "abs") := by decide +kernel
theorem pcb_sum (hc : X.calm = true) (hg : Gl X "sum") (hm : X.mg "sum" = none) (ha : PA X (e :: es) t) (he : starEach (e :: es) X.env = (false, eval e X.env) :: starEach es X.env) (hpl : (backTo pos (starEach es X.env)).any (·.1) = false) :
    PE X (.Call (.Name "sum" p) (e :: es) [] pos) (tCB (rSumP X.K) t) := pe_callB (call_sumP hc) hg hm boot_sum' ha (by decide) (by decide) he hpl
theorem zcb_sum (hc : X.calm = true) (hg : Gl X "sum") (hm : X.mg "sum" = none) (ha : ZA X (e :: es) t) (he : starEach (e :: es) X.env = (false, eval e X.env) :: starEach es X.env) (hpl : (backTo pos (starEach es X.env)).any (·.1) = false) :
    ZE X (.Call (.Name "sum" p) (e :: es) [] pos) (tCB (rSumP X.K) t) := by with_unfolding_all exact pcb_sum hc hg hm ha he hpl
theorem pcb_max (hc : X.calm = true) (hg : Gl X "max") (hm : X.mg "max" = none) (ha : PA X (e :: es) t) (he : starEach (e :: es) X.env = (false, eval e X.env) :: starEach es X.env) (hpl : (backTo pos (starEach es X.env)).any (·.1) = false) :
    PE X (.Call (.Name "max" p) (e :: es) [] pos) (tCB (rMax1P X.K) t) := pe_callB (call_maxP hc) hg hm boot_max' ha (by decide) (by decide) he hpl
theorem zcb_max (hc : X.calm = true) (hg : Gl X "max") (hm : X.mg "max" = none) (ha : ZA X (e :: es) t) (he : starEach (e :: es) X.env = (false, eval e X.env) :: starEach es X.env) (hpl : (backTo pos (starEach es X.env)).any (·.1) = false) :
    ZE X (.Call (.Name "max" p) (e :: es) [] pos) (tCB (rMax1P X.K) t) := by with_unfolding_all exact pcb_max hc hg hm ha he hpl
noncomputable def rAbsP : List V → Hp → VK → Prop := fun xs H Q => match xs with
  | [.int i] => Q (.int (if i < 0 then -i else i)) H
  | _ => False
theorem call_absP : CallR X (.builtin "abs") rAbsP := call_abs.imp fun xs H Q h => by
  unfold rAbsP at h
  split at h
  · exact ⟨_, rfl, h⟩
  · exact h.elim
theorem pcb_abs (hg : Gl X "abs") (hm : X.mg "abs" = none) (ha : PA X (e :: es) t) (he : starEach (e :: es) X.env = (false, eval e X.env) :: starEach es X.env) (hpl : (backTo pos (starEach es X.env)).any (·.1) = false) :
    PE X (.Call (.Name "abs" p) (e :: es) [] pos) (tCB rAbsP t) := pe_callB call_absP hg hm boot_abs' ha (by decide) (by decide) he hpl
noncomputable def rAppP : V → List V → Hp → VK → Prop := fun x vs H Q => match x, vs with
  | .ref l, [y] => ∃ xs, H l = some (.lst xs) ∧ xs.length < sizeLine ∧ Q .non (upd H l (.lst (xs ++ [y])))
  | _, _ => False
theorem mt_appP : MtM X "list.append" rAppP := fun pins s σ H x vs v us Q I rx rv h => by
  unfold rAppP at h
  split at h
  · obtain ⟨xs, h1, h2, q⟩ := h
    exact mt_append pins s σ H _ _ v us Q I rx rv ⟨_, xs, _, rfl, rfl, h1, h2, q⟩
  · exact h.elim
variable {o : Expr} {to : TE} {apos cpos : Pos}
theorem pm_append (ho : PE X o to) (ha : PA X (e :: es) t) (hbase : attributeBase o "append" X.env (eval o X.env) = eval o X.env := by rfl)
    (hfew : ((backTo cpos (starEach (e :: es) X.env)).all (fun x => !x.1) && (backToKw cpos (keywordEach [] X.env)).all (fun x => x.1.isSome)
      && decide ((e :: es).length + ([] : List Keyword).length + (if ([] : List Keyword).isEmpty then 0 else 1) < 30)) = true := by rfl)
    (hline : (apos.endLine == cpos.line) = true := by rfl) (hs : starEach (e :: es) X.env = (false, eval e X.env) :: starEach es X.env := by rfl) (hplain : (backTo cpos (starEach es X.env)).any (·.1) = false := by rfl) :
    PE X (.Call (.Attribute o "append" apos) (e :: es) [] cpos) (fun σ H Q => to σ H fun x H1 => tyV X.K "list" x H1 ∧ t σ H1 fun xs H2 => rAppP x xs H2 Q) :=
  pe_bm PySem.F.plainAttrs_list PySem.F.slot_list_append PySem.F.type_list_append mt_appP ho ha hbase hfew hline hs hplain
theorem zm_append (ho : ZE X o to) (ha : ZA X (e :: es) t) (hbase : attributeBase o "append" X.env (eval o X.env) = eval o X.env := by rfl)
    (hfew : ((backTo cpos (starEach (e :: es) X.env)).all (fun x => !x.1) && (backToKw cpos (keywordEach [] X.env)).all (fun x => x.1.isSome)
      && decide ((e :: es).length + ([] : List Keyword).length + (if ([] : List Keyword).isEmpty then 0 else 1) < 30)) = true := by rfl)
    (hline : (apos.endLine == cpos.line) = true := by rfl) (hs : starEach (e :: es) X.env = (false, eval e X.env) :: starEach es X.env := by rfl) (hplain : (backTo cpos (starEach es X.env)).any (·.1) = false := by rfl) :
    ZE X (.Call (.Attribute o "append" apos) (e :: es) [] cpos) (fun σ H Q => to σ H fun x H1 => tyV X.K "list" x H1 ∧ t σ H1 fun xs H2 => rAppP x xs H2 Q) := by with_unfolding_all exact pm_append ho ha hbase hfew hline hs hplain
theorem tyL {K : PySem.W.Frag} {H : Hp} {l : Addr} {xs : List V} (h : H l = some (.lst xs)) : tyV K "list" (.ref l) H := .inl ⟨rfl, xs, SqL.of h⟩
end
end L2
set_option Elab.async false
set_option linter.all false
set_option maxRecDepth 100000
set_option maxHeartbeats 4000000
namespace L2
open PySem PySem.Spec PyProof.Rows
theorem DatV.ints {H : Hp} {a : Addr} {ns : List Int} (e : H a = some (.tup (ns.map V.int))) : DatV H (.ref a) (.tuple (ns.map PyData.int)) := .tup e (DatAll.ints ns)
noncomputable def PrAt (H : Hp) (v : V) (p : Int × Int) : Prop := ∃ b, v = .ref b ∧ H b = some (.tup [.int p.1, .int p.2])
inductive Prs (H : Hp) : List V → List (Int × Int) → Prop where
  | nil : Prs H [] []
  | cons {v p vs ps} : PrAt H v p → Prs H vs ps → Prs H (v :: vs) (p :: ps)
theorem Prs.same {H H' : Hp} (y : Same H H') : ∀ {vs ps}, Prs H vs ps → Prs H' vs ps
  | _, _, .nil => .nil
  | _, _, .cons ⟨b, e, h⟩ r => .cons ⟨b, e, y _ _ h⟩ (Prs.same y r)
theorem Prs.length {H : Hp} : ∀ {vs ps}, Prs H vs ps → vs.length = ps.length
  | _, _, .nil => rfl
  | _, _, .cons _ r => by rw [List.length_cons, List.length_cons, Prs.length r]
theorem Prs.get {H : Hp} : ∀ {vs ps} {i : Nat} {v : V}, Prs H vs ps → vs[i]? = some v → ∃ p, ps[i]? = some p ∧ PrAt H v p
  | _, _, _, _, .nil, h => by simp at h
  | _, _, 0, _, .cons h _, e => by simp at e; subst e; exact ⟨_, rfl, h⟩
  | _, _, i + 1, _, .cons _ r, e => by
    obtain ⟨p, h1, h2⟩ := Prs.get (i := i) r (by simpa using e)
    exact ⟨p, by simpa using h1, h2⟩
theorem Prs.snoc {H : Hp} {v : V} {p : Int × Int} (h : PrAt H v p) : ∀ {vs ps}, Prs H vs ps → Prs H (vs ++ [v]) (ps ++ [p])
  | _, _, .nil => .cons h .nil
  | _, _, .cons q r => .cons q (Prs.snoc h r)
theorem Same.updN {H H' : Hp} {t : Addr} {o : HO} (y : Same H H') (h : H t = none) : Same H (upd H' t o) := fun b u e => by
  rw [upd_ne (ne_of_none e h)]
  exact y b u e
theorem Prs.updL {H : Hp} {t : Addr} {xs ys : List V} (h : H t = some (.lst xs)) : ∀ {us ps}, Prs H us ps → Prs (upd H t (.lst ys)) us ps
  | _, _, .nil => .nil
  | _, _, .cons ⟨b, e, hb⟩ r => .cons ⟨b, e, by rw [upd_ne (ne_of hb h (by intro z; cases z))]; exact hb⟩ (Prs.updL h r)
end L2
namespace L2
open PySem PySem.Spec PyProof.Rows
theorem canInts : ∀ ns : List Int, PyData.canLayAll0 (ns.map PyData.int) = true ∧ PyData.depthAll (ns.map PyData.int) ≤ 1
  | [] => ⟨by simp [PyData.canLayAll0], by simp [PyData.depthAll]⟩
  | n :: r => by
    obtain ⟨h1, h2⟩ := canInts r
    refine ⟨by simp only [List.map_cons, PyData.canLayAll0, PyData.canLay0, h1, Bool.and_self], ?_⟩
    simp only [List.map_cons, PyData.depthAll, PyData.depth]
    omega
theorem shaped_ints (ns : List Int) : SeqAt.shaped (.tuple (ns.map PyData.int)) = true := by
  obtain ⟨h1, h2⟩ := canInts ns
  unfold SeqAt.shaped
  rw [Bool.and_eq_true]
  exact ⟨by simp only [PyData.canLay0]; exact h1, decide_eq_true (by simp only [PyData.depth]; omega)⟩
theorem eqv_self {d : PyData} (h : SeqAt.shaped d = true) : PyData.eqv d d = true := SeqAt.eqv_refl d (SeqAt.canLay_of_shaped h)
end L2
namespace L2
open PySem PySem.Spec PyProof.Rows
theorem SqL.same {K : PySem.W.Frag} {H H' : Hp} {a : Addr} {xs : List V} (e : Same H H') (h : SqL K H a xs) : SqL K H' a xs := by
  rcases h with (h | ⟨o, h⟩) | h
  · exact .inl (.inl (e _ _ h))
  · exact .inl (.inr ⟨o, e _ _ h⟩)
  · exact .inr h
end L2
namespace L2
open PySem PySem.Spec PyProof.Rows
theorem while_by2 {c : TT} {tb : TS} {D : Ends} {σ : St} {H : Hp} (Pv : Nat → St → Hp → Prop) (m0 : Nat) (h0 : Pv m0 σ H)
    (hs : ∀ m σ H, Pv m σ H → c σ H fun b H1 => if b = true then ∃ N : St → Hp → Prop, (∀ σ' H', N σ' H' → ∃ m', m' < m ∧ Pv m' σ' H') ∧ tb { D with nx := N, ct := N, bk := D.nx } σ H1 else D.nx σ H1) : tWhile c tb D σ H := ⟨Pv, ⟨m0, h0⟩, hs⟩
end L2
set_option Elab.async false
set_option linter.all false
set_option maxRecDepth 100000
set_option maxHeartbeats 4000000
namespace K16
open PySem L2
noncomputable def top (i : Nat) : Stmt := PySem.Challenge.pw_partrests_k16_whole_all_ways_agree.main.body.getD i (.Pass ⟨0, 0, 0, 0⟩)
noncomputable def Hand (H : Hp) (a : Addr) (n : Nat) : Prop := ∃ g s c : Int, H a = some (.lst [.int g, .int s, .int c]) ∧ 0 ≤ g ∧ 0 ≤ s ∧ s < 2305843009213693951 ∧ 0 ≤ c ∧ c ≤ n
noncomputable def Step (a : Addr) (n : Nat) (H H' : Hp) : Prop := (∀ b o, b ≠ a → H b = some o → H' b = some o) ∧ Hand H' a n
theorem Hand.mono {H : Hp} {a : Addr} {n m : Nat} (h : Hand H a n) (k : n ≤ m) : Hand H a m := let ⟨g, s, c, e, h1, h2, h3, h4, h5⟩ := h; ⟨g, s, c, e, h1, h2, h3, h4, by omega⟩
theorem Hand.same {H H' : Hp} {a : Addr} {n : Nat} (h : Hand H a n) (y : Same H H') : Hand H' a n := let ⟨g, s, c, e, r⟩ := h; ⟨g, s, c, y _ _ e, r⟩
theorem Hand.at {H : Hp} {a : Addr} {n : Nat} (h : Hand H a n) : ∃ xs, H a = some (.lst xs) := let ⟨_, _, _, e, _⟩ := h; ⟨_, e⟩
theorem Hand.ne {H : Hp} {a b : Addr} {n : Nat} (h : Hand H a n) (hb : H b = none) : b ≠ a := fun z => by
  obtain ⟨xs, e⟩ := h.at
  rw [z, e] at hb
  cases hb
theorem Step.trans {a : Addr} {n m : Nat} {H H1 H2 : Hp} (x : Step a n H H1) (y : Step a m H1 H2) : Step a m H H2 := ⟨fun b o k e => y.1 b o k (x.1 b o k e), y.2⟩
theorem Step.same {a : Addr} {n : Nat} {H H1 H2 : Hp} (x : Step a n H H1) (y : Same H1 H2) : Step a n H H2 := ⟨fun b o k e => y b o (x.1 b o k e), x.2.same y⟩
theorem Step.refl {a : Addr} {n : Nat} {H : Hp} (h : Hand H a n) : Step a n H H := ⟨fun _ _ _ e => e, h⟩
theorem Step.of_same {a : Addr} {n : Nat} {H H1 : Hp} (h : Hand H a n) (y : Same H H1) : Step a n H H1 := (Step.refl h).same y
theorem Step.tup {a b : Addr} {n m : Nat} {H H1 : Hp} {xs : List V} (h : Hand H a m) (x : Step a n H H1) (e : H b = some (.tup xs)) : H1 b = some (.tup xs) := by
  obtain ⟨ys, e'⟩ := h.at
  exact x.1 b _ (ne_of e e' (by intro z; cases z)) e
theorem atI_of {xs : List V} {k : Int} {j : Nat} {v : V} (h : k = (j : Int)) (hx : xs[j]? = some v) : atI xs k = some v := by subst h; exact atI_nat hx
theorem getI {ns : List Int} {j : Nat} (h : j < ns.length) : (ns.map V.int)[j]? = some (.int ns[j]) := by rw [List.getElem?_map, List.getElem?_eq_getElem h]; rfl
theorem rep_flat (n : Nat) (x : Int) : (List.replicate n [V.int x]).flatten = (List.replicate n x).map V.int := by
  induction n with
  | zero => rfl
  | succ n ih => rw [List.replicate_succ, List.flatten_cons, ih, List.replicate_succ, List.map_cons]; rfl
theorem le_line {n : Nat} (h : n ≤ 1000) : n ≤ sizeLine := Nat.le_of_lt (small1000 h)
theorem mulR {a b : Int} (h1 : -(2 ^ 64) < b) (h2 : b < 2 ^ 64) : IntMulOk a b := IntMulOk.of_right (intBits_le_64 h1 h2)
theorem mulL {a b : Int} (h1 : -(2 ^ 64) < a) (h2 : a < 2 ^ 64) : IntMulOk a b := IntMulOk.of_left (intBits_le_64 h1 h2)
section
variable {P : Program} {w : World} {K : PySem.W.Frag} {mg : Str → Option Value} {base : Heap} {f : Addr} {fd : FuncData}
theorem sc_take : FnScope ["_law_hand_here", "_law_many", "_law_digit", "_law_blent"] ["_law_hand_here", "_law_many"] (defScope (top 17)) := ⟨rfl, rfl, rfl, by decide +kernel, rfl, by decide +kernel, by decide +kernel⟩
noncomputable def sp_take : Sp := fun vs H Q _ => ∃ (a : Addr) (m : Int) (n : Nat), vs = [.ref a, .int m] ∧ Hand H a n ∧ n < 1000000000 ∧ 0 < m ∧ m < 1073741824 ∧ ∀ r H', 0 ≤ r → r < m → Step a (n + 1) H H' → Q (.int r) H'
theorem ok_take (F : Fun K "_law_take" "_law_take" (top 17) f fd) : FnOk P w K mg base CX0 1 f fd ["_law_hand_here", "_law_many"] sp_take := by
  refine F.ok sc_take (fun vs H Q E h => ?_) (fun cdv A outer s H vs Q E hr h => ?_)
  · obtain ⟨a, m, n, rfl, _⟩ := h; rfl
  obtain ⟨a, m, n, rfl, ⟨g, z, c, hl, g0, z0, z1, c0, c1⟩, n1, m0, m1, q⟩ := h
  have nd := sc_take.nd
  refine ⟨_, (pss_cons (ps_if (pt_cmpP op_gtP (pe_ix ix_P (pn 0) pe_int (fun _ _ => rfl)) pe_int (nomark _)) (pss_cons (ps_set (i := 2) nd rfl (Or.inl rfl) (pe_op op_modP (pe_ix ix_P (pn 0) pe_int (fun _ _ => rfl)) (pn 1)))
      (pss_cons (ps_asg (pe_op op_fdivP (pe_ix ix_P (pn 0) pe_int (fun _ _ => rfl)) (pn 1)) (pg_sub (pn 0) pe_int set_list))
      (pss_one (ps_ret (pn 2))))) pss_nil)
      (pss_cons (ps_asg (pe_op op_addP (pe_ix ix_P (pn 0) pe_int (fun _ _ => rfl)) pe_int) (pg_sub (pn 0) pe_int set_list))
      (pss_cons (ps_set (i := 3) nd rfl (Or.inl rfl) (pe_op op_modP (pe_op op_mulQ (pe_op op_addP (pe_op op_addP (pe_ix ix_P (pn 0) pe_int (fun _ _ => rfl)) (pe_op op_mulQ (pe_op op_mulQ pe_int (pe_ix ix_P (pn 0) pe_int (fun _ _ => rfl))) (pe_ix ix_P (pn 0) pe_int (fun _ _ => rfl)))) pe_int) pe_int) pe_int))
      (pss_cons (ps_set (i := 3) nd rfl (Or.inl rfl) (pe_op op_modP (pe_op op_mulQ (pn 3) (pe_op op_addP (pe_op op_modP (pn 3) pe_int) (pe_op op_mulQ pe_int (pe_ix ix_P (pn 0) pe_int (fun _ _ => rfl))))) pe_int))
      (pss_one (ps_ret (pe_op op_modP (pe_op op_addP (pe_op op_fdivP (pn 3) pe_int) (pe_op op_fdivP (pn 3) pe_int)) (pn 1)))))))), ?_⟩
  refine ⟨_, .inl (SqL.of hl), .int g, rfl, ?_⟩
  refine iteD (fun hg => ?_) (fun hg => ?_)
  · refine ⟨_, .inl (SqL.of hl), .int g, rfl, m0, ?_⟩
    refine ⟨_, .inl (SqL.of hl), .int g, rfl, ⟨m0, m1⟩, ?_⟩
    refine ⟨a, _, _, _, rfl, rfl, hl, rfl, ?_⟩
    refine q _ _ (Int.emod_nonneg _ (by omega)) (Int.emod_lt_of_pos _ m0) ⟨fun b o n e => ?_, g / m, z, c, upd_same, Int.ediv_nonneg g0 (by omega), z0, z1, c0, by omega⟩
    rw [upd_ne n]; exact e
  · refine ⟨_, .inl (SqL.of hl), .int c, rfl, ?_⟩
    refine ⟨a, _, _, _, rfl, rfl, hl, rfl, ?_⟩
    refine ⟨_, .inl (SqL.of upd_same), .int z, rfl, ?_⟩
    refine ⟨_, .inl (SqL.of upd_same), .int (c + 1), rfl, mulL (by decide) (by decide), ?_⟩
    refine ⟨_, .inl (SqL.of upd_same), .int (c + 1), rfl, mulR (by omega) (by omega), mulR (by decide) (by decide), (show (0 : Int) < 2305843009213693921 by decide), ?_⟩
    generalize hb1 : (z + 65537 * (c + 1) * (c + 1) + 11) * 48271 % 2305843009213693921 = b1
    have e1 : 0 ≤ b1 := by rw [← hb1]; exact Int.emod_nonneg _ (by decide)
    have e2 : b1 < 2305843009213693921 := by rw [← hb1]; exact Int.emod_lt_of_pos _ (by decide)
    refine ⟨(show (0 : Int) < 1000003 by decide), ?_⟩
    refine ⟨_, .inl (SqL.of upd_same), .int (c + 1), rfl, mulL (by decide) (by decide), mulL (by omega) (by omega), (show (0 : Int) < 2305843009213693907 by decide), ?_⟩
    refine ⟨⟨by decide, by decide⟩, ⟨by decide, by decide⟩, m0, ?_⟩
    refine q _ _ (Int.emod_nonneg _ (by omega)) (Int.emod_lt_of_pos _ m0) ⟨fun b o n e => ?_, g, z, c + 1, upd_same, g0, z0, z1, by omega, by omega⟩
    rw [upd_ne n]; exact e
theorem sc_hand : FnScope ["_law_script", "_law_k", "_law_cell", "_law_great"] ["_law_script", "_law_k"] (defScope (top 16)) := ⟨rfl, rfl, rfl, by decide +kernel, rfl, by decide +kernel, by decide +kernel⟩
noncomputable def sp_hand (K : PySem.W.Frag) : Sp := fun vs H Q _ => ∃ (a : Addr) (k : Int) (ns : List Int), vs = [.ref a, .int k] ∧ SqL K H a (ns.map V.int) ∧ 0 ≤ k ∧ k ≤ 100 ∧ ∀ p H', H p = none → Same H H' → Hand H' p 0 → Q (.ref p) H'
theorem big_ok2 : IntMulOk ((10 : Int) ^ Int.toNat 60) ((10 : Int) ^ Int.toNat 60) := by unfold IntMulOk; decide +kernel
theorem big_ok3 : IntMulOk ((10 : Int) ^ Int.toNat 60 * (10 : Int) ^ Int.toNat 60) ((10 : Int) ^ Int.toNat 60) := by unfold IntMulOk; decide +kernel
theorem big_ok4 : IntMulOk ((10 : Int) ^ Int.toNat 60 * (10 : Int) ^ Int.toNat 60 * (10 : Int) ^ Int.toNat 60) ((10 : Int) ^ Int.toNat 60) := by unfold IntMulOk; decide +kernel
theorem ok_hand (F : Fun K "_law_hand" "_law_hand" (top 16) f fd) (m_abs : mg "abs" = none) (m_len : mg "len" = none) : FnOk P w K mg base CX0 1 f fd ["_law_script", "_law_k"] (sp_hand K) := by
  refine F.ok sc_hand (fun vs H Q E h => ?_) (fun cdv A outer s H vs Q E hr h => ?_)
  · obtain ⟨a, k, ns, rfl, _⟩ := h; rfl
  obtain ⟨a, k, ns, rfl, hS, k0, k1, q⟩ := h
  have nd := sc_hand.nd
  have rest : ∃ t, PSs (cxOf CX0 P w K mg base ["_law_script", "_law_k", "_law_cell", "_law_great"] "_law_hand" (defScope (top 16)) f cdv A outer s H E).nox ((defBody (top 16)).drop 1) t ∧
      ∀ v : Int, 0 ≤ v → t { nx := fun _ H' => Q .non H', rt := Q } [some (.ref a), some (.int k), some (.int v), none] H := by
    refine ⟨_, (pss_cons (ps_set (i := 3) nd rfl (Or.inl rfl) (pe_ifExp (pt_cmpP op_geP (pn 2) (pe_op op_powP pe_int pe_int) (nomark _)) (pe_op op_modP (pn 2) (pe_op op_mulQ (pe_op op_mulQ (pe_op op_mulQ (pe_op op_powP pe_int pe_int) (pe_op op_powP pe_int pe_int)) (pe_op op_powP pe_int pe_int)) (pe_op op_powP pe_int pe_int))) pe_int))
      (pss_one (ps_ret (pe_lst (pa_cons (pn 3) (pa_cons (pe_op op_modP (pe_op op_mulQ (pe_op op_addP (pe_op op_addP (pe_op op_modP (pn 2) pe_int) (pe_op op_mulQ (pe_op op_mulQ pe_int (pn 1)) (pn 1))) pe_int) pe_int) pe_int) (pa_cons pe_int pa_nil))))))), ?_⟩
    intro v v0
    have e1 : 0 ≤ v % 2305843009213693951 := Int.emod_nonneg _ (by decide)
    have e2 : v % 2305843009213693951 < 2305843009213693951 := Int.emod_lt_of_pos _ (by decide)
    have e3 : 0 ≤ 7919 * k * k := Int.mul_nonneg (Int.mul_nonneg (by decide) k0) k0
    have e5 : 0 ≤ (v % 2305843009213693951 + 7919 * k * k + 3) * 48271 % 2305843009213693921 := Int.emod_nonneg _ (by decide)
    have e6 : (v % 2305843009213693951 + 7919 * k * k + 3) * 48271 % 2305843009213693921 < 2305843009213693921 := Int.emod_lt_of_pos _ (by decide)
    refine ⟨⟨by decide, by decide, by decide⟩, ?_⟩
    refine iteD (fun hv => ?_) (fun hv => ?_)
    · refine ⟨⟨by decide, by decide, by decide⟩, ⟨by decide, by decide, by decide⟩, big_ok2, ⟨by decide, by decide, by decide⟩, big_ok3, ⟨by decide, by decide, by decide⟩, big_ok4, (show (0 : Int) < 10 ^ Int.toNat 60 * 10 ^ Int.toNat 60 * 10 ^ Int.toNat 60 * 10 ^ Int.toNat 60 by decide), ?_⟩
      refine ⟨(show (0 : Int) < 2305843009213693951 by decide), mulL (by decide) (by decide), mulR (by omega) (by omega), mulR (by decide) (by decide), (show (0 : Int) < 2305843009213693921 by decide), (by show 3 ≤ sizeLine; decide), fun p hp => ?_⟩
      exact q p _ hp (Same.new hp _) ⟨_, _, 0, upd_same, Int.emod_nonneg _ (by decide), e5, by omega, by decide, by decide⟩
    · refine ⟨(show (0 : Int) < 2305843009213693951 by decide), mulL (by decide) (by decide), mulR (by omega) (by omega), mulR (by decide) (by decide), (show (0 : Int) < 2305843009213693921 by decide), (by show 3 ≤ sizeLine; decide), fun p hp => ?_⟩
      exact q p _ hp (Same.new hp _) ⟨_, _, 0, upd_same, by decide, e5, by omega, by decide, by decide⟩
  obtain ⟨t2, ht2, rest⟩ := rest
  refine ⟨_, (pss_cons (ps_set (i := 2) nd rfl (Or.inl rfl) (pe_ifExp (pt_cmpP op_ltP (pn 1) (pcb_len rfl m_len (pa_cons (pn 0) pa_nil) rfl rfl) (nomark _)) (pcb_abs rfl m_abs (pa_cons (pe_ix ix_P (pn 0) (pn 1) (fun _ _ => rfl)) pa_nil) rfl rfl) pe_int))
      ht2), ?_⟩
  refine ⟨_, .inl hS, ?_⟩
  refine iteD (fun hk => ?_) (fun hk => ?_)
  · rw [List.length_map] at hk
    have hj : k.toNat < ns.length := by omega
    refine ⟨_, .inl hS, .int ns[k.toNat], atI_of (by omega) (getI hj), ?_⟩
    exact rest _ (by split <;> omega)
  · exact rest 0 (by decide)
end
end K16
set_option Elab.async false
set_option linter.all false
set_option maxRecDepth 100000
set_option maxHeartbeats 4000000
namespace L2
open PySem PySem.Spec PyProof.Rows
section
variable {X : Cx}
noncomputable def rGetL (K : PySem.W.Frag) : V → V → Hp → VK → Prop := fun x y H Q => match x, y with
  | .ref p, .int i => ∃ xs v, SqL K H p xs ∧ 0 ≤ i ∧ xs[i.toNat]? = some v ∧ Q v H
  | _, _ => False
theorem get_list : PGet X (rGetL X.K) := by
  intro pins s σ H x y v u Q I rx ry h
  unfold rGetL at h
  split at h
  · rename_i p i
    obtain ⟨xs, z, hq, h0, he, q⟩ := h
    cases rx
    obtain ⟨t, rfl⟩ := ry
    obtain ⟨its, r, pl, hz⟩ := I.list hq
    obtain ⟨w, ew, rw'⟩ := r.get he
    have hl := r.length
    have hn := line63
    have hi : i.toNat < its.length := (List.getElem?_eq_some_iff.mp ew).1
    exact wpAny_getItem_list pl.isList h0 (by omega) (by simpa using ew) ⟨z, H, I, rw', q⟩
  · exact h.elim
noncomputable def ipP (f : Int → Int → Int) : TIp := fun x y H Q => match x, y with
  | .int i, .int j => Q (.int (f i j)) H
  | _, _ => False
theorem ipP_I {f : Int → Int → Int} {x y : V} {H : Hp} {Q : VK} (h : ipP f x y H Q) : ipI f x y H Q := by
  unfold ipP at h
  split at h
  · exact ⟨_, _, rfl, rfl, h⟩
  · exact h.elim
theorem ip_addP : PIp X .Add (ipP fun i j => i + j) := fun pins s σ H x y v u Q I r1 r2 h => ip_add pins s σ H x y v u Q I r1 r2 (ipP_I h)
theorem ip_subP : PIp X .Sub (ipP fun i j => i - j) := fun pins s σ H x y v u Q I r1 r2 h => ip_sub pins s σ H x y v u Q I r1 r2 (ipP_I h)
noncomputable def rSetP : V → V → V → Hp → (Hp → Prop) → Prop := fun o i v H Q => match o, i with
  | .ref p, .int k => ∃ xs, H p = some (.lst xs) ∧ 0 ≤ k ∧ k.toNat < xs.length ∧ Q (upd H p (.lst (xs.set k.toNat v)))
  | _, _ => False
theorem set_listP : PSet X rSetP := fun pins s σ H o i v ov iv u Q I r1 r2 r3 h => by
  unfold rSetP at h
  split at h
  · obtain ⟨xs, h1, h2, h3, q⟩ := h
    refine set_list pins s σ H _ _ v ov iv u Q I r1 r2 r3 ⟨_, xs, _, _, rfl, rfl, h1, ?_, q⟩
    unfold ixN
    rw [if_pos h2, if_pos (by omega)]
  · exact h.elim
end
section
variable {X : Cx} {e : Expr} {es : List Expr} {t : TA} {o : Expr} {to : TE} {apos cpos : Pos}
end
end L2
namespace L2
open PySem PySem.Spec PyProof.Rows
theorem fresh_of {H H' : Hp} {p : Addr} (y : Same H H') (h : H' p = none) : H p = none := by
  cases e : H p with
  | none => rfl
  | some o =>
    have := y _ _ e
    rw [h] at this
    cases this
end L2
namespace L2
open PySem PySem.Spec PyProof.Rows
section
variable {X : Cx} {e : Expr} {es : List Expr} {t : TA} {p pos : Pos} {K : PySem.W.Frag} {o : Expr} {to : TE} {apos cpos : Pos}
end
end L2
namespace L2
open PySem
noncomputable def forBody : Stmt → List Stmt
  | .For _ _ b _ _ => b
  | .While _ b _ _ => b
  | _ => []
end L2
set_option Elab.async false
set_option linter.all false
set_option maxRecDepth 100000
set_option maxHeartbeats 4000000
namespace L2
open PySem PySem.Spec PyProof.Rows
section
variable {X : Cx} {pins : List (Addr × Obj)} {σ : St} {H : Hp} {s : Shared}
end
section
variable {X : Cx}
end
end L2
set_option Elab.async false
set_option linter.all false
set_option maxRecDepth 100000
set_option maxHeartbeats 4000000
namespace L2
open PySem PySem.Spec PyProof.Rows
section
variable {M : Model} {A : Around} {E : Value → Shared → Prop} {s : Shared}
end
section
variable {X : Cx} {x : Str} {nv : List Str} {ix : List (Str × Nat)} {scope : Scope} {pins : List (Addr × Obj)} {σ : St} {H : Hp} {s : Shared}
end
section
variable {X : Cx} {x : Str} {nv : List Str} {ix : List (Str × Nat)} {scope : Scope} {pins : List (Addr × Obj)} {σ : St} {H : Hp} {s : Shared} {elt tg iter : Expr} {ifs : List Expr} {pos : Pos}
end
end L2
namespace L2
open PySem PySem.Spec PyProof.Rows
section
variable {X : Cx} {K : PySem.W.Frag}
theorem ix_P' (h : X.K = K) : IxR X (rIxP K) := by subst h; exact ix_P
end
end L2
set_option Elab.async false
set_option linter.all false
set_option maxRecDepth 100000
set_option maxHeartbeats 4000000
namespace L2
open PySem PySem.Spec PyProof.Rows
section
variable {prog : Program} {w : World} {A : Around} {E : Value → Shared → Prop} {s : Shared}
theorem nextOf_tup_item {it t : Addr} {i : Nat} {items : Array Value} {x : Value} {Q : Value → Shared → Prop} (hit : s.heap.IsTupleIter it t i) (ht : s.heap.IsTuple t items) (hx : items[i]? = some x)
    (hQ : ∀ h', h'.IsTupleIter it t (i + 1) → Heap.SameBut it s.heap h' → Q x { s with heap := h' }) : wpAny (model prog w) A (Builtin.SmallTypes.nextOf (.ref it)) Q E s := by
  obtain ⟨ot, h1, c1, d1⟩ := id hit
  obtain ⟨og, h2, c2, n2, d2⟩ := ht
  unfold Builtin.SmallTypes.nextOf
  refine wpAny_bind (wpAny_callSpecial?_slot hit.typeIs F.slot_tuple_iterator_next (wpAny_call_entry F.slot_tuple_iterator_next hit.typeIs F.entry_tuple_iterator_next ?_ (F.args_tuple_iterator_next_1 _)))
  refine wpAny_bind (m := field (.ref it) 0) (wpAny_field h1 d1 (x := .ref t) rfl ?_)
  have hnn : ¬ ((Value.ref t == Value.none) = true) := fun z => Bool.false_ne_true z
  show wpAny _ _ (if (Value.ref t == Value.none) = true then _ else _) _ _ _
  rw [if_neg hnn]
  refine wpAny_bind (m := field (.ref it) 1) (wpAny_field h1 d1 (x := .int i 0) rfl (wpAny_bind (m := seqItems? (.ref t)) (wpAny_seqItems h2 d2 ?_)))
  simp only [Int.toNat_natCast, hx]
  refine wpAny_bind (wpAny_setField h1 d1 (by simp) (wpAny_pure ⟨_, rfl, wpAny_pure (hQ _ ⟨_, Heap.get?_update_self _ h1 (Obj.isFreed_of_fields (Obj.data_mapFields d1 _)), (Obj.cls_mapFields ..).trans c1, ?_⟩ (Heap.SameBut.update ..))⟩))
  rw [Obj.data_mapFields d1]
  simp [rawInt]
theorem nextOf_tup_end {it t : Addr} {i : Nat} {items : Array Value} {Q : Value → Shared → Prop} (hh : A.handled = none) (hit : s.heap.IsTupleIter it t i) (ht : s.heap.IsTuple t items) (hx : items[i]? = none)
    (hE : ∀ h' e, Heap.ExtBut it s.heap h' → (∃ o, h'.get? e = some o ∧ o.cls = .type "StopIteration") → E (.ref e) { s with heap := h' }) : wpAny (model prog w) A (Builtin.SmallTypes.nextOf (.ref it)) Q E s := by
  obtain ⟨ot, h1, c1, d1⟩ := id hit
  obtain ⟨og, h2, c2, n2, d2⟩ := ht
  unfold Builtin.SmallTypes.nextOf
  refine wpAny_bind (wpAny_callSpecial?_slot hit.typeIs F.slot_tuple_iterator_next (wpAny_call_entry F.slot_tuple_iterator_next hit.typeIs F.entry_tuple_iterator_next ?_ (F.args_tuple_iterator_next_1 _)))
  refine wpAny_bind (m := field (.ref it) 0) (wpAny_field h1 d1 (x := .ref t) rfl ?_)
  have hnn : ¬ ((Value.ref t == Value.none) = true) := fun z => Bool.false_ne_true z
  show wpAny _ _ (if (Value.ref t == Value.none) = true then _ else _) _ _ _
  rw [if_neg hnn]
  refine wpAny_bind (m := field (.ref it) 1) (wpAny_field h1 d1 (x := .int i 0) rfl (wpAny_bind (m := seqItems? (.ref t)) (wpAny_seqItems h2 d2 ?_)))
  simp only [Int.toNat_natCast, hx]
  refine wpAny_bind (wpAny_rule (wpAny_bind (wpAny_setField h1 d1 (by simp) (wpAny_bind (m := newExc (.type "StopIteration") []) ?_))))
  simp only [newExc, newTuple, raiseNew]
  refine wpAny_bind (wpAny_newObj_type (wpAny_bind (m := firstArgMember _ _) (wpAny_of_eq (a := Value.none) (by first | rfl | (simp only [firstArgMember]; rfl)) (wpAny_newObj_type (wpAny_bind (wpAny_handled ?_)) (by size_fits)))) (by size_fits))
  first | rw [show A.in1.handled = none from hh] | rw [hh]
  exact wpAny_bind (wpAny_pure (wpAny_throw (hE _ _ (((Heap.SameBut.update ..).extBut.push _).push _) ⟨_, Heap.get?_push_size _ rfl, rfl⟩)))
end
section
variable {X : Cx} {pins : List (Addr × Obj)} {σ : St} {H : Hp} {s : Shared}
theorem Inv.trackT {D : Addr} {ys : List V} {its : List Value} (I : Inv X pins σ H s) (rv : Vals ys its) (hz : ys.length ≤ sizeLine) (e : TupD s.heap D its.toArray) (hd : FpOk X pins H D) : Inv X pins σ (upd H D (.tup ys)) s := by
  obtain ⟨h1, h2, h3, h4, h5, h6⟩ := hd
  have nD : ∀ b u, H b = some u → b ≠ D := fun b u q z => by rw [z, h1] at q; cases q
  refine I.step (s := s) (h' := s.heap) (g' := s.gens) (t' := s.toks) (d' := s.drawn) (ch := [D]) (fun b hb => ?_) (fun b o _ _ _ q _ => q) (fun b o _ _ _ q _ => ⟨o.slots, q⟩) (fun b o hb _ q => ?_) (fun b o _ q => ⟨o, q⟩)
    (fun b xs q => (upd_ne (nD b _ q)).trans q) (fun b o u q => (upd_ne (nD b _ q)).trans q) (fun b ps q => ⟨#[], by rw [upd_ne (nD b _ q), q]; simp⟩) (fun m hm => hm) (fun b u q => ?_) I.bare
  · have : b = D := by simpa using hb
    subst this
    exact ⟨h4, h2, h5, h6⟩
  · rw [upd_ne (fun z => hb (by simp [z]))]; exact q
  · by_cases hb : b = D
    · subst hb
      rw [upd_same] at q
      cases q
      exact ⟨hz, its, rv, e⟩
    · rw [upd_ne hb] at q
      exact (I.hok b u q).stay (fun c v _ r => r) (fun c r => (upd_ne (nD c _ r)).trans r) fun c xs r => (upd_ne (nD c _ r)).trans r
noncomputable def rngO (p : Addr) (i j c : Int) : HO := .ext fun h => ∃ t u v, IsRange h p i j c t u v
theorem rng_laid {pins : List (Addr × Obj)} {σ : St} {H : Hp} {s : Shared} {i j c : Int} {t u v : Tok} {tk : Nat} (I : Inv X pins σ H s) : Inv X pins σ (upd H s.heap.objs.size (rngO s.heap.objs.size i j c)) { s with heap := s.heap.push { cls := .type "range", data := .fields #[.int i t, .int j u, .int c v] }, toks := tk } := by
  refine I.laid (fun b o e => Heap.get?_push_of_some _ e) (Nat.le_refl _) ⟨⟨t, u, v, IsRange.new ..⟩, ⟨_, Heap.get?_push_size _ rfl⟩, ?_⟩
  rintro h1 h2 ⟨t, u, v, e⟩ k
  exact ⟨t, u, v, k _ e⟩
noncomputable def rRng : List V → Hp → VK → Prop := fun vs H1 Q => match vs with
  | [.int i, .int j] => ∀ p, H1 p = none → Q (.ref p) (upd H1 p (rngO p i j 1))
  | [.int i, .int j, .int c] => (c ≠ 0 ∧ c < 2 ^ 29 ∧ -(2 ^ 29) < c) ∧ ∀ p, H1 p = none → Q (.ref p) (upd H1 p (rngO p i j c))
  | _ => False
theorem call_rng : CallR X (.type "range") rRng := by
  intro pins s σ H xs us Q I r h
  unfold rRng at h
  split at h
  · obtain ⟨u1, u2, rfl, ⟨t1, rfl⟩, t2, rfl⟩ := vals2 r
    exact call_range_2 ⟨.ref s.heap.objs.size, _, rng_laid I, rfl, h _ (I.hok.fresh (Nat.le_refl _))⟩
  · obtain ⟨⟨h1, h2, h3⟩, q⟩ := h
    cases r with
    | cons a1 r =>
      cases r with
      | cons a2 r =>
        cases r with
        | cons a3 r =>
          cases r
          obtain ⟨t1, rfl⟩ := a1
          obtain ⟨t2, rfl⟩ := a2
          obtain ⟨t3, rfl⟩ := a3
          exact PySem.call_range_3 h1 ⟨.ref s.heap.objs.size, _, rng_laid I, rfl, q _ (I.hok.fresh (Nat.le_refl _))⟩ (Or.inl (PyProof.noPylong_small (by omega)))
  · exact h.elim
noncomputable def rLstR : List V → Hp → VK → Prop := fun vs H Q => match vs with
  | [.ref p] => ∃ i j c, H p = some (rngO p i j c) ∧ Builtin.Range.small i j c = true ∧ c ≠ 0 ∧ (Builtin.Range.rangeSize i j c).toNat ≤ 1000000 ∧ ∀ l, H l = none → Q (.ref l) (upd H l (.lst (((List.range (Builtin.Range.rangeSize i j c).toNat).map fun (k : Nat) => i + (k : Int) * c).map V.int)))
  | _ => False
theorem vals_of_items {F : Nat → Int} : ∀ (n : Nat) {us : List Value}, us.length = n → (∀ (j : Nat) (v : Value), us[j]? = some v → ∃ t, v = .int (F j) t) → Vals (((List.range n).map F).map V.int) us := by
  intro n us hl h
  have : ∀ (us : List Value) (G : Nat → Int), (∀ (j : Nat) (v : Value), us[j]? = some v → ∃ t, v = .int (G j) t) → Vals (((List.range us.length).map G).map V.int) us := by
    intro us
    induction us with
    | nil => intro G _; exact .nil
    | cons u r ih =>
      intro G hG
      rw [List.length_cons, List.range_succ_eq_map, List.map_cons, List.map_cons]
      refine .cons (hG 0 u rfl) ?_
      have := ih (fun j => G (j + 1)) fun j v e => hG (j + 1) v (by simpa using e)
      have e : ((List.range r.length).map Nat.succ).map G = (List.range r.length).map (fun j => G (j + 1)) := by rw [List.map_map]; rfl
      rw [e]
      exact this
  have := this us F h
  rw [hl] at this
  exact this
theorem call_lrng (hc : X.calm = true) : CallR X (.type "list") rLstR := by
  intro pins s σ H xs us Q I r h
  unfold rLstR at h
  split at h
  · rename_i p
    obtain ⟨i, j, c, hp, hs, hc0, hn, q⟩ := h
    obtain ⟨u, rfl, rx⟩ := vals1 r
    cases rx
    obtain ⟨⟨t, u, v, hr⟩, _⟩ := I.hok p _ hp
    have h0 := size_nonneg (a := i) (b := j) hc0
    refine call_list_range (I.ok.hd hc) hr hs (n := (Builtin.Range.rangeSize i j c).toNat) (by omega) (by omega) fun h' tk acc' c' hk hS hit => ?_
    have rv : Vals (((List.range (Builtin.Range.rangeSize i j c).toNat).map fun (k : Nat) => i + (k : Int) * c).map V.int) acc'.toList := vals_of_items _ (by rw [Array.length_toList]; exact hit.1) fun k v e => hit.2 k v (by simpa using e)
    refine ⟨.ref s.heap.objs.size, _, I.laid (t' := tk) hk (Nat.le_refl _) (show ObjOk X.prog X.w _ h' _ (.lst (((List.range (Builtin.Range.rangeSize i j c).toNat).map fun (k : Nat) => i + (k : Int) * c).map V.int)) from ⟨?_, acc'.toList, c', rv, hS⟩), rfl, q _ (I.hok.fresh (Nat.le_refl _))⟩
    rw [List.length_map, List.length_map, List.length_range, sizeLine_eq]
    omega
  · exact h.elim
theorem boot_list'' : bootBuiltins "list" = some (.type "list") := by decide +kernel
variable {e : Expr} {es : List Expr} {t : TA} {p pos : Pos}
theorem pcb_range (hg : Gl X "range") (hm : X.mg "range" = none) (ha : PA X (e :: es) t) (he : starEach (e :: es) X.env = (false, eval e X.env) :: starEach es X.env) (hpl : (backTo pos (starEach es X.env)).any (·.1) = false) :
    PE X (.Call (.Name "range" p) (e :: es) [] pos) (tCB rRng t) := pe_callTy call_rng hg hm boot_range ha (by decide) (by decide) he hpl
theorem zcb_range (hg : Gl X "range") (hm : X.mg "range" = none) (ha : ZA X (e :: es) t) (he : starEach (e :: es) X.env = (false, eval e X.env) :: starEach es X.env) (hpl : (backTo pos (starEach es X.env)).any (·.1) = false) :
    ZE X (.Call (.Name "range" p) (e :: es) [] pos) (tCB rRng t) := by with_unfolding_all exact pcb_range hg hm ha he hpl
theorem pcb_lrange (hc : X.calm = true) (hg : Gl X "list") (hm : X.mg "list" = none) (ha : PA X (e :: es) t) (he : starEach (e :: es) X.env = (false, eval e X.env) :: starEach es X.env) (hpl : (backTo pos (starEach es X.env)).any (·.1) = false) :
    PE X (.Call (.Name "list" p) (e :: es) [] pos) (tCB rLstR t) := pe_callTy (call_lrng hc) hg hm boot_list'' ha (by decide) (by decide) he hpl
theorem zcb_lrange (hc : X.calm = true) (hg : Gl X "list") (hm : X.mg "list" = none) (ha : ZA X (e :: es) t) (he : starEach (e :: es) X.env = (false, eval e X.env) :: starEach es X.env) (hpl : (backTo pos (starEach es X.env)).any (·.1) = false) :
    ZE X (.Call (.Name "list" p) (e :: es) [] pos) (tCB rLstR t) := by with_unfolding_all exact pcb_lrange hc hg hm ha he hpl
end
end L2
set_option Elab.async false
set_option linter.all false
set_option maxRecDepth 100000
set_option maxHeartbeats 4000000
namespace L2
open PySem PySem.Spec PyProof.Rows
noncomputable def Itq (h : Heap) (i l : Addr) (k : Nat) (xs : Array Value) : Prop := (h.IsListIter i l k ∧ h.IsList l xs) ∨ (h.IsTupleIter i l k ∧ h.IsTuple l xs)
theorem Itq.at {h h' : Heap} {i l : Addr} {k : Nat} {xs : Array Value} (x : Itq h i l k xs) (hi : ∀ o, h.get? i = some o → h'.get? i = some o) (hl : ∀ o, h.get? l = some o → h'.get? l = some o) : Itq h' i l k xs :=
  x.elim (fun a => .inl ⟨a.1.at hi, a.2.at hl⟩) fun a => .inr ⟨a.1.at hi, a.2.at hl⟩
theorem Itq.but {h h' : Heap} {i l z : Addr} {k : Nat} {xs : Array Value} (x : Itq h i l k xs) (e : Heap.ExtBut z h h') (n1 : i ≠ z) (n2 : l ≠ z) : Itq h' i l k xs := x.at (fun o q => e _ _ n1 q) fun o q => e _ _ n2 q
section
variable {prog : Program} {w : World} {A : Around} {E : Value → Shared → Prop} {s : Shared}
theorem Itq.item {i l : Addr} {k : Nat} {xs : Array Value} {v : Value} {Q : Value → Shared → Prop} (x : Itq s.heap i l k xs) (hne : l ≠ i) (hx : xs[k]? = some v)
    (hQ : ∀ h', Itq h' i l (k + 1) xs → Heap.SameBut i s.heap h' → Q v { s with heap := h' }) : wpAny (model prog w) A (Builtin.SmallTypes.nextOf (.ref i)) Q E s := by
  rcases x with ⟨x1, x2⟩ | ⟨x1, x2⟩
  · exact wpAny_nextOf_list_item x1 x2 hx fun h' a b => hQ h' (.inl ⟨a, x2.extBut b.extBut hne⟩) b
  · exact nextOf_tup_item x1 x2 hx fun h' a b => hQ h' (.inr ⟨a, x2.extBut b.extBut hne⟩) b
theorem Itq.fin {i l : Addr} {k : Nat} {xs : Array Value} {Q : Value → Shared → Prop} (hh : A.handled = none) (x : Itq s.heap i l k xs) (hx : xs[k]? = none)
    (hE : ∀ h' e, Heap.ExtBut i s.heap h' → (∃ o, h'.get? e = some o ∧ o.cls = .type "StopIteration") → E (.ref e) { s with heap := h' }) : wpAny (model prog w) A (Builtin.SmallTypes.nextOf (.ref i)) Q E s := by
  rcases x with ⟨x1, x2⟩ | ⟨x1, x2⟩
  · exact wpAny_nextOf_list_end hh x1 x2 hx hE
  · exact nextOf_tup_end hh x1 x2 hx hE
theorem zq_item {z TI TO i1 i2 l1 l2 : Addr} {k1 k2 : Nat} {xs ys : Array Value} {x y a b : Value} {Q : Value → Shared → Prop} (D : ZipApart z TI TO i1 i2 l1 l2) (n12 : l1 ≠ TI) (n22 : l2 ≠ TI)
    (hz : IsZip s.heap z TI TO .none) (hTI : IsPair s.heap TI (.ref i1) (.ref i2)) (hTO : IsPair s.heap TO a b) (h1 : Itq s.heap i1 l1 k1 xs) (h2 : Itq s.heap i2 l2 k2 ys) (hx : xs[k1]? = some x) (hy : ys[k2]? = some y)
    (hQ : ∀ h', IsZip h' z TI TO (rawInt s.heap.objs.size) → IsPair h' TO x y → Itq h' i1 l1 (k1 + 1) xs → Itq h' i2 l2 (k2 + 1) ys → IsPair h' s.heap.objs.size x y → h'.objs.size = s.heap.objs.size + 1 →
      (∀ c o, c ≠ z → c ≠ TO → c ≠ i1 → c ≠ i2 → s.heap.get? c = some o → h'.get? c = some o) → Q (.ref s.heap.objs.size) { s with heap := h' }) :
    wpAny (model prog w) A (Builtin.«zip.__next__» ⟨[.ref z], []⟩) (fun fin s' => ∃ v, fin = .done (.ret v) ∧ Q v s') E s := by
  show wpAny _ _ (field (.ref z) 2 >>= _) _ _ _; refine wpAny_bind (wpAny_field hz rfl (x := .bool false) rfl ?_)
  show wpAny _ _ (field (.ref z) 3 >>= _) _ _ _; refine wpAny_bind (wpAny_field hz rfl (x := .ref TI) rfl ?_)
  refine wpAny_bind (wpAny_seqItems hTI rfl ?_); show wpAny _ _ (Builtin.SmallTypes.ownedTupleIsFree (.ref z) >>= _) _ _ _
  refine wpAny_bind ?_; unfold Builtin.SmallTypes.ownedTupleIsFree
  refine wpAny_bind (wpAny_field hz rfl (x := .none) rfl (wpAny_pure ?_)); simp only [if_true]
  refine wpAny_bind (wpAny_rule ?_); refine wpAny_bind (wpAny_field hz rfl (x := .ref TO) rfl ?_)
  refine wpAny_bind (wpAny_setField_rec hz (by simp) fun g1 hz1 e1 => ?_)
  replace hz1 : IsZip g1 z TI TO .ellipsis := hz1
  refine wpAny_bind ?_; simp only [List.zipIdx_cons, List.zipIdx_nil, List.forIn_cons, List.forIn_nil]
  refine wpAny_bind (wpAny_bind (wpAny_onRaise ?_)); show wpAny _ _ (Builtin.SmallTypes.nextOf (.ref i1) >>= _) _ _ _
  have h1a : Itq g1 i1 l1 k1 xs := h1.but e1.extBut D.i1z D.l1z
  have h2a : Itq g1 i2 l2 k2 ys := h2.but e1.extBut D.i2z D.l2z
  refine wpAny_bind (Itq.item (s := { s with heap := g1 }) h1a D.l1i1 hx fun g2 h1b e2 => wpAny_pure ?_)
  have hTO2 : IsPair g2 TO a b := e2.extBut _ _ D.TOi1 (e1.extBut _ _ D.TOz hTO)
  have h2b : Itq g2 i2 l2 k2 ys := h2a.but e2.extBut (Ne.symm D.i12) D.l2i1
  refine wpAny_bind (wpAny_seqItems hTO2 rfl ?_); refine wpAny_bind (wpAny_updateSeq_pair hTO2 fun g3 hTO3 e3 => ?_)
  replace hTO3 : IsPair g3 TO x b := hTO3
  have h1c : Itq g3 i1 l1 (k1 + 1) xs := h1b.but e3.extBut (Ne.symm D.TOi1) D.l1TO
  have h2c : Itq g3 i2 l2 k2 ys := h2b.but e3.extBut (Ne.symm D.TOi2) D.l2TO
  refine wpAny_bind (wpAny_letGo (wpAny_pure ?_)); refine wpAny_bind (wpAny_bind (wpAny_onRaise ?_))
  show wpAny _ _ (Builtin.SmallTypes.nextOf (.ref i2) >>= _) _ _ _
  refine wpAny_bind (Itq.item (s := { s with heap := g3 }) h2c D.l2i2 hy fun g4 h2d e4 => wpAny_pure ?_)
  have hTO4 : IsPair g4 TO x b := e4.extBut _ _ D.TOi2 hTO3
  have h1d : Itq g4 i1 l1 (k1 + 1) xs := h1c.but e4.extBut D.i12 D.l1i2
  refine wpAny_bind (wpAny_seqItems hTO4 rfl ?_); refine wpAny_bind (wpAny_updateSeq_pair hTO4 fun g5 hTO5 e5 => ?_)
  replace hTO5 : IsPair g5 TO x y := hTO5
  have h1e : Itq g5 i1 l1 (k1 + 1) xs := h1d.but e5.extBut (Ne.symm D.TOi1) D.l1TO
  have h2e : Itq g5 i2 l2 (k2 + 1) ys := h2d.but e5.extBut (Ne.symm D.TOi2) D.l2TO
  refine wpAny_bind (wpAny_letGo (wpAny_pure (wpAny_pure ?_))); refine wpAny_bind (wpAny_seqItems hTO5 rfl ?_); refine wpAny_bind (wpAny_newTuple ?_)
  have hsz : g5.objs.size = s.heap.objs.size := by rw [e5.1, e4.1, e3.1, e2.1, e1.1]
  have hz5 : IsZip g5 z TI TO .ellipsis := e5.extBut _ _ (Ne.symm D.TOz) (e4.extBut _ _ (Ne.symm D.i2z) (e3.extBut _ _ (Ne.symm D.TOz) (e2.extBut _ _ (Ne.symm D.i1z) hz1)))
  have k5 : ∀ c o, c ≠ z → c ≠ TO → c ≠ i1 → c ≠ i2 → s.heap.get? c = some o → g5.get? c = some o := fun c o c1 c2 c3 c4 q => e5.extBut _ _ c2 (e4.extBut _ _ c4 (e3.extBut _ _ c2 (e2.extBut _ _ c3 (e1.extBut _ _ c1 q))))
  have zlt : z < g5.objs.size := Heap.lt_size hz5
  show wpAny _ _ (Builtin.SmallTypes.ownedTupleHandOut (.ref z) (.ref g5.objs.size) >>= _) _ _ _
  refine wpAny_bind ?_; unfold Builtin.SmallTypes.ownedTupleHandOut
  have hz6 : IsZip (g5.push { cls := .type "tuple", data := .seq #[x, y] }) z TI TO .ellipsis := Heap.get?_push_of_some _ hz5
  refine wpAny_bind (wpAny_setField_rec hz6 (by simp) fun g7 hz7 e7 => ?_)
  replace hz7 : IsZip g7 z TI TO (rawInt g5.objs.size) := hz7
  refine wpAny_setField_rec hz7 (by simp) fun g8 hz8 e8 => ?_
  replace hz8 : IsZip g8 z TI TO (rawInt g5.objs.size) := hz8
  have up : ∀ c o, c ≠ z → g5.get? c = some o → g8.get? c = some o := fun c o c1 q => e8.extBut _ _ c1 (e7.extBut _ _ c1 (Heap.get?_push_of_some _ q))
  have hT8 : IsPair g8 g5.objs.size x y := e8.extBut _ _ (Nat.ne_of_gt zlt) (e7.extBut _ _ (Nat.ne_of_gt zlt) (Heap.get?_push_size _ rfl))
  have hs8 : g8.objs.size = g5.objs.size + 1 := by rw [e8.1, e7.1, Heap.size_push]
  rw [hsz] at hz8 hT8 hs8
  refine wpAny_pure ⟨_, rfl, ?_⟩; show Q (.ref g5.objs.size) _; rw [hsz]
  exact hQ g8 hz8 (up _ _ D.TOz hTO5) (h1e.at (fun o q => up _ o D.i1z q) fun o q => up _ o D.l1z q) (h2e.at (fun o q => up _ o D.i2z q) fun o q => up _ o D.l2z q) hT8 hs8 fun c o c1 c2 c3 c4 q => up c o c1 (k5 c o c1 c2 c3 c4 q)
theorem zq_end {z TI TO i1 i2 l1 l2 : Addr} {k1 k2 : Nat} {xs ys : Array Value} {a b : Value} {Q : PySem.Fin → Shared → Prop} (hh : A.handled = none) (D : ZipApart z TI TO i1 i2 l1 l2)
    (hz : IsZip s.heap z TI TO .none) (hTI : IsPair s.heap TI (.ref i1) (.ref i2)) (hTO : IsPair s.heap TO a b) (h1 : Itq s.heap i1 l1 k1 xs) (h2 : Itq s.heap i2 l2 k2 ys) (hend : xs[k1]? = none ∨ ys[k2]? = none)
    (hE : ∀ h' e, (∀ c o, c ≠ z → c ≠ TO → c ≠ i1 → c ≠ i2 → s.heap.get? c = some o → h'.get? c = some o) → (∃ o, h'.get? e = some o ∧ o.cls = .type "StopIteration") → E (.ref e) { s with heap := h' }) : wpAny (model prog w) A (Builtin.«zip.__next__» ⟨[.ref z], []⟩) Q E s := by
  show wpAny _ _ (field (.ref z) 2 >>= _) _ _ _; refine wpAny_bind (wpAny_field hz rfl (x := .bool false) rfl ?_)
  show wpAny _ _ (field (.ref z) 3 >>= _) _ _ _; refine wpAny_bind (wpAny_field hz rfl (x := .ref TI) rfl ?_)
  refine wpAny_bind (wpAny_seqItems hTI rfl ?_); show wpAny _ _ (Builtin.SmallTypes.ownedTupleIsFree (.ref z) >>= _) _ _ _
  refine wpAny_bind ?_; unfold Builtin.SmallTypes.ownedTupleIsFree
  refine wpAny_bind (wpAny_field hz rfl (x := .none) rfl (wpAny_pure ?_)); simp only [if_true]
  refine wpAny_bind (wpAny_rule ?_); refine wpAny_bind (wpAny_field hz rfl (x := .ref TO) rfl ?_)
  refine wpAny_bind (wpAny_setField_rec hz (by simp) fun g1 hz1 e1 => ?_)
  replace hz1 : IsZip g1 z TI TO .ellipsis := hz1
  refine wpAny_bind ?_; simp only [List.zipIdx_cons, List.zipIdx_nil, List.forIn_cons, List.forIn_nil]
  refine wpAny_bind (wpAny_bind (wpAny_onRaise ?_)); show wpAny _ _ (Builtin.SmallTypes.nextOf (.ref i1) >>= _) _ _ _
  have h1a : Itq g1 i1 l1 k1 xs := h1.but e1.extBut D.i1z D.l1z
  have h2a : Itq g1 i2 l2 k2 ys := h2.but e1.extBut D.i2z D.l2z
  cases hx : xs[k1]? with
  | none =>
    refine wpAny_bind (Itq.fin (s := { s with heap := g1 }) hh h1a hx fun g2 e e2 he => ?_)
    obtain ⟨oe, hoe, hce⟩ := he
    have hz2 : IsZip g2 z TI TO .ellipsis := e2 _ _ (Ne.symm D.i1z) hz1
    have hez : e ≠ z := fun q => by subst q; rw [hz2] at hoe; cases hoe; simp at hce
    exact wpAny_setField_rec hz2 (by simp) fun g3 _ e3 => hE g3 e (fun c o c1 _ c3 _ q => e3.extBut _ _ c1 (e2 _ _ c3 (e1.extBut _ _ c1 q))) ⟨oe, e3.extBut _ _ hez hoe, hce⟩
  | some x =>
    have hy : ys[k2]? = none := by
      rcases hend with h | h
      · rw [hx] at h; cases h
      · exact h
    refine wpAny_bind (Itq.item (s := { s with heap := g1 }) h1a D.l1i1 hx fun g2 h1b e2 => wpAny_pure ?_)
    have hTO2 : IsPair g2 TO a b := e2.extBut _ _ D.TOi1 (e1.extBut _ _ D.TOz hTO)
    have h2b : Itq g2 i2 l2 k2 ys := h2a.but e2.extBut (Ne.symm D.i12) D.l2i1
    refine wpAny_bind (wpAny_seqItems hTO2 rfl ?_); refine wpAny_bind (wpAny_updateSeq_pair hTO2 fun g3 hTO3 e3 => ?_)
    have h2c : Itq g3 i2 l2 k2 ys := h2b.but e3.extBut (Ne.symm D.TOi2) D.l2TO
    refine wpAny_bind (wpAny_letGo (wpAny_pure ?_)); refine wpAny_bind (wpAny_bind (wpAny_onRaise ?_))
    show wpAny _ _ (Builtin.SmallTypes.nextOf (.ref i2) >>= _) _ _ _
    refine wpAny_bind (Itq.fin (s := { s with heap := g3 }) hh h2c hy fun g4 e e4 he => ?_)
    obtain ⟨oe, hoe, hce⟩ := he
    have hz4 : IsZip g4 z TI TO .ellipsis := e4 _ _ (Ne.symm D.i2z) (e3.extBut _ _ (Ne.symm D.TOz) (e2.extBut _ _ (Ne.symm D.i1z) hz1))
    have hez : e ≠ z := fun q => by subst q; rw [hz4] at hoe; cases hoe; simp at hce
    exact wpAny_setField_rec hz4 (by simp) fun g5 _ e5 => hE g5 e (fun c o c1 c2 c3 c4 q => e5.extBut _ _ c1 (e4 _ _ c4 (e3.extBut _ _ c2 (e2.extBut _ _ c3 (e1.extBut _ _ c1 q))))) ⟨oe, e5.extBut _ _ hez hoe, hce⟩
noncomputable def itCls (b : Bool) : String := if b then "tuple_iterator" else "list_iterator"
noncomputable def IsSq (h : Heap) (b : Bool) (l : Addr) (xs : Array Value) : Prop := if b = true then h.IsTuple l xs else h.IsList l xs
noncomputable abbrev zqI (b : Bool) (l : Addr) : Obj := { cls := .type (itCls b), data := .fields #[.ref l, .int 0 0] }
theorem IsSq.push {h : Heap} {b : Bool} {l : Addr} {xs : Array Value} (x : IsSq h b l xs) (o : Obj) : IsSq (h.push o) b l xs := by
  cases b with
  | true => exact (show h.IsTuple l xs from x).at fun u q => Heap.get?_push_of_some _ q
  | false => exact (show h.IsList l xs from x).push o
theorem iter_sq {b : Bool} {l : Addr} {xs : Array Value} {Q : Value → Shared → Prop} (x : IsSq s.heap b l xs) (h : Q (.ref s.heap.objs.size) { s with heap := s.heap.push (zqI b l) }) : wpAny (model prog w) A (pyIter (.ref l)) Q E s := by
  cases b with
  | true => exact wpAny_pyIter_tuple (show s.heap.IsTuple l xs from x) h
  | false => exact wpAny_pyIter_list (show s.heap.IsList l xs from x) h
end
noncomputable abbrev zq1 (h : Heap) (b : Bool) (l : Addr) : Heap := h.push (zqI b l)
noncomputable abbrev zq2 (h : Heap) (b c : Bool) (l m : Addr) : Heap := (zq1 h b l).push (zqI c m)
noncomputable abbrev zq3 (h : Heap) (b c : Bool) (l m : Addr) : Heap := (zq2 h b c l m).push { cls := .type "tuple", data := .seq #[.ref h.objs.size, .ref (zq1 h b l).objs.size] }
noncomputable abbrev zq4 (h : Heap) (b c : Bool) (l m : Addr) : Heap := (zq3 h b c l m).push { cls := .type "tuple", data := .seq #[.none, .none] }
noncomputable abbrev zq5 (h : Heap) (b c : Bool) (l m : Addr) : Heap := (zq4 h b c l m).push { cls := .type "zip", data := .fields #[.none, .bool false, .bool false, .ref (zq2 h b c l m).objs.size, .ref (zq3 h b c l m).objs.size] }
theorem meets_zq (b c : Bool) (l m : Addr) (xs ys : Array Value) : Meets (Builtin.«zip.__new__» ⟨[.type "zip", .ref l, .ref m], []⟩) (fun _ R s => IsSq s.heap b l xs ∧ IsSq s.heap c m ys ∧ R (.ok (.ret (.ref (zq4 s.heap b c l m).objs.size))) { s with heap := zq5 s.heap b c l m }) :=
  .of_wp fun prog w A R s h => by
    obtain ⟨hp, g, d, tk, os⟩ := s; obtain ⟨q1, q2, h⟩ := h
    have hsub := sub_zip
    have r1 : IsSq (Shared.heap ⟨hp, g, d, tk, os⟩) b l xs := q1
    have r2 : IsSq (Shared.heap ⟨hp.push (zqI b l), g, d, tk, os⟩) c m ys := IsSq.push q2 _
    wp_walk using iter_sq r1, iter_sq r2
    exact ⟨_, rfl, h⟩
section
variable {prog : Program} {w : World} {A : Around} {E : Value → Shared → Prop} {s : Shared}
theorem call_zq {b c : Bool} {l m : Addr} {xs ys : Array Value} {Q : Value → Shared → Prop} (q1 : IsSq s.heap b l xs) (q2 : IsSq s.heap c m ys)
    (h : ∀ h', IsZip h' (s.heap.objs.size + 4) (s.heap.objs.size + 2) (s.heap.objs.size + 3) .none → IsPair h' (s.heap.objs.size + 2) (.ref s.heap.objs.size) (.ref (s.heap.objs.size + 1)) →
      IsPair h' (s.heap.objs.size + 3) .none .none → Itq h' s.heap.objs.size l 0 xs → Itq h' (s.heap.objs.size + 1) m 0 ys → (∀ c o, s.heap.get? c = some o → h'.get? c = some o) → Q (.ref (s.heap.objs.size + 4)) { s with heap := h' }) :
    wpAny (model prog w) A (call (.type "zip") [.ref l, .ref m]) Q E s := by
  refine callType_new F.called_zip (by decide) (F.typeCall_zip_2 _ _) (F.newCall_zip_2 _ _) (fun obj => F.args_object_init_3 obj _ _) F.entry_zip_new (meets_zq b c l m xs ys) ⟨q1, q2, ?_⟩
  have z1 : (zq1 s.heap b l).objs.size = s.heap.objs.size + 1 := Heap.size_push ..
  have z2 : (zq2 s.heap b c l m).objs.size = s.heap.objs.size + 2 := by rw [Heap.size_push, z1]
  have z3 : (zq3 s.heap b c l m).objs.size = s.heap.objs.size + 3 := by rw [Heap.size_push, z2]
  have z4 : (zq4 s.heap b c l m).objs.size = s.heap.objs.size + 4 := by rw [Heap.size_push, z3]
  have g5 : (zq5 s.heap b c l m).get? (zq4 s.heap b c l m).objs.size = some _ := Heap.get?_push_size _ rfl
  have g4 : (zq5 s.heap b c l m).get? (zq3 s.heap b c l m).objs.size = some _ := Heap.get?_push_of_some _ (Heap.get?_push_size _ rfl)
  have g3 : (zq5 s.heap b c l m).get? (zq2 s.heap b c l m).objs.size = some _ := Heap.get?_push_of_some _ (Heap.get?_push_of_some _ (Heap.get?_push_size _ rfl))
  have g2 : (zq5 s.heap b c l m).get? (zq1 s.heap b l).objs.size = some (zqI c m) := Heap.get?_push_of_some _ (Heap.get?_push_of_some _ (Heap.get?_push_of_some _ (Heap.get?_push_size _ rfl)))
  have g1 : (zq5 s.heap b c l m).get? s.heap.objs.size = some (zqI b l) := Heap.get?_push_of_some _ (Heap.get?_push_of_some _ (Heap.get?_push_of_some _ (Heap.get?_push_of_some _ (Heap.get?_push_size _ rfl))))
  have kp : ∀ c' o, s.heap.get? c' = some o → (zq5 s.heap b c l m).get? c' = some o := fun c' o q => Heap.get?_push_of_some _ (Heap.get?_push_of_some _ (Heap.get?_push_of_some _ (Heap.get?_push_of_some _ (Heap.get?_push_of_some _ q))))
  show _ ∧ _
  rw [z2, z3, z4] at g5
  rw [z1, z2] at g3
  rw [z3] at g4
  rw [z1] at g2
  rw [z4]
  have j1 : Itq (zq5 s.heap b c l m) s.heap.objs.size l 0 xs := by
    cases b with
    | true => exact .inr ⟨⟨_, g1, rfl, rfl⟩, (show s.heap.IsTuple l xs from q1).at fun o q => kp _ o q⟩
    | false => exact .inl ⟨⟨_, g1, rfl, rfl⟩, (show s.heap.IsList l xs from q1).at fun o q => kp _ o q⟩
  have j2 : Itq (zq5 s.heap b c l m) (s.heap.objs.size + 1) m 0 ys := by
    cases c with
    | true => exact .inr ⟨⟨_, g2, rfl, rfl⟩, (show s.heap.IsTuple m ys from q2).at fun o q => kp _ o q⟩
    | false => exact .inl ⟨⟨_, g2, rfl, rfl⟩, (show s.heap.IsList m ys from q2).at fun o q => kp _ o q⟩
  exact ⟨⟨_, g5, rfl⟩, h _ g5 g3 g4 j1 j2 kp⟩
end
section
variable {X : Cx} {pins : List (Addr × Obj)} {σ : St} {H : Hp} {s : Shared}
theorem Inv.turnedL {h' : Heap} {t' : Nat} {ch : List Addr} (I : Inv X pins σ H s) (hk : ∀ b o, b ∉ ch → s.heap.get? b = some o → h'.get? b = some o) (fc : ∀ e ∈ ch, FpOk X pins H e) : Inv X pins σ H { s with heap := h', toks := t' } := by
  refine I.step (g' := s.gens) (d' := s.drawn) (ch := ch) (fun b hb => ?_) (fun b o _ _ hb q _ => hk b o hb q) (fun b o _ _ hb q _ => ⟨o.slots, hk b o hb q⟩) (fun b o _ _ n => n) (fun b o hb q => ⟨o, hk b o hb q⟩)
    (fun _ _ q => q) (fun _ _ _ q => q) (fun b ps q => ⟨#[], by rw [q]; simp⟩) (fun m hm => ?_) (fun b u q => ?_) I.bare
  · have f := fc b hb
    exact ⟨f.2.2.2.1, f.2.1, f.2.2.2.2.1, f.2.2.2.2.2⟩
  · obtain ⟨o, es, ep, ho, r⟩ := hm
    exact ⟨o, es, ep, hk _ o (fun z => (fc _ z).2.1 rfl) ho, r⟩
  · refine (I.hok b u q).stay (fun c v hc r => hk c v (fun z => ?_) r) (fun c r => r) fun c xs r => r
    have f := fc c z
    rcases hc with rfl | hc
    · rw [f.1] at q; cases q
    · rw [f.1] at hc; cases hc
noncomputable def SqK (H : Hp) (c : Bool) (a : Addr) (xs : List V) : Prop := H a = some (if c = true then HO.tup xs else HO.lst xs)
theorem SqK.inj {c : Bool} {a : Addr} {xs ys : List V} (h : SqK H c a xs) (h' : SqK H c a ys) : xs = ys := by
  unfold SqK at h h'
  rw [h] at h'
  cases c <;> (injection h' with h'; injection h')
theorem SqK.ne {c : Bool} {a b : Addr} {xs : List V} (h : SqK H c a xs) (hb : H b = none) : a ≠ b := fun z => by
  subst z
  unfold SqK at h
  rw [hb] at h; cases h
theorem Inv.sqK {c : Bool} {a : Addr} {xs : List V} (I : Inv X pins σ H s) (h : SqK H c a xs) : ∃ its : List Value, Vals xs its ∧ IsSq s.heap c a its.toArray := by
  cases c with
  | true =>
    obtain ⟨its, r, p, _⟩ := I.tuple (SqT.of h)
    exact ⟨its, r, (show s.heap.IsTuple a its.toArray from p)⟩
  | false =>
    obtain ⟨its, r, p, _⟩ := I.list (SqL.of h)
    exact ⟨its, r, p.isList⟩
noncomputable def Itz (c d : Bool) (a b : Addr) : It := ⟨fun i H => ∃ xs ys x y, SqK H c a xs ∧ SqK H d b ys ∧ xs[i]? = some x ∧ ys[i]? = some y,
  fun i H v H' => ∃ p, H p = none ∧ v = .ref p ∧ ∀ xs ys, SqK H c a xs → SqK H d b ys → ∃ x y, xs[i]? = some x ∧ ys[i]? = some y ∧ H' = upd H p (.tup [x, y]),
  fun i H => ∃ xs ys, SqK H c a xs ∧ SqK H d b ys ∧ (xs[i]? = none ∨ ys[i]? = none)⟩
noncomputable def Itk (h : Heap) (c : Bool) (i l : Addr) (k : Nat) : Prop := if c = true then h.IsTupleIter i l k else h.IsListIter i l k
theorem Itk.at {h h' : Heap} {c : Bool} {i l : Addr} {k : Nat} (x : Itk h c i l k) (hi : ∀ o, h.get? i = some o → h'.get? i = some o) : Itk h' c i l k := by
  cases c with
  | true => exact (show h.IsTupleIter i l k from x).at hi
  | false => exact (show h.IsListIter i l k from x).at hi
theorem Itk.obj {h : Heap} {c : Bool} {i l : Addr} {k : Nat} (x : Itk h c i l k) : ∃ o, h.get? i = some o ∧ ∀ v, o.data ≠ .cell v := by
  cases c with
  | true => obtain ⟨o, e, _, d⟩ := (show h.IsTupleIter i l k from x); exact ⟨o, e, fun v z => by rw [d] at z; cases z⟩
  | false => obtain ⟨o, e, _, d⟩ := (show h.IsListIter i l k from x); exact ⟨o, e, fun v z => by rw [d] at z; cases z⟩
theorem Itk.q {h : Heap} {c : Bool} {i l : Addr} {k : Nat} {xs : Array Value} (x : Itk h c i l k) (q : IsSq h c l xs) : Itq h i l k xs := by
  cases c with
  | true => exact .inr ⟨x, q⟩
  | false => exact .inl ⟨x, q⟩
theorem two_cls {h : Heap} {l : Addr} {xs ys : Array Value} (p : h.IsTuple l xs) (q : h.IsList l ys) : False := by
  obtain ⟨o, e, c1, _⟩ := p
  obtain ⟨o', e', c2, _⟩ := q
  rw [e] at e'; cases e'
  rw [c1] at c2
  injection c2 with c2
  exact absurd c2 (by decide)
theorem Itq.k {h : Heap} {c : Bool} {i l : Addr} {k : Nat} {xs : Array Value} (x : Itq h i l k xs) (q : IsSq h c l xs) : Itk h c i l k := by
  rcases x with ⟨x1, x2⟩ | ⟨x1, x2⟩
  · cases c with
    | false => exact x1
    | true => exact (two_cls (show h.IsTuple l xs from q) x2).elim
  · cases c with
    | true => exact x1
    | false => exact (two_cls x2 (show h.IsList l xs from q)).elim
theorem IsSq.at {h h' : Heap} {c : Bool} {l : Addr} {xs : Array Value} (x : IsSq h c l xs) (hl : ∀ o, h.get? l = some o → h'.get? l = some o) : IsSq h' c l xs := by
  cases c with
  | true => exact (show h.IsTuple l xs from x).at hl
  | false => exact (show h.IsList l xs from x).at hl
noncomputable def ZTn (c d : Bool) (z TI TO i1 i2 a b : Addr) (i : Nat) (h : Heap) : Prop := IsZip h z TI TO .none ∧ IsPair h TI (.ref i1) (.ref i2) ∧ (∃ u v, IsPair h TO u v) ∧ Itk h c i1 a i ∧ Itk h d i2 b i
structure ZAp (z TI TO i1 i2 : Addr) : Prop where
  h1 : TI ≠ z
  h2 : TO ≠ z
  h3 : i1 ≠ z
  h4 : i2 ≠ z
  h5 : TI ≠ TO
  h6 : TI ≠ i1
  h7 : TI ≠ i2
  h8 : TO ≠ i1
  h9 : TO ≠ i2
  h10 : i1 ≠ i2
theorem ZAp.apart {z TI TO i1 i2 a b : Addr} (p : ZAp z TI TO i1 i2) (ha : ∀ e ∈ [z, TI, TO, i1, i2], a ≠ e) (hb : ∀ e ∈ [z, TI, TO, i1, i2], b ≠ e) : ZipApart z TI TO i1 i2 a b :=
  ⟨p.h1, p.h2, p.h3, p.h4, p.h5, p.h6, p.h7, p.h8, p.h9, p.h10, ha _ (by simp), ha _ (by simp), ha _ (by simp), ha _ (by simp), hb _ (by simp), hb _ (by simp), hb _ (by simp), hb _ (by simp)⟩
theorem turn_zip {P : Program} {w : World} {K : PySem.W.Frag} {elts : List Expr} {k : Nat} {pos : Pos} {c d : Bool} {z TI TO i1 i2 a b : Addr} (ap : ZAp z TI TO i1 i2) :
    Turn P w K (.Tuple elts k pos) (Itz c d a b) [z, TI, TO, i1, i2] z (ZTn c d z TI TO i1 i2 a b) where
  mem := List.mem_cons_self ..
  obj := fun i h st e he => by
    obtain ⟨hz, hTI, ⟨u, v, hTO⟩, k1, k2⟩ := st
    simp only [List.mem_cons, List.not_mem_nil, or_false] at he
    rcases he with rfl | rfl | rfl | rfl | rfl
    · exact ⟨_, hz, fun v q => by cases q⟩
    · exact ⟨_, hTI, fun v q => by cases q⟩
    · exact ⟨_, hTO, fun v q => by cases q⟩
    · exact k1.obj
    · exact k2.obj
  keep := fun i h h' st kp => by
    obtain ⟨hz, hTI, ⟨u, v, hTO⟩, k1, k2⟩ := st
    exact ⟨kp z (by simp) _ hz, kp TI (by simp) _ hTI, ⟨u, v, kp TO (by simp) _ hTO⟩, k1.at fun o q => kp i1 (by simp) o q, k2.at fun o q => kp i2 (by simp) o q⟩
  item := by
    intro X hP hw hK hc i pins s σ H E I hf st hg
    subst hP hw hK
    obtain ⟨xs, ys, x, y, ha, hb, hx, hy⟩ := hg
    obtain ⟨hz, hTI, ⟨u, v, hTO⟩, k1, k2⟩ := st
    obtain ⟨its, rv, q1⟩ := I.sqK ha
    obtain ⟨jts, rw', q2⟩ := I.sqK hb
    obtain ⟨u1, hu1, ru1⟩ := rv.get hx
    obtain ⟨u2, hu2, ru2⟩ := rw'.get hy
    have na : ∀ e ∈ [z, TI, TO, i1, i2], a ≠ e := fun e he => ha.ne (hf e he).1
    have nb : ∀ e ∈ [z, TI, TO, i1, i2], b ≠ e := fun e he => hb.ne (hf e he).1
    have D := ap.apart na nb
    have hT : s.TypeIs (.ref z) "zip" := ⟨_, hz, rfl⟩
    have step : wpAny (model X.prog X.w) X.A (pyNext (.ref z)) (fun r s1 => ∃ h', r = some (.ref s.heap.objs.size) ∧ s1 = { s with heap := h' } ∧ IsZip h' z TI TO (rawInt s.heap.objs.size) ∧ IsPair h' TO u1 u2 ∧ Itq h' i1 a (i + 1) its.toArray ∧ Itq h' i2 b (i + 1) jts.toArray ∧ IsPair h' s.heap.objs.size u1 u2 ∧ ∀ c o, c ≠ z → c ≠ TO → c ≠ i1 → c ≠ i2 → s.heap.get? c = some o → h'.get? c = some o) E s := by
      unfold pyNext
      exact wpAny_bind (wpAny_attempt (wpAny_callSpecial?_slot (name := Str.ofString "__next__") hT F.slot_zip_next (wpAny_call_entry F.slot_zip_next hT F.entry_zip_next (zq_item D (na _ (by simp)) (nb _ (by simp)) hz hTI hTO (k1.q q1) (k2.q q2) (by simpa using hu1) (by simpa using hu2) fun h' a1 a2 a3 a4 a5 a6 a7 => wpAny_pure ⟨h', rfl, rfl, a1, a2, a3, a4, a5, a7⟩) (F.args_zip_next_1 _))))
    refine thn step fun r s1 ⟨h', e1, e2, a1, a2, a3, a4, a5, a7⟩ => ?_
    subst e1 e2
    refine ⟨_, rfl, wpAny_letOwnedTupleGo_zip a1 fun h2 b1 b2 => ?_⟩
    have hn : H s.heap.objs.size = none := I.hok.fresh (Nat.le_refl _)
    have zlt : z < s.heap.objs.size := Heap.lt_size hz
    have up : ∀ c o, c ∉ [z, TO, i1, i2] → s.heap.get? c = some o → h2.get? c = some o := fun c o hc' q => by
      simp only [List.mem_cons, List.not_mem_nil, or_false, not_or] at hc'
      exact b2.extBut _ _ hc'.1 (a7 c o hc'.1 hc'.2.1 hc'.2.2.1 hc'.2.2.2 q)
    have I1 : Inv X pins σ H { s with heap := h2, toks := s.toks } := I.turnedL (ch := [z, TO, i1, i2]) up fun e he => hf e (by
      simp only [List.mem_cons, List.not_mem_nil, or_false] at he ⊢
      rcases he with rfl | rfl | rfl | rfl <;> simp)
    have hTd : TupD h2 s.heap.objs.size [u1, u2].toArray := ⟨0, b2.extBut _ _ (Nat.ne_of_gt zlt) a5⟩
    have I2 := I1.trackT (ys := [x, y]) (.cons ru1 (.cons ru2 .nil)) (by show 2 ≤ sizeLine; decide) hTd (I.fpOk (Nat.le_refl _) hn)
    have q1' : IsSq h' c a its.toArray := q1.at fun o q => a7 _ o (na _ (by simp)) (na _ (by simp)) (na _ (by simp)) (na _ (by simp)) q
    have q2' : IsSq h' d b jts.toArray := q2.at fun o q => a7 _ o (nb _ (by simp)) (nb _ (by simp)) (nb _ (by simp)) (nb _ (by simp)) q
    refine ⟨.ref s.heap.objs.size, _, I2, rfl, ⟨_, hn, rfl, fun xs' ys' ha' hb' => ?_⟩, ⟨b1, b2.extBut _ _ ap.h1 (a7 _ _ ap.h1 ap.h5 ap.h6 ap.h7 hTI), ⟨_, _, b2.extBut _ _ ap.h2 a2⟩, (a3.k q1').at fun o q => b2.extBut _ _ ap.h3 q, (a4.k q2').at fun o q => b2.extBut _ _ ap.h4 q⟩, fun e he => ?_⟩
    · cases ha.inj ha'
      cases hb.inj hb'
      exact ⟨x, y, hx, hy, rfl⟩
    · have le : e < s.heap.objs.size := by
        obtain ⟨o, q, _⟩ : ∃ o, s.heap.get? e = some o ∧ True := by
          simp only [List.mem_cons, List.not_mem_nil, or_false] at he
          rcases he with rfl | rfl | rfl | rfl | rfl
          · exact ⟨_, hz, trivial⟩
          · exact ⟨_, hTI, trivial⟩
          · exact ⟨_, hTO, trivial⟩
          · obtain ⟨o, q, _⟩ := k1.obj; exact ⟨o, q, trivial⟩
          · obtain ⟨o, q, _⟩ := k2.obj; exact ⟨o, q, trivial⟩
        exact Heap.lt_size q
      rw [upd_ne (Nat.ne_of_lt le)]
      exact (hf e he).1
  done := by
    intro X hP hw hK hc i pins s σ H E I hf st hg
    subst hP hw hK
    obtain ⟨xs, ys, ha, hb, hend⟩ := hg
    obtain ⟨hz, hTI, ⟨u, v, hTO⟩, k1, k2⟩ := st
    obtain ⟨its, rv, q1⟩ := I.sqK ha
    obtain ⟨jts, rw', q2⟩ := I.sqK hb
    have na : ∀ e ∈ [z, TI, TO, i1, i2], a ≠ e := fun e he => ha.ne (hf e he).1
    have nb : ∀ e ∈ [z, TI, TO, i1, i2], b ≠ e := fun e he => hb.ne (hf e he).1
    have D := ap.apart na nb
    have hT : s.TypeIs (.ref z) "zip" := ⟨_, hz, rfl⟩
    have e1 : its.toArray[i]? = none ∨ jts.toArray[i]? = none := by
      have l1 := rv.length
      have l2 := rw'.length
      rcases hend with h | h
      · left
        rw [List.getElem?_eq_none_iff] at h
        simp; omega
      · right
        rw [List.getElem?_eq_none_iff] at h
        simp; omega
    unfold pyNext
    refine wpAny_bind (wpAny_attempt (wpAny_callSpecial?_slot (name := Str.ofString "__next__") hT F.slot_zip_next (wpAny_call_entry F.slot_zip_next hT F.entry_zip_next (zq_end (I.ok.hd hc) D hz hTI hTO (k1.q q1) (k2.q q2) e1 fun h' e hk he => ?_) (F.args_zip_next_1 _))))
    obtain ⟨o, ho, hcl⟩ := he
    refine wpAny_bind (wpAny_isInstance (T := "StopIteration") (b := true) ⟨o, ho, hcl⟩ isSubtype_stop (wpAny_pure ⟨rfl, ?_⟩))
    refine I.turnedL (t' := s.toks) (ch := [z, TO, i1, i2]) (fun c o hc' q => ?_) fun e he => hf e (by
      simp only [List.mem_cons, List.not_mem_nil, or_false] at he ⊢
      rcases he with rfl | rfl | rfl | rfl <;> simp)
    simp only [List.mem_cons, List.not_mem_nil, or_false, not_or] at hc'
    exact hk c o hc'.1 hc'.2.1 hc'.2.2.1 hc'.2.2.2 q
  self := fun A i s Q E st h => wpAny_pyIter_zip st.1 h
theorem boot_zip' : bootBuiltins "zip" = some (.type "zip") := by decide +kernel
noncomputable def iZip (ta : TA) : TI := fun σ H R => ta σ H fun vs H1 => match vs with
  | [.ref a, .ref b] => ∃ c d xs ys, SqK H1 c a xs ∧ SqK H1 d b ys ∧ R (Itz c d a b) H1
  | _ => False
theorem pi_zip {l m : Expr} {ta : TA} {elts : List Expr} {k : Nat} {tp p pos : Pos} (hg : Gl X "zip") (hm : X.mg "zip" = none) (ha : PA X [l, m] ta) (hs : starEach [l, m] X.env = [(false, eval l X.env), (false, eval m X.env)] := by rfl) (hs2 : starEach [m] X.env = [(false, eval m X.env)] := by rfl) :
    PI X (.Tuple elts k tp) (.Call (.Name "zip" p) [l, m] [] pos) (iZip ta) := by
  intro pins s σ H R I h
  refine Call_ (ld_blt I hg hm boot_zip' (PyProof.Rows.callWith_type1 (thn (ha pos pins s σ H _ I h) fun us s1 ⟨vs, H1, I1, r1, q1⟩ => ?_) (by rw [hs, hs2]) (by rw [hs2]; rfl)))
  dsimp only at q1
  split at q1
  · rename_i a b
    obtain ⟨c, d, xs, ys, ka, kb, q⟩ := q1
    obtain ⟨u, u', rfl, rx, ry⟩ := vals2 r1
    cases rx
    cases ry
    obtain ⟨its, rv, p1⟩ := I1.sqK ka
    obtain ⟨jts, rv', p2⟩ := I1.sqK kb
    refine call_zq p1 p2 fun h' hz hTI hTO j1 j2 hk => ?_
    have I2 : Inv X pins σ H1 { s1 with heap := h' } := I1.kept (t' := s1.toks) hk
    have ap : ZAp (s1.heap.objs.size + 4) (s1.heap.objs.size + 2) (s1.heap.objs.size + 3) s1.heap.objs.size (s1.heap.objs.size + 1) := by
      have e : ∀ n m : Nat, n ≠ m → s1.heap.objs.size + n ≠ s1.heap.objs.size + m := fun n m h z => h (Nat.add_left_cancel z)
      exact ⟨e 2 4 (by decide), e 3 4 (by decide), e 0 4 (by decide), e 1 4 (by decide), e 2 3 (by decide), e 2 0 (by decide), e 2 1 (by decide), e 3 0 (by decide), e 3 1 (by decide), e 0 1 (by decide)⟩
    refine wpAny_pyIter_zip (s := { s1 with heap := h' }) hz ⟨s1.heap.objs.size + 4, _, _, _, H1, rfl, I2, turn_zip ap, ⟨hz, hTI, ⟨_, _, hTO⟩, j1.k (p1.at fun o q => hk _ o q), j2.k (p2.at fun o q => hk _ o q)⟩, fun e he => ?_, q⟩
    have hb' : s1.heap.objs.size ≤ e := by
      simp only [List.mem_cons, List.not_mem_nil, or_false] at he
      rcases he with rfl | rfl | rfl | rfl | rfl
      · exact Nat.le_add_right _ 4
      · exact Nat.le_add_right _ 2
      · exact Nat.le_add_right _ 3
      · exact Nat.le_refl _
      · exact Nat.le_add_right _ 1
    exact I1.fpOk hb' (I1.hok.fresh hb')
  · exact q1.elim
theorem zi_zip {l m : Expr} {ta : TA} {elts : List Expr} {k : Nat} {tp p pos : Pos} (hg : Gl X "zip") (hm : X.mg "zip" = none) (ha : ZA X [l, m] ta) (hs : starEach [l, m] X.env = [(false, eval l X.env), (false, eval m X.env)] := by rfl) (hs2 : starEach [m] X.env = [(false, eval m X.env)] := by rfl) :
    ZI X (.Tuple elts k tp) (.Call (.Name "zip" p) [l, m] [] pos) (iZip ta) := by with_unfolding_all exact pi_zip hg hm ha hs hs2
theorem cmp_zip {nv : List Str} {ix : List (Str × Nat)} {σ : St} {g : TG} {ti : TT} {te : TE} {Fin : List V → Hp → Prop} {c d : Bool} {a b : Addr} {xs ys : List V} (Pv : Nat → List V → Hp → Prop) (h0 : Pv 0 [] H) (hl : ∀ i zs H, i ≤ min xs.length ys.length → Pv i zs H → SqK H c a xs ∧ SqK H d b ys)
    (hn : ∀ i zs H, i < min xs.length ys.length → Pv i zs H → zs.length < sizeLine)
    (hs : ∀ i x y zs H p, xs[i]? = some x → ys[i]? = some y → Pv i zs H → H p = none → g (.ref p) (st0 nv ix σ) (upd H p (.tup [x, y])) fun σ2 H2 => ti σ2 H2 fun b H3 => if b = true then te σ2 H3 fun y H4 => Pv (i + 1) (zs ++ [y]) H4 else Pv (i + 1) zs H3)
    (hd : ∀ zs H, Pv (min xs.length ys.length) zs H → Fin zs H) : CmpW nv ix g ti te σ (Itz c d a b) Fin H := by
  refine ⟨fun i m zs H => m = min xs.length ys.length - i ∧ i ≤ min xs.length ys.length ∧ Pv i zs H, ⟨_, rfl, Nat.zero_le _, h0⟩, ?_⟩
  rintro i m zs H ⟨rfl, hi, p⟩
  obtain ⟨q1, q2⟩ := hl i zs H hi p
  by_cases hlt : i < min xs.length ys.length
  · have l1 : i < xs.length := by omega
    have l2 : i < ys.length := by omega
    refine .inr ⟨⟨xs, ys, xs[i], ys[i], q1, q2, by simp [l1], by simp [l2]⟩, hn i zs H hlt p, Pv (i + 1), fun σ' H' p' => ⟨_, by omega, rfl, hlt, p'⟩, fun x H' y => ?_⟩
    obtain ⟨pp, hn', rfl, hy⟩ := y
    obtain ⟨x1, y1, e1, e2, rfl⟩ := hy xs ys q1 q2
    exact hs i x1 y1 zs H pp e1 e2 p hn'
  · have e : i = min xs.length ys.length := by omega
    refine .inl ⟨⟨xs, ys, q1, q2, ?_⟩, hd zs H (e ▸ p)⟩
    by_cases l1 : i < xs.length
    · right; rw [List.getElem?_eq_none_iff]; omega
    · left; rw [List.getElem?_eq_none_iff]; omega
theorem kpg_two {K : PySem.W.Frag} {x y : Str} : KpG [x, y] (gTup K 2 (gCons (gName 0) (gCons (gName 1) gNil))) := fun fr v H Q h => by
  obtain ⟨a, xs, e, hq, hl, v1, r1, e1, v2, r2, e2, e3, q⟩ := h
  refine ⟨a, xs, e, hq, hl, v1, r1, e1, v2, r2, e2, e3, ⟨by simp, fun i w e => ?_⟩, q⟩
  match i, e with
  | 0, e => cases e
  | 1, e => cases e
  | i + 2, e => exact e
end
end L2
set_option Elab.async false
set_option linter.all false
set_option maxRecDepth 100000
set_option maxHeartbeats 4000000
namespace SRT
open PySem PyProof.Rows
section
variable {prog : Program} {w : World} {A : Around} {E : Value → Shared → Prop} {s : Shared}
end
end SRT
set_option Elab.async false
set_option linter.all false
set_option maxRecDepth 100000
set_option maxHeartbeats 4000000
namespace SRT
open PySem PyProof.Rows
end SRT
set_option Elab.async false
set_option linter.all false
set_option maxRecDepth 100000
set_option maxHeartbeats 4000000
namespace SRT
open PySem PyProof.Rows
section
variable {A B : List Keyed} {o : List Keyed} {ia ib : Nat}
end
section
variable {prog : Program} {w : World} {A : Around} {E : Value → Shared → Prop} {s : Shared}
end
end SRT
set_option Elab.async false
set_option linter.all false
set_option maxRecDepth 100000
set_option maxHeartbeats 4000000
namespace SRT
open PySem PyProof.Rows
section
variable {prog : Program} {w : World} {A : Around} {E : Value → Shared → Prop} {s : Shared}
end
end SRT
set_option Elab.async false
set_option linter.all false
set_option maxRecDepth 100000
set_option maxHeartbeats 4000000
namespace SRT
open PySem PyProof.Rows
section
variable {xa xb ou : Array Keyed} {na nb : Nat}
end
end SRT
set_option Elab.async false
set_option linter.all false
set_option maxRecDepth 100000
set_option maxHeartbeats 4000000
namespace SRT
open PySem PyProof.Rows
section
variable {prog : Program} {w : World} {A : Around} {E : Value → Shared → Prop} {s : Shared}
end
end SRT
set_option Elab.async false
set_option linter.all false
set_option maxRecDepth 100000
set_option maxHeartbeats 4000000
namespace SRT
open PySem PyProof.Rows
end SRT
set_option Elab.async false
set_option linter.all false
set_option maxRecDepth 100000
set_option maxHeartbeats 4000000
namespace SRT
open PySem PyProof.Rows
section
variable {prog : Program} {w : World} {A : Around} {E : Value → Shared → Prop} {s : Shared}
end
end SRT
set_option Elab.async false
set_option linter.all false
set_option maxRecDepth 100000
set_option maxHeartbeats 4000000
namespace SRT
open PySem PyProof.Rows
section
variable {prog : Program} {w : World} {A : Around} {E : Value → Shared → Prop} {s : Shared} {a₀ : Array Keyed} {lo : Nat} {st₀ : SortSt}
end
end SRT
set_option Elab.async false
set_option linter.all false
set_option maxRecDepth 100000
set_option maxHeartbeats 4000000
namespace SRT
open PySem PyProof.Rows
section
variable {prog : Program} {w : World} {A : Around} {E : Value → Shared → Prop} {s : Shared} {a₀ : Array Keyed} {lo : Nat} {st₀ : SortSt}
end
end SRT
set_option Elab.async false
set_option linter.all false
set_option maxRecDepth 100000
set_option maxHeartbeats 4000000
namespace SRT
open PySem PyProof.Rows
section
variable {prog : Program} {w : World} {A : Around} {E : Value → Shared → Prop} {s : Shared} {a₀ : Array Keyed}
end
end SRT
set_option Elab.async false
set_option linter.all false
set_option maxRecDepth 100000
set_option maxHeartbeats 4000000
namespace SRT
open PySem PyProof.Rows
section
variable {prog : Program} {w : World} {A : Around} {E : Value → Shared → Prop} {s : Shared} {a₀ : Array Keyed}
end
end SRT
set_option Elab.async false
set_option linter.all false
set_option maxRecDepth 100000
set_option maxHeartbeats 4000000
namespace SRT
open PySem PyProof.Rows
section
variable {prog : Program} {w : World} {A : Around} {E : Value → Shared → Prop} {s : Shared}
end
end SRT
set_option Elab.async false
set_option linter.all false
set_option maxRecDepth 100000
set_option maxHeartbeats 4000000
namespace L2
open PySem PySem.Spec PyProof.Rows
section
variable {X : Cx}
variable {e : Expr} {es : List Expr} {t : TA} {p pos : Pos}
variable {o : Expr} {to : TE} {apos cpos : Pos}
end
end L2
set_option Elab.async false
set_option linter.all false
set_option maxRecDepth 100000
set_option maxHeartbeats 4000000
namespace MXD
open PySem
section
variable {prog : Program} {w : World} {A : Around} {R : Result → Shared → Prop} {I : Addr} {fp wr : List Addr} {n : Nat} {P : Nat → Value → Prop} {St : Nat → Heap → Prop}
end
section
variable {prog : Program} {w : World} {A : Around} {E : Value → Shared → Prop} {s : Shared}
end
end MXD
namespace L2
open PySem PySem.Spec PyProof.Rows
section
variable {X : Cx}
variable {e : Expr} {es : List Expr} {t : TA} {p pos : Pos}
variable {o : Expr} {to : TE} {apos cpos : Pos}
end
end L2
set_option Elab.async false
set_option linter.all false
set_option maxRecDepth 100000
set_option maxHeartbeats 4000000
namespace L2
open PySem PySem.Spec PyProof.Rows
section
variable {X : Cx} {e : Expr} {es : List Expr} {t : TA} {p pos : Pos}
end
end L2
set_option Elab.async false
set_option linter.all false
set_option maxRecDepth 100000
set_option maxHeartbeats 4000000
namespace L2
open PySem PySem.Spec PyProof.Rows
section
variable {X : Cx} {e : Expr} {es : List Expr} {t : TA} {p pos : Pos} {o : Expr} {to : TE} {apos cpos : Pos}
end
end L2
set_option Elab.async false
set_option linter.all false
set_option maxRecDepth 100000
set_option maxHeartbeats 4000000
namespace L2
open PySem PySem.Spec PyProof.Rows
section
variable {prog : Program} {w : World} {A : Around} {E : Value → Shared → Prop} {R : Result → Shared → Prop} {s : Shared}
end
section
variable {X : Cx} {nv : List Str} {ix : List (Str × Nat)} {scope : Scope} {pins : List (Addr × Obj)} {σ : St} {H : Hp} {s : Shared} {elt t1 i1 t2 i2 : Expr} {c1 c2 : List Expr} {pos : Pos}
end
end L2
set_option Elab.async false
set_option linter.all false
set_option maxRecDepth 100000
set_option maxHeartbeats 4000000
namespace L2
open PySem PySem.Spec PyProof.Rows
section
variable {X : Cx} {e v₁ v₂ : Expr} {es : List Expr} {te : TE} {pos : Pos}
end
end L2
set_option Elab.async false
set_option linter.all false
set_option maxRecDepth 100000
set_option maxHeartbeats 4000000
namespace L2
open PySem PySem.Spec PyProof.Rows
section
variable {κ : Type} [DecidableEq κ]
end
section
variable {P : Program} {w : World} {H : Hp} {h : Heap} {a : Addr}
end
section
variable {X : Cx} {pins : List (Addr × Obj)} {σ : St} {H : Hp} {s : Shared} {a : Addr} {y v : V} {u r : Value} {o : Option V} {A : Around} {E : Value → Shared → Prop}
end
section
variable {X : Cx} {pins : List (Addr × Obj)} {σ : St} {H : Hp} {s : Shared} {a : Addr} {kvs : List (Key × V)} {k : Key} {u : Value} {A : Around} {E : Value → Shared → Prop}
end
section
variable {X : Cx} {o i e value : Expr} {pos pos' tpos : Pos} {td ty tv : TE}
end
section
variable {X : Cx} {pos : Pos}
end
end L2
set_option Elab.async false
set_option linter.all false
set_option maxRecDepth 100000
set_option maxHeartbeats 4000000
namespace DCT
open PySem PyProof.Rows SRT L2
section
variable {prog : Program} {w : World} {A : Around} {E : Value → Shared → Prop} {s : Shared} {K : Type} [DecidableEq K] {knd : KeyKind prog w K}
end
end DCT
namespace L2
open PySem PySem.Spec PyProof.Rows
section
variable {X : Cx}
variable {e : Expr} {es : List Expr} {t : TA} {p pos : Pos}
end
end L2
set_option Elab.async false
set_option linter.all false
set_option maxRecDepth 100000
set_option maxHeartbeats 4000000
namespace PySem
open Sem (wp)
section
variable {prog : Program} {w : World} {A : Around} {E : Value → Shared → Prop} {K : Type} [DecidableEq K] {knd : KeyKind prog w K}
end
end PySem
namespace L2
open PySem PySem.Spec PyProof.Rows
section
variable {X : Cx}
variable {e : Expr} {es : List Expr} {t : TA} {p pos : Pos}
end
end L2
set_option Elab.async false
set_option linter.all false
set_option maxRecDepth 100000
set_option maxHeartbeats 4000000
namespace L2
open PySem PySem.Spec PyProof.Rows
section
variable {X : Cx} {pins : List (Addr × Obj)} {σ : St} {H : Hp} {s : Shared} {a : Addr} {y d : V} {u r : Value} {o : Option V} {A : Around} {E : Value → Shared → Prop}
end
section
variable {X : Cx} {o e f : Expr} {apos cpos : Pos} {td ty tx : TE}
end
end L2
set_option Elab.async false
set_option linter.all false
set_option maxRecDepth 100000
set_option maxHeartbeats 4000000
namespace L2
open PySem PySem.Spec PyProof.Rows
section
variable {X : Cx}
end
end L2
set_option Elab.async false
set_option linter.all false
set_option maxRecDepth 100000
set_option maxHeartbeats 4000000
namespace L2
open PySem PySem.Spec PyProof.Rows
section
variable {X : Cx}
variable {e : Expr} {es : List Expr} {t : TA} {p pos : Pos}
end
end L2
set_option Elab.async false
set_option linter.all false
set_option maxRecDepth 100000
set_option maxHeartbeats 4000000
namespace L2
open PySem PySem.Spec PyProof.Rows
section
variable {X : Cx}
noncomputable def rMin3 : List V → Hp → VK → Prop := fun xs H Q => match xs with
  | [.int i, .int j, .int k] => ∀ M, (M = i ∨ M = j ∨ M = k) → M ≤ i → M ≤ j → M ≤ k → Q (.int M) H
  | _ => False
theorem call_min3 (hc : X.calm = true) : CallR X (.builtin "min") rMin3 := by
  intro pins s σ H xs us Q I r h
  unfold rMin3 at h
  split at h
  · rename_i i j k
    obtain ⟨u1, u2, u3, rfl, ⟨t1, rfl⟩, ⟨t2, rfl⟩, ⟨t3, rfl⟩⟩ : ∃ u1 u2 u3, us = [u1, u2, u3] ∧ RelV (.int i) u1 ∧ RelV (.int j) u2 ∧ RelV (.int k) u3 := by
      cases r with
      | cons r1 r2 =>
        cases r2 with
        | cons r3 r4 =>
          cases r4 with
          | cons r5 r6 => cases r6; exact ⟨_, _, _, rfl, r1, r3, r5⟩
    refine min_three_ints (I.ok.hd hc) fun h' tk kp => ?_
    by_cases c1 : j < i
    · by_cases c2 : k < j
      · rw [if_pos c1, if_pos c2]; exact ⟨.int k, H, I.kept kp, ⟨_, rfl⟩, h k (by omega) (by omega) (by omega) (by omega)⟩
      · rw [if_pos c1, if_neg c2]; exact ⟨.int j, H, I.kept kp, ⟨_, rfl⟩, h j (by omega) (by omega) (by omega) (by omega)⟩
    · by_cases c2 : k < i
      · rw [if_neg c1, if_pos c2]; exact ⟨.int k, H, I.kept kp, ⟨_, rfl⟩, h k (by omega) (by omega) (by omega) (by omega)⟩
      · rw [if_neg c1, if_neg c2]; exact ⟨.int i, H, I.kept kp, ⟨_, rfl⟩, h i (by omega) (by omega) (by omega) (by omega)⟩
  · exact h.elim
theorem zcb_min3 {e : Expr} {es : List Expr} {t : TA} {p pos : Pos} (hc : X.calm = true) (hg : Gl X "min") (hm : X.mg "min" = none) (ha : ZA X (e :: es) t) (he : starEach (e :: es) X.env = (false, eval e X.env) :: starEach es X.env) (hpl : (backTo pos (starEach es X.env)).any (·.1) = false) :
    ZE X (.Call (.Name "min" p) (e :: es) [] pos) (tCB rMin3 t) := by with_unfolding_all exact pe_callB (call_min3 hc) hg hm boot_min' ha (by decide) (by decide) he hpl
end
end L2
set_option Elab.async false
set_option linter.all false
set_option maxRecDepth 100000
set_option maxHeartbeats 4000000
namespace L2
open PySem PySem.Spec PyProof.Rows
section
variable {X : Cx}
variable {e : Expr} {es : List Expr} {t : TA} {p pos : Pos}
end
end L2
set_option Elab.async false
set_option linter.all false
set_option maxRecDepth 100000
set_option maxHeartbeats 4000000
namespace L2
open PySem PySem.Spec PyProof.Rows
section
variable {prog : Program} {w : World} {A : Around} {E : Value → Shared → Prop} {s : Shared}
variable {z TI TO i1 i2 i3 l1 l2 l3 : Addr} {k1 k2 k3 : Nat} {xs ys zs : Array Value}
end
section
variable {prog : Program} {w : World} {A : Around} {E : Value → Shared → Prop} {s : Shared}
end
section
variable {X : Cx} {pins : List (Addr × Obj)} {σ : St} {H : Hp} {s : Shared}
end
end L2
set_option Elab.async false
set_option linter.all false
set_option maxRecDepth 100000
set_option maxHeartbeats 4000000
namespace L2
open PySem PySem.Spec PyProof.Rows
section
variable {X : Cx}
variable {e : Expr} {es : List Expr} {t : TA} {p pos : Pos}
end
end L2
set_option Elab.async false
set_option linter.all false
set_option maxRecDepth 100000
set_option maxHeartbeats 4000000
namespace L2
open PySem PySem.Spec PyProof.Rows
theorem boot_any' : bootBuiltins "any" = some (.builtin "any") := by decide +kernel
noncomputable def rAnyP (K : PySem.W.Frag) : List V → Hp → VK → Prop := fun xs H Q => match xs with
  | [.ref p] => ∃ bs : List Bool, SqL K H p (bs.map V.bl) ∧ Q (.bl (bs.any id)) H
  | _ => False
theorem call_anyP {X : Cx} (hc : X.calm = true) : CallR X (.builtin "any") (rAnyP X.K) := by
  intro pins s σ H xs us Q I r h
  unfold rAnyP at h
  split at h
  · rename_i p
    obtain ⟨bs, hq, q⟩ := h
    obtain ⟨u, rfl, rx⟩ := vals1 r
    cases rx
    obtain ⟨its, rv, pl, hz⟩ := I.list hq
    have hlen : its.length = bs.length := by rw [← rv.length, List.length_map]
    have hlt : p < s.heap.objs.size := by
      obtain ⟨_, e, _⟩ := pl.isList
      exact Heap.lt_size e
    refine call_any_walk (wpAny_pyIter_list pl.isList ?_)
    have W : Walks X.prog X.w X.A.in1 s.heap.objs.size [s.heap.objs.size, p] [s.heap.objs.size] its.toArray.size _ _ := Walks.list (show X.A.in1.handled = none from I.ok.hd hc) s.heap.objs.size p (Nat.ne_of_lt hlt) its.toArray
    refine ⟨s.heap.objs.size, _, _, _, _, _, fun i => bs.getD i false, rfl, W, ⟨⟨_, Heap.get?_push_size _ rfl, rfl, rfl⟩, pl.isList.push _⟩, ?_, fun h' tk hk => ?_⟩
    · intro i v s' Q' E' hP hQ
      have hP' : its[i]? = some v := by simpa using hP
      have hi : i < bs.length := by rw [← hlen]; exact (List.getElem?_eq_some_iff.mp hP').1
      obtain ⟨w', e1, e2⟩ := rv.get (i := i) (x := .bl bs[i]) (by rw [List.getElem?_map, List.getElem?_eq_getElem hi]; rfl)
      rw [hP'] at e1
      cases e1
      cases e2
      refine wpAny_truthy_bool ?_
      have e : bs.getD i false = bs[i] := by rw [List.getD_eq_getElem?_getD, List.getElem?_eq_getElem hi]; rfl
      have hQ' : Q' (bs.getD i false) s' := hQ
      rw [e] at hQ'
      exact hQ'
    · have I1 : Inv X pins σ H { s with heap := h', toks := tk } := I.kept fun b o e => hk b o (by simpa using Nat.ne_of_lt (Heap.lt_size e)) (Heap.get?_push_of_some _ e)
      refine ⟨.bl _, H, I1, rfl, ?_⟩
      have e : (List.range its.toArray.size).any (fun i => bs.getD i false) = bs.any id := by
        rw [List.size_toArray, hlen, Bool.eq_iff_iff, List.any_eq_true, List.any_eq_true]
        constructor
        · rintro ⟨i, hi, h⟩
          have hi' := List.mem_range.mp hi
          rw [List.getD_eq_getElem?_getD, List.getElem?_eq_getElem hi'] at h
          exact ⟨_, List.getElem_mem hi', h⟩
        · rintro ⟨x, hx, h⟩
          obtain ⟨i, hi, rfl⟩ := List.mem_iff_getElem.mp hx
          exact ⟨i, List.mem_range.mpr hi, by rw [List.getD_eq_getElem?_getD, List.getElem?_eq_getElem hi]; exact h⟩
      rw [e]
      exact q
  · exact h.elim
section
variable {X : Cx} {e : Expr} {es : List Expr} {t : TA} {p pos : Pos}
theorem pcb_any (hc : X.calm = true) (hg : Gl X "any") (hm : X.mg "any" = none) (ha : PA X (e :: es) t) (he : starEach (e :: es) X.env = (false, eval e X.env) :: starEach es X.env) (hpl : (backTo pos (starEach es X.env)).any (·.1) = false) :
    PE X (.Call (.Name "any" p) (e :: es) [] pos) (tCB (rAnyP X.K) t) := pe_callB (call_anyP hc) hg hm boot_any' ha (by decide) (by decide) he hpl
theorem zcb_any (hc : X.calm = true) (hg : Gl X "any") (hm : X.mg "any" = none) (ha : ZA X (e :: es) t) (he : starEach (e :: es) X.env = (false, eval e X.env) :: starEach es X.env) (hpl : (backTo pos (starEach es X.env)).any (·.1) = false) :
    ZE X (.Call (.Name "any" p) (e :: es) [] pos) (tCB (rAnyP X.K) t) := by with_unfolding_all exact pcb_any hc hg hm ha he hpl
end
end L2
set_option Elab.async false
set_option linter.all false
set_option maxRecDepth 100000
set_option maxHeartbeats 4000000
namespace L2
open PySem PySem.Spec PyProof.Rows
end L2
set_option Elab.async false
set_option linter.all false
set_option maxRecDepth 100000
set_option maxHeartbeats 4000000
namespace L2
open PySem PySem.Spec PyProof.Rows
section
variable {X : Cx}
variable {e : Expr} {es : List Expr} {t : TA} {p pos : Pos}
end
end L2
set_option Elab.async false
set_option linter.all false
set_option maxRecDepth 100000
set_option maxHeartbeats 4000000
namespace HT
open PySem PyProof.Rows PySem.SeqAt
variable {prog : Program} {w : World} {A : Around} {E : Value → Shared → Prop} {s : Shared}
end HT
namespace L2
open PySem PySem.Spec PyProof.Rows
section
variable {X : Cx} {e lo hi : Expr} {te tl tk : TE} {pos p2 : Pos}
end
end L2
set_option Elab.async false
set_option linter.all false
set_option maxRecDepth 100000
set_option maxHeartbeats 4000000
namespace EN1
open PySem PyProof.Rows
section
variable {prog : Program} {w : World} {A : Around} {E : Value → Shared → Prop} {s : Shared}
end
end EN1
set_option Elab.async false
set_option linter.all false
set_option maxRecDepth 100000
set_option maxHeartbeats 4000000
namespace EN1
open PySem PyProof.Rows
section
end
end EN1
namespace L2
open PySem PySem.Spec PyProof.Rows
section
variable {X : Cx}
end
end L2
set_option Elab.async false
set_option linter.all false
set_option maxRecDepth 100000
set_option maxHeartbeats 4000000
namespace PySem
open PyProof.Rows
section
variable {prog : Program} {w : World} {A : Around} {E : Value → Shared → Prop} {s : Shared}
end
end PySem
namespace L2
open PySem PySem.Spec PyProof.Rows
section
variable {X : Cx}
theorem op_in_seq' {K : PySem.W.Frag} (h : X.K = K) : OpR X (compareOp .In) (rIn K false) := by subst h; exact op_in_seq
variable {e : Expr} {es : List Expr} {t : TA} {p pos : Pos}
end
end L2
namespace MRow
noncomputable def putN : Nat → (Nat → Int) → Nat → Nat → Int
  | 0, f, _, n => f n
  | k + 1, f, s, n => f n + (if s ≤ n then putN k f s (n - s) else 0)
noncomputable def put (f : Nat → Int) (s n : Nat) : Int := putN n f s n
theorem putN_more {f : Nat → Int} {s : Nat} (hs : 0 < s) : ∀ (k n : Nat), n ≤ k → putN k f s n = putN n f s n
  | 0, n, h => by have : n = 0 := by omega
                  subst this; rfl
  | k + 1, 0, _ => by
    show f 0 + (if s ≤ 0 then _ else 0) = f 0
    rw [if_neg (by omega)]; omega
  | k + 1, n + 1, h => by
    show f (n + 1) + (if s ≤ n + 1 then putN k f s (n + 1 - s) else 0) = f (n + 1) + (if s ≤ n + 1 then putN n f s (n + 1 - s) else 0)
    by_cases hn : s ≤ n + 1
    · rw [if_pos hn, if_pos hn, putN_more hs k _ (by omega), putN_more hs n _ (by omega)]
    · rw [if_neg hn, if_neg hn]
theorem put_eq (f : Nat → Int) {s : Nat} (hs : 0 < s) (n : Nat) : put f s n = f n + (if s ≤ n then put f s (n - s) else 0) := by
  unfold put
  rw [← putN_more hs (n + 1) n (by omega)]
  show f n + (if s ≤ n then putN n f s (n - s) else 0) = _
  by_cases hn : s ≤ n
  · rw [if_pos hn, if_pos hn, putN_more hs n _ (by omega)]
  · rw [if_neg hn, if_neg hn]
noncomputable def dl : Nat → Int := fun n => if n = 0 then 1 else 0
noncomputable def R : Nat → Nat → Int
  | 0 => dl
  | s + 1 => put (R s) (s + 1)
noncomputable def tb (f : Nat → Int) (L : Nat) : List Int := (List.range L).map f
theorem tb_len (f : Nat → Int) (L : Nat) : (tb f L).length = L := by simp [tb]
theorem tb_at {f : Nat → Int} {L j : Nat} (h : j < (tb f L).length) : (tb f L)[j] = f j := by simp [tb]
theorem tb_get {f : Nat → Int} {L j : Nat} (h : j < L) : (tb f L)[j]? = some (f j) := by
  rw [List.getElem?_eq_getElem (by rw [tb_len]; exact h), tb_at]
theorem tb_succ (f : Nat → Int) (L : Nat) : tb f (L + 1) = tb f L ++ [f L] := by simp [tb, List.range_succ]
theorem tb_ext {f g : Nat → Int} {L : Nat} (h : ∀ j, j < L → f j = g j) : tb f L = tb g L := by
  unfold tb
  exact List.map_congr_left fun j hj => h j (List.mem_range.mp hj)
theorem tb_dl (n : Nat) : tb dl (n + 1) = 1 :: List.replicate n 0 := by
  refine List.ext_getElem (by simp [tb]) fun i h1 h2 => ?_
  rw [tb_at]
  cases i with
  | zero => rfl
  | succ i => simp [dl]
noncomputable def up (f g : Nat → Int) (k : Nat) : Nat → Int := fun j => if j < k then g j else f j
theorem tb_set {f g : Nat → Int} {L k : Nat} (h : k < L) : (tb (up f g k) L).set k (g k) = tb (up f g (k + 1)) L := by
  refine List.ext_getElem (by rw [List.length_set, tb_len, tb_len]) fun i h1 h2 => ?_
  rw [List.getElem_set, tb_at h2]
  unfold up
  by_cases hk : k = i
  · subst hk; simp
  · rw [if_neg hk, tb_at]
    by_cases hi : i < k
    · rw [if_pos hi, if_pos (by omega)]
    · rw [if_neg hi, if_neg (by omega)]
theorem put_low (f : Nat → Int) {s n : Nat} (hs : 0 < s) (h : n < s) : put f s n = f n := by rw [put_eq f hs, if_neg (by omega)]; omega
theorem up_start (f : Nat → Int) {s : Nat} (hs : 0 < s) (L : Nat) : tb (up f (put f s) s) L = tb f L := tb_ext fun j _ => by
  unfold up
  by_cases h : j < s
  · rw [if_pos h, put_low f hs h]
  · rw [if_neg h]
theorem up_all (f g : Nat → Int) {k L : Nat} (h : L ≤ k) : tb (up f g k) L = tb g L := tb_ext fun j hj => by
  unfold up
  rw [if_pos (by omega)]
end MRow
set_option Elab.async false
set_option linter.all false
set_option maxRecDepth 100000
set_option exponentiation.threshold 3000
set_option maxHeartbeats 4000000
namespace M27
open PySem L2 MRow
theorem size_up {a b m : Int} (hm : 1 ≤ m) : Builtin.Range.rangeSize a b m = if a < b then (b - a - 1) / m + 1 else 0 := by
  unfold Builtin.Range.rangeSize
  rw [if_pos (by omega)]
theorem small_up {a b m : Int} (hm : 1 ≤ m) (hm' : m ≤ 1000000) (ha : 0 ≤ a) (ha' : a ≤ 1000000) (hb : 0 ≤ b) (hb' : b ≤ 1000000) : Builtin.Range.small a b m = true := by
  have e := size_up (a := a) (b := b) hm
  unfold Builtin.Range.small
  rw [e]
  by_cases hab : a < b
  · rw [if_pos hab]
    have h0 : 0 ≤ (b - a - 1) / m := Int.ediv_nonneg (by omega) (by omega)
    have h1 : (b - a - 1) / m ≤ b - a - 1 := Int.ediv_le_self _ (by omega)
    simp only [Builtin.Range.rangeFitsLong, Bool.and_eq_true, Bool.or_eq_true, decide_eq_true_eq, beq_iff_eq, show m > 0 by omega, if_true]
    generalize (b - a - 1) / m = k at h0 h1
    omega
  · rw [if_neg hab]
    simp only [Builtin.Range.rangeFitsLong, Bool.and_eq_true, Bool.or_eq_true, decide_eq_true_eq, beq_iff_eq, show m > 0 by omega, if_true]
    omega
end M27
set_option linter.all false
set_option maxRecDepth 100000
set_option maxHeartbeats 4000000
namespace M80
open MRow
noncomputable def off (g : Nat → Int) (s n : Nat) : Int := g n - if s ≤ n then g (n - s) else 0
theorem put_of {F c : Nat → Int} {s : Nat} (hs : 0 < s) (h : off F s = c) : F = put c s := by
  funext n
  induction n using Nat.strongRecOn with
  | ind n ih =>
    have e := congrFun h n
    unfold off at e
    rw [put_eq c hs]
    by_cases hn : s ≤ n
    · rw [if_pos hn] at e ⊢
      rw [← ih (n - s) (by omega)]
      omega
    · rw [if_neg hn] at e ⊢
      omega
theorem off_put (g : Nat → Int) {s : Nat} (hs : 0 < s) : off (put g s) s = g := by
  funext n
  unfold off
  rw [put_eq g hs n]
  omega
theorem put_off (g : Nat → Int) {s : Nat} (hs : 0 < s) : put (off g s) s = g := (put_of hs rfl).symm
theorem off_comm (g : Nat → Int) (a b : Nat) : off (off g a) b = off (off g b) a := by
  funext n
  unfold off
  by_cases ha : a ≤ n
  · by_cases hb : b ≤ n
    · by_cases hab : a + b ≤ n
      · rw [if_pos hb, if_pos ha, if_pos (show a ≤ n - b by omega), if_pos (show b ≤ n - a by omega), show n - b - a = n - a - b by omega]
        omega
      · rw [if_pos hb, if_pos ha, if_neg (show ¬ a ≤ n - b by omega), if_neg (show ¬ b ≤ n - a by omega)]
        omega
    · rw [if_neg hb, if_pos ha, if_neg (show ¬ b ≤ n - a by omega)]
      omega
  · by_cases hb : b ≤ n
    · rw [if_pos hb, if_neg ha, if_neg (show ¬ a ≤ n - b by omega)]
      omega
    · simp only [if_neg hb, if_neg ha]
theorem off_put_comm (g : Nat → Int) {a : Nat} (b : Nat) (ha : 0 < a) : off (put g a) b = put (off g b) a := by
  refine put_of ha ?_
  rw [off_comm, off_put g ha]
theorem put_comm (g : Nat → Int) {a b : Nat} (ha : 0 < a) (hb : 0 < b) : put (put g a) b = put (put g b) a := by
  refine put_of ha ?_
  rw [off_put_comm _ _ hb, off_put _ ha]
noncomputable def PL (g : Nat → Int) (ss : List Nat) : Nat → Int := ss.foldl put g
noncomputable def OL (g : Nat → Int) (ss : List Nat) : Nat → Int := ss.foldl off g
theorem PL_cons (g : Nat → Int) (s : Nat) (ss : List Nat) : PL g (s :: ss) = PL (put g s) ss := rfl
theorem OL_cons (g : Nat → Int) (s : Nat) (ss : List Nat) : OL g (s :: ss) = OL (off g s) ss := rfl
theorem PL_app (g : Nat → Int) (a b : List Nat) : PL g (a ++ b) = PL (PL g a) b := by unfold PL; rw [List.foldl_append]
theorem OL_app (g : Nat → Int) (a b : List Nat) : OL g (a ++ b) = OL (OL g a) b := by unfold OL; rw [List.foldl_append]
theorem PL_off : ∀ (ss : List Nat) (g : Nat → Int) (s : Nat), (∀ x ∈ ss, 0 < x) → PL (off g s) ss = off (PL g ss) s
  | [], _, _, _ => rfl
  | x :: ss, g, s, h => by rw [PL_cons, PL_cons, ← off_put_comm g s (h x List.mem_cons_self), PL_off ss (put g x) s fun y hy => h y (List.mem_cons_of_mem _ hy)]
theorem PL_perm {a b : List Nat} (p : a.Perm b) : ∀ (g : Nat → Int), (∀ x ∈ a, 0 < x) → PL g a = PL g b := by
  induction p with
  | nil => intro g _; rfl
  | cons x _ ih => intro g h; rw [PL_cons, PL_cons]; exact ih _ fun y hy => h y (List.mem_cons_of_mem _ hy)
  | swap x y l => intro g h; rw [PL_cons, PL_cons, PL_cons, PL_cons, put_comm g (h _ List.mem_cons_self) (h _ (List.mem_cons_of_mem _ List.mem_cons_self))]
  | trans p1 _ ih1 ih2 => intro g h; rw [ih1 g h]; exact ih2 g fun x hx => h x (p1.mem_iff.mpr hx)
theorem cancel : ∀ (ss : List Nat) (g : Nat → Int), (∀ x ∈ ss, 0 < x) → OL (PL g ss) ss = g
  | [], _, _ => rfl
  | x :: ss, g, h => by
    have h' : ∀ y ∈ ss, 0 < y := fun y hy => h y (List.mem_cons_of_mem _ hy)
    rw [PL_cons, OL_cons, ← PL_off ss _ _ h', off_put g (h x List.mem_cons_self)]
    exact cancel ss g h'
noncomputable def ups (n : Nat) : List Nat := (List.range n).map (· + 1)
theorem ups_succ (n : Nat) : ups (n + 1) = ups n ++ [n + 1] := by unfold ups; rw [List.range_succ, List.map_append]; rfl
theorem ups_pos {n x : Nat} (h : x ∈ ups n) : 0 < x ∧ x ≤ n := by
  obtain ⟨i, hi, rfl⟩ := List.mem_map.mp h
  have := List.mem_range.mp hi
  omega
theorem PL_ups : ∀ n, PL dl (ups n) = R n
  | 0 => rfl
  | n + 1 => by rw [ups_succ, PL_app, PL_ups n]; rfl
noncomputable def below (m : Nat) (ss : List Nat) (g : Nat → Int) : Nat → Int := ss.foldl (fun g s => off (put g s) (m * s)) g
noncomputable def Al (N : Nat) (f g : Nat → Int) : Prop := ∀ j, j ≤ N → f j = g j
theorem Al.great {N : Nat} {f g : Nat → Int} (h : Al N f g) {s : Nat} (hs : N < s) : Al N (M80.off f s) g := fun j hj => by
  unfold M80.off
  rw [if_neg (by omega), h j hj, Int.sub_zero]
theorem OL_great {N : Nat} : ∀ (ss : List Nat) {f g : Nat → Int}, Al N f g → (∀ x ∈ ss, N < x) → Al N (OL f ss) g
  | [], _, _, h, _ => h
  | s :: ss, f, g, h, hs => OL_great ss (h.great (hs s List.mem_cons_self)) fun y hy => hs y (List.mem_cons_of_mem _ hy)
theorem Al.refl (N : Nat) (f : Nat → Int) : Al N f f := fun _ _ => rfl
end M80
set_option Elab.async false
set_option linter.all false
set_option maxRecDepth 100000
set_option maxHeartbeats 4000000
namespace K16
open PySem L2 MRow M27 M80
section
variable {P : Program} {w : World} {K : PySem.W.Frag} {mg : Str → Option Value} {base : Heap} {f : Addr} {fd : FuncData}
theorem sc_begun : FnScope ["most"] ["most"] (defScope (top 1)) := ⟨rfl, rfl, rfl, by decide +kernel, rfl, by decide +kernel, by decide +kernel⟩
noncomputable def sp_begun : Sp := fun vs H Q _ => ∃ n : Nat, vs = [.int n] ∧ n ≤ 1000 ∧ ∀ p H', H p = none → Same H H' → H' p = some (.lst ((tb dl (n + 1)).map V.int)) → Q (.ref p) H'
theorem fresh_back {H H' : Hp} {p : Addr} (y : Same H H') (h : H' p = none) : H p = none := by
  cases e : H p with
  | none => rfl
  | some o =>
    have := y _ _ e
    rw [h] at this
    cases this
theorem ok_begun (F : Fun K "begun" "begun" (top 1) f fd)  : FnOk P w K mg base CX0 1 f fd ["most"] sp_begun := by
  refine F.okz sc_begun (fun vs H Q E h => ?_) (fun cdv A outer s H vs Q E hr h => ?_)
  · obtain ⟨n, rfl, _⟩ := h; rfl
  obtain ⟨n, rfl, hn, q⟩ := h
  have nd := sc_begun.nd
  refine ⟨_, (zss_one (zs_ret (ze_op op_addP (ze_lst (za_cons ze_int za_nil)) (ze_op op_mulQ (ze_lst (za_cons ze_int za_nil)) (zn 0))))), ?_⟩
  refine ⟨by show 1 ≤ sizeLine; decide, fun d hd => ?_⟩
  have g1 := Same.new hd (.lst [.int 1])
  refine ⟨by show 1 ≤ sizeLine; decide, fun d2 hd2 => ?_⟩
  have g2 := Same.new hd2 (.lst [.int 0])
  refine ⟨⟨by omega, by omega⟩, .inl ⟨_, upd_same, le_line (by show 1 * (n : Int).toNat ≤ 1000; omega), fun d3 hd3 => ?_⟩⟩
  have g3 := Same.new hd3 (.lst (List.replicate (n : Int).toNat [V.int 0]).flatten)
  refine .inl ⟨_, _, g3 _ _ (g2 _ _ upd_same), upd_same, ?_, fun d4 hd4 => ?_⟩
  · rw [len_rep, sizeLine_eq]; show 1 + _ * 1 ≤ _; omega
  · refine q d4 _ (fresh_back ((g1.trans g2).trans g3) hd4) (((g1.trans g2).trans g3).trans (Same.new hd4 _)) ?_
    rw [upd_same, rep_flat, tb_dl]
    rfl
theorem sc_put_on : FnScope ["row", "size", "told", "n"] ["row", "size"] (defScope (top 2)) := ⟨rfl, rfl, rfl, by decide +kernel, rfl, by decide +kernel, by decide +kernel⟩
noncomputable def sp_put_on : Sp := fun vs H Q _ => ∃ (a : Addr) (s L : Nat) (g : Nat → Int), vs = [.ref a, .int s] ∧ 0 < s ∧ s ≤ 1000000 ∧ L ≤ 1000 ∧ H a = some (.lst ((tb g L).map V.int)) ∧ ∀ p H', H p = none → Same H H' → H' p = some (.lst ((tb (put g s) L).map V.int)) → Q (.ref p) H'
theorem ok_put_on (F : Fun K "put_on" "put_on" (top 2) f fd) (m_len : mg "len" = none) (m_list : mg "list" = none) (m_range : mg "range" = none) : FnOk P w K mg base CX0 1 f fd ["row", "size"] sp_put_on := by
  refine F.okz sc_put_on (fun vs H Q E h => ?_) (fun cdv A outer s H vs Q E hr h => ?_)
  · obtain ⟨a, z, L, g, rfl, _⟩ := h; rfl
  obtain ⟨a, z, L, g, rfl, hz, hz2, hL, ha, q⟩ := h
  have nd := sc_put_on.nd
  refine ⟨_, (zss_cons (zs_set (i := 2) nd rfl (Or.inl rfl) (zcb_list rfl m_list (za_cons (zn 0) za_nil) rfl rfl))
      (zss_cons (zs_for PassesOwn.never rfl (zi_range2 rfl m_range (za_cons (zn 1) (za_cons (zcb_len rfl m_len (za_cons (zn 0) za_nil) rfl rfl) za_nil))) (zg_name (i := 3) nd rfl (Or.inl rfl)) (zss_one (zs_augS (zn 2) (zn 3) get_list (ze_ix ix_P (zn 2) (ze_op op_subP (zn 3) (zn 1)) (fun _ _ => rfl)) ip_addP set_listP)))
      (zss_one (zs_ret (zn 2))))), ?_⟩
  refine ⟨_, .inl (SqL.of ha), fun p hp => ?_⟩
  have y0 := Same.new hp (.lst ((tb g L).map V.int))
  refine ⟨_, .inl (SqL.of (y0 _ _ ha)), ?_⟩
  rw [List.length_map, tb_len]
  refine ⟨(z : Int), (L : Int), rfl, ⟨by omega, by omega, by omega, by omega⟩, ?_⟩
  refine for_range (fun i σ H' => Same H H' ∧ H' p = some (.lst ((tb (up g (put g z) (z + i)) L).map V.int)) ∧ ∃ pp, σ = [some (.ref a), some (.int z), some (.ref p), pp]) ⟨y0, by rw [Nat.add_zero, up_start g hz]; exact upd_same, none, rfl⟩ ?_ ?_
  · rintro i σ H' hi ⟨y, hp', pp, rfl⟩
    have hn : z + i < L := by omega
    have hget : ∀ j, j < L → ((tb (up g (put g z) (z + i)) L).map V.int)[j]? = some (.int (up g (put g z) (z + i) j)) := fun j hj => by rw [List.getElem?_map, tb_get hj]; rfl
    have e1 : ((z : Int) + (i : Int)).toNat = z + i := by omega
    refine ⟨_, _, SqL.of hp', by omega, by rw [e1]; exact hget _ hn, ?_⟩
    refine ⟨_, .inl (SqL.of hp'), .int (up g (put g z) (z + i) i), atI_of (j := i) (by omega) (hget i (by omega)), ?_⟩
    refine ⟨_, hp', by omega, by rw [e1, List.length_map, tb_len]; exact hn, Same.updN y hp, ?_, _, rfl⟩
    rw [upd_same, e1]
    have e2 : up g (put g z) (z + i) (z + i) + up g (put g z) (z + i) i = put g z (z + i) := by
      unfold up
      rw [if_neg (Nat.lt_irrefl _), if_pos (by omega), put_eq g hz (z + i), if_pos (by omega), Nat.add_sub_cancel_left]
    dsimp only
    rw [e2, ← List.map_set, tb_set hn]
    rfl
  · rintro σ H' ⟨y, hp', pp, rfl⟩
    refine q p H' hp y ?_
    rw [hp', up_all _ _ (by omega)]
end
theorem tb_put {f : Nat → Int} {L n : Nat} (v : Int) (h : n < L) : (tb f L).set n v = tb (fun j => if j = n then v else f j) L := by
  refine List.ext_getElem (by rw [List.length_set, tb_len, tb_len]) fun j h1 h2 => ?_
  rw [List.getElem_set]
  by_cases e : n = j
  · rw [if_pos e, tb_at h2, if_pos e.symm]
  · rw [if_neg e, tb_at, tb_at, if_neg (Ne.symm e)]
section
variable {P : Program} {w : World} {K : PySem.W.Frag} {mg : Str → Option Value} {base : Heap} {f : Addr} {fd : FuncData}
theorem sc_to : FnScope ["row", "size", "told", "n"] ["row", "size"] (defScope (top 3)) := ⟨rfl, rfl, rfl, by decide +kernel, rfl, by decide +kernel, by decide +kernel⟩
noncomputable def sp_to : Sp := fun vs H Q _ => ∃ (a : Addr) (s L : Nat) (g : Nat → Int), vs = [.ref a, .int s] ∧ 0 < s ∧ s ≤ 1000000 ∧ L ≤ 1000 ∧ (H a = some (.lst ((tb g L).map V.int)) ∨ H a = some (.tup ((tb g L).map V.int))) ∧ ∀ p H', H p = none → Same H H' → H' p = some (.lst ((tb (off g s) L).map V.int)) → Q (.ref p) H'
theorem ok_to (F : Fun K "taken_off" "taken_off" (top 3) f fd) (m_len : mg "len" = none) (m_list : mg "list" = none) (m_range : mg "range" = none) : FnOk P w K mg base CX0 1 f fd ["row", "size"] sp_to := by
  refine F.okz sc_to (fun vs H Q E h => ?_) (fun cdv A outer s H vs Q E hr h => ?_)
  · obtain ⟨a, z, L, g, rfl, _⟩ := h; rfl
  obtain ⟨a, z, L, g, rfl, hz, hz2, hL, ha, q⟩ := h
  have nd := sc_to.nd
  refine ⟨_, (zss_cons (zs_set (i := 2) nd rfl (Or.inl rfl) (zcb_list rfl m_list (za_cons (zn 0) za_nil) rfl rfl))
      (zss_cons (zs_for PassesOwn.never rfl (zi_range3 rfl m_range (za_cons (ze_op op_subP (zcb_len rfl m_len (za_cons (zn 0) za_nil) rfl rfl) ze_int) (za_cons (ze_op op_subP (zn 1) ze_int) (za_cons (ze_un un_neg ze_int) za_nil)))) (zg_name (i := 3) nd rfl (Or.inl rfl)) (zss_one (zs_augS (zn 2) (zn 3) get_list (ze_ix ix_P (zn 2) (ze_op op_subP (zn 3) (zn 1)) (fun _ _ => rfl)) ip_subP set_listP)))
      (zss_one (zs_ret (zn 2))))), ?_⟩
  refine ⟨_, ha.elim (fun h => .inl (SqL.of h)) .inr, fun p hp => ?_⟩
  have y0 := Same.new hp (.lst ((tb g L).map V.int))
  refine ⟨_, ha.elim (fun h => .inl (SqL.of (y0 _ _ h))) (fun h => .inr (y0 _ _ h)), ?_⟩
  rw [List.length_map, tb_len]
  refine ⟨1, rfl, ?_⟩
  refine ⟨(L : Int) - 1, (z : Int) - 1, -1, rfl, ⟨by decide, ⟨by decide, by decide⟩, small_down (by omega) (by omega) (by omega) (by omega)⟩, ?_⟩
  rw [size_down]
  have eN : ((L : Int) - 1 - ((z : Int) - 1)).toNat = L - z := by omega
  rw [eN]
  refine for_rangeS (fun i σ H' => i ≤ L - z ∧ Same H H' ∧ H' p = some (.lst ((tb (fun n => if L ≤ n + i then off g z n else g n) L).map V.int)) ∧ ∃ pp, σ = [some (.ref a), some (.int z), some (.ref p), pp]) ⟨Nat.zero_le _, y0, ?_, none, rfl⟩ ?_ ?_
  · rw [upd_same]
    congr 3
    exact tb_ext fun j hj => by rw [if_neg (by omega)]
  · rintro i σ H' hi ⟨_, y, hp', pp, rfl⟩
    obtain ⟨n, en⟩ : ∃ n, L = n + 1 + i := ⟨L - 1 - i, by omega⟩
    have e0 : (L : Int) - 1 + (i : Int) * -1 = (n : Int) := by omega
    rw [e0]
    have hnz : z ≤ n := by omega
    have hget : ∀ j, j < L → ((tb (fun n => if L ≤ n + i then off g z n else g n) L).map V.int)[j]? = some (.int (if L ≤ j + i then off g z j else g j)) := fun j hj => by rw [List.getElem?_map, tb_get hj]; rfl
    have e1 : ((n : Int)).toNat = n := Int.toNat_natCast n
    refine ⟨_, _, SqL.of hp', by omega, by rw [e1]; exact hget n (by omega), ?_⟩
    refine ⟨_, .inl (SqL.of hp'), .int (if L ≤ (n - z) + i then off g z (n - z) else g (n - z)), atI_of (j := n - z) (by omega) (hget (n - z) (by omega)), ?_⟩
    refine ⟨_, hp', by omega, by rw [e1, List.length_map, tb_len]; omega, by omega, Same.updN y hp, ?_, _, rfl⟩
    rw [upd_same, e1]
    dsimp only
    rw [if_neg (by omega), if_neg (by omega), ← List.map_set, tb_put _ (by omega)]
    congr 3
    refine tb_ext fun j hj => ?_
    by_cases ej : j = n
    · rw [if_pos ej, if_pos (by omega), ej]
      unfold off
      rw [if_pos hnz]
    · rw [if_neg ej]
      by_cases h : L ≤ j + i
      · rw [if_pos h, if_pos (by omega)]
      · rw [if_neg h, if_neg (by omega)]
  · rintro σ H' ⟨_, y, hp', pp, rfl⟩
    refine q p H' hp y ?_
    rw [hp']
    congr 3
    refine tb_ext fun j hj => ?_
    by_cases h : L ≤ j + (L - z)
    · rw [if_pos h]
    · rw [if_neg h]
      unfold off
      rw [if_neg (by omega), Int.sub_zero]
noncomputable def nI (ss : List Nat) : List V := (ss.map fun (k : Nat) => (k : Int)).map V.int
theorem nI_len (ss : List Nat) : (nI ss).length = ss.length := by unfold nI; rw [List.length_map, List.length_map]
theorem nI_at {ss : List Nat} {i : Nat} {x : V} (h : (nI ss)[i]? = some x) : ∃ s, ss[i]? = some s ∧ x = .int (s : Int) := by
  unfold nI at h
  rw [List.getElem?_map, List.getElem?_map] at h
  cases e : ss[i]? with
  | none => rw [e] at h; cases h
  | some s => rw [e] at h; exact ⟨s, rfl, (Option.some.inj h).symm⟩
theorem sc_of_sizes : FnScope ["some", "most", "row", "size"] ["some", "most"] (defScope (top 5)) := ⟨rfl, rfl, rfl, by decide +kernel, rfl, by decide +kernel, by decide +kernel⟩
noncomputable def sp_of_sizes : Sp := fun vs H Q _ => ∃ (l : Addr) (ss : List Nat) (n : Nat), vs = [.ref l, .int n] ∧ (∀ x ∈ ss, 0 < x ∧ x ≤ 1000000) ∧ n ≤ 600 ∧ H l = some (.lst (nI ss)) ∧ ∀ p H', Same H H' → H' p = some (.lst ((tb (PL dl ss) (n + 1)).map V.int)) → Q (.ref p) H'
theorem ok_of_sizes (F : Fun K "of_sizes" "of_sizes" (top 5) f fd)  (F_begun : FnA P w K mg base "begun" 1 ["most"] sp_begun) (F_put_on : FnA P w K mg base "put_on" 1 ["row", "size"] sp_put_on) : FnOk P w K mg base CX0 2 f fd ["some", "most"] sp_of_sizes := by
  refine F.okz sc_of_sizes (fun vs H Q E h => ?_) (fun cdv A outer s H vs Q E hr h => ?_)
  · obtain ⟨l, ss, n, rfl, _⟩ := h; rfl
  obtain ⟨l, ss, n, rfl, hk, hn, hl, q⟩ := h
  have nd := sc_of_sizes.nd
  refine ⟨_, (zss_cons (zs_set (i := 2) nd rfl (Or.inl rfl) (ze_fn F_begun hr (by decide) rfl (za_cons (zn 1) za_nil)))
      (zss_cons (zs_for PassesOwn.never rfl (zi_list (zn 0)) (zg_name (i := 3) nd rfl (Or.inl rfl)) (zss_one (zs_set (i := 2) nd rfl (Or.inl rfl) (ze_fn F_put_on hr (by decide) rfl (za_cons (zn 2) (za_cons (zn 3) za_nil))))))
      (zss_one (zs_ret (zn 2))))), ?_⟩
  refine ⟨n, rfl, by omega, fun p H1 hp y1 hp1 => ?_⟩
  refine ⟨l, rfl, ⟨_, SqL.of (y1 _ _ hl)⟩, for_list (xs := nI ss) (fun i σ H' => Same H H' ∧ ∃ r p3, σ = [some (.ref l), some (.int n), some (.ref r), p3] ∧ H' r = some (.lst ((tb (PL dl (ss.take i)) (n + 1)).map V.int))) ⟨y1, p, _, rfl, hp1⟩ ?_ ?_ ?_⟩
  · rintro i σ H' _ ⟨y, _⟩
    exact SqL.of (y _ _ hl)
  · rintro i x σ H' hx ⟨y, r, p3, rfl, hr'⟩
    obtain ⟨z, hz, rfl⟩ := nI_at hx
    have hz2 := hk z (List.mem_of_getElem? hz)
    refine ⟨r, z, n + 1, PL dl (ss.take i), rfl, hz2.1, hz2.2, by omega, hr', fun p2 H2 hp2 y2 hp2' => ?_⟩
    refine ⟨y.trans y2, p2, _, rfl, ?_⟩
    rw [List.take_succ, hz, PL_app]
    exact hp2'
  · rintro σ H' ⟨y, r, p3, rfl, hr'⟩
    rw [nI_len, List.take_of_length_le (Nat.le_refl _)] at hr'
    exact q r H' y hr'
theorem sc_osb : FnScope ["some", "m", "most", "row", "size"] ["some", "m", "most"] (defScope (top 6)) := ⟨rfl, rfl, rfl, by decide +kernel, rfl, by decide +kernel, by decide +kernel⟩
noncomputable def sp_osb : Sp := fun vs H Q _ => ∃ (l : Addr) (ss : List Nat) (m n : Nat), vs = [.ref l, .int m, .int n] ∧ 0 < m ∧ m ≤ 1000 ∧ (∀ x ∈ ss, 0 < x ∧ x ≤ 1000) ∧ n ≤ 600 ∧ H l = some (.lst (nI ss)) ∧ ∀ p H', Same H H' → H' p = some (.lst ((tb (below m ss dl) (n + 1)).map V.int)) → Q (.ref p) H'
theorem below_app (m : Nat) (g : Nat → Int) (a b : List Nat) : below m (a ++ b) g = below m b (below m a g) := by unfold below; rw [List.foldl_append]
theorem ok_osb (F : Fun K "of_sizes_below" "of_sizes_below" (top 6) f fd)  (F_begun : FnA P w K mg base "begun" 1 ["most"] sp_begun) (F_put_on : FnA P w K mg base "put_on" 1 ["row", "size"] sp_put_on) (F_taken_off : FnA P w K mg base "taken_off" 1 ["row", "size"] sp_to) : FnOk P w K mg base CX0 2 f fd ["some", "m", "most"] sp_osb := by
  refine F.okz sc_osb (fun vs H Q E h => ?_) (fun cdv A outer s H vs Q E hr h => ?_)
  · obtain ⟨l, ss, m, n, rfl, _⟩ := h; rfl
  obtain ⟨l, ss, m, n, rfl, hm, hm2, hk, hn, hl, q⟩ := h
  have nd := sc_osb.nd
  refine ⟨_, (zss_cons (zs_set (i := 3) nd rfl (Or.inl rfl) (ze_fn F_begun hr (by decide) rfl (za_cons (zn 2) za_nil)))
      (zss_cons (zs_for PassesOwn.never rfl (zi_list (zn 0)) (zg_name (i := 4) nd rfl (Or.inl rfl)) (zss_one (zs_set (i := 3) nd rfl (Or.inl rfl) (ze_fn F_taken_off hr (by decide) rfl (za_cons (ze_fn F_put_on hr (by decide) rfl (za_cons (zn 3) (za_cons (zn 4) za_nil))) (za_cons (ze_op op_mulQ (zn 1) (zn 4)) za_nil))))))
      (zss_one (zs_ret (zn 3))))), ?_⟩
  refine ⟨n, rfl, by omega, fun p H1 hp y1 hp1 => ?_⟩
  refine ⟨l, rfl, ⟨_, SqL.of (y1 _ _ hl)⟩, for_list (xs := nI ss) (fun i σ H' => Same H H' ∧ ∃ r p4, σ = [some (.ref l), some (.int m), some (.int n), some (.ref r), p4] ∧ H' r = some (.lst ((tb (below m (ss.take i) dl) (n + 1)).map V.int))) ⟨y1, p, _, rfl, hp1⟩ ?_ ?_ ?_⟩
  · rintro i σ H' _ ⟨y, _⟩
    exact SqL.of (y _ _ hl)
  · rintro i x σ H' hx ⟨y, r, p4, rfl, hr'⟩
    obtain ⟨z, hz, rfl⟩ := nI_at hx
    have hz2 := hk z (List.mem_of_getElem? hz)
    refine ⟨r, z, n + 1, _, rfl, hz2.1, by omega, by omega, hr', fun p2 H2 hp2 y2 hp2' => ?_⟩
    refine ⟨mulL (by omega) (by omega), ?_⟩
    have e3 : (m : Int) * (z : Int) = ((m * z : Nat) : Int) := by rw [Int.natCast_mul]
    have h1 : m * z ≤ 1000 * 1000 := Nat.mul_le_mul hm2 hz2.2
    refine ⟨p2, m * z, n + 1, _, by rw [← e3], Nat.mul_pos hm hz2.1, by omega, by omega, .inl hp2', fun p3 H3 hp3 y3 hp3' => ?_⟩
    refine ⟨y.trans (y2.trans y3), p3, _, rfl, ?_⟩
    rw [List.take_succ, hz, below_app]
    exact hp3'
  · rintro σ H' ⟨y, r, p4, rfl, hr'⟩
    rw [nI_len, List.take_of_length_le (Nat.le_refl _)] at hr'
    exact q r H' y hr'
end
end K16
set_option Elab.async false
set_option linter.all false
set_option maxRecDepth 100000
set_option maxHeartbeats 4000000
namespace M17
open MRow M80
noncomputable def bx (l k : Nat) : Nat → Int := (ups k).foldl (fun g i => off (put g i) (l + i)) dl
theorem bx_succ (l k : Nat) : bx l (k + 1) = off (put (bx l k) (k + 1)) (l + (k + 1)) := by unfold bx; rw [ups_succ, List.foldl_append]; rfl
theorem fold_is (f : Nat → Nat) : ∀ (ss : List Nat) (g : Nat → Int), (∀ x ∈ ss, 0 < x) → ss.foldl (fun g s => off (put g s) (f s)) g = OL (PL g ss) (ss.map f)
  | [], _, _ => rfl
  | s :: ss, g, h => by
    have h1 := fun x hx => h x (List.mem_cons_of_mem s hx)
    rw [List.foldl_cons, fold_is f ss _ h1, PL_cons, List.map_cons, OL_cons, PL_off ss _ _ h1]
theorem bx_is (l k : Nat) : bx l k = OL (PL dl (ups k)) ((ups k).map (l + ·)) := fold_is (l + ·) (ups k) dl fun x hx => (ups_pos hx).1
theorem ups_add (l : Nat) : ∀ k, ups (l + k) = ups l ++ (ups k).map (l + ·)
  | 0 => by simp [ups]
  | k + 1 => by rw [← Nat.add_assoc, ups_succ, ups_add l k, ups_succ, List.map_append, List.append_assoc]; rfl
theorem bx_both (l k : Nat) : bx l k = OL (PL (PL dl (ups k)) (ups l)) (ups (l + k)) := by
  rw [ups_add, OL_app, cancel (ups l) _ fun x hx => (ups_pos hx).1, bx_is]
theorem bx_turn (l k : Nat) : bx l k = bx k l := by
  rw [bx_both, bx_both, ← PL_app, ← PL_app, PL_perm List.perm_append_comm dl fun x hx => ?_, Nat.add_comm]
  rcases List.mem_append.mp hx with h | h <;> exact (ups_pos h).1
theorem off_lo {g : Nat → Int} {s n : Nat} (h : n < s) : off g s n = g n := by unfold off; rw [if_neg (by omega)]; omega
theorem bx_low {l k j : Nat} (h : j ≤ k) : bx l (k + 1) j = bx l k j := by
  rw [bx_succ, off_lo (by omega), put_low _ (by omega) (by omega)]
theorem bx_far {l n j : Nat} (h : j ≤ n) : ∀ e, bx l (n + e) j = bx l n j
  | 0 => rfl
  | e + 1 => by rw [← Nat.add_assoc, bx_low (by omega), bx_far h e]
theorem bx_min {l k n j : Nat} (h : j ≤ n) : bx l (min k n) j = bx l k j := by
  by_cases c : k ≤ n
  · rw [Nat.min_eq_left c]
  · rw [Nat.min_eq_right (by omega), ← bx_far (l := l) h (k - n), show n + (k - n) = k by omega]
theorem bx_big {l k j : Nat} (h : j ≤ l) : bx l k j = PL dl (ups k) j := by
  rw [bx_is]
  exact OL_great _ (Al.refl l _) (fun x hx => by obtain ⟨y, hy, rfl⟩ := List.mem_map.mp hx; have := ups_pos hy; show l < l + y; omega) j h
theorem R_succ (k : Nat) : PL dl (ups (k + 1)) = put (PL dl (ups k)) (k + 1) := by rw [ups_succ, PL_app]; rfl
theorem R_low {k j : Nat} (h : j ≤ k) : PL dl (ups (k + 1)) j = PL dl (ups k) j := by rw [R_succ, put_low _ (by omega) (by omega)]
theorem R_far {n j : Nat} (h : j ≤ n) : ∀ e, PL dl (ups (n + e)) j = PL dl (ups n) j
  | 0 => rfl
  | e + 1 => by rw [← Nat.add_assoc, R_low (by omega), R_far h e]
theorem R_zero : ∀ k, PL dl (ups k) 0 = 1
  | 0 => rfl
  | k + 1 => by rw [R_low (Nat.zero_le _), R_zero k]
noncomputable def Ls (d : Nat) : Nat → Nat
  | 0 => 0
  | m + 1 => Ls d m + 1 + d * m
theorem Ls_ge (d : Nat) : ∀ m, m ≤ Ls d m
  | 0 => Nat.le_refl _
  | m + 1 => by have := Ls_ge d m; show m + 1 ≤ Ls d m + 1 + d * m; omega
theorem Ls_up (d : Nat) (m : Nat) : ∀ e, Ls d m ≤ Ls d (m + e)
  | 0 => Nat.le_refl _
  | e + 1 => Nat.le_trans (Ls_up d m e) (by show Ls d (m + e) ≤ Ls d (m + e) + 1 + d * (m + e); omega)
noncomputable def fq (d : Nat) : Nat → Nat → Int
  | 0, _ => 0
  | m + 1, j => fq d m j + if Ls d m ≤ j then PL dl (ups m) (j - Ls d m) else 0
theorem fq_far {d m n j : Nat} (hm : n < Ls d m) (h : j ≤ n) : ∀ e, fq d (m + e) j = fq d m j
  | 0 => rfl
  | e + 1 => by
    show (fq d (m + e) j + if Ls d (m + e) ≤ j then PL dl (ups (m + e)) (j - Ls d (m + e)) else 0) = _
    have := Ls_up d m e
    rw [if_neg (show ¬ Ls d (m + e) ≤ j by omega), fq_far hm h e, Int.add_zero]
noncomputable def fow (d : Nat) : Nat → Int := fq d 602
theorem fow_is {d m n j : Nat} (hm : n < Ls d m) (hm2 : m ≤ 602) (h : j ≤ n) : fq d m j = fow d j := by
  have := fq_far hm h (602 - m)
  rw [show m + (602 - m) = 602 by omega] at this
  exact this.symm
noncomputable def rsz (m : Nat) (rs : List Int) (n : Nat) : List Nat := (ups n).filter fun s => decide ((s : Int) % (m : Int) ∈ rs)
end M17
set_option Elab.async false
set_option linter.all false
set_option maxRecDepth 100000
set_option maxHeartbeats 4000000
namespace M17
open MRow M80
noncomputable def blk (s : Nat) : Nat → List Int → List Int → List Int
  | 0, _, _ => []
  | f + 1, prev, l => match l with
    | [] => []
    | _ => List.zipWith (· + ·) (l.take s) prev ++ blk s f (List.zipWith (· + ·) (l.take s) prev) (l.drop s)
noncomputable def putL (L s : Nat) (l : List Int) : List Int := blk s (L / s + 1) (List.replicate s 0) l
noncomputable def tbf (g : Nat → Int) (p L : Nat) : List Int := (List.range L).map fun j => g (p + j)
theorem tbf_len (g : Nat → Int) (p L : Nat) : (tbf g p L).length = L := by unfold tbf; simp
theorem tbf_at {g : Nat → Int} {p L i : Nat} (h : i < (tbf g p L).length) : (tbf g p L)[i] = g (p + i) := by simp [tbf]
theorem tbf_take (g : Nat → Int) (p L s : Nat) : (tbf g p L).take s = tbf g p (min s L) := by
  unfold tbf; rw [← List.map_take, List.take_range]
theorem tbf_drop (g : Nat → Int) (p L s : Nat) : (tbf g p L).drop s = tbf g (p + s) (L - s) := by
  refine List.ext_getElem (by simp [tbf]) fun i h1 h2 => ?_
  rw [List.getElem_drop, tbf_at, tbf_at, Nat.add_assoc]
theorem tbf_app (g : Nat → Int) (p a b : Nat) : tbf g p a ++ tbf g (p + a) b = tbf g p (a + b) := by
  refine List.ext_getElem (by simp [tbf]) fun i h1 h2 => ?_
  rw [List.getElem_append]
  split
  · rw [tbf_at, tbf_at]
  · rename_i c
    have c' : ¬ i < a := by rw [tbf_len] at c; exact c
    rw [tbf_at, tbf_at]
    congr 1
    rw [tbf_len]
    omega
theorem zip_is {g : Nat → Int} {s p k : Nat} {prev : List Int} (hs : 0 < s) (hk : k ≤ s) (hl : prev.length = s) (hp : ∀ j, j < k → prev.getD j 0 = if s ≤ p + j then put g s (p + j - s) else 0) :
    List.zipWith (· + ·) (tbf g p k) prev = tbf (put g s) p k := by
  refine List.ext_getElem (by rw [List.length_zipWith, tbf_len, tbf_len]; omega) fun i h1 h2 => ?_
  have hi : i < k := by rw [tbf_len] at h2; exact h2
  rw [List.getElem_zipWith]
  have e := hp i hi
  rw [List.getD_eq_getElem?_getD, List.getElem?_eq_getElem (by omega)] at e
  have e : prev[i] = if s ≤ p + i then put g s (p + i - s) else 0 := e
  rw [e, tbf_at, tbf_at, put_eq g hs (p + i)]
theorem blk_ok {g : Nat → Int} {s : Nat} (hs : 0 < s) : ∀ (f p L : Nat) (prev : List Int), L < f * s → prev.length = s → (∀ j, j < min s L → prev.getD j 0 = if s ≤ p + j then put g s (p + j - s) else 0) → blk s f prev (tbf g p L) = tbf (put g s) p L
  | 0, p, L, prev, h, _, _ => by omega
  | f + 1, p, 0, prev, _, _, _ => rfl
  | f + 1, p, L + 1, prev, h, hl, hp => by
    have e0 : ∃ x r, tbf g p (L + 1) = x :: r := by
      cases e : tbf g p (L + 1) with
      | nil => have := tbf_len g p (L + 1); rw [e] at this; cases this
      | cons x r => exact ⟨x, r, rfl⟩
    obtain ⟨x, r, e0⟩ := e0
    have e1 : blk s (f + 1) prev (tbf g p (L + 1)) = List.zipWith (· + ·) ((tbf g p (L + 1)).take s) prev ++ blk s f (List.zipWith (· + ·) ((tbf g p (L + 1)).take s) prev) ((tbf g p (L + 1)).drop s) := by rw [e0]; rfl
    rw [e1, tbf_take, tbf_drop, zip_is hs (Nat.min_le_left _ _) hl hp]
    by_cases c : L + 1 ≤ s
    · have z : L + 1 - s = 0 := by omega
      rw [z, Nat.min_eq_right c]
      have : blk s f (tbf (put g s) p (L + 1)) (tbf g (p + s) 0) = [] := by cases f <;> rfl
      rw [this, List.append_nil]
    · rw [Nat.min_eq_left (by omega), blk_ok hs f (p + s) (L + 1 - s) (tbf (put g s) p s) (by rw [Nat.succ_mul] at h; omega) (tbf_len _ _ _) fun j hj => ?_, tbf_app, show s + (L + 1 - s) = L + 1 by omega]
      have hj' : j < s := by omega
      unfold tbf
      rw [List.getD_eq_getElem?_getD, List.getElem?_map, List.getElem?_range hj', if_pos (by omega), show p + s + j - s = p + j by omega]
      rfl
theorem tb_tbf (g : Nat → Int) (L : Nat) : tb g L = tbf g 0 L := by unfold tb tbf; exact List.map_congr_left fun j _ => by rw [Nat.zero_add]
theorem putL_ok (g : Nat → Int) {s : Nat} (hs : 0 < s) (L : Nat) : putL L s (tb g L) = tb (put g s) L := by
  unfold putL
  rw [tb_tbf, tb_tbf]
  refine blk_ok hs _ 0 L _ ?_ (List.length_replicate ..) fun j hj => ?_
  · have := Nat.lt_mul_div_succ L hs
    rw [Nat.mul_comm]
    exact this
  · rw [if_neg (by omega), List.getD_eq_getElem?_getD, List.getElem?_replicate, if_pos (by omega)]
    rfl
noncomputable def shf (k : Nat) (a : List Int) : List Int → List Int := fun r => a.take k ++ List.zipWith (· + ·) (a.drop k) r
theorem shf_ok (f r : Nat → Int) {k L : Nat} (hk : k ≤ L) : shf k (tb f L) (tb r L) = tb (fun j => f j + if k ≤ j then r (j - k) else 0) L := by
  unfold shf
  refine List.ext_getElem ?_ fun i h1 h2 => ?_
  · simp [tb]; omega
  · have hi : i < L := by rw [tb_len] at h2; exact h2
    rw [List.getElem_append]
    split
    · rename_i c
      have c' : i < k := by simp [tb] at c; omega
      rw [List.getElem_take, tb_at, tb_at, if_neg (by omega), Int.add_zero]
    · rename_i c
      have c' : ¬ i < k := fun z => c (by simp [tb]; omega)
      have el : ((tb f L).take k).length = k := by simp [tb]; omega
      rw [List.getElem_zipWith, List.getElem_drop, tb_at, tb_at, tb_at, if_pos (by omega)]
      simp only [el]
      rw [show k + (i - k) = i by omega]
end M17
set_option Elab.async false
set_option linter.all false
set_option maxRecDepth 100000
set_option maxHeartbeats 4000000
namespace M17
open MRow M80
theorem tb_one {f g : Nat → Int} {L : Nat} (h : tb f L = tb g L) {j : Nat} (hj : j < L) : f j = g j := by
  have h1 := tb_get (f := f) hj
  have h2 := tb_get (f := g) hj
  rw [h, h2] at h1
  exact (Option.some.inj h1).symm
end M17
set_option Elab.async false
set_option linter.all false
set_option maxRecDepth 100000
set_option maxHeartbeats 4000000
namespace M12
open MRow M80 M17
noncomputable def sh (e : Nat) (g : Nat → Int) (i : Nat) : Int := if e ≤ i then g (i - e) else 0
theorem sh_sh (a b : Nat) (g : Nat → Int) (i : Nat) : sh a (sh b g) i = sh (a + b) g i := by
  unfold sh
  by_cases h1 : a ≤ i
  · rw [if_pos h1]
    by_cases h2 : a + b ≤ i
    · rw [if_pos (by omega), if_pos h2, Nat.sub_sub]
    · rw [if_neg (by omega), if_neg h2]
  · rw [if_neg h1, if_neg (by omega)]
end M12
set_option Elab.async false
set_option linter.all false
set_option maxRecDepth 100000
set_option maxHeartbeats 4000000
namespace M21
open MRow
end M21
set_option Elab.async false
set_option linter.all false
set_option maxRecDepth 100000
set_option maxHeartbeats 4000000
namespace M12
open MRow M80 M17
noncomputable def odds (n : Nat) : List Nat := (List.range ((n + 1) / 2)).map fun k => 2 * k + 1
theorem odds_pos {n x : Nat} (h : x ∈ odds n) : 0 < x ∧ x ≤ n := by
  unfold odds at h
  obtain ⟨k, hk, rfl⟩ := List.mem_map.mp h
  have := List.mem_range.mp hk
  omega
end M12
set_option Elab.async false
set_option linter.all false
set_option maxRecDepth 100000
set_option maxHeartbeats 4000000
namespace M12
open MRow M80 M17
end M12
set_option Elab.async false
set_option linter.all false
set_option maxRecDepth 100000
set_option maxHeartbeats 4000000
namespace K16
open PySem L2 MRow M27 M80 M17 M12
theorem zss_never {X : Cx} {sts : List Stmt} : ZSs X sts tNever := by with_unfolding_all exact pss_never
inductive Kn where
  | all
  | most (k : Nat)
  | times (m : Nat)
  | rests (m : Nat) (rs : List Int)
  | few (k : Nat)
  | box (k l : Nat)
  | off (d : Nat)
  | own
noncomputable def Kn.Ok : Kn → Prop
  | .all => True
  | .most k => k ≤ 600
  | .times m => 0 < m ∧ m ≤ 1000
  | .rests m _ => 0 < m ∧ m ≤ 1000
  | .few k => k ≤ 600
  | .box k l => k ≤ 600 ∧ l ≤ 600
  | .off d => 1 ≤ d ∧ d ≤ 600
  | .own => True
noncomputable def KnAt (H : Hp) (c : Addr) : Kn → Prop
  | .all => H c = some (.tup [.str "all"])
  | .most k => H c = some (.tup [.str "most", .int k])
  | .times m => H c = some (.tup [.str "times", .int m])
  | .few k => H c = some (.tup [.str "few", .int k])
  | .box k l => H c = some (.tup [.str "box", .int k, .int l])
  | .off d => H c = some (.tup [.str "off", .int d])
  | .own => H c = some (.tup [.str "own"])
  | .rests m rs => ∃ d, H c = some (.tup [.str "rests", .int m, .ref d]) ∧ H d = some (.tup (rs.map V.int))
noncomputable def cf : Kn → Nat → Nat → Int
  | .all, n => PL dl (ups n)
  | .most k, n => PL dl (ups (min k n))
  | .times m, n => below m (ups n) dl
  | .rests m rs, n => PL dl (rsz m rs n)
  | .few k, n => PL dl (ups (min k n))
  | .box k l, n => bx l (min k n)
  | .off d, _ => fow d
  | .own, n => below 2 (odds n) dl
theorem in_ints (p : Int) (ns : List Int) : inV (.int p) (ns.map V.int) = decide (p ∈ ns) := by
  unfold inV
  rw [List.any_map]
  induction ns with
  | nil => rfl
  | cons n r ih =>
    rw [List.any_cons, ih]
    show (n == p || decide (p ∈ r)) = _
    by_cases h : n = p
    · subst h; simp
    · have : (n == p) = false := by simpa using h
      rw [this, Bool.false_or]
      have h' : ¬ p = n := fun e => h e.symm
      simp [h']
theorem flat_ints (ns : List Int) : (ns.map V.int).all flatV = true := by
  rw [List.all_map]
  exact List.all_eq_true.mpr fun _ _ => rfl
theorem ups_nI (n : Nat) : ((List.range n).map fun (k : Nat) => (1 : Int) + (k : Int) * 1).map V.int = nI (ups n) := by
  unfold nI ups
  rw [List.map_map, List.map_map, List.map_map]
  refine List.map_congr_left fun k _ => ?_
  show V.int (1 + (k : Int) * 1) = V.int ((k + 1 : Nat) : Int)
  congr 1
  omega
theorem ups_len (n : Nat) : (ups n).length = n := by unfold ups; simp
theorem rsz_succ (m : Nat) (rs : List Int) (n : Nat) : rsz m rs (n + 1) = rsz m rs n ++ if ((n + 1 : Nat) : Int) % (m : Int) ∈ rs then [n + 1] else [] := by
  unfold rsz
  rw [ups_succ, List.filter_append]
  congr 1
  by_cases h : ((n + 1 : Nat) : Int) % (m : Int) ∈ rs
  · rw [if_pos h, List.filter_cons_of_pos (p := fun s : Nat => decide ((s : Int) % (m : Int) ∈ rs)) (decide_eq_true h)]; rfl
  · rw [if_neg h, List.filter_cons_of_neg (p := fun s : Nat => decide ((s : Int) % (m : Int) ∈ rs)) (by simpa using h)]; rfl
theorem rsz_len (m : Nat) (rs : List Int) (n : Nat) : (rsz m rs n).length ≤ n := by
  have := List.length_filter_le (fun s : Nat => decide ((s : Int) % (m : Int) ∈ rs)) (ups n)
  rw [ups_len] at this
  exact this
theorem odds_nI (n : Nat) : ((List.range ((n + 1) / 2)).map fun (k : Nat) => (1 : Int) + (k : Int) * 2).map V.int = nI (odds n) := by
  unfold nI odds
  rw [List.map_map, List.map_map, List.map_map]
  refine List.map_congr_left fun k _ => ?_
  show V.int (1 + (k : Int) * 2) = V.int ((2 * k + 1 : Nat) : Int)
  congr 1
  omega
theorem size_two (n : Nat) : (Builtin.Range.rangeSize 1 ((n : Int) + 1) 2).toNat = (n + 1) / 2 := by
  rw [size_up (by decide)]
  split <;> omega
theorem size_one (c : Nat) : (Builtin.Range.rangeSize 1 ((c : Int) + 1) 1).toNat = c := by
  rw [size_up (by decide)]
  by_cases h : (1 : Int) < (c : Int) + 1
  · rw [if_pos h, Int.ediv_one]; omega
  · rw [if_neg h]; omega
section
variable {P : Program} {w : World} {K : PySem.W.Frag} {mg : Str → Option Value} {base : Heap} {f : Addr} {fd : FuncData}
theorem sc_ib : FnScope ["k", "l", "most", "row", "i"] ["k", "l", "most"] (defScope (top 7)) := ⟨rfl, rfl, rfl, by decide +kernel, rfl, by decide +kernel, by decide +kernel⟩
noncomputable def sp_ib : Sp := fun vs H Q _ => ∃ k l n : Nat, vs = [.int k, .int l, .int n] ∧ k ≤ 600 ∧ l ≤ 600 ∧ n ≤ 600 ∧ ∀ p H', Same H H' → H' p = some (.lst ((tb (bx l (min k n)) (n + 1)).map V.int)) → Q (.ref p) H'
theorem ok_ib (F : Fun K "in_box" "in_box" (top 7) f fd) (m_min : mg "min" = none) (m_range : mg "range" = none) (F_begun : FnA P w K mg base "begun" 1 ["most"] sp_begun) (F_put_on : FnA P w K mg base "put_on" 1 ["row", "size"] sp_put_on) (F_taken_off : FnA P w K mg base "taken_off" 1 ["row", "size"] sp_to) : FnOk P w K mg base CX0 2 f fd ["k", "l", "most"] sp_ib := by
  refine F.okz sc_ib (fun vs H Q E h => ?_) (fun cdv A outer s H vs Q E hr h => ?_)
  · obtain ⟨k, l, n, rfl, _⟩ := h; rfl
  obtain ⟨k, l, n, rfl, hk, hl, hn, q⟩ := h
  have nd := sc_ib.nd
  refine ⟨_, (zss_cons (zs_set (i := 3) nd rfl (Or.inl rfl) (ze_fn F_begun hr (by decide) rfl (za_cons (zn 2) za_nil)))
      (zss_cons (zs_for PassesOwn.never rfl (zi_range2 rfl m_range (za_cons ze_int (za_cons (ze_op op_addP (zcb_min rfl rfl m_min (za_cons (zn 0) (za_cons (zn 2) za_nil)) rfl rfl) ze_int) za_nil))) (zg_name (i := 4) nd rfl (Or.inl rfl)) (zss_one (zs_set (i := 3) nd rfl (Or.inl rfl) (ze_fn F_taken_off hr (by decide) rfl (za_cons (ze_fn F_put_on hr (by decide) rfl (za_cons (zn 3) (za_cons (zn 4) za_nil))) (za_cons (ze_op op_addP (zn 1) (zn 4)) za_nil))))))
      (zss_one (zs_ret (zn 3))))), ?_⟩
  refine ⟨n, rfl, by omega, fun p0 H1 hp0 y1 hr1 => ?_⟩
  have ec : (if (n : Int) < (k : Int) then (n : Int) else (k : Int)) = ((min k n : Nat) : Int) := by split <;> omega
  refine ⟨1, (if (n : Int) < (k : Int) then (n : Int) else (k : Int)) + 1, rfl, ⟨by omega, by omega, by omega, by omega⟩, ?_⟩
  have eN : ((if (n : Int) < (k : Int) then (n : Int) else (k : Int)) + 1 - 1).toNat = min k n := by omega
  rw [eN]
  refine for_range (fun i σ H' => i ≤ min k n ∧ Same H H' ∧ ∃ (r : Addr) (x4 : Option V), σ = [some (.int k), some (.int l), some (.int n), some (.ref r), x4] ∧ H' r = some (.lst ((tb (bx l i) (n + 1)).map V.int))) ⟨Nat.zero_le _, y1, p0, _, rfl, hr1⟩ ?_ ?_
  · rintro i σ H' hi ⟨_, y, r, x4, rfl, hr'⟩
    have ek : (1 : Int) + (i : Int) = ((i + 1 : Nat) : Int) := by omega
    rw [ek]
    refine ⟨r, i + 1, n + 1, bx l i, rfl, by omega, by omega, by omega, hr', fun p2 H2 _ y2 hp2 => ?_⟩
    refine ⟨p2, l + (i + 1), n + 1, _, congrArg (fun z => [V.ref p2, V.int z]) (Int.natCast_add l (i + 1)).symm, by omega, by omega, by omega, .inl hp2, fun p3 H3 _ y3 hp3 => ?_⟩
    exact ⟨by omega, (y.trans y2).trans y3, p3, _, rfl, by rw [bx_succ]; exact hp3⟩
  · rintro σ H' ⟨_, y, r, x4, rfl, hr'⟩
    exact q r H' y hr'
theorem sc_fb : FnScope ["d", "most", "told", "row", "many", "least", "n"] ["d", "most"] (defScope (top 8)) := ⟨rfl, rfl, rfl, by decide +kernel, rfl, by decide +kernel, by decide +kernel⟩
noncomputable def sp_fb : Sp := fun vs H Q _ => ∃ d n : Nat, vs = [.int d, .int n] ∧ d ≤ 600 ∧ n ≤ 600 ∧ ∀ p H', Same H H' → H' p = some (.lst ((tb (fow d) (n + 1)).map V.int)) → Q (.ref p) H'
theorem ok_fb (F : Fun K "falling_by" "falling_by" (top 8) f fd) (m_range : mg "range" = none) (F_begun : FnA P w K mg base "begun" 1 ["most"] sp_begun) (F_put_on : FnA P w K mg base "put_on" 1 ["row", "size"] sp_put_on) : FnOk P w K mg base CX0 2 f fd ["d", "most"] sp_fb := by
  refine F.okz sc_fb (fun vs H Q E h => ?_) (fun cdv A outer s H vs Q E hr h => ?_)
  · obtain ⟨d, n, rfl, _⟩ := h; rfl
  obtain ⟨dd, n, rfl, hd6, hn, q⟩ := h
  have nd := sc_fb.nd
  refine ⟨_, (zss_cons (zs_set (i := 2) nd rfl (Or.inl rfl) (ze_op op_mulQ (ze_lst (za_cons ze_int za_nil)) (ze_op op_addP (zn 1) ze_int)))
      (zss_cons (zs_set (i := 3) nd rfl (Or.inl rfl) (ze_fn F_begun hr (by decide) rfl (za_cons (zn 1) za_nil)))
      (zss_cons (zs_set (i := 4) nd rfl (Or.inl rfl) ze_int)
      (zss_cons (zs_set (i := 5) nd rfl (Or.inl rfl) ze_int)
      (zss_cons (zs_while PassesOwn.never (zt_cmpP op_leP (zn 5) (zn 1) (nomark _)) (zss_cons (zs_for PassesOwn.never rfl (zi_range2 rfl m_range (za_cons (zn 5) (za_cons (ze_op op_addP (zn 1) ze_int) za_nil))) (zg_name (i := 6) nd rfl (Or.inl rfl)) (zss_one (zs_augS (zn 2) (zn 6) get_list (ze_ix ix_P (zn 3) (ze_op op_subP (zn 6) (zn 5)) (fun _ _ => rfl)) ip_addP set_listP)))
      (zss_cons (zs_aug (i := 5) nd rfl (Or.inl rfl) (ze_op op_addP ze_int (ze_op op_mulQ (zn 0) (zn 4))) ip_addP)
      (zss_cons (zs_aug (i := 4) nd rfl (Or.inl rfl) ze_int ip_addP)
      (zss_one (zs_set (i := 3) nd rfl (Or.inl rfl) (ze_fn F_put_on hr (by decide) rfl (za_cons (zn 3) (za_cons (zn 4) za_nil)))))))))
      (zss_one (zs_ret (zn 2)))))))), ?_⟩
  refine ⟨by show 1 ≤ sizeLine; decide, fun d hd => ?_⟩
  have yd := Same.new hd (.lst [V.int 0])
  have e1 : ((n : Int) + 1).toNat = n + 1 := by omega
  refine ⟨⟨by omega, by omega⟩, .inl ⟨_, upd_same, le_line (by show 1 * ((n : Int) + 1).toNat ≤ 1000; omega), fun T hT => ?_⟩⟩
  rw [rep_flat, e1]
  have yT := Same.new hT (.lst ((List.replicate (n + 1) (0 : Int)).map V.int))
  have hTH : H T = none := fresh_back yd hT
  have yT2 := yd.trans yT
  have gT : upd (upd H d (.lst [V.int 0])) T (.lst ((List.replicate (n + 1) (0 : Int)).map V.int)) T = some (.lst ((tb (fq dd 0) (n + 1)).map V.int)) := by
    rw [upd_same]
    congr 3
    show _ = (List.range (n + 1)).map fun _ => (0 : Int)
    rw [List.map_const', List.length_range]
  generalize upd (upd H d (.lst [V.int 0])) T (.lst ((List.replicate (n + 1) (0 : Int)).map V.int)) = H1 at yT yT2 gT
  refine ⟨n, rfl, by omega, fun R0 H2 hR0 y2 hR2 => ?_⟩
  have RT : R0 ≠ T := fun z => by rw [z, gT] at hR0; cases hR0
  refine while_by2 (fun m σ H' => ∃ (k : Nat) (R : Addr) (x6 : Option V), m = n + 1 - Ls dd k ∧ k ≤ 602 ∧ Same H H' ∧ R ≠ T ∧ H' T = some (.lst ((tb (fq dd k) (n + 1)).map V.int)) ∧ H' R = some (.lst ((tb (PL dl (ups k)) (n + 1)).map V.int)) ∧ σ = [some (.int dd), some (.int n), some (.ref T), some (.ref R), some (.int k), some (.int (Ls dd k)), x6]) (n + 1)
    ⟨0, R0, none, rfl, by decide, yT2.trans y2, RT, y2 _ _ gT, hR2, rfl⟩ ?_
  rintro m σ H' ⟨k, R, x6, rfl, hk, y, RT', hT', hR', rfl⟩
  have lk := Ls_ge dd k
  refine iteD (fun c => ?_) (fun c => ?_)
  · have hl : Ls dd k ≤ n := by have c' : (Ls dd k : Int) ≤ (n : Int) := c; omega
    refine ⟨fun σ' H' => ∃ m', m' < n + 1 - Ls dd k ∧ ∃ (k : Nat) (R : Addr) (x6 : Option V), m' = n + 1 - Ls dd k ∧ k ≤ 602 ∧ Same H H' ∧ R ≠ T ∧ H' T = some (.lst ((tb (fq dd k) (n + 1)).map V.int)) ∧ H' R = some (.lst ((tb (PL dl (ups k)) (n + 1)).map V.int)) ∧ σ' = [some (.int dd), some (.int n), some (.ref T), some (.ref R), some (.int k), some (.int (Ls dd k)), x6], fun σ' H' h => h, ?_⟩
    have eft : ∀ j, fq dd (k + 1) j = fq dd k j + if Ls dd k ≤ j then PL dl (ups k) (j - Ls dd k) else 0 := fun j => rfl
    have el1 : Ls dd (k + 1) = Ls dd k + 1 + dd * k := rfl
    generalize Ls dd k = l at hl lk eft el1
    generalize fq dd k = ft at hT' eft
    generalize eft2 : fq dd (k + 1) = ft2 at eft
    refine ⟨(l : Int), (n : Int) + 1, rfl, ⟨by omega, by omega, by omega, by omega⟩, ?_⟩
    have eN : ((n : Int) + 1 - (l : Int)).toNat = n + 1 - l := by omega
    rw [eN]
    refine for_range (fun i σ H' => i ≤ n + 1 - l ∧ Same H H' ∧ H' T = some (.lst ((tb (up ft ft2 (l + i)) (n + 1)).map V.int)) ∧ H' R = some (.lst ((tb (PL dl (ups k)) (n + 1)).map V.int)) ∧ ∃ x6, σ = [some (.int dd), some (.int n), some (.ref T), some (.ref R), some (.int k), some (.int l), x6]) ⟨Nat.zero_le _, y, ?_, hR', _, rfl⟩ ?_ ?_
    · rw [hT']
      congr 3
      refine tb_ext fun j _ => ?_
      unfold up
      rw [Nat.add_zero]
      split
      · rw [eft, if_neg (by omega), Int.add_zero]
      · rfl
    · rintro i σ H3 hi ⟨_, y3, hT3, hR3, x6, rfl⟩
      have e2 : ((l : Int) + (i : Int)).toNat = l + i := by omega
      have hli : l + i < n + 1 := by omega
      refine ⟨_, .int (up ft ft2 (l + i) (l + i)), SqL.of hT3, by omega, by rw [e2, List.getElem?_map, tb_get hli]; rfl, ?_⟩
      refine ⟨_, .inl (SqL.of hR3), .int (PL dl (ups k) i), atI_of (j := i) (by omega) (by rw [List.getElem?_map, tb_get (by omega)]; rfl), ?_⟩
      refine ⟨_, hT3, by omega, by rw [e2, List.length_map, tb_len]; exact hli, by omega, Same.updN y3 hTH, ?_, by rw [upd_ne RT']; exact hR3, _, rfl⟩
      rw [upd_same, e2]
      have e3 : up ft ft2 (l + i) (l + i) + PL dl (ups k) i = ft2 (l + i) := by
        unfold up
        rw [if_neg (Nat.lt_irrefl _), eft, if_pos (by omega), Nat.add_sub_cancel_left]
      dsimp only
      rw [e3, ← List.map_set, tb_set hli]
      rfl
    · rintro σ H3 ⟨_, y3, hT3, hR3, x6, rfl⟩
      rw [up_all _ _ (by omega)] at hT3
      refine ⟨_, rfl, mulL (by omega) (by omega), ?_⟩
      refine ⟨_, rfl, ?_⟩
      have ek : (k : Int) + 1 = ((k + 1 : Nat) : Int) := by omega
      refine ⟨R, k + 1, n + 1, PL dl (ups k), by rw [← ek], by omega, by omega, by omega, hR3, fun R2 H4 hR2' y4 hR4 => ?_⟩
      have e5 : (l : Int) + (1 + (dd : Int) * (k : Int)) = ((Ls dd (k + 1) : Nat) : Int) := by rw [el1, Int.natCast_add, Int.natCast_add, Int.natCast_mul]; omega
      refine ⟨n + 1 - Ls dd (k + 1), by rw [el1]; omega, k + 1, R2, x6, rfl, by omega, y3.trans y4, (fun z => by rw [z, hT3] at hR2'; cases hR2'), by rw [eft2]; exact y4 _ _ hT3, by rw [R_succ]; exact hR4, ?_⟩
      show [some (V.int dd), some (.int n), some (.ref T), some (.ref R2), some (.int ((k : Int) + 1)), some (.int ((l : Int) + (1 + (dd : Int) * (k : Int)))), x6] = _
      rw [e5, ek]
  · refine q T H' y ?_
    rw [hT']
    congr 3
    exact tb_ext fun j hj => fow_is (n := n) (by have c' : ¬ ((Ls dd k : Nat) : Int) ≤ (n : Int) := c; omega) hk (by omega)
theorem sc_counted : FnScope ["kind", "most", "word"] ["kind", "most"] (defScope (top 9)) := ⟨rfl, rfl, rfl, by decide +kernel, rfl, by decide +kernel, by decide +kernel⟩
noncomputable def sp_counted : Sp := fun vs H Q _ => ∃ (c : Addr) (n : Nat) (k : Kn), vs = [.ref c, .int n] ∧ n ≤ 600 ∧ KnAt H c k ∧ k.Ok ∧ ∀ p H', Same H H' → H' p = some (.lst ((tb (cf k n) (n + 1)).map V.int)) → Q (.ref p) H'
theorem ok_counted (F : Fun K "counted" "counted" (top 9) f fd) (m_list : mg "list" = none) (m_min : mg "min" = none) (m_range : mg "range" = none) (F_falling_by : FnA P w K mg base "falling_by" 2 ["d", "most"] sp_fb) (F_in_box : FnA P w K mg base "in_box" 2 ["k", "l", "most"] sp_ib) (F_of_sizes : FnA P w K mg base "of_sizes" 2 ["some", "most"] sp_of_sizes) (F_of_sizes_below : FnA P w K mg base "of_sizes_below" 2 ["some", "m", "most"] sp_osb) : FnOk P w K mg base CX0 3 f fd ["kind", "most"] sp_counted := by
  refine F.okz sc_counted (fun vs H Q E h => ?_) (fun cdv A outer s H vs Q E hr h => ?_)
  · obtain ⟨k, n, kd, rfl, _⟩ := h; rfl
  obtain ⟨c, n, k, rfl, hn, hk, hok, q⟩ := h
  have nd := sc_counted.nd
  have hu := hr.units
  cases k with
  | all =>
    refine ⟨_, (zss_cons (zs_set (i := 2) nd rfl (Or.inl rfl) (ze_ix ix_P (zn 0) ze_int (fun _ _ => rfl)))
      (zss_cons (zs_if (zt_cmpP (op_eqD hu) (zn 2) ze_str (nomark _)) zss_never zss_nil)
      (zss_cons (zs_if (zt_cmpP (op_eqD hu) (zn 2) ze_str (nomark _)) zss_never zss_nil)
      (zss_cons (zs_if (zt_cmpP (op_eqD hu) (zn 2) ze_str (nomark _)) zss_never zss_nil)
      (zss_cons (zs_if (zt_cmpP (op_eqD hu) (zn 2) ze_str (nomark _)) zss_never zss_nil)
      (zss_cons (zs_if (zt_cmpP (op_eqD hu) (zn 2) ze_str (nomark _)) zss_never zss_nil)
      (zss_cons (zs_if (zt_cmpP (op_eqD hu) (zn 2) ze_str (nomark _)) (zss_one (zs_ret (ze_fn F_of_sizes hr (by decide) rfl (za_cons (zcb_lrange rfl rfl m_list (za_cons (zcb_range rfl m_range (za_cons ze_int (za_cons (ze_op op_addP (zn 1) ze_int) za_nil)) rfl rfl) za_nil) rfl rfl) (za_cons (zn 1) za_nil))))) zss_nil)
      zss_never))))))), ?_⟩
    refine ⟨_, .inr hk, .str "all", rfl, ?_⟩
    refine fun rp hrp => ?_
    have g1 := Same.new hrp (rngO rp 1 ((n : Int) + 1) 1)
    refine ⟨1, (n : Int) + 1, 1, upd_same, small_up (by decide) (by decide) (by decide) (by decide) (by omega) (by omega), by decide, by rw [size_one]; omega, fun l hl => ?_⟩
    rw [size_one, ups_nI]
    have g2 := Same.new hl (.lst (nI (ups n)))
    exact ⟨l, ups n, n, rfl, fun x hx => by have := ups_pos hx; omega, hn, upd_same, fun p H' y hp => q p H' ((g1.trans g2).trans y) hp⟩
  | times m =>
    refine ⟨_, (zss_cons (zs_set (i := 2) nd rfl (Or.inl rfl) (ze_ix ix_P (zn 0) ze_int (fun _ _ => rfl)))
      (zss_cons (zs_if (zt_cmpP (op_eqD hu) (zn 2) ze_str (nomark _)) zss_never zss_nil)
      (zss_cons (zs_if (zt_cmpP (op_eqD hu) (zn 2) ze_str (nomark _)) zss_never zss_nil)
      (zss_cons (zs_if (zt_cmpP (op_eqD hu) (zn 2) ze_str (nomark _)) zss_never zss_nil)
      (zss_cons (zs_if (zt_cmpP (op_eqD hu) (zn 2) ze_str (nomark _)) (zss_one (zs_ret (ze_fn F_of_sizes_below hr (by decide) rfl (za_cons (zcb_lrange rfl rfl m_list (za_cons (zcb_range rfl m_range (za_cons ze_int (za_cons (ze_op op_addP (zn 1) ze_int) za_nil)) rfl rfl) za_nil) rfl rfl) (za_cons (ze_ix ix_P (zn 0) ze_int (fun _ _ => rfl)) (za_cons (zn 1) za_nil)))))) zss_nil)
      (zss_cons (zs_if (zt_cmpP (op_eqD hu) (zn 2) ze_str (nomark _)) zss_never zss_nil)
      (zss_cons (zs_if (zt_cmpP (op_eqD hu) (zn 2) ze_str (nomark _)) zss_never zss_nil)
      zss_never))))))), ?_⟩
    refine ⟨_, .inr hk, .str "times", rfl, ?_⟩
    refine fun rp hrp => ?_
    have g1 := Same.new hrp (rngO rp 1 ((n : Int) + 1) 1)
    refine ⟨1, (n : Int) + 1, 1, upd_same, small_up (by decide) (by decide) (by decide) (by decide) (by omega) (by omega), by decide, by rw [size_one]; omega, fun l hl => ?_⟩
    rw [size_one, ups_nI]
    have g2 := Same.new hl (.lst (nI (ups n)))
    refine ⟨_, .inr ((g1.trans g2) _ _ hk), .int m, rfl, ?_⟩
    exact ⟨l, ups n, m, n, rfl, hok.1, hok.2, fun x hx => by have := ups_pos hx; omega, hn, upd_same, fun p H' y hp => q p H' ((g1.trans g2).trans y) hp⟩
  | rests m rs =>
    obtain ⟨d, hk, hd⟩ := hk
    refine ⟨_, (zss_cons (zs_set (i := 2) nd rfl (Or.inl rfl) (ze_ix ix_P (zn 0) ze_int (fun _ _ => rfl)))
      (zss_cons (zs_if (zt_cmpP (op_eqD hu) (zn 2) ze_str (nomark _)) zss_never zss_nil)
      (zss_cons (zs_if (zt_cmpP (op_eqD hu) (zn 2) ze_str (nomark _)) zss_never zss_nil)
      (zss_cons (zs_if (zt_cmpP (op_eqD hu) (zn 2) ze_str (nomark _)) zss_never zss_nil)
      (zss_cons (zs_if (zt_cmpP (op_eqD hu) (zn 2) ze_str (nomark _)) zss_never zss_nil)
      (zss_cons (zs_if (zt_cmpP (op_eqD hu) (zn 2) ze_str (nomark _)) (zss_one (zs_ret (ze_fn F_of_sizes hr (by decide) rfl (za_cons (ze_comp ["size"] [("kind", 0)] rfl ⟨rfl, by decide +kernel, by decide +kernel, rfl, rfl⟩ (zi_range2 rfl m_range (za_cons ze_int (za_cons (ze_op op_addP (zn 1) ze_int) za_nil))) kpg_name (fun _ _ _ _ => zg_name (i := 0) (show List.Nodup (["size", "kind"] : List Str) by decide +kernel) rfl (Or.inl rfl)) (fun _ _ _ _ => (zif_one (zt_cmpP (op_in_seq' rfl) (ze_op op_modP (zn 0) (ze_ix (ix_P' rfl) (zn 1) ze_int (fun _ _ => rfl))) (ze_ix (ix_P' rfl) (zn 1) ze_int (fun _ _ => rfl)) (by with_unfolding_all rfl)))) (fun _ _ _ _ => (zn 0))) (za_cons (zn 1) za_nil))))) zss_nil)
      (zss_cons (zs_if (zt_cmpP (op_eqD hu) (zn 2) ze_str (nomark _)) zss_never zss_nil)
      zss_never))))))), ?_⟩
    refine ⟨_, .inr hk, .str "rests", rfl, ?_⟩
    refine ⟨1, (n : Int) + 1, rfl, ⟨by omega, by omega, by omega, by omega⟩, ?_⟩
    have eN : ((n : Int) + 1 - 1).toNat = n := by omega
    rw [eN]
    refine cmp_range (fun i zs H' => i ≤ n ∧ H' = H ∧ zs = nI (rsz m rs i)) ⟨Nat.zero_le _, rfl, rfl⟩ ?_ ?_
    · rintro i zs H' hi ⟨_, rfl, rfl⟩
      have e1 : (1 : Int) + (i : Int) = ((i + 1 : Nat) : Int) := by omega
      have := rsz_len m rs i
      refine ⟨by rw [nI_len]; exact small1000 (by omega), ?_⟩
      refine ⟨_, .inr hk, .int m, rfl, (show (0 : Int) < (m : Int) by have := hok.1; omega), ?_⟩
      refine ⟨_, .inr hk, .ref d, rfl, ?_⟩
      refine ⟨d, _, rfl, .inr (SqT.of hd), rfl, flat_ints rs, ?_⟩
      rw [in_ints, e1]
      show if (decide (((i + 1 : Nat) : Int) % (m : Int) ∈ rs)) = true then _ else _
      refine iteB (fun c => ?_) (fun c => ?_)
      · refine ⟨by omega, rfl, ?_⟩
        rw [rsz_succ, if_pos (of_decide_eq_true c)]
        unfold nI
        rw [List.map_append, List.map_append]
        rfl
      · refine ⟨by omega, rfl, ?_⟩
        rw [rsz_succ, if_neg (by simpa using c), List.append_nil]
    · rintro zs H' ⟨_, rfl, rfl⟩ D hD
      exact ⟨D, rsz m rs n, n, rfl, fun x hx => by have := ups_pos (List.mem_filter.mp hx).1; omega, hn, upd_same, fun p H2 y hp => q p H2 ((Same.new hD _).trans y) hp⟩
  | most k =>
    refine ⟨_, (zss_cons (zs_set (i := 2) nd rfl (Or.inl rfl) (ze_ix ix_P (zn 0) ze_int (fun _ _ => rfl)))
      (zss_cons (zs_if (zt_cmpP (op_eqD hu) (zn 2) ze_str (nomark _)) zss_never zss_nil)
      (zss_cons (zs_if (zt_cmpP (op_eqD hu) (zn 2) ze_str (nomark _)) zss_never zss_nil)
      (zss_cons (zs_if (zt_cmpP (op_eqD hu) (zn 2) ze_str (nomark _)) zss_never zss_nil)
      (zss_cons (zs_if (zt_cmpP (op_eqD hu) (zn 2) ze_str (nomark _)) zss_never zss_nil)
      (zss_cons (zs_if (zt_cmpP (op_eqD hu) (zn 2) ze_str (nomark _)) zss_never zss_nil)
      (zss_cons (zs_if (zt_cmpP (op_eqD hu) (zn 2) ze_str (nomark _)) zss_never zss_nil)
      (zss_one (zs_ret (ze_fn F_of_sizes hr (by decide) rfl (za_cons (zcb_lrange rfl rfl m_list (za_cons (zcb_range rfl m_range (za_cons ze_int (za_cons (ze_op op_addP (zcb_min rfl rfl m_min (za_cons (ze_ix ix_P (zn 0) ze_int (fun _ _ => rfl)) (za_cons (zn 1) za_nil)) rfl rfl) ze_int) za_nil)) rfl rfl) za_nil) rfl rfl) (za_cons (zn 1) za_nil)))))))))))), ?_⟩
    refine ⟨_, .inr hk, .str "most", rfl, ?_⟩
    refine ⟨_, .inr hk, .int k, rfl, ?_⟩
    have ec : (if (n : Int) < (k : Int) then (n : Int) else (k : Int)) = ((min k n : Nat) : Int) := by split <;> omega
    refine fun rp hrp => ?_
    have g1 := Same.new hrp (rngO rp 1 ((if (n : Int) < (k : Int) then (n : Int) else (k : Int)) + 1) 1)
    refine ⟨1, (if (n : Int) < (k : Int) then (n : Int) else (k : Int)) + 1, 1, upd_same, by rw [ec]; exact small_up (by decide) (by decide) (by decide) (by decide) (by omega) (by omega), by decide, by rw [ec, size_one]; omega, fun l hl => ?_⟩
    rw [ec] at g1 hl
    rw [ec, size_one, ups_nI]
    have g2 := Same.new hl (.lst (nI (ups (min k n))))
    exact ⟨l, ups (min k n), n, rfl, fun x hx => by have := ups_pos hx; omega, hn, upd_same, fun p H' y hp => q p H' ((g1.trans g2).trans y) hp⟩
  | few k =>
    refine ⟨_, (zss_cons (zs_set (i := 2) nd rfl (Or.inl rfl) (ze_ix ix_P (zn 0) ze_int (fun _ _ => rfl)))
      (zss_cons (zs_if (zt_cmpP (op_eqD hu) (zn 2) ze_str (nomark _)) zss_never zss_nil)
      (zss_cons (zs_if (zt_cmpP (op_eqD hu) (zn 2) ze_str (nomark _)) zss_never zss_nil)
      (zss_cons (zs_if (zt_cmpP (op_eqD hu) (zn 2) ze_str (nomark _)) zss_never zss_nil)
      (zss_cons (zs_if (zt_cmpP (op_eqD hu) (zn 2) ze_str (nomark _)) zss_never zss_nil)
      (zss_cons (zs_if (zt_cmpP (op_eqD hu) (zn 2) ze_str (nomark _)) zss_never zss_nil)
      (zss_cons (zs_if (zt_cmpP (op_eqD hu) (zn 2) ze_str (nomark _)) zss_never zss_nil)
      (zss_one (zs_ret (ze_fn F_of_sizes hr (by decide) rfl (za_cons (zcb_lrange rfl rfl m_list (za_cons (zcb_range rfl m_range (za_cons ze_int (za_cons (ze_op op_addP (zcb_min rfl rfl m_min (za_cons (ze_ix ix_P (zn 0) ze_int (fun _ _ => rfl)) (za_cons (zn 1) za_nil)) rfl rfl) ze_int) za_nil)) rfl rfl) za_nil) rfl rfl) (za_cons (zn 1) za_nil)))))))))))), ?_⟩
    refine ⟨_, .inr hk, .str "few", rfl, ?_⟩
    refine ⟨_, .inr hk, .int k, rfl, ?_⟩
    have ec : (if (n : Int) < (k : Int) then (n : Int) else (k : Int)) = ((min k n : Nat) : Int) := by split <;> omega
    refine fun rp hrp => ?_
    have g1 := Same.new hrp (rngO rp 1 ((if (n : Int) < (k : Int) then (n : Int) else (k : Int)) + 1) 1)
    refine ⟨1, (if (n : Int) < (k : Int) then (n : Int) else (k : Int)) + 1, 1, upd_same, by rw [ec]; exact small_up (by decide) (by decide) (by decide) (by decide) (by omega) (by omega), by decide, by rw [ec, size_one]; omega, fun l hl => ?_⟩
    rw [ec] at g1 hl
    rw [ec, size_one, ups_nI]
    have g2 := Same.new hl (.lst (nI (ups (min k n))))
    exact ⟨l, ups (min k n), n, rfl, fun x hx => by have := ups_pos hx; omega, hn, upd_same, fun p H' y hp => q p H' ((g1.trans g2).trans y) hp⟩
  | box k l =>
    refine ⟨_, (zss_cons (zs_set (i := 2) nd rfl (Or.inl rfl) (ze_ix ix_P (zn 0) ze_int (fun _ _ => rfl)))
      (zss_cons (zs_if (zt_cmpP (op_eqD hu) (zn 2) ze_str (nomark _)) (zss_one (zs_ret (ze_fn F_in_box hr (by decide) rfl (za_cons (ze_ix ix_P (zn 0) ze_int (fun _ _ => rfl)) (za_cons (ze_ix ix_P (zn 0) ze_int (fun _ _ => rfl)) (za_cons (zn 1) za_nil)))))) zss_nil)
      (zss_cons (zs_if (zt_cmpP (op_eqD hu) (zn 2) ze_str (nomark _)) zss_never zss_nil)
      (zss_cons (zs_if (zt_cmpP (op_eqD hu) (zn 2) ze_str (nomark _)) zss_never zss_nil)
      (zss_cons (zs_if (zt_cmpP (op_eqD hu) (zn 2) ze_str (nomark _)) zss_never zss_nil)
      (zss_cons (zs_if (zt_cmpP (op_eqD hu) (zn 2) ze_str (nomark _)) zss_never zss_nil)
      (zss_cons (zs_if (zt_cmpP (op_eqD hu) (zn 2) ze_str (nomark _)) zss_never zss_nil)
      zss_never))))))), ?_⟩
    refine ⟨_, .inr hk, .str "box", rfl, ?_⟩
    refine ⟨_, .inr hk, .int k, rfl, ?_⟩
    refine ⟨_, .inr hk, .int l, rfl, ?_⟩
    exact ⟨k, l, n, rfl, hok.1, hok.2, hn, q⟩
  | off d =>
    refine ⟨_, (zss_cons (zs_set (i := 2) nd rfl (Or.inl rfl) (ze_ix ix_P (zn 0) ze_int (fun _ _ => rfl)))
      (zss_cons (zs_if (zt_cmpP (op_eqD hu) (zn 2) ze_str (nomark _)) zss_never zss_nil)
      (zss_cons (zs_if (zt_cmpP (op_eqD hu) (zn 2) ze_str (nomark _)) (zss_one (zs_ret (ze_fn F_falling_by hr (by decide) rfl (za_cons (ze_ix ix_P (zn 0) ze_int (fun _ _ => rfl)) (za_cons (zn 1) za_nil))))) zss_nil)
      (zss_cons (zs_if (zt_cmpP (op_eqD hu) (zn 2) ze_str (nomark _)) zss_never zss_nil)
      (zss_cons (zs_if (zt_cmpP (op_eqD hu) (zn 2) ze_str (nomark _)) zss_never zss_nil)
      (zss_cons (zs_if (zt_cmpP (op_eqD hu) (zn 2) ze_str (nomark _)) zss_never zss_nil)
      (zss_cons (zs_if (zt_cmpP (op_eqD hu) (zn 2) ze_str (nomark _)) zss_never zss_nil)
      zss_never))))))), ?_⟩
    refine ⟨_, .inr hk, .str "off", rfl, ?_⟩
    refine ⟨_, .inr hk, .int d, rfl, ?_⟩
    exact ⟨d, n, rfl, hok.2, hn, q⟩
  | own =>
    refine ⟨_, (zss_cons (zs_set (i := 2) nd rfl (Or.inl rfl) (ze_ix ix_P (zn 0) ze_int (fun _ _ => rfl)))
      (zss_cons (zs_if (zt_cmpP (op_eqD hu) (zn 2) ze_str (nomark _)) zss_never zss_nil)
      (zss_cons (zs_if (zt_cmpP (op_eqD hu) (zn 2) ze_str (nomark _)) zss_never zss_nil)
      (zss_cons (zs_if (zt_cmpP (op_eqD hu) (zn 2) ze_str (nomark _)) (zss_one (zs_ret (ze_fn F_of_sizes_below hr (by decide) rfl (za_cons (zcb_lrange rfl rfl m_list (za_cons (zcb_range rfl m_range (za_cons ze_int (za_cons (ze_op op_addP (zn 1) ze_int) (za_cons ze_int za_nil))) rfl rfl) za_nil) rfl rfl) (za_cons ze_int (za_cons (zn 1) za_nil)))))) zss_nil)
      (zss_cons (zs_if (zt_cmpP (op_eqD hu) (zn 2) ze_str (nomark _)) zss_never zss_nil)
      (zss_cons (zs_if (zt_cmpP (op_eqD hu) (zn 2) ze_str (nomark _)) zss_never zss_nil)
      (zss_cons (zs_if (zt_cmpP (op_eqD hu) (zn 2) ze_str (nomark _)) zss_never zss_nil)
      zss_never))))))), ?_⟩
    refine ⟨_, .inr hk, .str "own", rfl, ?_⟩
    refine ⟨by decide, fun rp hrp => ?_⟩
    have g1 := Same.new hrp (rngO rp 1 ((n : Int) + 1) 2)
    refine ⟨1, (n : Int) + 1, 2, upd_same, small_up (by decide) (by decide) (by decide) (by decide) (by omega) (by omega), by decide, by rw [size_two]; omega, fun l hl => ?_⟩
    rw [size_two, odds_nI]
    have g2 := Same.new hl (.lst (nI (odds n)))
    exact ⟨l, odds n, 2, n, rfl, by decide, by decide, fun x hx => by have := odds_pos hx; omega, hn, upd_same, fun p H' y hp => q p H' ((g1.trans g2).trans y) hp⟩
theorem sc_counts : FnScope ["kind", "most"] ["kind", "most"] (defScope (top 10)) := ⟨rfl, rfl, rfl, by decide +kernel, rfl, by decide +kernel, by decide +kernel⟩
noncomputable def sp_counts : Sp := fun vs H Q _ => ∃ (c : Addr) (n : Nat) (k : Kn), vs = [.ref c, .int n] ∧ n ≤ 600 ∧ KnAt H c k ∧ k.Ok ∧ ∀ p H', Same H H' → H' p = some (.tup ((tb (cf k n) (n + 1)).map V.int)) → Q (.ref p) H'
theorem ok_counts (F : Fun K "counts" "counts" (top 10) f fd) (m_tuple : mg "tuple" = none) (F_counted : FnA P w K mg base "counted" 3 ["kind", "most"] sp_counted) : FnOk P w K mg base CX0 4 f fd ["kind", "most"] sp_counts := by
  refine F.okz sc_counts (fun vs H Q E h => ?_) (fun cdv A outer s H vs Q E hr h => ?_)
  · obtain ⟨k, n, kd, rfl, _⟩ := h; rfl
  obtain ⟨c, n, k, rfl, hn, hk, hok, q⟩ := h
  have nd := sc_counts.nd
  refine ⟨_, (zss_one (zs_ret (zcb_tuple rfl m_tuple (za_cons (ze_fn F_counted hr (by decide) rfl (za_cons (zn 0) (za_cons (zn 1) za_nil))) za_nil) rfl rfl))), ?_⟩
  refine ⟨c, n, k, rfl, hn, hk, hok, fun p H1 y1 hp1 => ?_⟩
  exact ⟨_, .inl (SqL.of hp1), fun r2 H2 y2 hr2 => q r2 H2 (y1.trans y2) hr2⟩
end
end K16
set_option Elab.async false
set_option linter.all false
set_option maxRecDepth 100000
set_option maxHeartbeats 4000000
namespace M24
open MRow M80 M17 M12
theorem off_sh (g : Nat → Int) (s n : Nat) : off g s n = g n - sh s g n := rfl
theorem sh_sub (e : Nat) (f g : Nat → Int) (n : Nat) : sh e (fun i => f i - g i) n = sh e f n - sh e g n := by
  unfold sh
  by_cases h : e ≤ n
  · rw [if_pos h, if_pos h, if_pos h]
  · rw [if_neg h, if_neg h, if_neg h]; omega
theorem off_of_sh (e m : Nat) (g : Nat → Int) : off (sh e g) m = sh e (off g m) := by
  funext n
  rw [off_sh, sh_sh]
  show _ = sh e (fun i => g i - sh m g i) n
  rw [sh_sub, sh_sh, Nat.add_comm]
theorem off_add (f g : Nat → Int) (m : Nat) : off (fun n => f n + g n) m = fun n => off f m n + off g m n := by
  funext n
  unfold off
  split <;> dsimp only <;> omega
theorem bx_a (l k : Nat) : off (bx l (k + 1)) (k + 1) = off (bx l k) (l + (k + 1)) := by rw [bx_succ, off_comm, off_put _ (by omega)]
theorem bx_b (l k : Nat) : off (bx (l + 1) k) (l + 1) = off (bx l k) (l + (k + 1)) := by
  rw [bx_turn (l + 1) k, bx_a k l, bx_turn k l, show k + (l + 1) = l + (k + 1) by omega]
theorem off_inj {f g : Nat → Int} {s : Nat} (hs : 0 < s) (h : off f s = off g s) : f = g := by rw [← put_off f hs, h, put_off g hs]
theorem pascal (k l : Nat) : bx (l + 1) (k + 1) = fun n => bx (l + 1) k n + sh (k + 1) (bx l (k + 1)) n := by
  refine off_inj (s := k + 1) (by omega) (off_inj (s := l + 1) (by omega) ?_)
  rw [bx_a, off_comm, bx_b, off_add, off_add, off_comm (bx (l + 1) k), bx_b, off_of_sh, bx_a, off_of_sh]
  generalize off (bx l k) (l + (k + 1)) = Y
  funext n
  rw [off_sh, off_sh]
  show _ = Y n - sh (k + 1) Y n + sh (k + 1) (fun i => Y i - sh (l + 1) Y i) n
  rw [sh_sub, sh_sh, show k + 1 + (l + 1) = l + 1 + (k + 1) by omega]
  omega
theorem bx_none (l : Nat) : bx l 0 = dl := rfl
theorem bx_none' (k : Nat) : bx 0 k = dl := by rw [bx_turn]; rfl
noncomputable def em (m : Nat) : Nat → Int := sh m (PL dl (ups m))
theorem em_zero (n : Nat) : em 0 n = dl n := by unfold em sh; rw [if_pos (Nat.zero_le _)]; rfl
theorem em_sum (n : Nat) : ∀ k, ((List.range (k + 1)).map fun m => em m n).sum = PL dl (ups k) n
  | 0 => by show em 0 n + 0 = _; rw [em_zero]; show dl n + 0 = dl n; omega
  | k + 1 => by
    rw [List.range_succ, List.map_append, List.sum_append_int, em_sum n k]
    show PL dl (ups k) n + (em (k + 1) n + 0) = _
    rw [R_succ, put_eq _ (by omega) n]
    unfold em sh
    rw [R_succ]
    omega
end M24
namespace M13
open MRow
noncomputable def byN (n : Nat) : List Int := tb (fun m => R m (n - m)) (n + 1)
end M13
set_option exponentiation.threshold 1000
namespace M14
open MRow M13
noncomputable def sumTo : Nat → (Nat → Int) → Int
  | 0, _ => 0
  | m + 1, h => sumTo m h + h m
theorem sumTo_ext {f g : Nat → Int} : ∀ {m : Nat}, (∀ i, i < m → f i = g i) → sumTo m f = sumTo m g
  | 0, _ => rfl
  | m + 1, h => by
    show sumTo m f + f m = sumTo m g + g m
    rw [sumTo_ext fun i hi => h i (by omega), h m (by omega)]
theorem sumTo_add (f g : Nat → Int) : ∀ m, sumTo m (fun i => f i + g i) = sumTo m f + sumTo m g
  | 0 => rfl
  | m + 1 => by
    show sumTo m (fun i => f i + g i) + (f m + g m) = (sumTo m f + f m) + (sumTo m g + g m)
    rw [sumTo_add f g m]; omega
theorem sumTo_zero : ∀ {m : Nat} {f : Nat → Int}, (∀ i, i < m → f i = 0) → sumTo m f = 0
  | 0, _, _ => rfl
  | m + 1, f, h => by
    show sumTo m f + f m = 0
    rw [sumTo_zero fun i hi => h i (by omega), h m (by omega)]; rfl
theorem sumTo_shift (f : Nat → Int) (s : Nat) : ∀ m, sumTo (s + m) f = sumTo s f + sumTo m (fun i => f (s + i))
  | 0 => by show sumTo s f = sumTo s f + 0; omega
  | m + 1 => by
    show sumTo (s + m) f + f (s + m) = sumTo s f + (sumTo m (fun i => f (s + i)) + f (s + m))
    rw [sumTo_shift f s m]; omega
theorem sumTo_head (f : Nat → Int) (m : Nat) : sumTo (m + 1) f = f 0 + sumTo m (fun i => f (i + 1)) := by
  have h := sumTo_shift f 1 m
  have e1 : sumTo 1 f = f 0 := by show (0 : Int) + f 0 = f 0; omega
  have e2 : sumTo m (fun i => f (1 + i)) = sumTo m (fun i => f (i + 1)) := sumTo_ext fun i _ => by rw [Nat.add_comm]
  rw [e1, e2] at h
  rw [← h, Nat.add_comm]
theorem sumTo_rev (f : Nat → Int) : ∀ m, sumTo m f = sumTo m (fun i => f (m - 1 - i))
  | 0 => rfl
  | m + 1 => by
    rw [sumTo_head (fun i => f (m + 1 - 1 - i)) m]
    show sumTo m f + f m = f (m + 1 - 1 - 0) + sumTo m (fun i => f (m + 1 - 1 - (i + 1)))
    have e : sumTo m (fun i => f (m + 1 - 1 - (i + 1))) = sumTo m (fun i => f (m - 1 - i)) := sumTo_ext fun i hi => by congr 1; omega
    have e0 : m + 1 - 1 - 0 = m := by omega
    rw [e, ← sumTo_rev f m, e0]; omega
noncomputable def conv (f g : Nat → Int) (n : Nat) : Int := sumTo (n + 1) fun i => f i * g (n - i)
theorem conv_comm (f g : Nat → Int) : conv f g = conv g f := by
  funext n
  unfold conv
  rw [sumTo_rev]
  refine sumTo_ext fun i hi => ?_
  have e1 : n + 1 - 1 - i = n - i := by omega
  have e2 : n - (n - i) = i := by omega
  rw [e1, e2, Int.mul_comm]
theorem conv_put_step (f g : Nat → Int) {s : Nat} (hs : 0 < s) (n : Nat) : conv (put f s) g n = conv f g n + (if s ≤ n then conv (put f s) g (n - s) else 0) := by
  unfold conv
  have e : sumTo (n + 1) (fun i => put f s i * g (n - i)) = sumTo (n + 1) (fun i => f i * g (n - i)) + sumTo (n + 1) (fun i => (if s ≤ i then put f s (i - s) else 0) * g (n - i)) := by
    rw [← sumTo_add]
    refine sumTo_ext fun i _ => ?_
    rw [← Int.add_mul, ← put_eq f hs i]
  rw [e]
  congr 1
  by_cases h : s ≤ n
  · rw [if_pos h]
    have en : n + 1 = s + (n - s + 1) := by omega
    rw [en, sumTo_shift, sumTo_zero (m := s) fun i hi => by rw [if_neg (by omega), Int.zero_mul], Int.zero_add]
    refine sumTo_ext fun i hi => ?_
    have e1 : s + i - s = i := by omega
    have e2 : n - (s + i) = n - s - i := by omega
    rw [if_pos (by omega), e1, e2]
  · rw [if_neg h]
    exact sumTo_zero fun i hi => by rw [if_neg (by omega), Int.zero_mul]
theorem put_uniq {F c : Nat → Int} {s : Nat} (hs : 0 < s) (h : ∀ n, F n = c n + (if s ≤ n then F (n - s) else 0)) : F = put c s := by
  have : ∀ N n, n ≤ N → F n = put c s n := by
    intro N
    induction N with
    | zero => intro n hn; rw [h n, put_eq c hs n, if_neg (by omega), if_neg (by omega)]
    | succ N ih =>
      intro n hn
      rw [h n, put_eq c hs n]
      by_cases hsn : s ≤ n
      · rw [if_pos hsn, if_pos hsn, ih _ (by omega)]
      · rw [if_neg hsn, if_neg hsn]
  funext n
  exact this n n (Nat.le_refl _)
theorem conv_put (f g : Nat → Int) {s : Nat} (hs : 0 < s) : conv (put f s) g = put (conv f g) s := put_uniq hs (conv_put_step f g hs)
theorem conv_put2 (f g : Nat → Int) {s : Nat} (hs : 0 < s) : conv f (put g s) = put (conv f g) s := by rw [conv_comm, conv_put g f hs, conv_comm g f]
theorem conv_dl (g : Nat → Int) : conv dl g = g := by
  funext n
  unfold conv
  rw [sumTo_head, sumTo_zero fun i _ => by show dl (i + 1) * _ = 0; unfold dl; rw [if_neg (Nat.succ_ne_zero i), Int.zero_mul]]
  show dl 0 * g (n - 0) + 0 = g n
  unfold dl
  rw [if_pos rfl, Int.one_mul, Int.add_zero, Nat.sub_zero]
noncomputable def S : Nat → Nat → Int
  | 0 => dl
  | s + 1 => put (put (S s) (s + 1)) (s + 1)
noncomputable def sq (n : Nat) : Nat := ((List.range 40).filter fun s => decide ((s + 1) * (s + 1) ≤ n)).length
noncomputable def bySq (n : Nat) : List Int := tb (fun s => S s (n - s * s)) (sq n + 1)
theorem sq_is {n k : Nat} (hn : n ≤ 600) (h1 : ∀ s, s < k → (s + 1) * (s + 1) ≤ n) (h2 : ¬ (k + 1) * (k + 1) ≤ n) (hk : k ≤ 39) : sq n = k := by
  unfold sq
  have : (List.range 40).filter (fun s => decide ((s + 1) * (s + 1) ≤ n)) = (List.range 40).filter (fun s => decide (s < k)) := by
    refine List.filter_congr fun s hs => ?_
    by_cases h : s < k
    · rw [decide_eq_true (h1 s h), decide_eq_true h]
    · rw [decide_eq_false h, decide_eq_false]
      have : (k + 1) * (k + 1) ≤ (s + 1) * (s + 1) := Nat.mul_le_mul (by omega) (by omega)
      omega
  rw [this]
  have e : ∀ N k, k ≤ N → ((List.range N).filter fun s => decide (s < k)).length = k := by
    intro N
    induction N with
    | zero => intro k hk; have : k = 0 := by omega
              subst this; rfl
    | succ N ih =>
      intro k hk
      rw [List.range_succ, List.filter_append, List.length_append]
      by_cases hkN : k ≤ N
      · rw [ih k hkN, List.filter_cons, if_neg (by simp; omega)]; simp
      · have : k = N + 1 := by omega
        subst this
        have e2 : (List.range N).filter (fun s => decide (s < N + 1)) = List.range N := List.filter_eq_self.mpr fun s hs => decide_eq_true (by have := List.mem_range.mp hs; omega)
        rw [e2, List.length_range, List.filter_cons, if_pos (by simp)]; simp
  exact e 40 k (by omega)
end M14
namespace M15
open MRow
noncomputable def near (k : Nat) : Int := (k : Int) * (3 * (k : Int) - 1) / 2
noncomputable def sgn (k : Nat) : Int := if (k : Int) % 2 = 0 then 1 else -1
noncomputable def cpart (most : Int) (k : Nat) : List (Int × Int) := (near k, sgn k) :: (if (0 : Int) < k ∧ near k + k ≤ most then [(near k + k, sgn k)] else [])
noncomputable def cl : Nat → Int → Nat → List (Int × Int) → List (Int × Int)
  | 0, _, _, acc => acc
  | f + 1, most, k, acc => if near k ≤ most then cl f most (k + 1) (acc ++ cpart most k) else acc
noncomputable def cor (most : Int) : List (Int × Int) := cl 25 most 0 []
theorem near_big {k : Nat} (h : 25 ≤ k) : 600 < near k := by
  unfold near
  have h1 : (25 : Int) ≤ k := by omega
  have h2 : (25 : Int) * (3 * 25 - 1) ≤ (k : Int) * (3 * (k : Int) - 1) := Int.mul_le_mul h1 (by omega) (by omega) (by omega)
  omega
noncomputable def sqf : Nat → Int → Int → Int
  | 0, s, _ => s
  | f + 1, s, t => if s * s < t then sqf f (s + 1) t else s
noncomputable def sgv (side : Int) (p : Nat) : Int := if sqf 130 side (24 * (p : Int) + 1) * sqf 130 side (24 * (p : Int) + 1) = 24 * (p : Int) + 1 then 1 - 2 * ((sqf 130 side (24 * (p : Int) + 1) + 1) / 6 % 2) else 0
noncomputable def dst (st : List (Int × Int) × Int) (p : Nat) : List (Int × Int) × Int :=
  (if sqf 130 st.2 (24 * (p : Int) + 1) * sqf 130 st.2 (24 * (p : Int) + 1) = 24 * (p : Int) + 1 then st.1 ++ [((p : Int), 1 - 2 * ((sqf 130 st.2 (24 * (p : Int) + 1) + 1) / 6 % 2))] else st.1, sqf 130 st.2 (24 * (p : Int) + 1))
noncomputable def stp : Nat → List (Int × Int) × Int
  | 0 => ([], 1)
  | p + 1 => dst (stp p) p
noncomputable def chk : Nat → List (Int × Int) × Int → Nat → Bool
  | 0, _, _ => true
  | f + 1, st, p => decide (cor (p : Int) = (dst st p).1) && chk f (dst st p) (p + 1)
theorem chk_all : ∀ {f p : Nat}, chk f (stp p) p = true → ∀ i, i < f → cor ((p + i : Nat) : Int) = (stp (p + i + 1)).1
  | 0, _, _, i, hi => absurd hi (Nat.not_lt_zero _)
  | f + 1, p, h, i, hi => by
    have h' : (decide (cor (p : Int) = (dst (stp p) p).1) && chk f (dst (stp p) p) (p + 1)) = true := h
    rw [Bool.and_eq_true] at h'
    cases i with
    | zero => exact of_decide_eq_true h'.1
    | succ i =>
      have := chk_all (f := f) (p := p + 1) h'.2 i (by omega)
      have e : p + 1 + i = p + (i + 1) := by omega
      rw [e] at this
      exact this
theorem chk_ok : chk 601 ([], 1) 0 = true := by decide +kernel
theorem cor_due {m : Nat} (h : m ≤ 600) : cor (m : Int) = (stp (m + 1)).1 := by
  have := chk_all (f := 601) (p := 0) chk_ok m (by omega)
  rw [Nat.zero_add] at this
  exact this
noncomputable def L : Nat → Nat → Int
  | 0 => dl
  | s + 1 => fun j => L s j - (if s + 1 ≤ j then L s (j - (s + 1)) else 0)
theorem L_low {s j : Nat} (h : j ≤ s) : ∀ d, L (s + d) j = L s j
  | 0 => rfl
  | d + 1 => by
    show L (s + d) j - (if s + d + 1 ≤ j then _ else 0) = _
    rw [if_neg (by omega), L_low h d]; omega
noncomputable def lstep (s : Nat) (row : List Int) : List Int := List.zipWith (fun a b => a - b) row (List.replicate s 0 ++ row)
noncomputable def lls (N : Nat) : Nat → List Int
  | 0 => 1 :: List.replicate N 0
  | s + 1 => lstep (s + 1) (lls N s)
theorem lls_is (N : Nat) : ∀ s, lls N s = tb (L s) (N + 1)
  | 0 => (tb_dl N).symm
  | s + 1 => by
    show lstep (s + 1) (lls N s) = _
    rw [lls_is N s]
    unfold lstep
    refine List.ext_getElem (by simp [tb_len]) fun j h1 h2 => ?_
    have hj : j < N + 1 := by rw [tb_len] at h2; exact h2
    rw [List.getElem_zipWith, tb_at, tb_at h2]
    show L s j - _ = L s j - _
    congr 1
    by_cases h : s + 1 ≤ j
    · rw [if_pos h, List.getElem_append_right (by simpa using h), tb_at]
      simp
    · rw [if_neg h, List.getElem_append_left (by simpa using h)]
      simp
noncomputable def chk2 : List Int → List (Int × Int) × Int → Nat → Bool
  | [], _, _ => true
  | x :: r, st, p => decide (x = sgv st.2 p) && chk2 r (dst st p) (p + 1)
theorem chk2_all : ∀ {l : List Int} {p : Nat}, chk2 l (stp p) p = true → ∀ (i : Nat) (h : i < l.length), l[i] = sgv (stp (p + i)).2 (p + i)
  | [], _, _, i, hi => absurd hi (Nat.not_lt_zero _)
  | x :: r, p, h, i, hi => by
    have h' : (decide (x = sgv (stp p).2 p) && chk2 r (dst (stp p) p) (p + 1)) = true := h
    rw [Bool.and_eq_true] at h'
    cases i with
    | zero => exact of_decide_eq_true h'.1
    | succ i =>
      have := chk2_all (l := r) (p := p + 1) h'.2 i (by simpa using hi)
      have e : p + 1 + i = p + (i + 1) := by omega
      rw [e] at this
      simpa using this
end M15
namespace M15
open MRow
theorem cor_bnd : ((List.range 601).all fun (m : Nat) => ((cor (m : Int)).all fun p => decide (0 ≤ p.1 ∧ p.1 ≤ (m : Int) ∧ -1 ≤ p.2 ∧ p.2 ≤ 1)) && decide ((cor (m : Int)).length ≤ 100)) = true := by decide +kernel
theorem cor_in {m : Nat} (h : m ≤ 600) : (∀ p ∈ cor (m : Int), 0 ≤ p.1 ∧ p.1 ≤ (m : Int) ∧ -1 ≤ p.2 ∧ p.2 ≤ 1) ∧ (cor (m : Int)).length ≤ 100 := by
  have := List.all_eq_true.mp cor_bnd m (List.mem_range.mpr (by omega))
  rw [Bool.and_eq_true] at this
  exact ⟨fun p hp => of_decide_eq_true (List.all_eq_true.mp this.1 p hp), of_decide_eq_true this.2⟩
theorem cl_len : ∀ (f : Nat) (most : Int) (k : Nat) (acc : List (Int × Int)), acc.length ≤ (cl f most k acc).length
  | 0, _, _, _ => Nat.le_refl _
  | f + 1, most, k, acc => by
    unfold cl
    split
    · have := cl_len f most (k + 1) (acc ++ cpart most k)
      rw [List.length_append] at this
      omega
    · exact Nat.le_refl _
end M15
set_option maxRecDepth 100000
namespace M15
open MRow
noncomputable def run : Nat → Nat → List Int → List Int
  | 0, _, row => row
  | k + 1, s, row => run k (s + 1) (lstep (s + 1) row)
theorem run_lls (N : Nat) : ∀ k s, run k s (lls N s) = lls N (s + k)
  | 0, _ => rfl
  | k + 1, s => by
    show run k (s + 1) (lls N (s + 1)) = _
    rw [run_lls N k (s + 1)]
    congr 1
    omega
noncomputable def row100 : List Int := [1, -1, -1, 0, 0, 1, 0, 1, 0, 0, 0, 0, -1, 0, 0, -1, 0, 0, 0, 0, 0, 0, 1, 0, 0, 0, 1, 0, 0, 0, 0, 0, 0, 0, 0, -1, 0, 0, 0, 0, -1, 0, 0, 0, 0, 0, 0, 0, 0, 0, 0, 1, 0, 0, 0, 0, 0, 1, 0, 0, 0, 0, 0, 0, 0, 0, 0, 0, 0, 0, -1, 0, 0, 0, 0, 0, 0, -1, 0, 0, 0, 0, 0, 0, 0, 0, 0, 0, 0, 0, 0, 0, 1, 0, 0, 0, 0, 0, 0, 0, 1, 1, 0, -1, -1, -1, 0, 0, 1, 1, 1, 1, 1, 0, 0, 0, -1, -2, -1, -1, -1, -1, -1, 0, 0, 0, -1, 1, 1, 1, 1, 1, 1, 1, 1, 1, 0, 0, 0, 0, 0, -1, -1, -1, -1, 0, -1, -1, -1, -1, -1, -1, 0, 0, 0, 1, 0, 0, 1, 1, 1, 1, 1, 1, 1, 1, 1, 1, 1, 1, 1, 0, 0, 0, 0, 0, -1, 0, -1, -1, -1, -1, -1, -1, -1, -1, -1, -2, -1, -1, -1, -1, -1, 0, 0, 0, 0, 0, 0, 0, 0, 1, 2, 1, 1, 0, 0, 0, 0, 1, 2, 2, 2, 3, 2, 3, 2, 2, 0, 0, -1, -1, -1, -2, -2, -2, -2, -3, -2, -2, -1, -1, 0, 0, 1, 1, 2, 1, 2, 1, 2, 1, 1, 0, 0, -1, 0, -2, -1, -2, -2, -3, -3, -3, -3, -3, -2, -2, -2, -1, -2, 0, 0, 1, 1, 2, 2, 3, 3, 4, 4, 5, 4, 5, 4, 5, 4, 4, 3, 3, 2, 2, 1, 1, 0, 0, -1, 0, -3, -3, -4, -4, -5, -5, -5, -5, -5, -5, -5, -5, -5, -4, -4, -3, -3, -3, -2, -3, -2, -2, -1, 0, 2, 2, 4, 4, 6, 6, 7, 6, 7, 5, 6, 5, 5, 4, 4, 2, 2, 1, -1, 0, 0, -1, 0, 0, 0, 1, 1, 1, 2, 2, 2, 2, 2, 0, 1, 1, -1, -1, -2, -3, -4, -5, -6, -7, -8, -8, -9, -9, -9, -10, -10, -9, -9, -8, -7, -6, -5, -3, -2, 0, 2, 3, 5, 7, 9, 10, 11, 12, 12, 14, 13, 14, 14, 14, 13, 14, 13, 12, 11, 9, 8, 6, 3, 2, 0, -2, -4, -5, -8, -9, -10, -11, -12, -13, -15, -15, -16, -17, -18, -17, -17, -16, -15, -13, -12, -9, -8, -5, -4, -1, -1, 2, 3, 4, 6, 8, 8, 9, 10, 9, 9, 10, 10, 10, 11, 11, 12, 12, 13, 13, 14, 14, 15, 15, 15, 13, 15, 12, 13, 10, 10, 6, 7, 2, 1, -3, -3, -9, -9, -13, -15, -19, -20, -24, -24, -27, -28, -29, -28, -30, -28, -27, -26, -24, -21, -17, -14, -11, -8, -4, 0, 3, 7, 11, 14, 18, 21, 25, 27, 31, 31, 35, 35, 37, 35, 36, 33, 33, 30, 28, 24, 23, 18, 17, 11, 8, 3, 0, -6, -10, -15, -18, -23, -25, -29, -31, -33, -34, -35, -36, -36, -36, -35, -34, -34, -32, -29, -28, -25, -22, -21, -18, -15, -12, -9, -6, -3, 1, 5, 8, 12, 16, 20, 23, 28, 31, 35, 38, 40, 42, 46, 46, 47, 48, 48, 46, 45, 43, 40, 37, 33, 28, 24, 17, 11, 6, -1, -9, -15, -21, -28, -34, -40, -46, -49, -54, -56, -57, -59, -60, -59, -58, -57, -54, -51, -47, -42, -37, -31, -24, -18, -11, -3, 4, 13, 21, 27, 34, 40]
theorem run100 : run 100 0 (1 :: List.replicate 600 0) = row100 := by decide +kernel
noncomputable def row200 : List Int := [1, -1, -1, 0, 0, 1, 0, 1, 0, 0, 0, 0, -1, 0, 0, -1, 0, 0, 0, 0, 0, 0, 1, 0, 0, 0, 1, 0, 0, 0, 0, 0, 0, 0, 0, -1, 0, 0, 0, 0, -1, 0, 0, 0, 0, 0, 0, 0, 0, 0, 0, 1, 0, 0, 0, 0, 0, 1, 0, 0, 0, 0, 0, 0, 0, 0, 0, 0, 0, 0, -1, 0, 0, 0, 0, 0, 0, -1, 0, 0, 0, 0, 0, 0, 0, 0, 0, 0, 0, 0, 0, 0, 1, 0, 0, 0, 0, 0, 0, 0, 1, 0, 0, 0, 0, 0, 0, 0, 0, 0, 0, 0, 0, 0, 0, 0, 0, -1, 0, 0, 0, 0, 0, 0, 0, 0, -1, 0, 0, 0, 0, 0, 0, 0, 0, 0, 0, 0, 0, 0, 0, 0, 0, 0, 0, 1, 0, 0, 0, 0, 0, 0, 0, 0, 0, 1, 0, 0, 0, 0, 0, 0, 0, 0, 0, 0, 0, 0, 0, 0, 0, 0, 0, 0, 0, 0, -1, 0, 0, 0, 0, 0, 0, 0, 0, 0, 0, -1, 0, 0, 0, 0, 0, 0, 0, 0, 0, 0, 0, 0, 0, 1, 0, -1, -1, -1, 0, 0, 1, 1, 2, 1, 1, 0, 0, 0, -1, -1, -1, -1, -1, -1, 0, 0, 0, 0, 0, 1, 1, 1, 1, 1, 1, 1, 1, 1, 0, 0, 0, 0, 0, -1, -1, -1, -1, -1, -1, -2, -1, -1, -1, -1, 0, 0, 0, 0, 0, 0, 1, 1, 0, 1, 1, 1, 1, 1, 1, 1, 1, 1, 1, 0, 0, 0, 0, 0, 0, 0, -1, -1, -1, -1, -1, -1, -1, -1, -1, 0, -1, -1, -1, -1, -1, 0, 0, 0, 0, 0, 0, 0, 0, 2, 1, 1, 1, 1, 1, 1, 1, 1, 1, 1, 1, 1, 1, 1, 1, 1, 0, 0, 0, 0, 0, 0, 0, 0, 0, -1, -1, -1, -2, -1, -1, -1, -1, -1, -1, -1, -1, -1, -1, -1, -1, -1, -1, -2, 0, 0, 0, 0, 0, 0, 0, 0, 0, 0, 1, 1, 1, 1, 1, 1, 1, 1, 1, 1, 1, 1, 1, 1, 1, 1, 1, 1, 1, 1, 2, 0, 0, 0, 0, 0, 0, 0, 0, 0, 0, 0, -1, -1, -1, -1, 0, -1, -1, -1, -1, -1, -1, -1, -1, -1, 0, -1, -1, -2, -2, -2, -2, -1, -1, 1, 1, 2, 1, 2, 1, 1, 0, 0, -1, -1, -2, -1, -1, -2, -1, -1, 0, 0, 1, 1, 2, 2, 3, 3, 4, 3, 4, 3, 4, 3, 2, 2, 2, 1, 1, 0, -1, -2, -2, -3, -3, -3, -3, -3, -3, -3, -3, -2, -2, -2, -2, -1, -1, 0, 0, 1, 1, 2, 2, 3, 2, 3, 2, 3, 2, 4, 2, 2, 1, 1, 0, 0, -1, -1, -2, -2, -2, -2, -3, -3, -4, -4, -4, -3, -4, -4, -4, -4, -4, -4, -2, -2, -1, -1, 0, 0, 1, 1, 2, 2, 3, 3, 4, 4, 5, 5, 6, 5, 6, 5, 6, 5, 6, 5, 6, 5, 5, 4, 4, 2, 1, 1, 1, 0, 0, -1, -1, -2, -2, -3, -3, -4, -4, -5, -6, -6, -6, -6, -6, -7, -6, -6, -6, -6, -6, -5, -5, -4, -4, -3, -3, -2, -2, -1, -1, 0, 0, 1, 1, 2, 2, 3, 3, 4, 4, 6, 5, 6, 5, 6, 5, 6, 5, 6, 5, 6, 5, 5, 5, 4, 3, 4, 3, 3, 2, 2, 1, 1, 0]
theorem run200 : run 100 100 row100 = row200 := by decide +kernel
noncomputable def row300 : List Int := [1, -1, -1, 0, 0, 1, 0, 1, 0, 0, 0, 0, -1, 0, 0, -1, 0, 0, 0, 0, 0, 0, 1, 0, 0, 0, 1, 0, 0, 0, 0, 0, 0, 0, 0, -1, 0, 0, 0, 0, -1, 0, 0, 0, 0, 0, 0, 0, 0, 0, 0, 1, 0, 0, 0, 0, 0, 1, 0, 0, 0, 0, 0, 0, 0, 0, 0, 0, 0, 0, -1, 0, 0, 0, 0, 0, 0, -1, 0, 0, 0, 0, 0, 0, 0, 0, 0, 0, 0, 0, 0, 0, 1, 0, 0, 0, 0, 0, 0, 0, 1, 0, 0, 0, 0, 0, 0, 0, 0, 0, 0, 0, 0, 0, 0, 0, 0, -1, 0, 0, 0, 0, 0, 0, 0, 0, -1, 0, 0, 0, 0, 0, 0, 0, 0, 0, 0, 0, 0, 0, 0, 0, 0, 0, 0, 1, 0, 0, 0, 0, 0, 0, 0, 0, 0, 1, 0, 0, 0, 0, 0, 0, 0, 0, 0, 0, 0, 0, 0, 0, 0, 0, 0, 0, 0, 0, -1, 0, 0, 0, 0, 0, 0, 0, 0, 0, 0, -1, 0, 0, 0, 0, 0, 0, 0, 0, 0, 0, 0, 0, 0, 0, 0, 0, 0, 0, 0, 0, 0, 0, 1, 0, 0, 0, 0, 0, 0, 0, 0, 0, 0, 0, 1, 0, 0, 0, 0, 0, 0, 0, 0, 0, 0, 0, 0, 0, 0, 0, 0, 0, 0, 0, 0, 0, 0, 0, 0, -1, 0, 0, 0, 0, 0, 0, 0, 0, 0, 0, 0, 0, -1, 0, 0, 0, 0, 0, 0, 0, 0, 0, 0, 0, 0, 0, 0, 0, 0, 0, 0, 0, 0, 0, 0, 0, 0, 0, 0, 1, 0, 0, 0, 0, 0, 0, 0, 0, 0, 0, 0, 0, 0, 2, 0, -1, -1, -1, 0, 0, 1, 1, 1, 1, 1, 0, 0, 0, -1, -1, -1, -1, -1, -1, -1, 0, 0, 0, 0, 1, 1, 1, 0, 1, 1, 1, 1, 1, 0, 0, 0, 0, 0, -1, -1, -1, -1, -2, -1, -1, -1, -1, -1, -1, 0, 0, 0, 0, 0, 0, 1, 1, 1, 1, 1, 1, 1, 1, 1, 1, 1, 1, 1, 0, 0, 0, 0, 0, 1, 0, -1, -1, -1, -1, -1, -1, -1, -1, -1, -1, -1, -1, -1, -1, 0, 0, 0, 0, 0, 0, 0, 0, 0, 1, 1, 1, 1, 1, 1, 1, 1, 1, 1, 1, 1, 1, 1, 1, 1, 1, 0, 0, 0, 0, 0, 0, 0, -1, 0, -1, -1, -1, -1, -1, -1, -1, -1, -1, -1, -1, -1, -1, -1, -1, -2, -1, -1, -1, 0, 0, 0, 0, 0, 0, 0, 0, 0, 0, 1, 1, 1, 1, 1, 1, 1, 1, 1, 1, 1, 1, 1, 1, 1, 1, 1, 1, 1, 1, 1, 1, 0, 0, 0, 0, 0, 0, 0, 0, 0, 0, -1, -1, -1, -1, -1, -1, -1, 0, -1, -1, -1, -1, -1, -1, -1, -1, -1, -1, -1, -1, -1, -1, -1, 0, 0, 0, 0, 0, 0, 0, 0, 0, 0, 0, 0, 1, 1, 1, 1, 1, 1, 1, 1, 1, 0, 1, 1, 1, 1, 1, 1, 1, 1, 1, 1, 1, 1, 1, 1, 1, 0, 0, 0, -1, 0, 0, 0, 0, 0, 0, 0, 0, 0, -1, -1, -1, -1, -1, -1, -1, -1, -1, -1, -1, -1, -1, -1, -1, -1, -1, -1, -1, -1, -1, -1, -1, -1, -1, -1, -1, 0, 0, 1, 0, 0, 0, 0, 0, 0, 0, 0, 0, 0]
theorem run300 : run 100 200 row200 = row300 := by decide +kernel
noncomputable def row400 : List Int := [1, -1, -1, 0, 0, 1, 0, 1, 0, 0, 0, 0, -1, 0, 0, -1, 0, 0, 0, 0, 0, 0, 1, 0, 0, 0, 1, 0, 0, 0, 0, 0, 0, 0, 0, -1, 0, 0, 0, 0, -1, 0, 0, 0, 0, 0, 0, 0, 0, 0, 0, 1, 0, 0, 0, 0, 0, 1, 0, 0, 0, 0, 0, 0, 0, 0, 0, 0, 0, 0, -1, 0, 0, 0, 0, 0, 0, -1, 0, 0, 0, 0, 0, 0, 0, 0, 0, 0, 0, 0, 0, 0, 1, 0, 0, 0, 0, 0, 0, 0, 1, 0, 0, 0, 0, 0, 0, 0, 0, 0, 0, 0, 0, 0, 0, 0, 0, -1, 0, 0, 0, 0, 0, 0, 0, 0, -1, 0, 0, 0, 0, 0, 0, 0, 0, 0, 0, 0, 0, 0, 0, 0, 0, 0, 0, 1, 0, 0, 0, 0, 0, 0, 0, 0, 0, 1, 0, 0, 0, 0, 0, 0, 0, 0, 0, 0, 0, 0, 0, 0, 0, 0, 0, 0, 0, 0, -1, 0, 0, 0, 0, 0, 0, 0, 0, 0, 0, -1, 0, 0, 0, 0, 0, 0, 0, 0, 0, 0, 0, 0, 0, 0, 0, 0, 0, 0, 0, 0, 0, 0, 1, 0, 0, 0, 0, 0, 0, 0, 0, 0, 0, 0, 1, 0, 0, 0, 0, 0, 0, 0, 0, 0, 0, 0, 0, 0, 0, 0, 0, 0, 0, 0, 0, 0, 0, 0, 0, -1, 0, 0, 0, 0, 0, 0, 0, 0, 0, 0, 0, 0, -1, 0, 0, 0, 0, 0, 0, 0, 0, 0, 0, 0, 0, 0, 0, 0, 0, 0, 0, 0, 0, 0, 0, 0, 0, 0, 0, 1, 0, 0, 0, 0, 0, 0, 0, 0, 0, 0, 0, 0, 0, 1, 0, 0, 0, 0, 0, 0, 0, 0, 0, 0, 0, 0, 0, 0, 0, 0, 0, 0, 0, 0, 0, 0, 0, 0, 0, 0, 0, 0, -1, 0, 0, 0, 0, 0, 0, 0, 0, 0, 0, 0, 0, 0, 0, -1, 0, 0, 0, 0, 0, 0, 0, 0, 0, 0, 0, 0, 0, 0, 0, 0, 0, 0, 0, 0, 0, 0, 0, 0, 0, 0, 0, 0, 0, 0, 1, 0, 0, 0, 0, 0, 0, 0, 0, 0, 0, 0, 0, 0, 0, 0, 1, 0, 0, 0, 0, 0, 0, 0, 0, 1, 0, -1, -1, -1, 0, 0, 1, 1, 1, 1, 1, 0, 0, 0, -1, -1, -1, -1, -1, -1, -1, 0, 0, -1, 0, 1, 1, 1, 1, 1, 1, 1, 1, 1, 0, 0, 0, 0, 0, -1, -2, -1, -1, -1, -1, -1, -1, -1, -1, -1, 0, 0, 0, 0, 0, 0, 1, 1, 1, 1, 1, 1, 1, 1, 1, 1, 1, 1, 1, 0, 0, 0, 0, 0, 0, 1, -1, -1, -1, -1, -1, -1, -1, -1, -1, -1, -1, -1, -1, -1, -1, 0, 0, 1, 0, 0, 0, 0, 0, 1, 1, 1, 1, 1, 1, 1, 1, 1, 1, 1, 1, 1, 1, 1, 1, 1, 0, 0, 0, 0, 0, 0, 0, 0, 0, -1, -1, -1, -1, -1, -2, -1, -1, -1, -1, -1, -1, -1, -1, -1, -1, -1, -1, -1, 0, 0, 0, 0, 0, -1, 0, 0, 0, 0, 1, 1, 1, 1, 1, 1, 1, 1, 1, 1, 1, 1, 1, 1, 1, 1, 1, 1, 1, 1, 1, 0, 0, 0, 0, 0, 0, 0, 0, 0, 0, 0, -1, -1, 0, -1, -1, -1, -1, -1, -1, -1, -1, -1, -1]
theorem run400 : run 100 300 row300 = row400 := by decide +kernel
noncomputable def row500 : List Int := [1, -1, -1, 0, 0, 1, 0, 1, 0, 0, 0, 0, -1, 0, 0, -1, 0, 0, 0, 0, 0, 0, 1, 0, 0, 0, 1, 0, 0, 0, 0, 0, 0, 0, 0, -1, 0, 0, 0, 0, -1, 0, 0, 0, 0, 0, 0, 0, 0, 0, 0, 1, 0, 0, 0, 0, 0, 1, 0, 0, 0, 0, 0, 0, 0, 0, 0, 0, 0, 0, -1, 0, 0, 0, 0, 0, 0, -1, 0, 0, 0, 0, 0, 0, 0, 0, 0, 0, 0, 0, 0, 0, 1, 0, 0, 0, 0, 0, 0, 0, 1, 0, 0, 0, 0, 0, 0, 0, 0, 0, 0, 0, 0, 0, 0, 0, 0, -1, 0, 0, 0, 0, 0, 0, 0, 0, -1, 0, 0, 0, 0, 0, 0, 0, 0, 0, 0, 0, 0, 0, 0, 0, 0, 0, 0, 1, 0, 0, 0, 0, 0, 0, 0, 0, 0, 1, 0, 0, 0, 0, 0, 0, 0, 0, 0, 0, 0, 0, 0, 0, 0, 0, 0, 0, 0, 0, -1, 0, 0, 0, 0, 0, 0, 0, 0, 0, 0, -1, 0, 0, 0, 0, 0, 0, 0, 0, 0, 0, 0, 0, 0, 0, 0, 0, 0, 0, 0, 0, 0, 0, 1, 0, 0, 0, 0, 0, 0, 0, 0, 0, 0, 0, 1, 0, 0, 0, 0, 0, 0, 0, 0, 0, 0, 0, 0, 0, 0, 0, 0, 0, 0, 0, 0, 0, 0, 0, 0, -1, 0, 0, 0, 0, 0, 0, 0, 0, 0, 0, 0, 0, -1, 0, 0, 0, 0, 0, 0, 0, 0, 0, 0, 0, 0, 0, 0, 0, 0, 0, 0, 0, 0, 0, 0, 0, 0, 0, 0, 1, 0, 0, 0, 0, 0, 0, 0, 0, 0, 0, 0, 0, 0, 1, 0, 0, 0, 0, 0, 0, 0, 0, 0, 0, 0, 0, 0, 0, 0, 0, 0, 0, 0, 0, 0, 0, 0, 0, 0, 0, 0, 0, -1, 0, 0, 0, 0, 0, 0, 0, 0, 0, 0, 0, 0, 0, 0, -1, 0, 0, 0, 0, 0, 0, 0, 0, 0, 0, 0, 0, 0, 0, 0, 0, 0, 0, 0, 0, 0, 0, 0, 0, 0, 0, 0, 0, 0, 0, 1, 0, 0, 0, 0, 0, 0, 0, 0, 0, 0, 0, 0, 0, 0, 0, 1, 0, 0, 0, 0, 0, 0, 0, 0, 0, 0, 0, 0, 0, 0, 0, 0, 0, 0, 0, 0, 0, 0, 0, 0, 0, 0, 0, 0, 0, 0, 0, 0, -1, 0, 0, 0, 0, 0, 0, 0, 0, 0, 0, 0, 0, 0, 0, 0, 0, -1, 0, 0, 0, 0, 0, 0, 0, 0, 0, 0, 0, 0, 0, 0, 0, 0, 0, 0, 0, 0, 0, 0, 0, 0, 0, 0, 0, 0, 0, 0, 0, 0, 0, 0, 1, 0, 0, 0, 0, 0, 0, 0, 0, 0, 0, 0, 0, 0, 0, 0, 0, 0, 1, 0, 0, 0, 0, 0, 1, 0, -1, -1, -1, 0, 0, 1, 1, 1, 1, 1, 0, 0, 0, -1, -1, -1, -1, -1, -1, -1, 0, 0, 0, 0, 1, 1, 1, 1, 1, 0, 1, 1, 1, 0, 0, 0, 0, 0, -1, -1, -1, -1, -1, -1, -1, -1, -1, -1, -2, 0, 0, 0, 0, 0, 0, 1, 1, 1, 1, 1, 1, 1, 1, 1, 1, 1, 1, 1, 0, 0, 0, 0, 0, 0, 0, -1, -1, -1, -1, -1, -1, -1, -1, -1, -1, -1, -1, 0, -1, -1, 0, 0, 0, 0, 0, 0, 0, 0]
theorem run500 : run 100 400 row400 = row500 := by decide +kernel
noncomputable def row600 : List Int := [1, -1, -1, 0, 0, 1, 0, 1, 0, 0, 0, 0, -1, 0, 0, -1, 0, 0, 0, 0, 0, 0, 1, 0, 0, 0, 1, 0, 0, 0, 0, 0, 0, 0, 0, -1, 0, 0, 0, 0, -1, 0, 0, 0, 0, 0, 0, 0, 0, 0, 0, 1, 0, 0, 0, 0, 0, 1, 0, 0, 0, 0, 0, 0, 0, 0, 0, 0, 0, 0, -1, 0, 0, 0, 0, 0, 0, -1, 0, 0, 0, 0, 0, 0, 0, 0, 0, 0, 0, 0, 0, 0, 1, 0, 0, 0, 0, 0, 0, 0, 1, 0, 0, 0, 0, 0, 0, 0, 0, 0, 0, 0, 0, 0, 0, 0, 0, -1, 0, 0, 0, 0, 0, 0, 0, 0, -1, 0, 0, 0, 0, 0, 0, 0, 0, 0, 0, 0, 0, 0, 0, 0, 0, 0, 0, 1, 0, 0, 0, 0, 0, 0, 0, 0, 0, 1, 0, 0, 0, 0, 0, 0, 0, 0, 0, 0, 0, 0, 0, 0, 0, 0, 0, 0, 0, 0, -1, 0, 0, 0, 0, 0, 0, 0, 0, 0, 0, -1, 0, 0, 0, 0, 0, 0, 0, 0, 0, 0, 0, 0, 0, 0, 0, 0, 0, 0, 0, 0, 0, 0, 1, 0, 0, 0, 0, 0, 0, 0, 0, 0, 0, 0, 1, 0, 0, 0, 0, 0, 0, 0, 0, 0, 0, 0, 0, 0, 0, 0, 0, 0, 0, 0, 0, 0, 0, 0, 0, -1, 0, 0, 0, 0, 0, 0, 0, 0, 0, 0, 0, 0, -1, 0, 0, 0, 0, 0, 0, 0, 0, 0, 0, 0, 0, 0, 0, 0, 0, 0, 0, 0, 0, 0, 0, 0, 0, 0, 0, 1, 0, 0, 0, 0, 0, 0, 0, 0, 0, 0, 0, 0, 0, 1, 0, 0, 0, 0, 0, 0, 0, 0, 0, 0, 0, 0, 0, 0, 0, 0, 0, 0, 0, 0, 0, 0, 0, 0, 0, 0, 0, 0, -1, 0, 0, 0, 0, 0, 0, 0, 0, 0, 0, 0, 0, 0, 0, -1, 0, 0, 0, 0, 0, 0, 0, 0, 0, 0, 0, 0, 0, 0, 0, 0, 0, 0, 0, 0, 0, 0, 0, 0, 0, 0, 0, 0, 0, 0, 1, 0, 0, 0, 0, 0, 0, 0, 0, 0, 0, 0, 0, 0, 0, 0, 1, 0, 0, 0, 0, 0, 0, 0, 0, 0, 0, 0, 0, 0, 0, 0, 0, 0, 0, 0, 0, 0, 0, 0, 0, 0, 0, 0, 0, 0, 0, 0, 0, -1, 0, 0, 0, 0, 0, 0, 0, 0, 0, 0, 0, 0, 0, 0, 0, 0, -1, 0, 0, 0, 0, 0, 0, 0, 0, 0, 0, 0, 0, 0, 0, 0, 0, 0, 0, 0, 0, 0, 0, 0, 0, 0, 0, 0, 0, 0, 0, 0, 0, 0, 0, 1, 0, 0, 0, 0, 0, 0, 0, 0, 0, 0, 0, 0, 0, 0, 0, 0, 0, 1, 0, 0, 0, 0, 0, 0, 0, 0, 0, 0, 0, 0, 0, 0, 0, 0, 0, 0, 0, 0, 0, 0, 0, 0, 0, 0, 0, 0, 0, 0, 0, 0, 0, 0, 0, 0, -1, 0, 0, 0, 0, 0, 0, 0, 0, 0, 0, 0, 0, 0, 0, 0, 0, 0, 0, -1, 0, 0, 0, 0, 0, 0, 0, 0, 0, 0, 0, 0, 0, 0, 0, 0, 0, 0, 0, 0, 0, 0, 0, 0, 0, 0, 0, 0, 0, 0, 0, 0, 0, 0, 0, 0, 0, 0, 1, 0, 0, 0, 0, 0, 0, 0, 0, 0, 0]
theorem run600 : run 100 500 row500 = row600 := by decide +kernel
theorem at100 : lls 600 100 = row100 := (run_lls 600 100 0).symm.trans run100
theorem at200 : lls 600 200 = row200 := by
  have := run_lls 600 100 100
  rw [at100, run200] at this
  exact this.symm
theorem at300 : lls 600 300 = row300 := by
  have := run_lls 600 100 200
  rw [at200, run300] at this
  exact this.symm
theorem at400 : lls 600 400 = row400 := by
  have := run_lls 600 100 300
  rw [at300, run400] at this
  exact this.symm
theorem at500 : lls 600 500 = row500 := by
  have := run_lls 600 100 400
  rw [at400, run500] at this
  exact this.symm
theorem at600 : lls 600 600 = row600 := by
  have := run_lls 600 100 500
  rw [at500, run600] at this
  exact this.symm
theorem chk2_ok : chk2 row600 ([], 1) 0 = true := by decide +kernel
theorem L_sgn {n j : Nat} (hn : n ≤ 600) (hj : j ≤ n) : L n j = sgv (stp j).2 j := by
  have h1 : L 600 j = L n j := by
    have := L_low hj (600 - n)
    rw [Nat.add_sub_cancel' hn] at this
    exact this
  have hlen : j < (lls 600 600).length := by rw [lls_is, tb_len]; omega
  have h2 := chk2_all (l := lls 600 600) (p := 0) (by rw [at600]; exact chk2_ok) j hlen
  rw [Nat.zero_add] at h2
  rw [← h1, ← h2]
  have : ∀ (l : List Int) (e : l = tb (L 600) 601) (h : j < l.length), L 600 j = l[j] := fun l e h => by subst e; rw [tb_at]
  exact this _ (lls_is 600 600) hlen
end M15
set_option Elab.async false
set_option linter.all false
set_option maxRecDepth 100000
set_option maxHeartbeats 4000000
namespace M16
open MRow M80 M17 M12 M24 M14
theorem pascal' (k l : Nat) : bx (l + 1) (k + 1) = fun n => bx l (k + 1) n + sh (l + 1) (bx (l + 1) k) n := by
  rw [bx_turn, pascal l k]
  funext n
  rw [bx_turn l (k + 1), bx_turn (l + 1) k]
theorem sh_at {e n : Nat} {g : Nat → Int} (h : e ≤ n) : sh e g n = g (n - e) := by unfold sh; rw [if_pos h]
theorem sh_no {e n : Nat} {g : Nat → Int} (h : n < e) : sh e g n = 0 := by unfold sh; rw [if_neg (by omega)]
theorem dl_pos {n : Nat} (h : 0 < n) : dl n = 0 := by unfold dl; rw [if_neg (by omega)]
theorem bx_end : ∀ k l n, k * l < n → bx l k n = 0 := by
  intro k
  induction k with
  | zero => intro l n h; rw [bx_none]; exact dl_pos (by omega)
  | succ k ih =>
    intro l
    induction l with
    | zero => intro n h; rw [bx_none']; exact dl_pos (by omega)
    | succ l ihl =>
      intro n h
      rw [pascal]
      dsimp only
      have e1 : (k + 1) * (l + 1) = k * (l + 1) + (l + 1) := by grind
      have e2 : (k + 1) * (l + 1) = (k + 1) * l + (k + 1) := by grind
      rw [ih (l + 1) n (by omega), sh_at (by omega), ihl (n - (k + 1)) (by omega)]
      rfl
theorem bx_pos : ∀ k l n, 0 ≤ bx l k n := by
  have dp : ∀ n, 0 ≤ dl n := fun n => by unfold dl; split <;> decide
  intro k
  induction k with
  | zero => intro l n; rw [bx_none]; exact dp n
  | succ k ih =>
    intro l
    induction l with
    | zero => intro n; rw [bx_none']; exact dp n
    | succ l ihl =>
      intro n
      rw [pascal]
      dsimp only
      have a := ih (l + 1) n
      have b : 0 ≤ sh (k + 1) (bx l (k + 1)) n := by
        unfold sh
        split
        · exact ihl _
        · decide
      omega
theorem bx_more (k l n : Nat) : bx l k n ≤ bx l (k + 1) n := by
  cases l with
  | zero => rw [bx_none', bx_none']; exact Int.le_refl _
  | succ l =>
    rw [pascal]
    dsimp only
    have b : 0 ≤ sh (k + 1) (bx l (k + 1)) n := by
      unfold sh
      split
      · exact bx_pos _ _ _
      · decide
    omega
theorem bx_back : ∀ k l j, j ≤ k * l → bx l k (k * l - j) = bx l k j := by
  intro k
  induction k with
  | zero => intro l j h; rw [show j = 0 by omega]; congr 1; omega
  | succ k ih =>
    intro l
    induction l with
    | zero => intro j h; rw [show j = 0 by omega]; rfl
    | succ l ihl =>
      intro j h
      have e1 : (k + 1) * (l + 1) = k * (l + 1) + (l + 1) := by grind
      have e2 : (k + 1) * (l + 1) = (k + 1) * l + (k + 1) := by grind
      have L : bx (l + 1) (k + 1) ((k + 1) * (l + 1) - j) = bx (l + 1) k ((k + 1) * (l + 1) - j) + sh (k + 1) (bx l (k + 1)) ((k + 1) * (l + 1) - j) := by rw [pascal]
      have R : bx (l + 1) (k + 1) j = bx l (k + 1) j + sh (l + 1) (bx (l + 1) k) j := by rw [pascal']
      rw [L, R]
      have A : bx (l + 1) k ((k + 1) * (l + 1) - j) = sh (l + 1) (bx (l + 1) k) j := by
        by_cases g : l + 1 ≤ j
        · rw [sh_at g, ← ih (l + 1) (j - (l + 1)) (by omega)]
          congr 1
          omega
        · rw [sh_no (by omega), bx_end k (l + 1) _ (by omega)]
      have B : sh (k + 1) (bx l (k + 1)) ((k + 1) * (l + 1) - j) = bx l (k + 1) j := by
        by_cases g : j ≤ (k + 1) * l
        · rw [sh_at (by omega), ← ihl j g]
          congr 1
          omega
        · rw [sh_no (by omega), bx_end (k + 1) l j (by omega)]
      rw [A, B]
      omega
noncomputable def tot (k l : Nat) : Int := sumTo (k * l + 1) (bx l k)
theorem sumTo_far {f : Nat → Int} {a : Nat} (h : ∀ n, a < n → f n = 0) : ∀ e, sumTo (a + 1 + e) f = sumTo (a + 1) f := fun e => by
  have z : sumTo e (fun i => f (a + 1 + i)) = 0 := sumTo_zero fun i _ => h _ (by omega)
  rw [sumTo_shift, z]
  omega
theorem tot_any (k l : Nat) {M : Nat} (h : k * l < M) : sumTo M (bx l k) = tot k l := by
  have := sumTo_far (bx_end k l) (M - (k * l + 1))
  rw [show k * l + 1 + (M - (k * l + 1)) = M by omega] at this
  exact this
theorem tot_dl (M : Nat) (h : 0 < M) : sumTo M dl = 1 := by
  have := sumTo_far (f := dl) (a := 0) (fun n hn => dl_pos hn) (M - 1)
  rw [show 0 + 1 + (M - 1) = M by omega] at this
  rw [this]
  rfl
theorem tot_none (l : Nat) : tot 0 l = 1 := by unfold tot; rw [bx_none]; exact tot_dl _ (by omega)
theorem tot_none' (k : Nat) : tot k 0 = 1 := by unfold tot; rw [bx_none']; exact tot_dl _ (by omega)
theorem sumTo_sh (e : Nat) (f : Nat → Int) : ∀ M, sumTo (e + M) (sh e f) = sumTo M f := fun M => by
  rw [sumTo_shift, sumTo_zero fun i hi => sh_no hi]
  rw [sumTo_ext (g := f) fun i _ => by rw [sh_at (by omega), Nat.add_sub_cancel_left]]
  omega
theorem tot_step (k l : Nat) : tot (k + 1) (l + 1) = tot k (l + 1) + tot (k + 1) l := by
  have e1 : (k + 1) * (l + 1) = k * (l + 1) + (l + 1) := by grind
  have e2 : (k + 1) * (l + 1) = (k + 1) * l + (k + 1) := by grind
  conv => lhs; unfold tot
  rw [pascal, sumTo_add, tot_any k (l + 1) (by omega)]
  congr 1
  rw [e2, show (k + 1) * l + (k + 1) + 1 = (k + 1) + ((k + 1) * l + 1) by omega, sumTo_sh]
  rfl
theorem tot_one : ∀ b, tot 1 b = (b : Int) + 1
  | 0 => tot_none' 1
  | b + 1 => by rw [tot_step 0 b, tot_none, tot_one b]; omega
theorem tot_one' : ∀ a, tot a 1 = (a : Int) + 1
  | 0 => tot_none 1
  | a + 1 => by rw [tot_step a 0, tot_one' a, tot_none']; omega
theorem tot_mul : ∀ s a b, a + b = s → tot a (b + 1) * ((b : Int) + 1) = tot (a + 1) b * ((a : Int) + 1) := by
  intro s
  induction s with
  | zero =>
    intro a b h
    rw [show a = 0 by omega, show b = 0 by omega, tot_none, tot_none']
  | succ s ih =>
    intro a b h
    cases a with
    | zero => rw [tot_none, tot_one]; omega
    | succ a =>
      cases b with
      | zero => rw [tot_none', tot_one']; omega
      | succ b =>
        have i1 := ih a (b + 1) (by omega)
        have i2 := ih (a + 1) b (by omega)
        have p1 := tot_step a (b + 1)
        have p2 := tot_step (a + 1) b
        rw [p1, p2, Int.add_mul, Int.add_mul]
        rw [show ((b + 1 : Nat) : Int) = (b : Int) + 1 by omega] at i1 ⊢
        rw [show ((a + 1 : Nat) : Int) = (a : Int) + 1 by omega] at i2 ⊢
        grind
theorem tot_next {n i : Nat} (h : i < n) : tot i (n - i) * ((n : Int) - (i : Int)) / ((i : Int) + 1) = tot (i + 1) (n - (i + 1)) := by
  have := tot_mul (n - 1) i (n - (i + 1)) (by omega)
  rw [show n - (i + 1) + 1 = n - i by omega] at this
  have e : (((n - (i + 1) : Nat) : Int) + 1) = (n : Int) - (i : Int) := by omega
  rw [e] at this
  rw [this]
  exact Int.mul_ediv_cancel _ (by omega)
theorem conv_off (f g : Nat → Int) {s : Nat} (hs : 0 < s) : conv (off f s) g = off (conv f g) s := by
  have h := conv_put (off f s) g hs
  rw [put_off f hs] at h
  rw [h, off_put _ hs]
theorem L_R : ∀ s, conv (M15.L s) (R s) = dl
  | 0 => conv_dl dl
  | s + 1 => by
    show conv (off (M15.L s) (s + 1)) (put (R s) (s + 1)) = dl
    rw [conv_off _ _ (by omega), conv_put2 _ _ (by omega), off_put _ (by omega)]
    exact L_R s
noncomputable def cs (ps : List (Int × Int)) (f : Int → Int) : Int := (ps.map fun p => p.2 * f p.1).sum
theorem cs_snoc (ps : List (Int × Int)) (p v : Int) (f : Int → Int) : cs (ps ++ [(p, v)]) f = cs ps f + v * f p := by
  unfold cs
  rw [List.map_append, List.sum_append_int]
  show _ + (v * f p + 0) = _
  omega
theorem cs_stp (f : Int → Int) : ∀ k, cs (M15.stp k).1 f = sumTo k fun i => M15.sgv (M15.stp i).2 i * f (i : Int)
  | 0 => rfl
  | k + 1 => by
    show cs (M15.dst (M15.stp k) k).1 f = sumTo k (fun i => M15.sgv (M15.stp i).2 i * f (i : Int)) + M15.sgv (M15.stp k).2 k * f (k : Int)
    rw [← cs_stp f k]
    unfold M15.dst M15.sgv
    dsimp only
    split
    · rw [cs_snoc]
    · omega
noncomputable def W : Nat → Int := R 600
noncomputable def fW (D : Nat → Int) (m : Nat) (p : Int) : Int := if p ≤ (m : Int) then D (m - p.toNat) else 0
theorem corner_conv (D : Nat → Int) {n m : Nat} (hn : n ≤ 600) (hm : m ≤ n) : cs (M15.cor (n : Int)) (fW D m) = conv (M15.L 600) D m := by
  rw [M15.cor_due hn, cs_stp, show n + 1 = (m + 1) + (n - m) by omega, sumTo_shift]
  have z : sumTo (n - m) (fun i => M15.sgv (M15.stp (m + 1 + i)).2 (m + 1 + i) * fW D m ((m + 1 + i : Nat) : Int)) = 0 := sumTo_zero fun i _ => by
    unfold fW
    rw [if_neg (by omega), Int.mul_zero]
  rw [z, Int.add_zero]
  refine sumTo_ext fun i hi => ?_
  rw [← M15.L_sgn hn (by omega : i ≤ n)]
  have e := M15.L_low (s := n) (j := i) (by omega) (600 - n)
  rw [show n + (600 - n) = 600 by omega] at e
  rw [e]
  unfold fW
  rw [if_pos (by omega), Int.toNat_natCast]
theorem corner_zero {n m : Nat} (hn : n ≤ 600) (hm : m ≤ n) : cs (M15.cor (n : Int)) (fW W m) = dl m := by
  rw [corner_conv W hn hm]
  exact congrFun (L_R 600) m
theorem L_one : ∀ s, M15.L s 0 = 1
  | 0 => rfl
  | s + 1 => by
    show M15.L s 0 - (if s + 1 ≤ 0 then _ else 0) = 1
    rw [if_neg (by omega), L_one s]
    rfl
theorem only_W {D : Nat → Int} (h : ∀ m, m ≤ 600 → conv (M15.L 600) D m = dl m) : ∀ m, m ≤ 600 → D m = W m := by
  intro m
  induction m using Nat.strongRecOn with
  | _ m ih =>
    intro hm
    have a := h m hm
    have b := congrFun (L_R 600) m
    unfold conv at a b
    rw [sumTo_head] at a b
    have e : sumTo m (fun i => M15.L 600 (i + 1) * D (m - (i + 1))) = sumTo m (fun i => M15.L 600 (i + 1) * R 600 (m - (i + 1))) := sumTo_ext fun i hi => by
      rw [ih (m - (i + 1)) (by omega) (by omega)]
      rfl
    rw [e, L_one] at a
    rw [L_one] at b
    show D m = R 600 m
    rw [Nat.sub_zero] at a b
    omega
noncomputable def dq : Nat → Nat → Int
  | 0 => fun _ => 0
  | k + 1 => fun j => dq k j + if k * k ≤ j then S k (j - k * k) else 0
noncomputable def dqL (L : Nat) : Nat → Nat → List Int → List Int → List Int
  | 0, _, a, _ => a
  | t + 1, k, a, r => dqL L t (k + 1) (shf (k * k) a r) (putL L (k + 1) (putL L (k + 1) r))
theorem dqL_ok (L : Nat) : ∀ t k, (∀ i, i < k + t → i * i ≤ L) → dqL L t k (tb (dq k) L) (tb (S k) L) = tb (dq (k + t)) L
  | 0, _, _ => rfl
  | t + 1, k, h => by
    show dqL L t (k + 1) (shf (k * k) (tb (dq k) L) (tb (S k) L)) (putL L (k + 1) (putL L (k + 1) (tb (S k) L))) = _
    rw [putL_ok _ (by omega), putL_ok _ (by omega), shf_ok _ _ (h k (by omega))]
    have := dqL_ok L t (k + 1) fun i hi => h i (by omega)
    rw [show k + 1 + t = k + (t + 1) by omega] at this
    exact this
noncomputable def dRow : List Int := [1, 1, 2, 3, 5, 7, 11, 15, 22, 30, 42, 56, 77, 101, 135, 176, 231, 297, 385, 490, 627, 792, 1002, 1255, 1575, 1958, 2436, 3010, 3718, 4565, 5604, 6842, 8349, 10143, 12310, 14883, 17977, 21637, 26015, 31185, 37338, 44583, 53174, 63261, 75175, 89134, 105558, 124754, 147273, 173525, 204226, 239943, 281589, 329931, 386155, 451276, 526823, 614154, 715220, 831820, 966467, 1121505, 1300156, 1505499, 1741630, 2012558, 2323520, 2679689, 3087735, 3554345, 4087968, 4697205, 5392783, 6185689, 7089500, 8118264, 9289091, 10619863, 12132164, 13848650, 15796476, 18004327, 20506255, 23338469, 26543660, 30167357, 34262962, 38887673, 44108109, 49995925, 56634173, 64112359, 72533807, 82010177, 92669720, 104651419, 118114304, 133230930, 150198136, 169229875, 190569292, 214481126, 241265379, 271248950, 304801365, 342325709, 384276336, 431149389, 483502844, 541946240, 607163746, 679903203, 761002156, 851376628, 952050665, 1064144451, 1188908248, 1327710076, 1482074143, 1653668665, 1844349560, 2056148051, 2291320912, 2552338241, 2841940500, 3163127352, 3519222692, 3913864295, 4351078600, 4835271870, 5371315400, 5964539504, 6620830889, 7346629512, 8149040695, 9035836076, 10015581680, 11097645016, 12292341831, 13610949895, 15065878135, 16670689208, 18440293320, 20390982757, 22540654445, 24908858009, 27517052599, 30388671978, 33549419497, 37027355200, 40853235313, 45060624582, 49686288421, 54770336324, 60356673280, 66493182097, 73232243759, 80630964769, 88751778802, 97662728555, 107438159466, 118159068427, 129913904637, 142798995930, 156919475295, 172389800255, 189334822579, 207890420102, 228204732751, 250438925115, 274768617130, 301384802048, 330495499613, 362326859895, 397125074750, 435157697830, 476715857290, 522115831195, 571701605655, 625846753120, 684957390936, 749474411781, 819876908323, 896684817527, 980462880430, 1071823774337, 1171432692373, 1280011042268, 1398341745571, 1527273599625, 1667727404093, 1820701100652, 1987276856363, 2168627105469, 2366022741845, 2580840212973, 2814570987591, 3068829878530, 3345365983698, 3646072432125, 3972999029388, 4328363658647, 4714566886083, 5134205287973, 5590088317495, 6085253859260, 6622987708040, 7206841706490, 7840656226137, 8528581302375, 9275102575355, 10085065885767, 10963707205259, 11916681236278, 12950095925895, 14070545699287, 15285151248481, 16601598107914, 18028182516671, 19573856161145, 21248279009367, 23061871173849, 25025873760111, 27152408925615, 29454549941750, 31946390696157, 34643126322519, 37561133582570, 40718063627362, 44132934884255, 47826239745920, 51820051838712, 56138148670947, 60806135438329, 65851585970275, 71304185514919, 77195892663512, 83561103925871, 90436839668817, 97862933703585, 105882246722733, 114540884553038, 123888443077259, 133978259344888, 144867692496445, 156618412527946, 169296722391554, 182973889854026, 197726516681672, 213636919820625, 230793554364681, 249291451168559, 269232701252579, 290726957916112, 313891991306665, 338854264248680, 365749566870782, 394723676655357, 425933084409356, 459545750448675, 495741934760846, 534715062908609, 576672674947168, 621837416509615, 670448123060170, 722760953690372, 779050629562167, 839611730366814, 904760108316360, 974834369944625, 1050197489931117, 1131238503938606, 1218374349844333, 1312051800816215, 1412749565173450, 1520980492851175, 1637293969337171, 1762278433057269, 1896564103591584, 2040825852575075, 2195786311682516, 2362219145337711, 2540952590045698, 2732873183547535, 2938929793929555, 3160137867148997, 3397584011986773, 3652430836071053, 3925922161489422, 4219388528587095, 4534253126900886, 4872038056472084, 5234371069753672, 5622992691950605, 6039763882095515, 6486674127079088, 6965850144195831, 7479565078510584, 8030248384943040, 8620496275465025, 9253082936723602, 9930972392403501, 10657331232548839, 11435542077822104, 12269218019229465, 13162217895057704, 14118662665280005, 15142952738857194, 16239786535829663, 17414180133147295, 18671488299600364, 20017426762576945, 21458096037352891, 23000006655487337, 24650106150830490, 26415807633566326, 28305020340996003, 30326181989842964, 32488293351466654, 34800954869440830, 37274405776748077, 39919565526999991, 42748078035954696, 45772358543578028, 49005643635237875, 52462044228828641, 56156602112874289, 60105349839666544, 64325374609114550, 68834885946073850, 73653287861850339, 78801255302666615, 84300815636225119, 90175434980549623, 96450110192202760, 103151466321735325, 110307860425292772, 117949491546113972, 126108517833796355, 134819180623301520, 144117936527873832, 154043597379576030, 164637479165761044, 175943559810422753, 188008647052292980, 200882556287683159, 214618299743286299, 229272286871217150, 244904537455382406, 261578907351144125, 279363328483702152, 298330063062758076, 318555973788329084, 340122810048577428, 363117512048110005, 387632532919029223, 413766180933342362, 441622981929358437, 471314064268398780, 502957566506000020, 536679070310691121, 572612058898037559, 610898403751884101, 651688879997206959, 695143713458946040, 741433159884081684, 790738119649411319, 843250788562528427, 899175348396088349, 958728697912338045, 1022141228367345362, 1089657644424399782, 1161537834849962850, 1238057794119125085, 1319510599727473500, 1406207446561484054, 1498478743590581081, 1596675274490756791, 1701169427975813525, 1812356499739472950, 1930656072350465812, 2056513475336633805, 2190401332423765131, 2332821198543892336, 2484305294265418180, 2645418340688763701, 2816759503217942792, 2998964447736452194, 3192707518433532826, 3398704041358160275, 3617712763867604423, 3850538434667429186, 4098034535626594791, 4361106170762284114, 4640713124699623515, 4937873096788191655, 5253665124416975163, 5589233202595404488, 5945790114707874597, 6324621482504294325, 6727090051741041926, 7154640222653942321, 7608802843339879269, 8091200276484465581, 8603551759348655060, 9147679068859117602, 9725512513742021729, 10339097267123947241, 10990600063775926994, 11682316277192317780, 12416677403151190382, 13196258966925435702, 14023788883518847344, 14902156290309948968, 15834420884488187770, 16823822787139235544, 17873792969689876004, 18987964267331664557, 20170183018805933659, 21424521360255636320, 22755290216580025259, 24167053021441363961, 25664640213837714846, 27253164546230421739, 28938037257084798150, 30724985147095051099, 32620068617410232189, 34629700713903575934, 36760667241831527309, 39020148000237259665, 41415739207102358378, 43955477170518116534, 46647863284229267991, 49501890409405150715, 52527070729108240605, 55733465144636286656, 59131714309169618645, 62733071376043079215, 66549436566966297367, 70593393646562135510, 74878248419470886233, 79418069346443402240, 84227730407729499781, 89322956321353645667, 94720370257893471820, 100437544171752847604, 106493051905239118581, 112906525199196103354, 119698712782720205954, 126891542690981418000, 134508188001572923840, 142573136155347404229, 151112262071917313678, 160152905244553715585, 169723951046458040965, 179855916453958267598, 190581040442651931034, 201933379285114688629, 213948907032733069132, 226665621435831345565, 240123655613925192081, 254365395758574199975, 269435605212954994471, 285381555241961986287, 302253162872576636605, 320103136152993290544, 338987127249525432549, 358963893768162876613, 380095468763120598477, 402447339861711475160, 426088638015652413417, 451092336355096099864, 477535459708164115593, 505499305314204629558, 535069675351607262125, 566337121865805599675, 599397204782301852926, 634350763653787028583, 671304203896731807232, 710369798236628238005, 751666004194993125591, 795317798414758232180, 841457028742823649455, 890222784951928088294, 941761789114997698055, 996228806608573411012, 1053787078862455346513, 1114608778936426484248, 1178875491155735802646, 1246778716001272919665, 1318520401612270233223, 1394313503224447816939, 1474382572040363953132, 1558964374994977806173, 1648308547066172438760, 1742678277747760981187, 1842351033503159891466, 1947619317987658064007, 2058791472042884901563, 2176192515439287461625, 2300165032574323995027, 2431070104309287327876, 2569288288377098289281, 2715220650772245313220, 2869289850802400662045, 3031941282464413132742, 3203644275096202070012, 3384893356244349844341, 3576209579998154653671, 3778141924035171537110, 3991268758958164118300, 4216199393504640098482, 4453575699570940947378, 4704073821002175842062, 4968405970488126319775, 5247322318923878793976, 5541612982013113936133, 5852110108921301661040, 6179690078238084808000, 6525275806549652788115, 6889839175409542385648, 7274403582551733377346, 7680046623716094332553, 8107902911527474124146, 8559167038437716736150, 9035096690829005915201, 9537015921990240021538, 10066318591787500106586, 10624471981512075020731, 11213020592521695111580, 11833590138006300416410, 12487891737367521803652, 13177726323474524612308, 13904989273245567335012, 14671675272840783232475, 15479883428970761068959, 16331822638729701493803, 17229817230617210720599, 18176312890390861435034, 19173882885687454484110, 20225234604409151266221, 21333216422211708570598, 22500824915577356165493, 23731212437346370138355, 25027695072821279146420, 26393760995005382968154, 27833079238879849385687, 29349508915133986374841, 30947108885217475101876, 32630147920163234060900, 34403115367205050943160, 36270732348871285128752, 38237963520943177237554, 40310029416409244587122, 42492419404397720872600, 44790905293907018009131, 47211555614160398040338, 49760750604354432757376, 52445197947746313627407, 55271949286085137715955, 58248417552751868050007, 61382395164161775318496, 64682073111542943380454, 68156060996536236172174, 71813408056839596203570, 75663625229609055443637, 79716708303343130521599, 83983162210640880002321, 88474026517495817981253, 93200902166643654187580, 98175979536033971312388, 103412067875563710992446, 108922626189067392956037, 114721795630860408658491, 120824433490320564237125, 127246148840551966562301, 134003339931725153597473, 141113233412529912746558, 148593925468119890197615, 156464424966082817448060, 164744698707340387584240, 173455718882380096095248, 182619512839056823919887, 192259215272078129526277, 202399122950629095580175, 213064752104884207160129, 224282898599046831034631, 236081701023305130945921, 248490706844586261413858, 261540941761240642265710, 275264982414934173206642, 289697032618827122974972, 304873003269975366031783, 320830596120295386610807, 337609391590065169560935, 355250940815002702558187, 373798862128436852709430, 393298942187883251157044, 413799241966727832978027, 435350207840317348270000, 458004788008144308553622]
theorem dRow_is : dqL 601 25 0 (tb (fun _ => 0) 601) (tb dl 601) = dRow := by decide +kernel
theorem dRow_tb : tb (dq 25) 601 = dRow := by
  have := dqL_ok 601 25 0 (fun i hi => by have : i * i ≤ 24 * 24 := Nat.mul_le_mul (by omega) (by omega); omega)
  rw [← dRow_is]
  exact this.symm
noncomputable def cmL (d : List Int) (ps : List (Int × Int)) (acc : List Int) : List Int := ps.foldl (fun acc p => shf p.1.toNat acc (d.map (p.2 * ·))) acc
theorem cm_ok (D : Nat → Int) (L : Nat) : ∀ (ps : List (Int × Int)) (acc : Nat → Int), (∀ p ∈ ps, 0 ≤ p.1 ∧ p.1.toNat ≤ L) → cmL (tb D L) ps (tb acc L) = tb (fun m => acc m + cs ps (fW D m)) L
  | [], acc, _ => tb_ext fun j _ => by show acc j = acc j + 0; omega
  | p :: ps, acc, h => by
    show cmL (tb D L) ps (shf p.1.toNat (tb acc L) ((tb D L).map (p.2 * ·))) = _
    have hp := h p List.mem_cons_self
    have e : (tb D L).map (p.2 * ·) = tb (fun j => p.2 * D j) L := by unfold tb; rw [List.map_map]; rfl
    rw [e, shf_ok _ _ hp.2, cm_ok D L ps _ fun q hq => h q (List.mem_cons_of_mem _ hq)]
    refine tb_ext fun j _ => ?_
    show (acc j + if p.1.toNat ≤ j then p.2 * D (j - p.1.toNat) else 0) + cs ps (fW D j) = acc j + (p.2 * fW D j p.1 + cs ps (fW D j))
    unfold fW
    by_cases g : p.1.toNat ≤ j
    · rw [if_pos g, if_pos (by omega)]; omega
    · rw [if_neg g, if_neg (by omega), Int.mul_zero]; omega
theorem d_corners : cmL dRow (M15.cor 600) (tb (fun _ => 0) 601) = tb dl 601 := by decide +kernel
theorem dq_W {m : Nat} (hm : m ≤ 600) : dq 25 m = W m := by
  refine only_W (fun m hm => ?_) m hm
  rw [← corner_conv (dq 25) (Nat.le_refl 600) hm]
  have a := cm_ok (dq 25) 601 (M15.cor 600) (fun _ => 0) fun p hp => by have := (M15.cor_in (Nat.le_refl 600)).1 p hp; omega
  rw [dRow_tb, d_corners] at a
  have c := tb_one a (show m < 601 by omega)
  rw [c]
  exact (Int.zero_add _).symm
theorem sq_at : ∀ n : Fin 601, sq n.val * sq n.val ≤ n.val ∧ n.val < (sq n.val + 1) * (sq n.val + 1) ∧ sq n.val ≤ 24 := by decide +kernel
theorem dq_tb {n : Nat} : ∀ k, (∀ s, s < k → s * s ≤ n) → (tb (fun s => S s (n - s * s)) k).sum = dq k n
  | 0, _ => rfl
  | k + 1, h => by
    rw [tb_succ, List.sum_append_int, dq_tb k fun s hs => h s (by omega)]
    show _ + (S k (n - k * k) + 0) = dq k n + if k * k ≤ n then S k (n - k * k) else 0
    rw [if_pos (h k (by omega))]
    omega
theorem dq_far {n k : Nat} (h : n < k * k) : ∀ e, dq (k + e) n = dq k n
  | 0 => rfl
  | e + 1 => by
    show dq (k + e) n + (if (k + e) * (k + e) ≤ n then _ else 0) = _
    have : k * k ≤ (k + e) * (k + e) := Nat.mul_le_mul (by omega) (by omega)
    rw [if_neg (by omega), dq_far h e]
    omega
theorem by_squares {n : Nat} (hn : n ≤ 600) : (bySq n).sum = W n := by
  obtain ⟨a, b, c⟩ := sq_at ⟨n, by omega⟩
  dsimp only at a b c
  unfold bySq
  rw [dq_tb (sq n + 1) fun s hs => by have : s * s ≤ sq n * sq n := Nat.mul_le_mul (by omega) (by omega); omega]
  have := dq_far b (24 - sq n)
  rw [show sq n + 1 + (24 - sq n) = 25 by omega] at this
  rw [← this, dq_W hn]
theorem byN_em (n : Nat) : M13.byN n = tb (fun m => em m n) (n + 1) := by
  unfold M13.byN
  refine tb_ext fun m hm => ?_
  unfold em
  rw [sh_at (by omega), PL_ups]
theorem byN_sum (n k : Nat) : ((M13.byN n).take (k + 1)).sum = PL dl (ups (min k n)) n := by
  rw [byN_em, ← em_sum n (min k n)]
  congr 1
  unfold tb
  rw [← List.map_take, List.take_range, show min (k + 1) (n + 1) = min k n + 1 by omega]
theorem byN_all (n : Nat) : (M13.byN n).sum = PL dl (ups n) n := by
  have := byN_sum n n
  rw [Nat.min_self, List.take_of_length_le (by unfold M13.byN; rw [tb_len]; exact Nat.le_refl _)] at this
  exact this
theorem W_is {n j : Nat} (hn : n ≤ 600) (hj : j ≤ n) : PL dl (ups n) j = W j := by
  have := R_far hj (600 - n)
  rw [show n + (600 - n) = 600 by omega] at this
  rw [← this, PL_ups]
  rfl
theorem box_W {l k j : Nat} (h1 : j ≤ l) (h2 : j ≤ k) (hj : j ≤ 600) : bx l k j = W j := by
  rw [bx_big h1]
  have := R_far h2 0
  by_cases hk : k ≤ 600
  · exact W_is hk h2
  · have a := R_far (n := 600) (j := j) hj (k - 600)
    rw [show 600 + (k - 600) = k by omega] at a
    rw [a]
    exact W_is (Nat.le_refl _) hj
end M16
set_option Elab.async false
set_option linter.all false
set_option maxRecDepth 100000
set_option maxHeartbeats 4000000
namespace K16
open PySem L2 MRow M27 M80 M17 M12 M24 M16 M13 M14 M15
theorem side_le {n s : Nat} (hn : n ≤ 600) (h : (s + 1) * (s + 1) ≤ n) : s ≤ 23 := by
  by_cases hs : s ≤ 23
  · exact hs
  · have : 25 * 25 ≤ (s + 1) * (s + 1) := Nat.mul_le_mul (by omega) (by omega)
    omega
section
variable {P : Program} {w : World} {K : PySem.W.Frag} {mg : Str → Option Value} {base : Heap} {f : Addr} {fd : FuncData}
theorem sc_by_number : FnScope ["n", "row", "told", "many"] ["n"] (defScope (top 12)) := ⟨rfl, rfl, rfl, by decide +kernel, rfl, by decide +kernel, by decide +kernel⟩
noncomputable def sp_by_number : Sp := fun vs H Q _ => ∃ n : Nat, vs = [.int n] ∧ n ≤ 900 ∧ ∀ p H', Same H H' → H' p = some (.tup ((byN n).map V.int)) → Q (.ref p) H'
theorem ok_by_number (F : Fun K "by_number" "by_number" (top 12) f fd) (m_range : mg "range" = none) (m_tuple : mg "tuple" = none) (F_begun : FnA P w K mg base "begun" 1 ["most"] sp_begun) (F_put_on : FnA P w K mg base "put_on" 1 ["row", "size"] sp_put_on) : FnOk P w K mg base CX0 2 f fd ["n"] sp_by_number := by
  refine F.okz sc_by_number (fun vs H Q E h => ?_) (fun cdv A outer s H vs Q E hr h => ?_)
  · obtain ⟨n, rfl, _⟩ := h; rfl
  obtain ⟨n, rfl, hn, q⟩ := h
  have nd := sc_by_number.nd
  refine ⟨_, (zss_cons (zs_set (i := 1) nd rfl (Or.inl rfl) (ze_fn F_begun hr (by decide) rfl (za_cons (zn 0) za_nil)))
      (zss_cons (zs_set (i := 2) nd rfl (Or.inl rfl) (ze_lst (za_cons (ze_ix ix_P (zn 1) (zn 0) (fun _ _ => rfl)) za_nil)))
      (zss_cons (zs_for PassesOwn.never rfl (zi_range2 rfl m_range (za_cons ze_int (za_cons (ze_op op_addP (zn 0) ze_int) za_nil))) (zg_name (i := 3) nd rfl (Or.inl rfl)) (zss_cons (zs_set (i := 1) nd rfl (Or.inl rfl) (ze_fn F_put_on hr (by decide) rfl (za_cons (zn 1) (za_cons (zn 3) za_nil))))
      (zss_one (zs_expr (zm_append (zn 2) (za_cons (ze_ix ix_P (zn 1) (ze_op op_subP (zn 0) (zn 3)) (fun _ _ => rfl)) za_nil))))))
      (zss_one (zs_ret (zcb_tuple rfl m_tuple (za_cons (zn 2) za_nil) rfl rfl)))))), ?_⟩
  refine ⟨n, rfl, by omega, fun p H1 hp y1 hp1 => ?_⟩
  have hget : ∀ (g : Nat → Int) j, j < n + 1 → ((tb g (n + 1)).map V.int)[j]? = some (.int (g j)) := fun g j hj => by rw [List.getElem?_map, tb_get hj]; rfl
  refine ⟨_, .inl (SqL.of hp1), .int (dl n), atI_of (j := n) rfl (hget dl n (by omega)), by show 1 ≤ sizeLine; decide, fun t ht => ?_⟩
  have htH := fresh_of y1 ht
  refine ⟨1, (n : Int) + 1, rfl, ⟨by decide, by decide, by omega, by omega⟩, ?_⟩
  have e0 : ((n : Int) + 1 - 1).toNat = n := by omega
  rw [e0]
  refine for_range (fun i σ H' => Same H H' ∧ ∃ r pp, σ = [some (.int n), some (.ref r), some (.ref t), pp] ∧ H' r = some (.lst ((tb (R i) (n + 1)).map V.int)) ∧ H' t = some (.lst ((tb (fun m => R m (n - m)) (i + 1)).map V.int)))
    ⟨y1.trans (Same.new ht _), p, none, rfl, (Same.new ht _) _ _ hp1, by rw [upd_same]; rfl⟩ ?_ ?_
  · rintro i σ H' hi ⟨y, r, pp, rfl, hr', ht'⟩
    refine ⟨r, i + 1, n + 1, R i, by rw [show (1 : Int) + (i : Int) = ((i + 1 : Nat) : Int) by omega], by omega, by omega, by omega, hr', fun p2 H2 hp2 y2 hp2' => ?_⟩
    refine ⟨tyL (y2 _ _ ht'), ?_⟩
    refine ⟨_, .inl (SqL.of hp2'), .int (R (i + 1) (n - (i + 1))), atI_of (j := n - (i + 1)) (by omega) (hget (R (i + 1)) _ (by omega)), ?_⟩
    refine ⟨_, y2 _ _ ht', ?_, ?_⟩
    · rw [List.length_map, tb_len]; exact small1000 (by omega)
    · have hne : p2 ≠ t := fun z => by rw [z, ht'] at hp2; cases hp2
      refine ⟨Same.updN (y.trans y2) htH, p2, _, rfl, by rw [upd_ne hne]; exact hp2', ?_⟩
      rw [upd_same, tb_succ _ (i + 1), List.map_append]
      rfl
  · rintro σ H' ⟨y, r, pp, rfl, hr', ht'⟩
    exact ⟨_, .inl (SqL.of ht'), fun r2 H2 y2 hr2 => q r2 H2 (y.trans y2) hr2⟩
theorem sc_by_square : FnScope ["n", "row", "told", "side"] ["n"] (defScope (top 13)) := ⟨rfl, rfl, rfl, by decide +kernel, rfl, by decide +kernel, by decide +kernel⟩
noncomputable def sp_by_square : Sp := fun vs H Q _ => ∃ n : Nat, vs = [.int n] ∧ n ≤ 600 ∧ ∀ p H', Same H H' → H' p = some (.tup ((bySq n).map V.int)) → Q (.ref p) H'
theorem ok_by_square (F : Fun K "by_square" "by_square" (top 13) f fd) (m_tuple : mg "tuple" = none) (F_begun : FnA P w K mg base "begun" 1 ["most"] sp_begun) (F_put_on : FnA P w K mg base "put_on" 1 ["row", "size"] sp_put_on) : FnOk P w K mg base CX0 2 f fd ["n"] sp_by_square := by
  refine F.okz sc_by_square (fun vs H Q E h => ?_) (fun cdv A outer s H vs Q E hr h => ?_)
  · obtain ⟨n, rfl, _⟩ := h; rfl
  obtain ⟨n, rfl, hn, q⟩ := h
  have nd := sc_by_square.nd
  refine ⟨_, (zss_cons (zs_set (i := 1) nd rfl (Or.inl rfl) (ze_fn F_begun hr (by decide) rfl (za_cons (zn 0) za_nil)))
      (zss_cons (zs_set (i := 2) nd rfl (Or.inl rfl) (ze_lst (za_cons (ze_ix ix_P (zn 1) (zn 0) (fun _ _ => rfl)) za_nil)))
      (zss_cons (zs_set (i := 3) nd rfl (Or.inl rfl) ze_int)
      (zss_cons (zs_while PassesOwn.never (zt_cmpP op_leP (ze_op op_mulQ (zn 3) (zn 3)) (zn 0) (nomark _)) (zss_cons (zs_set (i := 1) nd rfl (Or.inl rfl) (ze_fn F_put_on hr (by decide) rfl (za_cons (ze_fn F_put_on hr (by decide) rfl (za_cons (zn 1) (za_cons (zn 3) za_nil))) (za_cons (zn 3) za_nil))))
      (zss_cons (zs_expr (zm_append (zn 2) (za_cons (ze_ix ix_P (zn 1) (ze_op op_subP (zn 0) (ze_op op_mulQ (zn 3) (zn 3))) (fun _ _ => rfl)) za_nil)))
      (zss_one (zs_aug (i := 3) nd rfl (Or.inl rfl) ze_int ip_addP)))))
      (zss_one (zs_ret (zcb_tuple rfl m_tuple (za_cons (zn 2) za_nil) rfl rfl))))))), ?_⟩
  refine ⟨n, rfl, by omega, fun p H1 hp y1 hp1 => ?_⟩
  have hget : ∀ (g : Nat → Int) j, j < n + 1 → ((tb g (n + 1)).map V.int)[j]? = some (.int (g j)) := fun g j hj => by rw [List.getElem?_map, tb_get hj]; rfl
  refine ⟨_, .inl (SqL.of hp1), .int (dl n), atI_of (j := n) rfl (hget dl n (by omega)), by show 1 ≤ sizeLine; decide, fun t ht => ?_⟩
  have htH := fresh_of y1 ht
  refine while_by2 (fun m σ H' => ∃ k : Nat, m = 30 - k ∧ k ≤ 24 ∧ (∀ s, s < k → (s + 1) * (s + 1) ≤ n) ∧ Same H H' ∧ ∃ r, σ = [some (.int n), some (.ref r), some (.ref t), some (.int ((k + 1 : Nat) : Int))] ∧ H' r = some (.lst ((tb (S k) (n + 1)).map V.int)) ∧ H' t = some (.lst ((tb (fun s => S s (n - s * s)) (k + 1)).map V.int)))
    30 ⟨0, rfl, by omega, fun s hs => absurd hs (Nat.not_lt_zero _), y1.trans (Same.new ht _), p, rfl, (Same.new ht _) _ _ hp1, by rw [upd_same]; rfl⟩ ?_
  rintro m σ H' ⟨k, rfl, hk, hsq, y, r, rfl, hr', ht'⟩
  have ek : ((k + 1 : Nat) : Int) * ((k + 1 : Nat) : Int) = (((k + 1) * (k + 1) : Nat) : Int) := by push_cast; rfl
  refine ⟨mulR (by omega) (by omega), ?_⟩
  rw [ek]
  refine iteD (fun c => ?_) (fun c => ?_)
  · have c' : (k + 1) * (k + 1) ≤ n := by omega
    have hk23 := side_le hn c'
    refine ⟨_, fun _ _ z => z, ?_⟩
    refine ⟨r, k + 1, n + 1, S k, rfl, by omega, by omega, by omega, hr', fun p2 H2 hp2 y2 hp2' => ?_⟩
    refine ⟨p2, k + 1, n + 1, _, rfl, by omega, by omega, by omega, hp2', fun p3 H3 hp3 y3 hp3' => ?_⟩
    have hp3'' : H3 p3 = some (.lst ((tb (S (k + 1)) (n + 1)).map V.int)) := hp3'
    have ht3 := y3 _ _ (y2 _ _ ht')
    refine ⟨tyL ht3, mulR (by omega) (by omega), ?_⟩
    rw [ek]
    refine ⟨_, .inl (SqL.of hp3''), .int (S (k + 1) (n - (k + 1) * (k + 1))), atI_of (j := n - (k + 1) * (k + 1)) (by omega) (hget (S (k + 1)) _ (by omega)), ?_⟩
    refine ⟨_, ht3, by rw [List.length_map, tb_len]; exact small1000 (by omega), ?_⟩
    have hne : p3 ≠ t := fun z => by rw [z, y2 _ _ ht'] at hp3; cases hp3
    refine ⟨.int ((k + 1 : Nat) : Int), rfl, 30 - (k + 1), by omega, k + 1, rfl, by omega, fun s hs => ?_, Same.updN ((y.trans y2).trans y3) htH, p3, ?_, by rw [upd_ne hne]; exact hp3'', ?_⟩
    · by_cases h : s < k
      · exact hsq s h
      · have : s = k := by omega
        subst this; exact c'
    · have e9 : ((k + 1 : Nat) : Int) + 1 = ((k + 1 + 1 : Nat) : Int) := by push_cast; rfl
      show [_, _, _, some (V.int (((k + 1 : Nat) : Int) + 1))] = _
      rw [e9]
    · rw [upd_same, tb_succ _ (k + 1), List.map_append]
      rfl
  · refine ⟨_, .inl (SqL.of ht'), fun r2 H2 y2 hr2 => ?_⟩
    refine q r2 H2 (y.trans y2) ?_
    rw [hr2]
    unfold bySq
    rw [sq_is hn hsq (by omega) (by omega)]
theorem sc_corners : FnScope ["most", "told", "k", "near", "sign", "far"] ["most"] (defScope (top 14)) := ⟨rfl, rfl, rfl, by decide +kernel, rfl, by decide +kernel, by decide +kernel⟩
noncomputable def sp_cor : Sp := fun vs H Q _ => ∃ n : Nat, vs = [.int n] ∧ n ≤ 600 ∧ ∀ r H' us, Same H H' → H' r = some (.tup us) → Prs H' us (cor (n : Int)) → Q (.ref r) H'
theorem ok_corners (F : Fun K "corners" "corners" (top 14) f fd) (m_tuple : mg "tuple" = none) : FnOk P w K mg base CX0 1 f fd ["most"] sp_cor := by
  refine F.okz sc_corners (fun vs H Q E h => ?_) (fun cdv A outer s H vs Q E hr h => ?_)
  · obtain ⟨n, rfl, _⟩ := h; rfl
  obtain ⟨n, rfl, hn, q⟩ := h
  have nd := sc_corners.nd
  have hu := hr.units
  have hcl := (cor_in hn).2
  have body : ∃ t, ZSs (cxOf CX0 P w K mg base ["most", "told", "k", "near", "sign", "far"] "corners" (defScope (top 14)) f cdv A outer s H E).nox ((forBody ((defBody (top 14)).getD 3 (.Pass ⟨0, 0, 0, 0⟩))).drop 1) t ∧
      ∀ (D : Ends) (H5 : Hp) (tt : Addr) (k : Nat) (us : List V) (ps : List (Int × Int)) (p5 : Option V) (sv : Int), sv = sgn k → k ≤ 24 → H tt = none → Same H H5 → H5 tt = some (.lst us) → Prs H5 us ps → us.length + 2 ≤ 1000 →
        (∀ H' us' p4 p5, Same H H' → H' tt = some (.lst us') → Prs H' us' (ps ++ cpart n k) → D.nx [some (.int n), some (.ref tt), some (.int ((k + 1 : Nat) : Int)), some (.int (near (k + 1))), p4, p5] H') →
        t D [some (.int n), some (.ref tt), some (.int k), some (.int (near k)), some (.int sv), p5] H5 := by
    refine ⟨_, (zss_cons (zs_expr (zm_append (zn 1) (za_cons (ze_tup (za_cons (zn 3) (za_cons (zn 4) za_nil))) za_nil)))
      (zss_cons (zs_set (i := 5) nd rfl (Or.inl rfl) (ze_op op_addP (zn 3) (zn 2)))
      (zss_cons (zs_if (ZW.zt (zw_and (zt_cmpP op_gtP (zn 2) ze_int (nomark _)) (zw_and1 (zt_cmpP op_leP (zn 5) (zn 0) (nomark _))))) (zss_one (zs_expr (zm_append (zn 1) (za_cons (ze_tup (za_cons (zn 5) (za_cons (zn 4) za_nil))) za_nil)))) zss_nil)
      (zss_cons (zs_aug (i := 2) nd rfl (Or.inl rfl) ze_int ip_addP)
      (zss_one (zs_set (i := 3) nd rfl (Or.inl rfl) (ze_op op_fdivP (ze_op op_mulQ (zn 2) (ze_op op_subP (ze_op op_mulQ ze_int (zn 2)) ze_int)) ze_int))))))), ?_⟩
    intro D H5 tt k us ps p5 sv hsv hk htt y hus hp hlen fin
    subst hsv
    refine ⟨tyL hus, by show 2 ≤ sizeLine; decide, fun d hd => ?_⟩
    have g1 := Same.new hd (.tup [.int (near k), .int (sgn k)])
    refine ⟨_, g1 _ _ hus, small1000 (by omega), ?_⟩
    have hus2 : (upd (upd H5 d (.tup [.int (near k), .int (sgn k)])) tt (.lst (us ++ [.ref d]))) tt = some (.lst (us ++ [.ref d])) := upd_same
    have hp2 : Prs (upd (upd H5 d (.tup [.int (near k), .int (sgn k)])) tt (.lst (us ++ [.ref d]))) (us ++ [.ref d]) (ps ++ [(near k, sgn k)]) := Prs.updL (g1 _ _ hus) ((hp.same g1).snoc (p := (near k, sgn k)) ⟨d, rfl, upd_same⟩)
    have y2 : Same H (upd (upd H5 d (.tup [.int (near k), .int (sgn k)])) tt (.lst (us ++ [.ref d]))) := Same.updN (y.trans g1) htt
    generalize upd (upd H5 d (.tup [.int (near k), .int (sgn k)])) tt (.lst (us ++ [.ref d])) = H6 at hus2 hp2 y2
    have e1 : ((k : Int) + 1) = ((k + 1 : Nat) : Int) := by omega
    have endd : ∀ (D2 : Ends) (H7 : Hp) (us7 : List V) (p4 p5 : Option V), D2.nx = D.nx → Same H H7 → H7 tt = some (.lst us7) → Prs H7 us7 (ps ++ cpart n k) → D2.nx [some (.int n), some (.ref tt), some (.int ((k + 1 : Nat) : Int)), some (.int (near (k + 1))), p4, p5] H7 := fun D2 H7 us7 p4 p5 e a b c => by rw [e]; exact fin H7 us7 p4 p5 a b c
    have fini : ∀ (H7 : Hp) (us7 : List V), Same H H7 → H7 tt = some (.lst us7) → Prs H7 us7 (ps ++ cpart n k) →
        (∃ x, ([some (V.int n), some (.ref tt), some (.int k), some (.int (near k)), some (.int (sgn k)), some (.int (near k + k))] : St)[2]? = some (some x) ∧ True) := fun _ _ _ _ _ => ⟨_, rfl, trivial⟩
    have tailok : ∀ (H7 : Hp) (us7 : List V), Same H H7 → H7 tt = some (.lst us7) → Prs H7 us7 (ps ++ cpart n k) →
        IntMulOk 3 ((k : Int) + 1) ∧ IntMulOk ((k : Int) + 1) (3 * ((k : Int) + 1) - 1) ∧ CDiv (((k : Int) + 1) * (3 * ((k : Int) + 1) - 1)) 2 ∧ D.nx [some (.int n), some (.ref tt), some (.int ((k : Int) + 1)), some (.int (((k : Int) + 1) * (3 * ((k : Int) + 1) - 1) / 2)), some (.int (sgn k)), some (.int (near k + k))] H7 := fun H7 us7 a b c => by
      refine ⟨mulL (by decide) (by decide), mulL (by omega) (by omega), ⟨by decide, by decide⟩, ?_⟩
      have := fin H7 us7 (some (.int (sgn k))) (some (.int (near k + k))) a b c
      unfold near at this ⊢
      rw [← e1] at this
      exact this
    refine iteD (fun c => ?_) (fun c => ?_)
    · refine iteD (fun c2 => ?_) (fun c2 => ?_)
      · refine ⟨tyL hus2, by show 2 ≤ sizeLine; decide, fun d2 hd2 => ?_⟩
        have g3 := Same.new hd2 (.tup [.int (near k + k), .int (sgn k)])
        refine ⟨_, g3 _ _ hus2, by rw [List.length_append, List.length_singleton]; exact small1000 (by omega), ?_⟩
        refine ⟨.int k, rfl, tailok _ _ (Same.updN (y2.trans g3) htt) upd_same ?_⟩
        have := Prs.updL (ys := us ++ [.ref d] ++ [.ref d2]) (g3 _ _ hus2) ((hp2.same g3).snoc (p := (near k + k, sgn k)) ⟨d2, rfl, upd_same⟩)
        unfold cpart
        rw [if_pos ⟨c, c2⟩]
        have e5 : ps ++ [(near k, sgn k), (near k + k, sgn k)] = ps ++ [(near k, sgn k)] ++ [(near k + k, sgn k)] := by simp
        rw [e5]
        exact this
      · refine ⟨.int k, rfl, tailok _ _ y2 hus2 ?_⟩
        unfold cpart
        rw [if_neg (fun z => c2 z.2)]
        exact hp2
    · refine iteF ?_
      refine ⟨.int k, rfl, tailok _ _ y2 hus2 ?_⟩
      unfold cpart
      rw [if_neg (fun z => c z.1)]
      exact hp2
  obtain ⟨t3, ht3, body⟩ := body
  refine ⟨_, (zss_cons (zs_set (i := 1) nd rfl (Or.inl rfl) (ze_lst za_nil))
      (zss_cons (zs_set (i := 2) nd rfl (Or.inl rfl) ze_int)
      (zss_cons (zs_set (i := 3) nd rfl (Or.inl rfl) ze_int)
      (zss_cons (zs_while PassesOwn.never (zt_cmpP op_leP (zn 3) (zn 0) (nomark _)) (zss_cons (zs_set (i := 4) nd rfl (Or.inl rfl) (ze_ifExp (zt_cmpP (op_eqD hu) (ze_op op_modP (zn 2) ze_int) ze_int (nomark _)) ze_int (ze_un un_neg ze_int)))
      ht3))
      (zss_one (zs_ret (zcb_tuple rfl m_tuple (za_cons (zn 1) za_nil) rfl rfl))))))), ?_⟩
  refine ⟨Nat.zero_le _, fun t ht => ?_⟩
  have g0 := Same.new ht (.lst [])
  refine while_by2 (fun m σ H' => ∃ (k : Nat) (us : List V) (ps : List (Int × Int)) (p4 p5 : Option V), k + m = 25 ∧ Same H H' ∧ σ = [some (.int n), some (.ref t), some (.int k), some (.int (near k)), p4, p5] ∧ H' t = some (.lst us) ∧ Prs H' us ps ∧ cl m n k ps = cor n)
    25 ⟨0, [], [], none, none, rfl, g0, rfl, upd_same, .nil, rfl⟩ ?_
  rintro m σ H' ⟨k, us, ps, p4, p5, hkm, y, rfl, hus, hp, hcor⟩
  refine iteD (fun c => ?_) (fun c => ?_)
  · cases m with
    | zero => have := near_big (k := k) (by omega); omega
    | succ m =>
    have hstep : cl m n (k + 1) (ps ++ cpart n k) = cor n := by
      rw [← hcor]
      conv => rhs; unfold cl
      rw [if_pos c]
    have hlen : us.length + 2 ≤ 1000 := by
      have := cl_len m n (k + 1) (ps ++ cpart n k)
      rw [hstep, List.length_append] at this
      rw [hp.length]
      omega
    refine ⟨_, fun _ _ z => z, ?_⟩
    refine ⟨(show (0 : Int) < 2 by decide), ?_⟩
    refine iteD (fun c2 => ?_) (fun c2 => ?_)
    · have e2 : (1 : Int) = sgn k := by unfold sgn; rw [if_pos (V.int.inj c2)]
      exact body _ H' t k us ps p5 1 e2 (by omega) ht y hus hp hlen fun H' us' p4 p5 a b c => ⟨m, Nat.lt_succ_self m, k + 1, us', _, p4, p5, by omega, a, rfl, b, c, hstep⟩
    · have e2 : -1 = sgn k := by unfold sgn; rw [if_neg (fun z => c2 (show V.int ((k : Int) % 2) = V.int 0 by rw [z]))]
      exact ⟨_, rfl, body _ H' t k us ps p5 (-1) e2 (by omega) ht y hus hp hlen fun H' us' p4 p5 a b c => ⟨m, Nat.lt_succ_self m, k + 1, us', _, p4, p5, by omega, a, rfl, b, c, hstep⟩⟩
  · have e : ps = cor n := by
      rw [← hcor]
      cases m with
      | zero => rfl
      | succ m => conv => rhs; unfold cl
                  rw [if_neg c]
    subst e
    exact ⟨_, .inl (SqL.of hus), fun r H2 y2 hr2 => q r H2 us (y.trans y2) hr2 (hp.same y2)⟩
end
end K16
set_option Elab.async false
set_option linter.all false
set_option maxRecDepth 100000
set_option maxHeartbeats 4000000
namespace K16
open PySem L2 MRow M27 M80 M17 M12 M24 M16 M13 M14 M15
theorem tbI_len (f : Nat → Int) (L : Nat) : ((tb f L).map V.int).length = L := by rw [List.length_map, tb_len]
theorem tbI_get {f : Nat → Int} {L j : Nat} (h : j < L) : ((tb f L).map V.int)[j]? = some (.int (f j)) := by rw [List.getElem?_map, tb_get h]; rfl
theorem cut_take (ws : List Int) (k : Nat) : cutV (ws.map V.int) none (some (k : Int)) = (ws.take k).map V.int := by
  unfold cutV
  rw [HT.sIx_none, HT.sIx_nat, List.drop_zero, Nat.sub_zero, List.map_take]
  by_cases h : k ≤ (ws.map V.int).length
  · rw [Nat.min_eq_left h]
  · rw [Nat.min_eq_right (by omega), List.take_of_length_le (Nat.le_refl _), List.take_of_length_le (by omega)]
theorem tb_take (f : Nat → Int) {k L : Nat} (h : k ≤ L) : (tb f L).take k = tb f k := by unfold tb; rw [← List.map_take, List.take_range, Nat.min_eq_left h]
theorem cs_take (ps : List (Int × Int)) (f : Int → Int) {j : Nat} {p : Int × Int} (h : ps[j]? = some p) : cs (ps.take (j + 1)) f = cs (ps.take j) f + p.2 * f p.1 := by
  rw [List.take_succ, h]
  exact cs_snoc _ _ _ _
theorem W_zero : W 0 = 1 := by
  have := R_zero 600
  rw [PL_ups] at this
  exact this
section
variable {P : Program} {w : World} {K : PySem.W.Frag} {mg : Str → Option Value} {base : Heap} {f : Addr} {fd : FuncData}
theorem sc_cr : FnScope ["_law_whole", "_law_most", "_law_told", "_law_n", "_law_total", "_law_place", "_law_sign"] ["_law_whole", "_law_most"] (defScope (top 18)) := ⟨rfl, rfl, rfl, by decide +kernel, rfl, by decide +kernel, by decide +kernel⟩
noncomputable def sp_cr : Sp := fun vs H Q _ => ∃ (a : Addr) (n : Nat), vs = [.ref a, .int n] ∧ n ≤ 600 ∧ H a = some (.tup ((tb W 601).map V.int)) ∧ ∀ H', Same H H' → Q (.bl true) H'
theorem ok_cr (F : Fun K "_law_corners_right" "_law_corners_right" (top 18) f fd) (m_range : mg "range" = none) (F_corners : FnA P w K mg base "corners" 1 ["most"] sp_cor) : FnOk P w K mg base CX0 2 f fd ["_law_whole", "_law_most"] sp_cr := by
  refine F.okz sc_cr (fun vs H Q E h => ?_) (fun cdv A outer s H vs Q E hr h => ?_)
  · obtain ⟨a, n, rfl, _⟩ := h; rfl
  obtain ⟨a, n, rfl, hn, ha, q⟩ := h
  have nd := sc_cr.nd
  have hu := hr.units
  refine ⟨_, (zss_cons (zs_set (i := 2) nd rfl (Or.inl rfl) (ze_fn F_corners hr (by decide) rfl (za_cons (zn 1) za_nil)))
      (zss_cons (zs_for PassesOwn.never rfl (zi_range2 rfl m_range (za_cons ze_int (za_cons (ze_op op_addP (zn 1) ze_int) za_nil))) (zg_name (i := 3) nd rfl (Or.inl rfl)) (zss_cons (zs_set (i := 4) nd rfl (Or.inl rfl) ze_int)
      (zss_cons (zs_for PassesOwn.never rfl (zi_tup (zn 2)) (zg_tup rfl (zgs_cons (zg_name (i := 5) nd rfl (Or.inl rfl)) (zgs_cons (zg_name (i := 6) nd rfl (Or.inl rfl)) zgs_nil))) (zss_one (zs_if (zt_cmpP op_leP (zn 5) (zn 3) (nomark _)) (zss_one (zs_set (i := 4) nd rfl (Or.inl rfl) (ze_op op_addP (zn 4) (ze_op op_mulQ (zn 6) (ze_ix ix_P (zn 0) (ze_op op_subP (zn 3) (zn 5)) (fun _ _ => rfl)))))) zss_nil)))
      (zss_one (zs_if (zt_cmpP (op_neD hu) (zn 4) ze_int (nomark _)) (zss_one (zs_ret ze_bl)) zss_nil)))))
      (zss_one (zs_ret (ze_cmpR (op_eqD hu) (ze_ix ix_P (zn 0) ze_int (fun _ _ => rfl)) ze_int (nomark _)))))), ?_⟩
  refine ⟨n, rfl, hn, fun r H1 us y1 hr1 hP => ?_⟩
  have ha1 := y1 _ _ ha
  have inn := (cor_in hn).1
  have zz := fun m (hm : m ≤ n) => corner_zero hn hm
  have w0 := W_zero
  have lus := hP.length
  generalize cor (n : Int) = ps at hP inn zz lus
  generalize W = W at ha1 zz w0
  refine ⟨1, (n : Int) + 1, rfl, ⟨by omega, by omega, by omega, by omega⟩, ?_⟩
  have eN : ((n : Int) + 1 - 1).toNat = n := by omega
  rw [eN]
  refine for_range (fun i σ H' => i ≤ n ∧ H' = H1 ∧ ∃ x3 x4 x5 x6, σ = [some (.ref a), some (.int n), some (.ref r), x3, x4, x5, x6]) ⟨Nat.zero_le _, rfl, _, _, _, _, rfl⟩ ?_ ?_
  · rintro i σ H' hi ⟨_, rfl, x3, x4, x5, x6, rfl⟩
    have ek : (1 : Int) + (i : Int) = ((i + 1 : Nat) : Int) := by omega
    rw [ek]
    refine ⟨r, rfl, ⟨_, SqT.of hr1⟩, for_tup (xs := us) (fun j σ H2 => H2 = H' ∧ ∃ x5 x6, σ = [some (.ref a), some (.int n), some (.ref r), some (.int ((i + 1 : Nat) : Int)), some (.int (cs (ps.take j) (fW W (i + 1)))), x5, x6]) ⟨rfl, _, _, rfl⟩ ?_ ?_ ?_⟩
    · rintro j σ H2 _ ⟨rfl, _⟩
      exact SqT.of hr1
    · rintro j x σ H2 hx ⟨rfl, x5, x6, rfl⟩
      obtain ⟨p, hp, d, rfl, hd⟩ := hP.get hx
      have b := inn p (List.mem_of_getElem? hp)
      have ct := cs_take ps (fW W (i + 1)) hp
      refine ⟨d, _, rfl, SqT.of hd, rfl, _, _, rfl, _, _, rfl, rfl, ?_⟩
      refine iteD (fun c => ?_) (fun c => ?_)
      · have c' : p.1 ≤ ((i + 1 : Nat) : Int) := c
        refine ⟨_, .inr ha1, .int (W (i + 1 - p.1.toNat)), atI_of (j := i + 1 - p.1.toNat) (by omega) (tbI_get (by omega)), ?_⟩
        refine ⟨mulL (by omega) (by omega), rfl, some (.int p.1), some (.int p.2), ?_⟩
        have e : fW W (i + 1) p.1 = W (i + 1 - p.1.toNat) := by unfold fW; rw [if_pos c']
        rw [ct, e]
        rfl
      · have c' : ¬ p.1 ≤ ((i + 1 : Nat) : Int) := c
        refine ⟨rfl, some (.int p.1), some (.int p.2), ?_⟩
        have e : fW W (i + 1) p.1 = 0 := by unfold fW; rw [if_neg c']
        rw [ct, e, Int.mul_zero, Int.add_zero]
        rfl
    · rintro σ H2 ⟨rfl, x5, x6, rfl⟩
      have e : cs (ps.take us.length) (fW W (i + 1)) = 0 := by
        rw [lus, List.take_of_length_le (Nat.le_refl _), zz (i + 1) (by omega)]
        exact dl_pos (by omega)
      refine iteB (fun c => ?_) (fun _ => ⟨by omega, rfl, _, _, _, _, rfl⟩)
      exfalso
      have z : (!decide (V.int (cs (ps.take us.length) (fW W (i + 1))) = V.int 0)) = true := c
      rw [e] at z
      simp at z
  · rintro σ H' ⟨_, rfl, x3, x4, x5, x6, rfl⟩
    refine ⟨_, .inr ha1, .int (W 0), atI_of (j := 0) rfl (tbI_get (by decide)), ?_⟩
    show Q (.bl (decide (V.int (W 0) = V.int 1))) H'
    rw [w0, decide_eq_true rfl]
    exact q _ y1
theorem sc_wy : FnScope ["_law_many", "_law_some", "_law_found", "_law_k"] ["_law_many", "_law_some"] (defScope (top 19)) := ⟨rfl, rfl, rfl, by decide +kernel, rfl, by decide +kernel, by decide +kernel⟩
noncomputable def sp_wy : Sp := fun vs H Q _ => ∃ (n k : Nat), vs = [.int n, .int k] ∧ k ≤ n ∧ n ≤ 1000 ∧ Q (.int (tot k (n - k))) H
theorem ok_wy (F : Fun K "_law_ways" "_law_ways" (top 19) f fd) (m_range : mg "range" = none)  : FnOk P w K mg base CX0 1 f fd ["_law_many", "_law_some"] sp_wy := by
  refine F.okz sc_wy (fun vs H Q E h => ?_) (fun cdv A outer s H vs Q E hr h => ?_)
  · obtain ⟨n, k, rfl, _⟩ := h; rfl
  obtain ⟨n, k, rfl, hk, hn, q⟩ := h
  have nd := sc_wy.nd
  have hu := hr.units
  refine ⟨_, (zss_cons (zs_set (i := 2) nd rfl (Or.inl rfl) ze_int)
      (zss_cons (zs_for PassesOwn.never rfl (zi_range1 rfl m_range (za_cons (zn 1) za_nil)) (zg_name (i := 3) nd rfl (Or.inl rfl)) (zss_one (zs_set (i := 2) nd rfl (Or.inl rfl) (ze_op op_fdivP (ze_op op_mulQ (zn 2) (ze_op op_subP (zn 0) (zn 3))) (ze_op op_addP (zn 3) ze_int)))))
      (zss_one (zs_ret (zn 2))))), ?_⟩
  refine ⟨(k : Int), rfl, by omega, by omega, ?_⟩
  rw [Int.toNat_natCast]
  refine for_range (fun i σ H' => i ≤ k ∧ H' = H ∧ ∃ x3, σ = [some (.int n), some (.int k), some (.int (tot i (n - i))), x3]) ⟨Nat.zero_le _, rfl, _, by rw [tot_none]; rfl⟩ ?_ ?_
  · rintro i σ H' hi ⟨_, rfl, x3, rfl⟩
    have e0 : (0 : Int) + (i : Int) = (i : Int) := by omega
    rw [e0]
    refine ⟨mulR (by omega) (by omega), ⟨by omega, by omega⟩, by omega, rfl, some (.int (i : Int)), ?_⟩
    have nx := tot_next (n := n) (i := i) (by omega)
    rw [← nx]
    rfl
  · rintro σ H' ⟨_, rfl, x3, rfl⟩
    exact q
theorem sc_nb : FnScope ["_law_hand_here", "_law_whole", "_law_n", "_law_told", "_law_k", "_law_due"] ["_law_hand_here", "_law_whole", "_law_n"] (defScope (top 20)) := ⟨rfl, rfl, rfl, by decide +kernel, rfl, by decide +kernel, by decide +kernel⟩
noncomputable def sp_nb : Sp := fun vs H Q _ => ∃ (p a : Addr) (c n : Nat), vs = [.ref p, .ref a, .int n] ∧ Hand H p c ∧ c < 900000000 ∧ n ≤ 200 ∧ H a = some (.tup ((tb W 601).map V.int)) ∧ ∀ H', Step p (c + 2) H H' → Q (.bl true) H'
theorem ok_nb (F : Fun K "_law_number_right" "_law_number_right" (top 20) f fd) (m_len : mg "len" = none) (m_sum : mg "sum" = none) (F_law_take : FnA P w K mg base "_law_take" 1 ["_law_hand_here", "_law_many"] sp_take) (F_by_number : FnA P w K mg base "by_number" 2 ["n"] sp_by_number) (F_counts : FnA P w K mg base "counts" 4 ["kind", "most"] sp_counts) : FnOk P w K mg base CX0 5 f fd ["_law_hand_here", "_law_whole", "_law_n"] sp_nb := by
  refine F.okz sc_nb (fun vs H Q E h => ?_) (fun cdv A outer s H vs Q E hr h => ?_)
  · obtain ⟨p, a, c, n, rfl, _⟩ := h; rfl
  obtain ⟨p, a, c, n, rfl, hh, hc, hn, ha, q⟩ := h
  have nd := sc_nb.nd
  have hu := hr.units
  refine ⟨_, (zss_cons (zs_set (i := 3) nd rfl (Or.inl rfl) (ze_fn F_by_number hr (by decide) rfl (za_cons (zn 2) za_nil)))
      (zss_cons (zs_set (i := 4) nd rfl (Or.inl rfl) (ze_op op_addP ze_int (ze_fn F_law_take hr (by decide) rfl (za_cons (zn 0) (za_cons (ze_ix ix_P (ze_lst (za_cons ze_int (za_cons (ze_op op_addP (zn 2) ze_int) (za_cons ze_int za_nil)))) (ze_fn F_law_take hr (by decide) rfl (za_cons (zn 0) (za_cons ze_int za_nil))) (fun _ _ => rfl)) za_nil)))))
      (zss_cons (zs_if (ZW.zt (zw_or (zt_cmpP (op_neD hu) (zcb_sum rfl rfl m_sum (za_cons (zn 3) za_nil) rfl rfl) (ze_ix ix_P (zn 1) (zn 2) (fun _ _ => rfl)) (nomark _)) (zw_or1 (zt_cmpP (op_neD hu) (zcb_len rfl m_len (za_cons (zn 3) za_nil) rfl rfl) (ze_op op_addP (zn 2) ze_int) (nomark _))))) (zss_one (zs_ret ze_bl)) zss_nil)
      (zss_cons (zs_set (i := 5) nd rfl (Or.inl rfl) (zcb_sum rfl rfl m_sum (za_cons (ze_slice sl_P (zn 3) zo_none (zo_some (ze_op op_addP (zn 4) ze_int))) za_nil) rfl rfl))
      (zss_one (zs_ret (ze_andP (ze_cmpR (op_eqD hu) (ze_ix ix_P (ze_fn F_counts hr (by decide) rfl (za_cons (ze_tup (za_cons ze_str (za_cons (zn 4) za_nil))) (za_cons (zn 2) za_nil))) (zn 2) (fun _ _ => rfl)) (zn 5) (nomark _)) (ze_one (ze_cmpR (op_eqD hu) (ze_ix ix_P (ze_fn F_counts hr (by decide) rfl (za_cons (ze_tup (za_cons ze_str (za_cons (zn 4) za_nil))) (za_cons (zn 2) za_nil))) (zn 2) (fun _ _ => rfl)) (zn 5) (nomark _)))))))))), ?_⟩
  refine ⟨n, rfl, by omega, fun r H1 y1 hr1 => ?_⟩
  have s1 := Step.of_same hh y1
  refine ⟨by show 3 ≤ sizeLine; decide, fun d hd => ?_⟩
  have yd := Same.new hd (.lst [V.int 8, .int ((n : Int) + 1), .int 600])
  have gd : upd H1 d (.lst [V.int 8, .int ((n : Int) + 1), .int 600]) d = some (.lst [V.int 8, .int ((n : Int) + 1), .int 600]) := upd_same
  have dp : d ≠ p := s1.2.ne hd
  have s2 := s1.same yd
  have hr2 := yd _ _ hr1
  generalize upd H1 d (.lst [V.int 8, .int ((n : Int) + 1), .int 600]) = H2 at gd s2 hr2
  refine ⟨p, 3, c, rfl, s2.2, by omega, by decide, by decide, fun u H3 u0 u1 k3 => ?_⟩
  obtain ⟨m, em, m0, m1⟩ : ∃ m : Int, atI [V.int 8, .int ((n : Int) + 1), .int 600] u = some (.int m) ∧ 1 ≤ m ∧ m ≤ 600 := by
    have : u = 0 ∨ u = 1 ∨ u = 2 := by omega
    rcases this with rfl | rfl | rfl
    · exact ⟨8, rfl, by decide, by decide⟩
    · exact ⟨(n : Int) + 1, rfl, by omega, by omega⟩
    · exact ⟨600, rfl, by decide, by decide⟩
  refine ⟨_, .inl (SqL.of (k3.1 _ _ dp gd)), .int m, em, ?_⟩
  refine ⟨p, m, c + 1, rfl, k3.2, by omega, by omega, by omega, fun v H4 v0 v1 k4 => ?_⟩
  obtain ⟨v, rfl⟩ : ∃ t' : Nat, v = (t' : Int) := ⟨v.toNat, by omega⟩
  have st := (s2.trans k3).trans k4
  have hr4 := k4.tup k3.2 (k3.tup s2.2 hr2)
  have ha4 := st.tup hh ha
  have ev : ((1 + v : Nat) : Int) = 1 + (v : Int) := Int.natCast_add 1 v
  have sm := byN_all n
  have sk := byN_sum n (1 + v)
  have lb : (byN n).length = n + 1 := by unfold byN; rw [tb_len]
  rw [W_is (n := n) (j := n) (by omega) (Nat.le_refl _)] at sm
  generalize byN n = bs at hr4 sm sk lb
  refine ⟨_, .inr hr4, ?_⟩
  refine ⟨_, .inr ha4, .int (W n), atI_of (j := n) rfl (tbI_get (by omega)), ?_⟩
  refine iteB (fun c1 => ?_) (fun _ => ?_)
  · exfalso
    have z : (!decide (V.int bs.sum = V.int (W n))) = true := c1
    rw [sm] at z
    simp at z
  refine ⟨_, .inr hr4, ?_⟩
  refine iteB (fun c1 => ?_) (fun _ => ?_)
  · exfalso
    have z : (!decide (V.int ((bs.map V.int).length : Int) = V.int ((n : Int) + 1))) = true := c1
    rw [List.length_map, lb, Int.natCast_add] at z
    simp at z
  refine ⟨1 + (v : Int) + 1, rfl, r, rfl, .inl ⟨_, hr4, fun r5 H5 y5 hr5 => ?_⟩⟩
  have ev2 : ((1 + v + 1 : Nat) : Int) = 1 + (v : Int) + 1 := by omega
  rw [← ev2, cut_take] at hr5
  refine ⟨_, .inr hr5, ?_⟩
  refine ⟨by show 2 ≤ sizeLine; decide, fun o1 ho1 => ?_⟩
  have y6 := Same.new ho1 (.tup [V.str "few", .int (1 + (v : Int))])
  have k6 : KnAt (upd H5 o1 (.tup [V.str "few", .int (1 + (v : Int))])) o1 (.few (1 + v)) := by
    show _ = some (HO.tup [V.str "few", V.int ((1 + v : Nat) : Int)])
    rw [ev]
    exact upd_same
  generalize upd H5 o1 (.tup [V.str "few", .int (1 + (v : Int))]) = H6 at y6 k6
  refine ⟨o1, n, .few (1 + v), rfl, by omega, k6, (show 1 + v ≤ 600 by omega), fun r7 H7 y7 hr7 => ?_⟩
  have e7 : cf (.few (1 + v)) n n = (bs.take (1 + v + 1)).sum := sk.symm
  generalize (bs.take (1 + v + 1)).sum = du at e7 sk
  refine ⟨_, .inr hr7, .int du, atI_of (j := n) rfl (by rw [tbI_get (by omega), e7]), ?_⟩
  refine iteD (fun _ => ?_) (fun c => absurd rfl c)
  refine ⟨by show 2 ≤ sizeLine; decide, fun o2 ho2 => ?_⟩
  have y8 := Same.new ho2 (.tup [V.str "most", .int (1 + (v : Int))])
  have k8 : KnAt (upd H7 o2 (.tup [V.str "most", .int (1 + (v : Int))])) o2 (.most (1 + v)) := by
    show _ = some (HO.tup [V.str "most", V.int ((1 + v : Nat) : Int)])
    rw [ev]
    exact upd_same
  generalize upd H7 o2 (.tup [V.str "most", .int (1 + (v : Int))]) = H8 at y8 k8
  refine ⟨o2, n, .most (1 + v), rfl, by omega, k8, (show 1 + v ≤ 600 by omega), fun r9 H9 y9 hr9 => ?_⟩
  refine ⟨_, .inr hr9, .int du, atI_of (j := n) rfl (by rw [tbI_get (by omega)]; show some (V.int (cf (.few (1 + v)) n n)) = _; rw [e7]), ?_⟩
  show Q (.bl (decide (V.int du = V.int du))) H9
  rw [decide_eq_true rfl]
  exact q _ (((((st.same y5).same y6).same y7).same y8).same y9)
end
end K16
set_option Elab.async false
set_option linter.all false
set_option maxRecDepth 100000
set_option maxHeartbeats 4000000
namespace K16
open PySem L2 MRow M27 M80 M17 M12 M24 M16 M13 M14 M15
theorem tb_rev {f : Nat → Int} {N : Nat} (h : ∀ j, j ≤ N → f (N - j) = f j) : (tb f (N + 1)).reverse = tb f (N + 1) := by
  refine List.ext_getElem (by rw [List.length_reverse]) fun j h1 h2 => ?_
  have hj : j < N + 1 := by rw [tb_len] at h2; exact h2
  rw [List.getElem_reverse, tb_at, tb_at]
  rw [← h j (by omega)]
  congr 1
  rw [tb_len]
  omega
theorem tb_tot (k l : Nat) : (tb (bx l k) (k * l + 1)).sum = tot k l := by
  have e : ∀ (f : Nat → Int) M, (tb f M).sum = sumTo M f := by
    intro f M
    induction M with
    | zero => rfl
    | succ M ih => rw [tb_succ, List.sum_append_int, ih]; show _ + (f M + 0) = _ + f M; omega
  exact e _ _
theorem box_row {k l n : Nat} : tb (bx l (min k n)) (n + 1) = tb (bx l k) (n + 1) := tb_ext fun j hj => bx_min (by omega)
theorem SqK_tup {H : Hp} {a : Addr} {xs : List V} (h : H a = some (.tup xs)) : SqK H true a xs := h
section
variable {P : Program} {w : World} {K : PySem.W.Frag} {mg : Str → Option Value} {base : Heap} {f : Addr} {fd : FuncData}
theorem sc_xr : FnScope ["_law_hand_here", "_law_whole", "_law_k", "_law_l", "_law_row", "_law_most", "_law_beneath", "_law_same"] ["_law_hand_here", "_law_whole"] (defScope (top 21)) := ⟨rfl, rfl, rfl, by decide +kernel, rfl, by decide +kernel, by decide +kernel⟩
noncomputable def sp_xr : Sp := fun vs H Q _ => ∃ (p a : Addr) (c : Nat), vs = [.ref p, .ref a] ∧ Hand H p c ∧ c < 900000000 ∧ H a = some (.tup ((tb W 601).map V.int)) ∧ ∀ H', Step p (c + 5) H H' → Q (.bl true) H'
theorem ok_xr (F : Fun K "_law_box_right" "_law_box_right" (top 21) f fd) (m_any : mg "any" = none) (m_len : mg "len" = none) (m_min : mg "min" = none) (m_sum : mg "sum" = none) (m_zip : mg "zip" = none) (F_law_take : FnA P w K mg base "_law_take" 1 ["_law_hand_here", "_law_many"] sp_take) (F_law_ways : FnA P w K mg base "_law_ways" 1 ["_law_many", "_law_some"] sp_wy) (F_counts : FnA P w K mg base "counts" 4 ["kind", "most"] sp_counts) : FnOk P w K mg base CX0 5 f fd ["_law_hand_here", "_law_whole"] sp_xr := by
  refine F.okz sc_xr (fun vs H Q E h => ?_) (fun cdv A outer s H vs Q E hr h => ?_)
  · obtain ⟨p, a, c, rfl, _⟩ := h; rfl
  obtain ⟨p, a, c, rfl, hh, hc, ha, q⟩ := h
  have nd := sc_xr.nd
  have hu := hr.units
  refine ⟨_, (zss_cons (zs_set (i := 2) nd rfl (Or.inl rfl) (ze_op op_addP ze_int (ze_fn F_law_take hr (by decide) rfl (za_cons (zn 0) (za_cons ze_int za_nil)))))
      (zss_cons (zs_set (i := 3) nd rfl (Or.inl rfl) (ze_op op_addP ze_int (ze_fn F_law_take hr (by decide) rfl (za_cons (zn 0) (za_cons (ze_op op_fdivP ze_int (zn 2)) za_nil)))))
      (zss_cons (zs_set (i := 4) nd rfl (Or.inl rfl) (ze_fn F_counts hr (by decide) rfl (za_cons (ze_tup (za_cons ze_str (za_cons (zn 2) (za_cons (zn 3) za_nil)))) (za_cons (ze_op op_mulQ (zn 2) (zn 3)) za_nil))))
      (zss_cons (zs_if (ZW.zt (zw_or (zt_cmpP (op_neD hu) (zn 4) (ze_rev rv_P (zn 4)) (nomark _)) (zw_or (zt_cmpP (op_neD hu) (zcb_sum rfl rfl m_sum (za_cons (zn 4) za_nil) rfl rfl) (ze_fn F_law_ways hr (by decide) rfl (za_cons (ze_op op_addP (zn 2) (zn 3)) (za_cons (zn 2) za_nil))) (nomark _)) (zw_or1 (zt_cmpP (op_neD hu) (ze_fn F_counts hr (by decide) rfl (za_cons (ze_tup (za_cons ze_str (za_cons (zn 3) (za_cons (zn 2) za_nil)))) (za_cons (ze_op op_mulQ (zn 2) (zn 3)) za_nil))) (zn 4) (nomark _)))))) (zss_one (zs_ret ze_bl)) zss_nil)
      (zss_cons (zs_par3 (i := 2) (j := 3) (k := 5) rfl nd rfl rfl rfl (by decide) (by decide) (by decide) rfl rfl rfl (za_cons (ze_op op_addP ze_int (ze_fn F_law_take hr (by decide) rfl (za_cons (zn 0) (za_cons ze_int za_nil)))) (za_cons (ze_op op_addP ze_int (ze_fn F_law_take hr (by decide) rfl (za_cons (zn 0) (za_cons ze_int za_nil)))) (za_cons (ze_fn F_law_take hr (by decide) rfl (za_cons (zn 0) (za_cons ze_int za_nil))) za_nil))) rfl)
      (zss_cons (zs_par (i := 4) (j := 6) rfl nd rfl rfl (by decide) rfl rfl (za_cons (ze_fn F_counts hr (by decide) rfl (za_cons (ze_tup (za_cons ze_str (za_cons (zn 2) (za_cons (zn 3) za_nil)))) (za_cons (zn 5) za_nil))) (za_cons (ze_fn F_counts hr (by decide) rfl (za_cons (ze_tup (za_cons ze_str (za_cons (zcb_min rfl rfl m_min (za_cons (ze_op op_addP (zn 2) ze_int) (za_cons ze_int za_nil)) rfl rfl) (za_cons (zn 3) za_nil)))) (za_cons (zn 5) za_nil))) za_nil)) rfl)
      (zss_cons (zs_if (zt_valP (zcb_any rfl rfl m_any (za_cons (ze_comp ["_law_one", "_law_other"] [] rfl ⟨rfl, by decide +kernel, by decide +kernel, rfl, rfl⟩ (zi_zip rfl m_zip (za_cons (zn 4) (za_cons (zn 6) za_nil))) kpg_two (fun _ _ _ _ => zg_tup rfl (zgs_cons (zg_name (i := 0) (show List.Nodup (["_law_one", "_law_other"] : List Str) by decide +kernel) rfl (Or.inl rfl)) (zgs_cons (zg_name (i := 1) (show List.Nodup (["_law_one", "_law_other"] : List Str) by decide +kernel) rfl (Or.inl rfl)) zgs_nil))) (fun _ _ _ _ => zif_nil) (fun _ _ _ _ => (ze_cmpR op_gtP (zn 0) (zn 1) (nomark _)))) za_nil) rfl rfl)) (zss_one (zs_ret ze_bl)) zss_nil)
      (zss_cons (zs_set (i := 7) nd rfl (Or.inl rfl) (ze_op op_addP (zcb_min3 rfl rfl m_min (za_cons (zn 2) (za_cons (zn 3) (za_cons (zn 5) za_nil))) rfl rfl) ze_int))
      (zss_one (zs_ret (ze_andP (ze_cmpR (op_eqD hu) (ze_slice sl_P (zn 4) zo_none (zo_some (zn 7))) (ze_slice sl_P (zn 1) zo_none (zo_some (zn 7))) (nomark _)) (ze_one (ze_cmpR (op_eqD hu) (zcb_len rfl m_len (za_cons (zn 4) za_nil) rfl rfl) (ze_op op_addP (zn 5) ze_int) (nomark _)))))))))))))), ?_⟩
  refine ⟨p, 24, c, rfl, hh, by omega, by decide, by decide, fun u H1 u0 u1 k1 => ?_⟩
  obtain ⟨u, rfl⟩ : ∃ t' : Nat, u = (t' : Int) := ⟨u.toNat, by omega⟩
  have eu : ((1 + u : Nat) : Int) = 1 + (u : Int) := Int.natCast_add 1 u
  refine ⟨⟨by omega, by omega⟩, ?_⟩
  have dv : (600 : Int) / (1 + (u : Int)) = ((600 / (1 + u) : Nat) : Int) := by rw [← eu]; rfl
  have d1 : 25 ≤ 600 / (1 + u) := (Nat.le_div_iff_mul_le (by omega)).mpr (by omega)
  have d2 : (1 + u) * (600 / (1 + u)) ≤ 600 := Nat.mul_div_le 600 (1 + u)
  have d3 : 600 / (1 + u) ≤ 600 := Nat.div_le_self _ _
  refine ⟨p, 600 / (1 + (u : Int)), c + 1, rfl, k1.2, by omega, by rw [dv]; omega, by rw [dv]; omega, fun v H2 v0 v1 k2 => ?_⟩
  rw [dv] at v1
  obtain ⟨v, rfl⟩ : ∃ t' : Nat, v = (t' : Int) := ⟨v.toNat, by omega⟩
  have ev : ((1 + v : Nat) : Int) = 1 + (v : Int) := Int.natCast_add 1 v
  have st2 := k1.trans k2
  have hkl : (1 + u) * (1 + v) ≤ 600 := Nat.le_trans (Nat.mul_le_mul_left _ (by omega)) d2
  obtain ⟨N, eNn⟩ : ∃ N, N = (1 + u) * (1 + v) := ⟨_, rfl⟩
  have eN : (1 + (u : Int)) * (1 + (v : Int)) = (N : Int) := by rw [eNn, Int.natCast_mul, eu, ev]
  refine ⟨by show 3 ≤ sizeLine; decide, fun o1 ho1 => ?_⟩
  have yo1 := Same.new ho1 (.tup [V.str "box", .int (1 + (u : Int)), .int (1 + (v : Int))])
  have ko1 : KnAt (upd H2 o1 (.tup [V.str "box", .int (1 + (u : Int)), .int (1 + (v : Int))])) o1 (.box (1 + u) (1 + v)) := by show _ = some (HO.tup [V.str "box", V.int ((1 + u : Nat) : Int), V.int ((1 + v : Nat) : Int)]); rw [eu, ev]; exact upd_same
  generalize upd H2 o1 (.tup [V.str "box", .int (1 + (u : Int)), .int (1 + (v : Int))]) = H3 at yo1 ko1
  refine ⟨mulL (by omega) (by omega), ?_⟩
  refine ⟨o1, N, .box (1 + u) (1 + v), congrArg (fun z => [V.ref o1, V.int z]) eN, by omega, ko1, ⟨by omega, by omega⟩, fun r H4 y4 hr4 => ?_⟩
  have hr4 : H4 r = some (.tup ((tb (bx (1 + v) (1 + u)) (N + 1)).map V.int)) := by rw [hr4]; show some (HO.tup ((tb (bx (1 + v) (min (1 + u) N)) (N + 1)).map V.int)) = _; rw [box_row]
  have rev : (tb (bx (1 + v) (1 + u)) (N + 1)).reverse = tb (bx (1 + v) (1 + u)) (N + 1) := tb_rev fun j hj => by rw [eNn]; exact bx_back (1 + u) (1 + v) j (by rw [← eNn]; exact hj)
  have sums : (tb (bx (1 + v) (1 + u)) (N + 1)).sum = tot (1 + u) (1 + v) := by rw [eNn]; exact tb_tot _ _
  have other : tb (bx (1 + u) (min (1 + v) N)) (N + 1) = tb (bx (1 + v) (1 + u)) (N + 1) := by rw [box_row, bx_turn]
  generalize tb (bx (1 + v) (1 + u)) (N + 1) = row at hr4 rev sums other
  have st4 := (st2.same yo1).same y4
  refine ⟨r, rfl, .inl ⟨_, hr4, fun r5 hr5 => ?_⟩⟩
  rw [← List.map_reverse, rev]
  have y5 := Same.new hr5 (.tup (row.map V.int))
  have g5 : upd H4 r5 (.tup (row.map V.int)) r5 = some (.tup (row.map V.int)) := upd_same
  have g4 := y5 _ _ hr4
  have st5 := st4.same y5
  generalize upd H4 r5 (.tup (row.map V.int)) = H5 at g5 g4 st5
  refine ⟨_, _, .ints g4, .ints g5, shaped_ints _, shaped_ints _, ?_⟩
  refine iteB (fun c => absurd c (by rw [if_pos rfl, eqv_self (shaped_ints _)]; decide)) (fun _ => ?_)
  refine ⟨_, .inr g4, ?_⟩
  refine ⟨1 + u + (1 + v), 1 + u, by rw [Int.natCast_add, eu, ev], by omega, by omega, ?_⟩
  rw [show 1 + u + (1 + v) - (1 + u) = 1 + v by omega]
  refine iteB (fun c => ?_) (fun _ => ?_)
  · exfalso
    have z : (!decide (V.int row.sum = V.int (tot (1 + u) (1 + v)))) = true := c
    rw [sums] at z
    simp at z
  refine ⟨by show 3 ≤ sizeLine; decide, fun o2 ho2 => ?_⟩
  have yo2 := Same.new ho2 (.tup [V.str "box", .int (1 + (v : Int)), .int (1 + (u : Int))])
  have ko2 : KnAt (upd H5 o2 (.tup [V.str "box", .int (1 + (v : Int)), .int (1 + (u : Int))])) o2 (.box (1 + v) (1 + u)) := by show _ = some (HO.tup [V.str "box", V.int ((1 + v : Nat) : Int), V.int ((1 + u : Nat) : Int)]); rw [eu, ev]; exact upd_same
  generalize upd H5 o2 (.tup [V.str "box", .int (1 + (v : Int)), .int (1 + (u : Int))]) = H6 at yo2 ko2
  refine ⟨mulL (by omega) (by omega), ?_⟩
  refine ⟨o2, N, .box (1 + v) (1 + u), congrArg (fun z => [V.ref o2, V.int z]) eN, by omega, ko2, ⟨by omega, by omega⟩, fun r7 H7 y7 hr7 => ?_⟩
  have hr7 : H7 r7 = some (.tup (row.map V.int)) := by rw [hr7]; show some (HO.tup ((tb (bx (1 + u) (min (1 + v) N)) (N + 1)).map V.int)) = _; rw [other]
  refine ⟨_, _, .ints hr7, .ints (y7 _ _ (yo2 _ _ g4)), shaped_ints _, shaped_ints _, ?_⟩
  refine iteB (fun c => absurd c (by rw [if_pos rfl, eqv_self (shaped_ints _)]; decide)) (fun _ => ?_)
  have st7 := (st5.same yo2).same y7
  refine ⟨p, 600, c + 2, rfl, st7.2, by omega, by decide, by decide, fun k H8 x0 x1 k8 => ?_⟩
  obtain ⟨k, rfl⟩ : ∃ t' : Nat, k = (t' : Int) := ⟨k.toNat, by omega⟩
  refine ⟨p, 600, c + 3, rfl, k8.2, by omega, by decide, by decide, fun l H9 x2 x3 k9 => ?_⟩
  obtain ⟨l, rfl⟩ : ∃ t' : Nat, l = (t' : Int) := ⟨l.toNat, by omega⟩
  refine ⟨p, 601, c + 4, rfl, k9.2, by omega, by decide, by decide, fun n HA x4 x5 kA => ?_⟩
  obtain ⟨n, rfl⟩ : ∃ t' : Nat, n = (t' : Int) := ⟨n.toNat, by omega⟩
  have stA := ((st7.trans k8).trans k9).trans kA
  have ek : ((1 + k : Nat) : Int) = 1 + (k : Int) := Int.natCast_add 1 k
  have el : ((1 + l : Nat) : Int) = 1 + (l : Int) := Int.natCast_add 1 l
  have haA := stA.tup hh ha
  refine ⟨by show 3 ≤ sizeLine; decide, fun o3 ho3 => ?_⟩
  have yo3 := Same.new ho3 (.tup [V.str "box", .int (1 + (k : Int)), .int (1 + (l : Int))])
  have ko3 : KnAt (upd HA o3 (.tup [V.str "box", .int (1 + (k : Int)), .int (1 + (l : Int))])) o3 (.box (1 + k) (1 + l)) := by show _ = some (HO.tup [V.str "box", V.int ((1 + k : Nat) : Int), V.int ((1 + l : Nat) : Int)]); rw [ek, el]; exact upd_same
  generalize upd HA o3 (.tup [V.str "box", .int (1 + (k : Int)), .int (1 + (l : Int))]) = HB at yo3 ko3
  refine ⟨o3, n, .box (1 + k) (1 + l), rfl, by omega, ko3, ⟨by omega, by omega⟩, fun rB HC yC hrC => ?_⟩
  obtain ⟨k2, ek2⟩ : ∃ k2, k2 = min (1 + k + 1) 600 := ⟨_, rfl⟩
  have em : (if (600 : Int) < 1 + (k : Int) + 1 then (600 : Int) else 1 + (k : Int) + 1) = (k2 : Int) := by split <;> omega
  refine ⟨by show 3 ≤ sizeLine; decide, fun o4 ho4 => ?_⟩
  have yo4 := Same.new ho4 (.tup [V.str "box", .int (if (600 : Int) < 1 + (k : Int) + 1 then (600 : Int) else 1 + (k : Int) + 1), .int (1 + (l : Int))])
  have ko4 : KnAt (upd HC o4 (.tup [V.str "box", .int (if (600 : Int) < 1 + (k : Int) + 1 then (600 : Int) else 1 + (k : Int) + 1), .int (1 + (l : Int))])) o4 (.box k2 (1 + l)) := by show _ = some (HO.tup [V.str "box", V.int ((k2 : Nat) : Int), V.int ((1 + l : Nat) : Int)]); rw [← em, el]; exact upd_same
  generalize upd HC o4 (.tup [V.str "box", .int (if (600 : Int) < 1 + (k : Int) + 1 then (600 : Int) else 1 + (k : Int) + 1), .int (1 + (l : Int))]) = HD at yo4 ko4
  refine ⟨o4, n, .box k2 (1 + l), rfl, by omega, ko4, ⟨by omega, by omega⟩, fun rD HE yE hrE => ?_⟩
  have hrB : HE rB = some (.tup ((tb (bx (1 + l) (1 + k)) (n + 1)).map V.int)) := by
    rw [yE _ _ (yo4 _ _ hrC)]
    show some (HO.tup ((tb (bx (1 + l) (min (1 + k) n)) (n + 1)).map V.int)) = _
    rw [box_row]
  have hrD : HE rD = some (.tup ((tb (bx (1 + l) k2) (n + 1)).map V.int)) := by
    rw [hrE]
    show some (HO.tup ((tb (bx (1 + l) (min k2 n)) (n + 1)).map V.int)) = _
    rw [box_row]
  have haE := yE _ _ (yo4 _ _ (yC _ _ (yo3 _ _ haA)))
  have stE := (((stA.same yo3).same yC).same yo4).same yE
  have more : ∀ j, bx (1 + l) (1 + k) j ≤ bx (1 + l) k2 j := fun j => by
    by_cases h : 1 + k + 1 ≤ 600
    · rw [show k2 = 1 + k + 1 by omega]; exact bx_more _ _ _
    · rw [show k2 = 1 + k by omega]; exact Int.le_refl _
  have whole : ∀ m, m ≤ 1 + k → m ≤ 1 + l → m ≤ n → tb (bx (1 + l) (1 + k)) (m + 1) = tb W (m + 1) := fun m h1 h2 h3 => tb_ext fun j hj => box_W (by omega) (by omega) (by omega)
  generalize bx (1 + l) (1 + k) = g1 at hrB more whole
  generalize bx (1 + l) k2 = g2 at hrD more
  refine ⟨_, _, rfl, ?_⟩
  refine ⟨true, true, _, _, SqK_tup hrB, SqK_tup hrD, ?_⟩
  refine cmp_zip (xs := (tb g1 (n + 1)).map V.int) (ys := (tb g2 (n + 1)).map V.int) (fun j zs H' => Same HE H' ∧ zs = (List.replicate j false).map V.bl) ⟨Same.refl _, rfl⟩ ?_ ?_ ?_ ?_
  · rintro j zs H' _ ⟨y', _⟩
    exact ⟨SqK_tup (y' _ _ hrB), SqK_tup (y' _ _ hrD)⟩
  · rintro j zs H' hj ⟨_, rfl⟩
    rw [tbI_len, tbI_len] at hj
    rw [List.length_map, List.length_replicate]
    exact small1000 (by omega)
  · rintro j x y zs H' t hx hy ⟨y', rfl⟩ ht
    have yt := Same.new ht (.tup [x, y])
    have hj : j < n + 1 := by have := (List.getElem?_eq_some_iff.mp hx).1; rw [tbI_len] at this; exact this
    rw [tbI_get hj] at hx hy
    have ex := (Option.some.inj hx).symm
    have ey := (Option.some.inj hy).symm
    subst ex ey
    refine ⟨t, _, rfl, SqT.of upd_same, rfl, _, _, rfl, _, _, rfl, rfl, ?_⟩
    refine ⟨y'.trans yt, ?_⟩
    have e : decide (g2 j < g1 j) = false := decide_eq_false (by have := more j; omega)
    rw [List.replicate_succ', List.map_append, ← e]
    rfl
  · rintro zs H' ⟨y', rfl⟩ D hD
    have yD := Same.new hD (.lst ((List.replicate (min ((tb g1 (n + 1)).map V.int).length ((tb g2 (n + 1)).map V.int).length) false).map V.bl))
    refine ⟨_, SqL.of upd_same, ?_⟩
    have ea : (List.replicate (min ((tb g1 (n + 1)).map V.int).length ((tb g2 (n + 1)).map V.int).length) false).any id = false := by rw [List.any_replicate]; simp
    rw [ea]
    have yy := y'.trans yD
    have hrB := yy _ _ hrB
    have haE := yy _ _ haE
    have stE := stE.same yy
    generalize upd H' D (.lst ((List.replicate (min ((tb g1 (n + 1)).map V.int).length ((tb g2 (n + 1)).map V.int).length) false).map V.bl)) = HF at hrB haE stE
    refine fun M hM m1 m2 m3 => ?_
    obtain ⟨M, rfl⟩ : ∃ t' : Nat, M = (t' : Int) := ⟨M.toNat, by omega⟩
    have eM : ((M + 1 : Nat) : Int) = (M : Int) + 1 := by omega
    refine ⟨(M : Int) + 1, rfl, rB, rfl, .inl ⟨_, hrB, fun s1 G1 z1 hs1 => ?_⟩⟩
    rw [← eM, cut_take, tb_take _ (by omega), whole M (by omega) (by omega) (by omega)] at hs1
    refine ⟨(M : Int) + 1, rfl, a, rfl, .inl ⟨_, z1 _ _ haE, fun s2 G2 z2 hs2 => ?_⟩⟩
    rw [← eM, cut_take, tb_take _ (by omega)] at hs2
    refine ⟨_, _, .ints (z2 _ _ hs1), .ints hs2, shaped_ints _, shaped_ints _, ?_⟩
    rw [if_neg (by decide), eqv_self (shaped_ints _)]
    refine ⟨_, .inr (z2 _ _ (z1 _ _ hrB)), ?_⟩
    rw [tbI_len]
    show Q (.bl (decide (V.int ((n + 1 : Nat) : Int) = V.int ((n : Int) + 1)))) G2
    rw [decide_eq_true (by rw [Int.natCast_add]; rfl)]
    exact q _ ((stE.same z1).same z2)
end
end K16
set_option Elab.async false
set_option linter.all false
set_option maxRecDepth 100000
set_option maxHeartbeats 4000000
namespace K16
open PySem L2 MRow M27 M80 M17 M12 M24 M16 M13 M14 M15
section
variable {P : Program} {w : World} {K : PySem.W.Frag} {mg : Str → Option Value} {base : Heap} {f : Addr} {fd : FuncData}
theorem sc_law : FnScope ["_law_script", "_law_k", "_law_hand_here", "_law_far", "_law_way", "_law_most", "_law_whole"] ["_law_script"] (defScope (top 22)) := ⟨rfl, rfl, rfl, by decide +kernel, rfl, by decide +kernel, by decide +kernel⟩
noncomputable def sp_law (K : PySem.W.Frag) : Sp := fun vs H Q _ => ∃ (a : Addr) (ns : List Int), vs = [.ref a] ∧ SqL K H a (ns.map V.int) ∧ ns.length ≤ 63 ∧ ∀ H', Q (.bl true) H'
theorem ok_law (F : Fun K "law" "law" (top 22) f fd) (m_len : mg "len" = none) (m_max : mg "max" = none) (m_min : mg "min" = none) (m_range : mg "range" = none) (m_sum : mg "sum" = none) (F_law_box_right : FnA P w K mg base "_law_box_right" 5 ["_law_hand_here", "_law_whole"] sp_xr) (F_law_corners_right : FnA P w K mg base "_law_corners_right" 2 ["_law_whole", "_law_most"] sp_cr) (F_law_hand : FnA P w K mg base "_law_hand" 1 ["_law_script", "_law_k"] (sp_hand K)) (F_law_number_right : FnA P w K mg base "_law_number_right" 5 ["_law_hand_here", "_law_whole", "_law_n"] sp_nb) (F_law_take : FnA P w K mg base "_law_take" 1 ["_law_hand_here", "_law_many"] sp_take) (F_by_square : FnA P w K mg base "by_square" 2 ["n"] sp_by_square) (F_counts : FnA P w K mg base "counts" 4 ["kind", "most"] sp_counts) : FnOk P w K mg base CX0 6 f fd ["_law_script"] (sp_law K) := by
  refine F.okz sc_law (fun vs H Q E h => ?_) (fun cdv A outer s H vs Q E hr h => ?_)
  · obtain ⟨a, ns, rfl, _⟩ := h; rfl
  obtain ⟨a, ns, rfl, hS, hl, q⟩ := h
  have nd := sc_law.nd
  have hu := hr.units
  refine ⟨_, (zss_cons (zs_for PassesOwn.never rfl (zi_range1 rfl m_range (za_cons (zcb_max rfl rfl m_max (za_cons ze_int (za_cons (zcb_min rfl rfl m_min (za_cons (zcb_len rfl m_len (za_cons (zn 0) za_nil) rfl rfl) (za_cons ze_int za_nil)) rfl rfl) za_nil)) rfl rfl) za_nil)) (zg_name (i := 1) nd rfl (Or.inl rfl)) (zss_cons (zs_set (i := 2) nd rfl (Or.inl rfl) (ze_fn F_law_hand hr (by decide) rfl (za_cons (zn 0) (za_cons (zn 1) za_nil))))
      (zss_cons (zs_par (i := 3) (j := 4) rfl nd rfl rfl (by decide) rfl rfl (za_cons (ze_fn F_law_take hr (by decide) rfl (za_cons (zn 2) (za_cons ze_int za_nil))) (za_cons (ze_fn F_law_take hr (by decide) rfl (za_cons (zn 2) (za_cons ze_int za_nil))) za_nil)) rfl)
      (zss_cons (zs_set (i := 5) nd rfl (Or.inl rfl) (ze_ifExp (zt_cmpP (op_eqD hu) (zn 3) ze_int (nomark _)) ze_int (ze_fn F_law_take hr (by decide) rfl (za_cons (zn 2) (za_cons ze_int za_nil)))))
      (zss_cons (zs_set (i := 6) nd rfl (Or.inl rfl) (ze_fn F_counts hr (by decide) rfl (za_cons (ze_tup (za_cons ze_str za_nil)) (za_cons ze_int za_nil))))
      (zss_cons (zs_if (ZW.zt (zw_or (zt_not (zt_valP (ze_fn F_law_corners_right hr (by decide) rfl (za_cons (zn 6) (za_cons (zn 5) za_nil))))) (zw_or1 (zt_cmpP (op_neD hu) (zcb_sum rfl rfl m_sum (za_cons (ze_fn F_by_square hr (by decide) rfl (za_cons (zn 5) za_nil)) za_nil) rfl rfl) (ze_ix ix_P (zn 6) (zn 5) (fun _ _ => rfl)) (nomark _))))) (zss_one (zs_ret ze_bl)) zss_nil)
      (zss_cons (zs_if (ZW.zt (zw_and (zt_cmpP (op_eqD hu) (zn 4) ze_int (nomark _)) (zw_and1 (zt_cmpP (op_neD hu) (ze_fn F_counts hr (by decide) rfl (za_cons (ze_tup (za_cons ze_str za_nil)) (za_cons (zn 5) za_nil))) (ze_slice sl_P (zn 6) zo_none (zo_some (ze_op op_addP (zn 5) ze_int))) (nomark _))))) (zss_one (zs_ret ze_bl)) zss_nil)
      (zss_cons (zs_if (ZW.zt (zw_and (zt_cmpP (op_eqD hu) (zn 4) ze_int (nomark _)) (zw_and1 (zt_not (zt_valP (ze_fn F_law_number_right hr (by decide) rfl (za_cons (zn 2) (za_cons (zn 6) (za_cons (ze_fn F_law_take hr (by decide) rfl (za_cons (zn 2) (za_cons ze_int za_nil))) za_nil))))))))) (zss_one (zs_ret ze_bl)) zss_nil)
      (zss_one (zs_if (ZW.zt (zw_and (zt_cmpP (op_eqD hu) (zn 4) ze_int (nomark _)) (zw_and1 (zt_not (zt_valP (ze_fn F_law_box_right hr (by decide) rfl (za_cons (zn 2) (za_cons (zn 6) za_nil)))))))) (zss_one (zs_ret ze_bl)) zss_nil))))))))))
      (zss_one (zs_ret ze_bl))), ?_⟩
  refine ⟨_, .inl hS, ?_⟩
  rw [List.length_map]
  have hm : 0 ≤ (if (2 : Int) < (ns.length : Int) then 2 else (ns.length : Int)) ∧ (if (2 : Int) < (ns.length : Int) then 2 else (ns.length : Int)) ≤ 2 := by split <;> omega
  obtain ⟨mx, emx, mx0, mx1⟩ : ∃ mx : Int, (if (1 : Int) < (if (2 : Int) < (ns.length : Int) then 2 else (ns.length : Int)) then (if (2 : Int) < (ns.length : Int) then 2 else (ns.length : Int)) else 1) = mx ∧ 1 ≤ mx ∧ mx ≤ 2 := ⟨_, rfl, by split <;> omega, by split <;> omega⟩
  refine ⟨mx, congrArg (fun z => [V.int z]) emx, by omega, by omega, ?_⟩
  refine for_range (fun i σ H' => i ≤ 2 ∧ Same H H' ∧ ∃ x1 x2 x3 x4 x5 x6, σ = [some (.ref a), x1, x2, x3, x4, x5, x6]) ⟨by decide, Same.refl _, _, _, _, _, _, _, rfl⟩ ?_ ?_
  · rintro i σ H' hi ⟨_, y, x1, x2, x3, x4, x5, x6, rfl⟩
    refine ⟨a, 0 + (i : Int), ns, rfl, SqL.same y hS, by omega, by omega, fun p H1 hp y1 hh => ?_⟩
    have pH : H p = none := fresh_back y hp
    refine ⟨p, 4, 0, rfl, hh, by decide, by decide, by decide, fun fr H2 f0 f1 k2 => ?_⟩
    refine ⟨p, 2, 1, rfl, k2.2, by decide, by decide, by decide, fun wy H3 w0 w1 k3 => ?_⟩
    refine ⟨_, _, rfl, ?_⟩
    have kk3 : ∀ b o, b ≠ p → H b = some o → H3 b = some o := fun b o nb e => k3.1 b o nb (k2.1 b o nb (y1 _ _ (y _ _ e)))
    refine iteD (fun _ => ?ten) (fun _ => ?els)
    case' els =>
      refine ⟨p, 601, 2, rfl, k3.2, by decide, by decide, by decide, fun r H4 r0 r1 k4 => ?_⟩
      obtain ⟨n, rfl⟩ : ∃ n : Nat, r = (n : Int) := ⟨r.toNat, by omega⟩
      have hn : n ≤ 600 := by omega
      have hh5 := k4.2
      have kk5 : ∀ b o, b ≠ p → H b = some o → H4 b = some o := fun b o nb e => k4.1 b o nb (kk3 b o nb e)
      refine ⟨by show 1 ≤ sizeLine; decide, fun o1 ho1 => ?_⟩
      have yo1 := Same.new ho1 (.tup [V.str "all"])
      have ko1 : KnAt (upd H4 o1 (.tup [V.str "all"])) o1 .all := upd_same
      generalize upd H4 o1 (.tup [V.str "all"]) = H5 at yo1 ko1
      refine ⟨o1, 600, .all, rfl, by decide, ko1, trivial, fun W1 H6 y6 hW6 => ?_⟩
    case' ten =>
      refine ⟨by show 1 ≤ sizeLine; decide, fun o1 ho1 => ?_⟩
      obtain ⟨H4, eH⟩ : ∃ H4, H4 = H3 := ⟨_, rfl⟩
      rw [← eH] at ho1 ⊢
      have hh5 : Hand H4 p 3 := by rw [eH]; exact k3.2.mono (by decide)
      have kk5 : ∀ b o, b ≠ p → H b = some o → H4 b = some o := by rw [eH]; exact kk3
      have yo1 := Same.new ho1 (.tup [V.str "all"])
      have ko1 : KnAt (upd H4 o1 (.tup [V.str "all"])) o1 .all := upd_same
      generalize upd H4 o1 (.tup [V.str "all"]) = H5 at yo1 ko1
      refine ⟨o1, 600, .all, rfl, by decide, ko1, trivial, fun W1 H6 y6 hW6 => ?_⟩
      obtain ⟨n, en⟩ : ∃ n : Nat, (n : Int) = 600 := ⟨600, rfl⟩
      have hn : n ≤ 600 := by omega
      rw [← en]
    all_goals
      have hW6 : H6 W1 = some (.tup ((tb W 601).map V.int)) := by
        rw [hW6]
        show some (HO.tup ((tb (PL dl (ups 600)) 601).map V.int)) = _
        rw [PL_ups]
        rfl
      have hh6 := (hh5.same yo1).same y6
      have kk6 : ∀ b o, b ≠ p → H b = some o → H6 b = some o := fun b o nb e => y6 _ _ (yo1 _ _ (kk5 b o nb e))
      refine ⟨W1, n, rfl, hn, hW6, fun H7 y7 => ?_⟩
      refine ⟨n, rfl, hn, fun B H8 y8 hB8 => ?_⟩
      have sq := by_squares hn
      generalize bySq n = bs at hB8 sq
      have hW8 := y8 _ _ (y7 _ _ hW6)
      have hh8 := (hh6.same y7).same y8
      have kk8 : ∀ b o, b ≠ p → H b = some o → H8 b = some o := fun b o nb e => y8 _ _ (y7 _ _ (kk6 b o nb e))
      refine ⟨_, .inr hB8, ?_⟩
      refine ⟨_, .inr hW8, .int (W n), atI_of (j := n) rfl (tbI_get (by omega)), ?_⟩
      refine iteB (fun c => ?_) (fun _ => ?_)
      · exfalso
        have z : (!decide (V.int bs.sum = V.int (W n))) = true := c
        rw [sq] at z
        simp at z
      have done : ∀ (H5 : Hp) (v3 v4 v5 v6 : V), (∀ b o, b ≠ p → H b = some o → H5 b = some o) → i + 1 ≤ 2 ∧ Same H H5 ∧ ∃ x1 x2 x3 x4 x5 x6, [some (V.ref a), some (.int (0 + (i : Int))), some (.ref p), some v3, some v4, some v5, some v6] = [some (.ref a), x1, x2, x3, x4, x5, x6] := fun H5 v3 v4 v5 v6 kk => ⟨by omega, fun b o e => kk b o (fun z => by rw [z, pH] at e; cases e) e, _, _, _, _, _, _, rfl⟩
      have : wy = 0 ∨ wy = 1 := by omega
      rcases this with rfl | rfl
      · refine ⟨by show 1 ≤ sizeLine; decide, fun o2 ho2 => ?_⟩
        have yo2 := Same.new ho2 (.tup [V.str "all"])
        have ko2 : KnAt (upd H8 o2 (.tup [V.str "all"])) o2 .all := upd_same
        generalize upd H8 o2 (.tup [V.str "all"]) = H9 at yo2 ko2
        refine ⟨o2, n, .all, rfl, hn, ko2, trivial, fun R HA yA hRA => ?_⟩
        have hWA := yA _ _ (yo2 _ _ hW8)
        refine ⟨(n : Int) + 1, rfl, W1, rfl, .inl ⟨_, hWA, fun s1 HB zB hs1 => ?_⟩⟩
        rw [show (n : Int) + 1 = ((n + 1 : Nat) : Int) from (Int.natCast_add n 1).symm, cut_take, tb_take _ (by omega)] at hs1
        have eR : tb (cf .all n) (n + 1) = tb W (n + 1) := tb_ext fun j hj => W_is hn (by omega)
        rw [eR] at hRA
        refine ⟨_, _, .ints (zB _ _ hRA), .ints hs1, shaped_ints _, shaped_ints _, ?_⟩
        refine iteB (fun c => absurd c (by rw [if_pos rfl, eqv_self (shaped_ints _)]; decide)) (fun _ => ?_)
        have hhB := ((hh8.same yo2).same yA).same zB
        refine ⟨p, 201, 3, rfl, hhB, by decide, by decide, by decide, fun r HC r0 r1 kC => ?_⟩
        obtain ⟨m, rfl⟩ : ∃ m : Nat, r = (m : Int) := ⟨r.toNat, by omega⟩
        have hWC := kC.tup hhB (zB _ _ hWA)
        refine ⟨p, W1, 4, m, rfl, kC.2, by decide, by omega, hWC, fun HD kD => ?_⟩
        exact done HD _ _ _ _ fun b o nb e => kD.1 b o nb (kC.1 b o nb (zB _ _ (yA _ _ (yo2 _ _ (kk8 b o nb e)))))
      · refine ⟨p, W1, 3, rfl, hh8, by decide, hW8, fun HD kD => ?_⟩
        exact done HD _ _ _ _ fun b o nb e => kD.1 b o nb (kk8 b o nb e)
  · rintro σ H' ⟨_, y, x1, x2, x3, x4, x5, x6, rfl⟩
    exact q _
end
end K16
set_option Elab.async false
set_option linter.all false
set_option maxRecDepth 100000
set_option maxHeartbeats 4000000
namespace K16
open PySem L2
theorem fnA {P : Program} {w : World} {K : PySem.W.Frag} {mg : Str → Option Value} {base : Heap} {x : Str} {k : Nat} {ps : List Str} {sp : Sp} {f : Addr} {fd : FuncData} (F : FnOk P w K mg base CX0 k f fd ps sp) (b : Binds K fd ps []) (kp : PySem.W.keepIn K (.ref f) = true) (m : mg x = some (.ref f)) : FnA P w K mg base x k ps sp := ⟨⟨f, fd, F, b, kp, m⟩⟩
theorem us1 {α : Type} {p : List α → Prop} (h : ∀ a, p [a]) : ∀ us : List α, us.length = 1 → p us
  | [a], _ => h a
theorem us2 {α : Type} {p : List α → Prop} (h : ∀ a b, p [a, b]) : ∀ us : List α, us.length = 2 → p us
  | [a, b], _ => h a b
theorem us3 {α : Type} {p : List α → Prop} (h : ∀ a b c, p [a, b, c]) : ∀ us : List α, us.length = 3 → p us
  | [a, b, c], _ => h a b c
theorem all_mk {l : PySem.W.OpenLaw} {w : World} {K : PySem.W.Frag} {h : Heap} {mg : Str → Option Value} {fa f1 f2 f3 f4 f5 f6 f7 f8 f9 f10 f11 f12 f13 f14 f15 f16 f17 f18 f19 : Addr} (X : K.In h) (G : h.Ns mainGlobals mg) (hfa : mg "law" = some (.ref fa))
    {od1 an1 od2 an2 od3 an3 od4 an4 od5 an5 od6 an6 od7 an7 od8 an8 od9 an9 od10 an10 od11 an11 od12 an12 od13 an13 od14 an14 od15 an15 od16 an16 od17 an17 od18 an18 od19 an19 : Option Addr} {sl1 sl2 sl3 sl4 sl5 sl6 sl7 sl8 sl9 sl10 sl11 sl12 sl13 sl14 sl15 sl16 sl17 sl18 sl19 : Array (Option Value)} {oc1 kV1 dc1 pm1 cd1 ct1 oc2 kV2 dc2 pm2 cd2 ct2 oc3 kV3 dc3 pm3 cd3 ct3 oc4 kV4 dc4 pm4 cd4 ct4 oc5 kV5 dc5 pm5 cd5 ct5 oc6 kV6 dc6 pm6 cd6 ct6 oc7 kV7 dc7 pm7 cd7 ct7 oc8 kV8 dc8 pm8 cd8 ct8 oc9 kV9 dc9 pm9 cd9 ct9 oc10 kV10 dc10 pm10 cd10 ct10 oc11 kV11 dc11 pm11 cd11 ct11 oc12 kV12 dc12 pm12 cd12 ct12 oc13 kV13 dc13 pm13 cd13 ct13 oc14 kV14 dc14 pm14 cd14 ct14 oc15 kV15 dc15 pm15 cd15 ct15 oc16 kV16 dc16 pm16 cd16 ct16 oc17 kV17 dc17 pm17 cd17 ct17 oc18 kV18 dc18 pm18 cd18 ct18 oc19 kV19 dc19 pm19 cd19 ct19 : Value}
    (a1 : PySem.W.nsIn K mainGlobals "begun" = some (some (.ref f1))) (l1 : K.lookup f1 = some ⟨oc1, od1, .func (PySem.W.fnOf "begun" "begun" (defArgs (top 1)) (defBody (top 1)) (defScope (top 1)) .none kV1 dc1 pm1 an1 cd1 ct1), sl1⟩) (c1 : PySem.W.codeIn K cd1 "begun" = true) (k1 : PySem.W.keepIn K (.ref f1) = true)
    (a2 : PySem.W.nsIn K mainGlobals "put_on" = some (some (.ref f2))) (l2 : K.lookup f2 = some ⟨oc2, od2, .func (PySem.W.fnOf "put_on" "put_on" (defArgs (top 2)) (defBody (top 2)) (defScope (top 2)) .none kV2 dc2 pm2 an2 cd2 ct2), sl2⟩) (c2 : PySem.W.codeIn K cd2 "put_on" = true) (k2 : PySem.W.keepIn K (.ref f2) = true)
    (a3 : PySem.W.nsIn K mainGlobals "taken_off" = some (some (.ref f3))) (l3 : K.lookup f3 = some ⟨oc3, od3, .func (PySem.W.fnOf "taken_off" "taken_off" (defArgs (top 3)) (defBody (top 3)) (defScope (top 3)) .none kV3 dc3 pm3 an3 cd3 ct3), sl3⟩) (c3 : PySem.W.codeIn K cd3 "taken_off" = true) (k3 : PySem.W.keepIn K (.ref f3) = true)
    (a4 : PySem.W.nsIn K mainGlobals "of_sizes" = some (some (.ref f4))) (l4 : K.lookup f4 = some ⟨oc4, od4, .func (PySem.W.fnOf "of_sizes" "of_sizes" (defArgs (top 5)) (defBody (top 5)) (defScope (top 5)) .none kV4 dc4 pm4 an4 cd4 ct4), sl4⟩) (c4 : PySem.W.codeIn K cd4 "of_sizes" = true) (k4 : PySem.W.keepIn K (.ref f4) = true)
    (a5 : PySem.W.nsIn K mainGlobals "of_sizes_below" = some (some (.ref f5))) (l5 : K.lookup f5 = some ⟨oc5, od5, .func (PySem.W.fnOf "of_sizes_below" "of_sizes_below" (defArgs (top 6)) (defBody (top 6)) (defScope (top 6)) .none kV5 dc5 pm5 an5 cd5 ct5), sl5⟩) (c5 : PySem.W.codeIn K cd5 "of_sizes_below" = true) (k5 : PySem.W.keepIn K (.ref f5) = true)
    (a6 : PySem.W.nsIn K mainGlobals "in_box" = some (some (.ref f6))) (l6 : K.lookup f6 = some ⟨oc6, od6, .func (PySem.W.fnOf "in_box" "in_box" (defArgs (top 7)) (defBody (top 7)) (defScope (top 7)) .none kV6 dc6 pm6 an6 cd6 ct6), sl6⟩) (c6 : PySem.W.codeIn K cd6 "in_box" = true) (k6 : PySem.W.keepIn K (.ref f6) = true)
    (a7 : PySem.W.nsIn K mainGlobals "falling_by" = some (some (.ref f7))) (l7 : K.lookup f7 = some ⟨oc7, od7, .func (PySem.W.fnOf "falling_by" "falling_by" (defArgs (top 8)) (defBody (top 8)) (defScope (top 8)) .none kV7 dc7 pm7 an7 cd7 ct7), sl7⟩) (c7 : PySem.W.codeIn K cd7 "falling_by" = true) (k7 : PySem.W.keepIn K (.ref f7) = true)
    (a8 : PySem.W.nsIn K mainGlobals "counted" = some (some (.ref f8))) (l8 : K.lookup f8 = some ⟨oc8, od8, .func (PySem.W.fnOf "counted" "counted" (defArgs (top 9)) (defBody (top 9)) (defScope (top 9)) .none kV8 dc8 pm8 an8 cd8 ct8), sl8⟩) (c8 : PySem.W.codeIn K cd8 "counted" = true) (k8 : PySem.W.keepIn K (.ref f8) = true)
    (a9 : PySem.W.nsIn K mainGlobals "counts" = some (some (.ref f9))) (l9 : K.lookup f9 = some ⟨oc9, od9, .func (PySem.W.fnOf "counts" "counts" (defArgs (top 10)) (defBody (top 10)) (defScope (top 10)) .none kV9 dc9 pm9 an9 cd9 ct9), sl9⟩) (c9 : PySem.W.codeIn K cd9 "counts" = true) (k9 : PySem.W.keepIn K (.ref f9) = true)
    (a10 : PySem.W.nsIn K mainGlobals "by_number" = some (some (.ref f10))) (l10 : K.lookup f10 = some ⟨oc10, od10, .func (PySem.W.fnOf "by_number" "by_number" (defArgs (top 12)) (defBody (top 12)) (defScope (top 12)) .none kV10 dc10 pm10 an10 cd10 ct10), sl10⟩) (c10 : PySem.W.codeIn K cd10 "by_number" = true) (k10 : PySem.W.keepIn K (.ref f10) = true)
    (a11 : PySem.W.nsIn K mainGlobals "by_square" = some (some (.ref f11))) (l11 : K.lookup f11 = some ⟨oc11, od11, .func (PySem.W.fnOf "by_square" "by_square" (defArgs (top 13)) (defBody (top 13)) (defScope (top 13)) .none kV11 dc11 pm11 an11 cd11 ct11), sl11⟩) (c11 : PySem.W.codeIn K cd11 "by_square" = true) (k11 : PySem.W.keepIn K (.ref f11) = true)
    (a12 : PySem.W.nsIn K mainGlobals "corners" = some (some (.ref f12))) (l12 : K.lookup f12 = some ⟨oc12, od12, .func (PySem.W.fnOf "corners" "corners" (defArgs (top 14)) (defBody (top 14)) (defScope (top 14)) .none kV12 dc12 pm12 an12 cd12 ct12), sl12⟩) (c12 : PySem.W.codeIn K cd12 "corners" = true) (k12 : PySem.W.keepIn K (.ref f12) = true)
    (a13 : PySem.W.nsIn K mainGlobals "_law_hand" = some (some (.ref f13))) (l13 : K.lookup f13 = some ⟨oc13, od13, .func (PySem.W.fnOf "_law_hand" "_law_hand" (defArgs (top 16)) (defBody (top 16)) (defScope (top 16)) .none kV13 dc13 pm13 an13 cd13 ct13), sl13⟩) (c13 : PySem.W.codeIn K cd13 "_law_hand" = true) (k13 : PySem.W.keepIn K (.ref f13) = true)
    (a14 : PySem.W.nsIn K mainGlobals "_law_take" = some (some (.ref f14))) (l14 : K.lookup f14 = some ⟨oc14, od14, .func (PySem.W.fnOf "_law_take" "_law_take" (defArgs (top 17)) (defBody (top 17)) (defScope (top 17)) .none kV14 dc14 pm14 an14 cd14 ct14), sl14⟩) (c14 : PySem.W.codeIn K cd14 "_law_take" = true) (k14 : PySem.W.keepIn K (.ref f14) = true)
    (a15 : PySem.W.nsIn K mainGlobals "_law_corners_right" = some (some (.ref f15))) (l15 : K.lookup f15 = some ⟨oc15, od15, .func (PySem.W.fnOf "_law_corners_right" "_law_corners_right" (defArgs (top 18)) (defBody (top 18)) (defScope (top 18)) .none kV15 dc15 pm15 an15 cd15 ct15), sl15⟩) (c15 : PySem.W.codeIn K cd15 "_law_corners_right" = true) (k15 : PySem.W.keepIn K (.ref f15) = true)
    (a16 : PySem.W.nsIn K mainGlobals "_law_ways" = some (some (.ref f16))) (l16 : K.lookup f16 = some ⟨oc16, od16, .func (PySem.W.fnOf "_law_ways" "_law_ways" (defArgs (top 19)) (defBody (top 19)) (defScope (top 19)) .none kV16 dc16 pm16 an16 cd16 ct16), sl16⟩) (c16 : PySem.W.codeIn K cd16 "_law_ways" = true) (k16 : PySem.W.keepIn K (.ref f16) = true)
    (a17 : PySem.W.nsIn K mainGlobals "_law_number_right" = some (some (.ref f17))) (l17 : K.lookup f17 = some ⟨oc17, od17, .func (PySem.W.fnOf "_law_number_right" "_law_number_right" (defArgs (top 20)) (defBody (top 20)) (defScope (top 20)) .none kV17 dc17 pm17 an17 cd17 ct17), sl17⟩) (c17 : PySem.W.codeIn K cd17 "_law_number_right" = true) (k17 : PySem.W.keepIn K (.ref f17) = true)
    (a18 : PySem.W.nsIn K mainGlobals "_law_box_right" = some (some (.ref f18))) (l18 : K.lookup f18 = some ⟨oc18, od18, .func (PySem.W.fnOf "_law_box_right" "_law_box_right" (defArgs (top 21)) (defBody (top 21)) (defScope (top 21)) .none kV18 dc18 pm18 an18 cd18 ct18), sl18⟩) (c18 : PySem.W.codeIn K cd18 "_law_box_right" = true) (k18 : PySem.W.keepIn K (.ref f18) = true)
    (a19 : PySem.W.nsIn K mainGlobals "law" = some (some (.ref f19))) (l19 : K.lookup f19 = some ⟨oc19, od19, .func (PySem.W.fnOf "law" "law" (defArgs (top 22)) (defBody (top 22)) (defScope (top 22)) .none kV19 dc19 pm19 an19 cd19 ct19), sl19⟩) (c19 : PySem.W.codeIn K cd19 "law" = true) (k19 : PySem.W.keepIn K (.ref f19) = true)
    (z1 : PySem.W.nsIn K mainGlobals "len" = some none) (z2 : PySem.W.nsIn K mainGlobals "list" = some none) (z3 : PySem.W.nsIn K mainGlobals "range" = some none) (z4 : PySem.W.nsIn K mainGlobals "min" = some none) (z5 : PySem.W.nsIn K mainGlobals "tuple" = some none) (z6 : PySem.W.nsIn K mainGlobals "abs" = some none) (z7 : PySem.W.nsIn K mainGlobals "sum" = some none) (z8 : PySem.W.nsIn K mainGlobals "any" = some none) (z9 : PySem.W.nsIn K mainGlobals "zip" = some none) (z10 : PySem.W.nsIn K mainGlobals "max" = some none) :
    ∃ fd : FuncData, (∀ (s : Shared) (v : Value), BindsTo s fd ⟨[v], []⟩ [("_law_script", v)]) ∧ ∀ base : Heap, K.In base → base.Ns mainGlobals mg → FnOk l.prog w K mg base CX0 6 fa fd ["_law_script"] (sp_law K) := by
  have e := hfa.symm.trans (PySem.W.mg_of X G a19)
  cases e
  have F1 := fun_mk (st := top 1) l1 c1 k1
  have b1 := F1.binds (ps := ["most"]) fun _ _ _ _ _ _ => us1 fun _ => rfl
  have F2 := fun_mk (st := top 2) l2 c2 k2
  have b2 := F2.binds (ps := ["row", "size"]) fun _ _ _ _ _ _ => us2 fun _ _ => rfl
  have F3 := fun_mk (st := top 3) l3 c3 k3
  have b3 := F3.binds (ps := ["row", "size"]) fun _ _ _ _ _ _ => us2 fun _ _ => rfl
  have F4 := fun_mk (st := top 5) l4 c4 k4
  have b4 := F4.binds (ps := ["some", "most"]) fun _ _ _ _ _ _ => us2 fun _ _ => rfl
  have F5 := fun_mk (st := top 6) l5 c5 k5
  have b5 := F5.binds (ps := ["some", "m", "most"]) fun _ _ _ _ _ _ => us3 fun _ _ _ => rfl
  have F6 := fun_mk (st := top 7) l6 c6 k6
  have b6 := F6.binds (ps := ["k", "l", "most"]) fun _ _ _ _ _ _ => us3 fun _ _ _ => rfl
  have F7 := fun_mk (st := top 8) l7 c7 k7
  have b7 := F7.binds (ps := ["d", "most"]) fun _ _ _ _ _ _ => us2 fun _ _ => rfl
  have F8 := fun_mk (st := top 9) l8 c8 k8
  have b8 := F8.binds (ps := ["kind", "most"]) fun _ _ _ _ _ _ => us2 fun _ _ => rfl
  have F9 := fun_mk (st := top 10) l9 c9 k9
  have b9 := F9.binds (ps := ["kind", "most"]) fun _ _ _ _ _ _ => us2 fun _ _ => rfl
  have F10 := fun_mk (st := top 12) l10 c10 k10
  have b10 := F10.binds (ps := ["n"]) fun _ _ _ _ _ _ => us1 fun _ => rfl
  have F11 := fun_mk (st := top 13) l11 c11 k11
  have b11 := F11.binds (ps := ["n"]) fun _ _ _ _ _ _ => us1 fun _ => rfl
  have F12 := fun_mk (st := top 14) l12 c12 k12
  have b12 := F12.binds (ps := ["most"]) fun _ _ _ _ _ _ => us1 fun _ => rfl
  have F13 := fun_mk (st := top 16) l13 c13 k13
  have b13 := F13.binds (ps := ["_law_script", "_law_k"]) fun _ _ _ _ _ _ => us2 fun _ _ => rfl
  have F14 := fun_mk (st := top 17) l14 c14 k14
  have b14 := F14.binds (ps := ["_law_hand_here", "_law_many"]) fun _ _ _ _ _ _ => us2 fun _ _ => rfl
  have F15 := fun_mk (st := top 18) l15 c15 k15
  have b15 := F15.binds (ps := ["_law_whole", "_law_most"]) fun _ _ _ _ _ _ => us2 fun _ _ => rfl
  have F16 := fun_mk (st := top 19) l16 c16 k16
  have b16 := F16.binds (ps := ["_law_many", "_law_some"]) fun _ _ _ _ _ _ => us2 fun _ _ => rfl
  have F17 := fun_mk (st := top 20) l17 c17 k17
  have b17 := F17.binds (ps := ["_law_hand_here", "_law_whole", "_law_n"]) fun _ _ _ _ _ _ => us3 fun _ _ _ => rfl
  have F18 := fun_mk (st := top 21) l18 c18 k18
  have b18 := F18.binds (ps := ["_law_hand_here", "_law_whole"]) fun _ _ _ _ _ _ => us2 fun _ _ => rfl
  have F19 := fun_mk (st := top 22) l19 c19 k19
  have m_len := PySem.W.mg_none_of X G z1
  have m_list := PySem.W.mg_none_of X G z2
  have m_range := PySem.W.mg_none_of X G z3
  have m_min := PySem.W.mg_none_of X G z4
  have m_tuple := PySem.W.mg_none_of X G z5
  have m_abs := PySem.W.mg_none_of X G z6
  have m_sum := PySem.W.mg_none_of X G z7
  have m_any := PySem.W.mg_none_of X G z8
  have m_zip := PySem.W.mg_none_of X G z9
  have m_max := PySem.W.mg_none_of X G z10
  refine ⟨PySem.W.fnOf "law" "law" (defArgs (top 22)) (defBody (top 22)) (defScope (top 22)) .none kV19 dc19 pm19 an19 cd19 ct19, fun s v => .of_eq rfl, fun base _ _ => ?_⟩
  have A1 : FnA l.prog w K mg base "begun" 1 ["most"] sp_begun := fnA (ok_begun F1) b1 k1 (PySem.W.mg_of X G a1)
  have A2 : FnA l.prog w K mg base "put_on" 1 ["row", "size"] sp_put_on := fnA (ok_put_on F2 m_len m_list m_range) b2 k2 (PySem.W.mg_of X G a2)
  have A3 : FnA l.prog w K mg base "taken_off" 1 ["row", "size"] sp_to := fnA (ok_to F3 m_len m_list m_range) b3 k3 (PySem.W.mg_of X G a3)
  have A4 : FnA l.prog w K mg base "of_sizes" 2 ["some", "most"] sp_of_sizes := fnA (ok_of_sizes F4 A1 A2) b4 k4 (PySem.W.mg_of X G a4)
  have A5 : FnA l.prog w K mg base "of_sizes_below" 2 ["some", "m", "most"] sp_osb := fnA (ok_osb F5 A1 A2 A3) b5 k5 (PySem.W.mg_of X G a5)
  have A6 : FnA l.prog w K mg base "in_box" 2 ["k", "l", "most"] sp_ib := fnA (ok_ib F6 m_min m_range A1 A2 A3) b6 k6 (PySem.W.mg_of X G a6)
  have A7 : FnA l.prog w K mg base "falling_by" 2 ["d", "most"] sp_fb := fnA (ok_fb F7 m_range A1 A2) b7 k7 (PySem.W.mg_of X G a7)
  have A8 : FnA l.prog w K mg base "counted" 3 ["kind", "most"] sp_counted := fnA (ok_counted F8 m_list m_min m_range A7 A6 A4 A5) b8 k8 (PySem.W.mg_of X G a8)
  have A9 : FnA l.prog w K mg base "counts" 4 ["kind", "most"] sp_counts := fnA (ok_counts F9 m_tuple A8) b9 k9 (PySem.W.mg_of X G a9)
  have A10 : FnA l.prog w K mg base "by_number" 2 ["n"] sp_by_number := fnA (ok_by_number F10 m_range m_tuple A1 A2) b10 k10 (PySem.W.mg_of X G a10)
  have A11 : FnA l.prog w K mg base "by_square" 2 ["n"] sp_by_square := fnA (ok_by_square F11 m_tuple A1 A2) b11 k11 (PySem.W.mg_of X G a11)
  have A12 : FnA l.prog w K mg base "corners" 1 ["most"] sp_cor := fnA (ok_corners F12 m_tuple) b12 k12 (PySem.W.mg_of X G a12)
  have A13 : FnA l.prog w K mg base "_law_hand" 1 ["_law_script", "_law_k"] (sp_hand K) := fnA (ok_hand F13 m_abs m_len) b13 k13 (PySem.W.mg_of X G a13)
  have A14 : FnA l.prog w K mg base "_law_take" 1 ["_law_hand_here", "_law_many"] sp_take := fnA (ok_take F14) b14 k14 (PySem.W.mg_of X G a14)
  have A15 : FnA l.prog w K mg base "_law_corners_right" 2 ["_law_whole", "_law_most"] sp_cr := fnA (ok_cr F15 m_range A12) b15 k15 (PySem.W.mg_of X G a15)
  have A16 : FnA l.prog w K mg base "_law_ways" 1 ["_law_many", "_law_some"] sp_wy := fnA (ok_wy F16 m_range) b16 k16 (PySem.W.mg_of X G a16)
  have A17 : FnA l.prog w K mg base "_law_number_right" 5 ["_law_hand_here", "_law_whole", "_law_n"] sp_nb := fnA (ok_nb F17 m_len m_sum A14 A10 A9) b17 k17 (PySem.W.mg_of X G a17)
  have A18 : FnA l.prog w K mg base "_law_box_right" 5 ["_law_hand_here", "_law_whole"] sp_xr := fnA (ok_xr F18 m_any m_len m_min m_sum m_zip A14 A16 A9) b18 k18 (PySem.W.mg_of X G a18)
  exact ok_law F19 m_len m_max m_min m_range m_sum A18 A15 A13 A17 A14 A11 A9
theorem walk {l : PySem.W.OpenLaw} {q : Program} {loose : List Str} {XP : (Str → Option Value) → Heap → Prop} {YP : World → Heap → Prop} {d : DefRec} {K : Params → PySem.W.Frag} (hn : l.most = some 63) (hdf : d.params.defaults = [])
    (hY : ∀ (w : World) (h : Heap), YP w h → (K w.params).In h)
    (F : ∀ (w : World) (mg : Str → Option Value) (fa : Addr) (h : Heap), (K w.params).In h → h.Ns mainGlobals mg → mg d.name = some (.ref fa) →
      ∃ fd : FuncData, (∀ (s : Shared) (u : Value), BindsTo s fd ⟨[u], []⟩ [("_law_script", u)]) ∧ ∀ base : Heap, (K w.params).In base → base.Ns mainGlobals mg → FnOk l.prog w (K w.params) mg base CX0 6 fa fd ["_law_script"] (sp_law (K w.params))) :
    PySem.W.WalkO q loose XP YP l.row.toRowW d [] (fun f vs => PySem.call f vs) :=
  L2.walk_of (n := 63) (k := 6) (x := "_law_script") (CX := fun _ => CX0) (sp := fun w => sp_law (K w.params)) hn (by decide) hdf ⟨rfl, by decide, by decide, rfl⟩ hY F (fun _ _ a ns hl _ hS => ⟨a, ns, rfl, hS, hl, fun _ => rfl⟩) fun _ _ _ _ _ z => z
end K16
open PySem PySem.W PyProof.Rows
set_option maxRecDepth 100000 in
set_option maxHeartbeats 0 in
theorem PySem.Challenge.cw_partrests_k16_whole_all_ways_agree_holds : PySem.Challenge.rw_partrests_k16_whole_all_ways_agree.Holds := by
  w_on; o_law; k_head; (case hw => w_witness2)
  k_fill
  refine K16.walk (l := PySem.Challenge.rw_partrests_k16_whole_all_ways_agree) rfl rfl (fun w h Y => PySem.W.kIn_of Y) ?F
  case F =>
    intro w mg fa h KX G hmg
    refine' K16.all_mk KX G hmg ?a1 ?l1 ?c1 ?k1 ?a2 ?l2 ?c2 ?k2 ?a3 ?l3 ?c3 ?k3 ?a4 ?l4 ?c4 ?k4 ?a5 ?l5 ?c5 ?k5 ?a6 ?l6 ?c6 ?k6 ?a7 ?l7 ?c7 ?k7 ?a8 ?l8 ?c8 ?k8 ?a9 ?l9 ?c9 ?k9 ?a10 ?l10 ?c10 ?k10 ?a11 ?l11 ?c11 ?k11 ?a12 ?l12 ?c12 ?k12 ?a13 ?l13 ?c13 ?k13 ?a14 ?l14 ?c14 ?k14 ?a15 ?l15 ?c15 ?k15 ?a16 ?l16 ?c16 ?k16 ?a17 ?l17 ?c17 ?k17 ?a18 ?l18 ?c18 ?k18 ?a19 ?l19 ?c19 ?k19  ?z1 ?z2 ?z3 ?z4 ?z5 ?z6 ?z7 ?z8 ?z9 ?z10
    (case a1 => k_is); (case l1 => k_is); (case c1 => k_is); (case k1 => k_is)
    (case a2 => k_is); (case l2 => k_is); (case c2 => k_is); (case k2 => k_is)
    (case a3 => k_is); (case l3 => k_is); (case c3 => k_is); (case k3 => k_is)
    (case a4 => k_is); (case l4 => k_is); (case c4 => k_is); (case k4 => k_is)
    (case a5 => k_is); (case l5 => k_is); (case c5 => k_is); (case k5 => k_is)
    (case a6 => k_is); (case l6 => k_is); (case c6 => k_is); (case k6 => k_is)
    (case a7 => k_is); (case l7 => k_is); (case c7 => k_is); (case k7 => k_is)
    (case a8 => k_is); (case l8 => k_is); (case c8 => k_is); (case k8 => k_is)
    (case a9 => k_is); (case l9 => k_is); (case c9 => k_is); (case k9 => k_is)
    (case a10 => k_is); (case l10 => k_is); (case c10 => k_is); (case k10 => k_is)
    (case a11 => k_is); (case l11 => k_is); (case c11 => k_is); (case k11 => k_is)
    (case a12 => k_is); (case l12 => k_is); (case c12 => k_is); (case k12 => k_is)
    (case a13 => k_is); (case l13 => k_is); (case c13 => k_is); (case k13 => k_is)
    (case a14 => k_is); (case l14 => k_is); (case c14 => k_is); (case k14 => k_is)
    (case a15 => k_is); (case l15 => k_is); (case c15 => k_is); (case k15 => k_is)
    (case a16 => k_is); (case l16 => k_is); (case c16 => k_is); (case k16 => k_is)
    (case a17 => k_is); (case l17 => k_is); (case c17 => k_is); (case k17 => k_is)
    (case a18 => k_is); (case l18 => k_is); (case c18 => k_is); (case k18 => k_is)
    (case a19 => k_is); (case l19 => k_is); (case c19 => k_is); (case k19 => k_is)
    (case z1 => k_is)
    (case z2 => k_is)
    (case z3 => k_is)
    (case z4 => k_is)
    (case z5 => k_is)
    (case z6 => k_is)
    (case z7 => k_is)
    (case z8 => k_is)
    (case z9 => k_is)
    (case z10 => k_is)

