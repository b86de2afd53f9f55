import PyProof.Rows.All
import Wide.All
import OpenK.AllK
import Wide.FinOn
import Lean
import PyProof.EqAt
import PyProof.EqKinds
import PyProof.TupleCall
import PySem.Challenge.RW_partrests_k47_frames_found
set_option Elab.async false
set_option linter.all false
set_option maxRecDepth 100000
namespace L2
open PySem PySem.Spec PyProof.Rows
noncomputable abbrev Key := Sum Int Str
noncomputable def keyIs : Key → Value → Bool
  | .inl k, v => Value.isInt k v
  | .inr x, v => Value.isStrOf x v
noncomputable def keyH (w : World) : Key → Int
  | .inl k => hashInt k
  | .inr x => hashStr w x
theorem keyIs_shape : ∀ {k : Key} {v : Value}, keyIs k v = true → (∃ i t, k = Sum.inl i ∧ v = Value.int i t) ∨ (∃ x t, k = Sum.inr x ∧ v = Value.str x t)
  | .inl i, v, h => by
    obtain ⟨t, e⟩ := Value.isInt_shape (k := i) (v := v) h
    exact .inl ⟨i, t, rfl, e⟩
  | .inr x, v, h => by
    obtain ⟨t, e⟩ := Value.isStrOf_shape (x := x) (v := v) h
    exact .inr ⟨x, t, rfl, e⟩
theorem keyIs_int (i : Int) (t : Tok) : keyIs (.inl i) (.int i t) = true := by simp [keyIs, Value.isInt]
theorem keyIs_str (x : Str) (t : Tok) : keyIs (.inr x) (.str x t) = true := by simp [keyIs, Value.isStrOf]
theorem key_ll (a b : Int) : decide ((Sum.inl a : Key) = Sum.inl b) = (a == b) := by
  by_cases e : a = b
  · subst e; simp
  · have h : ¬ (Sum.inl a : Key) = Sum.inl b := fun q => e (Sum.inl.inj q)
    rw [decide_eq_false h]
    exact (beq_eq_false_iff_ne.mpr e).symm
theorem key_rr (a b : Str) : decide ((Sum.inr a : Key) = Sum.inr b) = decide (a = b) := by
  by_cases e : a = b
  · subst e; simp
  · have h : ¬ (Sum.inr a : Key) = Sum.inr b := fun q => e (Sum.inr.inj q)
    rw [decide_eq_false h, decide_eq_false e]
theorem key_lr (a : Int) (b : Str) : decide ((Sum.inl a : Key) = Sum.inr b) = false := decide_eq_false (fun q => nomatch q)
theorem key_rl (a : Str) (b : Int) : decide ((Sum.inr a : Key) = Sum.inl b) = false := decide_eq_false (fun q => nomatch q)

noncomputable def mixKind (prog : Program) (w : World) : PySem.KeyKind prog w Key where
  is := keyIs
  hash := keyH w
  inj := fun v a b ha hb => by
    rcases keyIs_shape ha with ⟨i, t, rfl, rfl⟩ | ⟨x, t, rfl, rfl⟩
    · rcases keyIs_shape hb with ⟨j, u, rfl, e⟩ | ⟨y, u, rfl, e⟩
      · injection e with e1 _; rw [e1]
      · exact nomatch e
    · rcases keyIs_shape hb with ⟨j, u, rfl, e⟩ | ⟨y, u, rfl, e⟩
      · exact nomatch e
      · injection e with e1 _; rw [e1]
  byValue := fun k v h => by
    rcases keyIs_shape h with ⟨i, t, rfl, rfl⟩ | ⟨x, t, rfl, rfl⟩ <;> rfl
  pyHash := fun hv h => by
    rcases keyIs_shape hv with ⟨i, t, rfl, rfl⟩ | ⟨x, t, rfl, rfl⟩
    · exact wpAny_pyHash_int h
    · exact wpAny_pyHash_str h
  eqBool := fun hu hv h => by
    rcases keyIs_shape hu with ⟨i, t, rfl, rfl⟩ | ⟨x, t, rfl, rfl⟩
    · rcases keyIs_shape hv with ⟨j, u, rfl, rfl⟩ | ⟨y, u, rfl, rfl⟩
      · rw [key_ll] at h; exact wpAny_eqBool_int h
      · rw [key_lr] at h; exact SeqAt.EqAt.int_str i t y u _ _ _ _ h
    · rcases keyIs_shape hv with ⟨j, u, rfl, rfl⟩ | ⟨y, u, rfl, rfl⟩
      · rw [key_rl] at h; exact SeqAt.EqAt.str_int x t j u _ _ _ _ h
      · rw [key_rr] at h; exact wpAny_eqBool_str h
  «strs» := fun k x t v h => by
    rcases keyIs_shape h with ⟨i, u, rfl, e⟩ | ⟨y, u, rfl, e⟩
    · exact nomatch e
    · injection e with e1 _
      subst e1
      cases v <;> rfl

theorem mixKind_int (prog : Program) (w : World) (i : Int) (t : Tok) : (mixKind prog w).is (.inl i) (.int i t) = true := keyIs_int i t
theorem mixKind_str (prog : Program) (w : World) (x : Str) (t : Tok) : (mixKind prog w).is (.inr x) (.str x t) = true := keyIs_str x t
end L2
namespace L2
open PySem PySem.Spec PyProof.Rows
inductive V where
  | non | bl (b : Bool) | int (i : Int) | str (x : Str) | byt (b : Array UInt8) | flt (b : UInt64) | ref (a : Addr) | ty (n : String)
  deriving DecidableEq

noncomputable def RelV : V → Value → Prop
  | .non, u => u = Value.none
  | .bl b, u => u = Value.bool b
  | .int i, u => ∃ t, u = Value.int i t
  | .str x, u => ∃ t, u = Value.str x t
  | .byt b, u => ∃ t, u = Value.bytes b t
  | .flt b, u => ∃ t, u = Value.float b t
  | .ref a, u => u = Value.ref a
  | .ty n, u => u = Value.type n

noncomputable abbrev Vals : List V → List Value → Prop := Paired RelV
theorem Vals.length {xs : List V} {us : List Value} (r : Vals xs us) : xs.length = us.length := Paired.length r
theorem Vals.get : ∀ {xs : List V} {us : List Value} {i : Nat} {x : V}, Vals xs us → xs[i]? = some x → ∃ u, us[i]? = some u ∧ RelV x u
  | _, _, _, _, .nil, e => by simp at e
  | _, _, 0, _, .cons r _, e => by simp at e; subst e; exact ⟨_, rfl, r⟩
  | _, _, i + 1, x, .cons _ t, e => by
    obtain ⟨u, h1, h2⟩ := Vals.get (i := i) (x := x) t (by simpa using e)
    exact ⟨u, by simpa using h1, h2⟩
theorem Vals.set {x : V} {u : Value} (r : RelV x u) : ∀ {xs : List V} {us : List Value} (i : Nat), Vals xs us → Vals (xs.set i x) (us.set i u)
  | _, _, _, .nil => .nil
  | _, _, 0, .cons _ t => .cons r t
  | _, _, i + 1, .cons q t => .cons q (Vals.set r i t)
theorem Vals.append : ∀ {xs ys : List V} {us ws : List Value}, Vals xs us → Vals ys ws → Vals (xs ++ ys) (us ++ ws)
  | _, _, _, _, .nil, s => s
  | _, _, _, _, .cons r t, s => .cons r (Vals.append t s)
theorem Vals.take : ∀ {xs : List V} {us : List Value} (n : Nat), Vals xs us → Vals (xs.take n) (us.take n)
  | _, _, 0, _ => .nil
  | _, _, _ + 1, .nil => .nil
  | _, _, n + 1, .cons r t => .cons r (Vals.take n t)
theorem Vals.drop : ∀ {xs : List V} {us : List Value} (n : Nat), Vals xs us → Vals (xs.drop n) (us.drop n)
  | _, _, 0, r => r
  | _, _, _ + 1, .nil => .nil
  | _, _, n + 1, .cons _ t => Vals.drop n t
noncomputable def TupD (h : Heap) (a : Addr) (items : Array Value) : Prop := ∃ n, h.get? a = some { cls := .type "tuple", data := .seq items n }
theorem TupD.tup {h : Heap} {a : Addr} {items : Array Value} (p : TupD h a items) : IsTup h a items := let ⟨n, e⟩ := p; ⟨_, e, rfl, n, rfl⟩
theorem TupD.new (h : Heap) (items : Array Value) : TupD (h.push { cls := .type "tuple", data := .seq items }) h.objs.size items := ⟨_, Heap.get?_push_size _ rfl⟩

noncomputable def RelO : Option V → Option Value → Prop
  | some v, some u => RelV v u
  | none, none => True
  | _, _ => False
noncomputable def KV {κ : Type} : List (κ × V) → List (κ × Value) → Prop := Paired fun (p : κ × V) (q : κ × Value) => p.1 = q.1 ∧ RelV p.2 q.2

noncomputable def kV : Key → V
  | .inl i => .int i
  | .inr x => .str x

inductive HO where
  /-- a list -/
  | lst (xs : List V)
  /-- a tuple (never changes) -/
  | tup (xs : List V)
  /-- a dict whose keys are ints and texts; one whose keys are tuples of ints and texts (the empty one is both) -/
  | dK (kvs : List (Key × V)) | dT (kvs : List (List Key × V))
  /-- a set of ints: its members, its size -/
  | set (S : Int → Bool) (n : Nat)
  /-- an instance of the class at C, its dict at dx, its attributes -/
  | ins (C dx : Addr) (fs : List (Str × V))
  /-- the dict of the instance at x -/
  | own (x : Addr)
  /-- the dict of an exception -/
  | xd (fs : List (Str × V))
  /-- a bound method, f of x -/
  | met (f x : Addr)
  /-- a range object lo, lo + 1, .. below hi -/
  | rng (lo hi : Int)
  /-- a thing that is known to the object (the script; a dict while a loop walks it): read, never written while it is so -/
  | frz (o : Obj) (u : HO)
  /-- a code object's table -/
  | tbl (ps : Array Value)
  /-- any other thing, by what is true of its one object (a def of one's own: SetO a S n := HO.ext fun h => ..) -/
  | ext (φ : Heap → Prop)

noncomputable abbrev Hp := Addr → Option HO
noncomputable def upd (H : Hp) (a : Addr) (o : HO) : Hp := fun b => if b = a then some o else H b
theorem upd_same {H : Hp} {a : Addr} {o : HO} : upd H a o a = some o := by unfold upd; rw [if_pos rfl]
theorem upd_ne {H : Hp} {a b : Addr} {o : HO} (h : b ≠ a) : upd H a o b = H b := by unfold upd; rw [if_neg h]
theorem ne_of {H : Hp} {a b : Addr} {o u : HO} (h : H a = some o) (h' : H b = some u) (d : o ≠ u) : a ≠ b := by
  intro e; subst e; rw [h] at h'; exact d (Option.some.inj h')
theorem ne_of_none {H : Hp} {a b : Addr} {o : HO} (h : H a = some o) (h' : H b = none) : a ≠ b := by
  intro e; subst e; rw [h] at h'; cases h'

section
variable (P : Program) (w : World)
noncomputable def ObjOk (H : Hp) (h : Heap) (a : Addr) : HO → Prop
  | .lst xs => xs.length ≤ sizeLine ∧ ∃ (its : List Value) (n : Nat), Vals xs its ∧ h.get? a = some { cls := .type "list", data := .seq its.toArray n }
  | .tup xs => xs.length ≤ sizeLine ∧ ∃ its : List Value, Vals xs its ∧ TupD h a its.toArray
  | .dK kvs => kvs.length ≤ sizeLine ∧ (a == sysModules) = false ∧ ∃ vs, KV kvs vs ∧ h.DictOf (mixKind P w) a vs
  | .dT kvs => kvs.length ≤ sizeLine ∧ (a == sysModules) = false ∧ ∃ xs : List (List Key × Addr × Value),
      Paired (fun (p : List Key × V) (q : List Key × Addr × Value) => p.1 = q.1 ∧ H q.2.1 = some (.tup (p.1.map kV)) ∧ RelV p.2 q.2.2) kvs xs ∧
      ∃ o es ep, h.get? a = some o ∧ o.ExactDict ∧ o.data = .dict es ep ∧ es.toList = xs.map (entryOfKey (tupleKind (mixKind P w))) ∧ (xs.map (·.1)).Nodup
  | .set S n => h.SetOf (intKind P w) a S n
  | .ins C dx fs => H dx = some (.own a) ∧ fs.length ≤ 1000 ∧ dx ≠ a ∧ h.get? a = some (PySem.W.instObj C dx) ∧
      ∃ mA, h.Ns1 dx mA ∧ (∀ f, RelO (fs.lookup f) (mA f)) ∧ PySem.Within mA (fs.map (·.1))
  | .own _ => ∃ o, h.get? a = some o
  | .xd fs => ∃ mA, h.Ns1 a mA ∧ ∀ f, RelO (fs.lookup f) (mA f)
  | .rng lo hi => ∃ t u v, h.get? a = some { cls := .type "range", data := .fields #[.int lo t, .int hi u, .int 1 v] }
  | .frz o u => h.get? a = some o ∧ ObjOk H h a u
  | .tbl ps => h.get? a = some { cls := .none, data := .fields ps }
  | .met f x => h.get? a = some (PySem.W.methodObj (.ref f) (.ref x))
  | .ext φ => φ h ∧ (∃ o, h.get? a = some o) ∧ ∀ h1 h2 : Heap, φ h1 → (∀ o, h1.get? a = some o → h2.get? a = some o) → φ h2
noncomputable def HOk (H : Hp) (h : Heap) : Prop := ∀ a o, H a = some o → ObjOk P w H h a o
end
section
variable {P : Program} {w : World} {H H' : Hp} {h h' : Heap} {a : Addr} {o : HO}
theorem ObjOk.lt (x : ObjOk P w H h a o) : a < h.objs.size := by
  cases o with
  | lst xs => obtain ⟨_, _, _, _, e⟩ := x; exact Heap.lt_size e
  | tup xs => obtain ⟨_, _, _, p⟩ := x; exact p.tup.lt
  | dK kvs => obtain ⟨_, _, _, _, o, _, _, e, _⟩ := x; exact Heap.lt_size e
  | dT kvs => obtain ⟨_, _, _, _, o, _, _, e, _⟩ := x; exact Heap.lt_size e
  | set S n => obtain ⟨o, _, _, _, e, _⟩ := x; exact Heap.lt_size e
  | ins C dx fs => obtain ⟨_, _, _, e, _⟩ := x; exact Heap.lt_size e
  | own y => obtain ⟨_, e⟩ := x; exact Heap.lt_size e
  | xd fs => obtain ⟨_, ⟨_, _, _, e, _⟩, _⟩ := x; exact Heap.lt_size e
  | rng lo hi => obtain ⟨_, _, _, e⟩ := x; exact Heap.lt_size e
  | frz ob u => obtain ⟨e, _⟩ := x; exact Heap.lt_size e
  | tbl ps => exact Heap.lt_size (show h.get? a = some _ from x)
  | met f y => exact Heap.lt_size (show h.get? a = some _ from x)
  | ext φ => obtain ⟨_, ⟨_, e⟩, _⟩ := x; exact Heap.lt_size e
theorem Paired.mapP {α β : Type} {F G : α → β → Prop} : ∀ {l₁ : List α} {l₂ : List β}, Paired F l₁ l₂ → (∀ a b, F a b → G a b) → Paired G l₁ l₂
  | _, _, .nil, _ => .nil
  | _, _, .cons r t, f => .cons (f _ _ r) (Paired.mapP t f)
theorem ObjOk.stay (x : ObjOk P w H h a o) (k : ∀ b u, (b = a ∨ H b = some (.own a)) → h.get? b = some u → h'.get? b = some u)
    (ho : ∀ b, H b = some (.own a) → H' b = some (.own a)) (ht : ∀ b xs, H b = some (.tup xs) → H' b = some (.tup xs)) : ObjOk P w H' h' a o := by
  induction o with
  | lst xs => obtain ⟨z, its, n, r, e⟩ := x; exact ⟨z, its, n, r, k _ _ (.inl rfl) e⟩
  | tup xs => obtain ⟨z, its, r, ob, e⟩ := x; exact ⟨z, its, r, ob, k _ _ (.inl rfl) e⟩
  | dK kvs => obtain ⟨z, y, vs, r, ob, es, ep, e, c⟩ := x; exact ⟨z, y, vs, r, ob, es, ep, k _ _ (.inl rfl) e, c⟩
  | dT kvs =>
    obtain ⟨z, y, xs, r, ob, es, ep, e, c⟩ := x
    exact ⟨z, y, xs, Paired.mapP r fun p q z => ⟨z.1, ht _ _ z.2.1, z.2.2⟩, ob, es, ep, k _ _ (.inl rfl) e, c⟩
  | set S n => obtain ⟨ob, es, ep, t, e, c⟩ := x; exact ⟨ob, es, ep, t, k _ _ (.inl rfl) e, c⟩
  | ins C dx fs =>
    obtain ⟨d, z, ne, e, mA, ⟨od, es, ep, e2, c⟩, r⟩ := x
    exact ⟨ho _ d, z, ne, k _ _ (.inl rfl) e, mA, ⟨od, es, ep, k _ _ (.inr d) e2, c⟩, r⟩
  | own y => obtain ⟨ob, e⟩ := x; exact ⟨ob, k _ _ (.inl rfl) e⟩
  | xd fs => obtain ⟨mA, ⟨od, es, ep, e, c⟩, r⟩ := x; exact ⟨mA, ⟨od, es, ep, k _ _ (.inl rfl) e, c⟩, r⟩
  | rng lo hi => obtain ⟨t, u, v, e⟩ := x; exact ⟨t, u, v, k _ _ (.inl rfl) e⟩
  | frz ob u ih => obtain ⟨e, q⟩ := x; exact ⟨k _ _ (.inl rfl) e, ih q⟩
  | tbl ps =>
    have e : h.get? a = some { cls := .none, data := .fields ps } := x
    show h'.get? a = some { cls := .none, data := .fields ps }
    exact k a _ (.inl rfl) e
  | met f y =>
    have e : h.get? a = some (PySem.W.methodObj (.ref f) (.ref y)) := x
    show h'.get? a = some (PySem.W.methodObj (.ref f) (.ref y))
    exact k a _ (.inl rfl) e
  | ext φ => obtain ⟨p, ⟨o, e⟩, st⟩ := x; exact ⟨st _ _ p fun o q => k _ _ (.inl rfl) q, ⟨o, k _ _ (.inl rfl) e⟩, st⟩
theorem HOk.lt (x : HOk P w H h) (e : H a = some o) : a < h.objs.size := (x a o e).lt
theorem HOk.fresh (x : HOk P w H h) (e : h.objs.size ≤ a) : H a = none := by
  cases q : H a with
  | none => rfl
  | some u => exact absurd (Nat.lt_of_lt_of_le (x.lt q) e) (Nat.lt_irrefl _)
theorem HOk.kept (x : HOk P w H h) (k : ∀ b u, h.get? b = some u → h'.get? b = some u) : HOk P w H h' := fun a o e =>
  (x a o e).stay (fun b u _ q => k b u q) (fun _ q => q) fun _ _ q => q
theorem HOk.laid (x : HOk P w H h) (k : ∀ b u, h.get? b = some u → h'.get? b = some u) (hp : h.objs.size ≤ a) (new : ObjOk P w (upd H a o) h' a o) : HOk P w (upd H a o) h' := fun b u e => by
  have hn := x.fresh hp
  by_cases hb : b = a
  · subst hb; rw [upd_same] at e; cases e; exact new
  · rw [upd_ne hb] at e
    exact (x b u e).stay (fun c v _ q => k c v q) (fun c q => by rw [upd_ne (ne_of_none q hn)]; exact q) fun c xs q => by rw [upd_ne (ne_of_none q hn)]; exact q
end
noncomputable def Rd (H : Hp) (a : Addr) (u : HO) : Prop := H a = some u ∨ ∃ o, H a = some (.frz o u)
theorem Rd.ok {P : Program} {w : World} {H : Hp} {h : Heap} {a : Addr} {u : HO} (r : Rd H a u) (x : HOk P w H h) : ObjOk P w H h a u := by
  rcases r with r | ⟨o, r⟩
  · exact x a u r
  · obtain ⟨_, q⟩ := x a _ r
    exact q
noncomputable def Mut : Option HO → Prop
  | some (.lst _) => True
  | some (.dK _) => True
  | some (.dT _) => True
  | some (.set _ _) => True
  | some (.ins _ _ _) => True
  | some (.ext _) => True
  | _ => False
section
variable {P : Program} {w : World} {H : Hp} {h h' : Heap} {x e : Addr} {o' : HO}
theorem HOk.write (ok : HOk P w H h) (mu : Mut (H x)) (he : e = x ∨ H e = some (.own x)) (k : ∀ b u, b ≠ e → h.get? b = some u → h'.get? b = some u) (heo : ∃ u, h'.get? e = some u)
    (new : ObjOk P w (upd H x o') h' x o') : HOk P w (upd H x o') h' := fun b u q => by
  have nown : ∀ c y, H c = some (.own y) → c ≠ x := fun c y r z => by subst z; rw [r] at mu; exact mu
  have ntup : ∀ c xs, H c = some (.tup xs) → c ≠ x := fun c xs r z => by subst z; rw [r] at mu; exact mu
  by_cases hb : b = x
  · subst hb; rw [upd_same] at q; cases q; exact new
  · rw [upd_ne hb] at q
    by_cases hbe : b = e
    · have q' : H b = some (.own x) := by
        rcases he with z | z
        · exact absurd (hbe.trans z) hb
        · rw [hbe]; exact z
      rw [q] at q'; cases q'
      obtain ⟨v, hv⟩ := heo
      exact ⟨v, by rw [hbe]; exact hv⟩
    · refine (ok b u q).stay (fun c v hc r => k c v ?_ r) (fun c r => by rw [upd_ne (nown c b r)]; exact r) fun c xs r => by rw [upd_ne (ntup c xs r)]; exact r
      rcases hc with rfl | hc
      · exact hbe
      · rintro rfl
        rcases he with z | z
        · exact nown c b hc z
        · rw [hc] at z; cases z; exact hb rfl
end
structure Un (fs ex : List Addr) (H H' : Hp) (h h' : Heap) : Prop where
  keep : ∀ b o, h.get? b = some o → H b = none → b ∉ fs → b ∉ ex → h'.get? b = some o
  slot : ∀ b o, h.get? b = some o → H b = none → b ∈ fs → b ∉ ex → ∃ sl, h'.get? b = some { o with slots := sl }
  free : ∀ b o, h.get? b = some o → H b = none → b ∉ ex → H' b = none
  there : ∀ b o, h.get? b = some o → b ∉ ex → ∃ o', h'.get? b = some o'
  tups : ∀ b xs, H b = some (.tup xs) → H' b = some (.tup xs)
  frzs : ∀ b o u, H b = some (.frz o u) → H' b = some (.frz o u)
  tbls : ∀ b ps, H b = some (.tbl ps) → ∃ more, H' b = some (.tbl (ps ++ more))
section
variable {fs fs' ex ex' : List Addr} {H H1 H2 : Hp} {h h1 h2 h' : Heap} {a x e : Addr} {o : HO}
theorem Un.any (u : Un fs ex H H1 h h1) {b : Addr} {ob : Obj} (q : h.get? b = some ob) (n : H b = none) (hx : b ∉ ex) : ∃ sl, h1.get? b = some { ob with slots := sl } := by
  by_cases hb : b ∈ fs
  · exact u.slot b ob q n hb hx
  · exact ⟨ob.slots, u.keep b ob q n hb hx⟩
theorem Un.kept (k : ∀ b u, h.get? b = some u → h'.get? b = some u) : Un fs ex H H h h' :=
  ⟨fun b ob q _ _ _ => k b ob q, fun b ob q _ _ _ => ⟨ob.slots, k b ob q⟩, fun _ _ _ n _ => n, fun b ob q _ => ⟨ob, k b ob q⟩, fun _ _ q => q, fun _ _ _ q => q, fun _ ps q => ⟨#[], by rw [q]; simp⟩⟩
theorem Un.refl : Un fs ex H H h h := Un.kept fun _ _ q => q
theorem Un.laid (k : ∀ b u, h.get? b = some u → h'.get? b = some u) (hp : h.objs.size ≤ a) (hn : H a = none) : Un fs ex H (upd H a o) h h' where
  keep := fun b u q _ _ _ => k b u q
  slot := fun b u q _ _ _ => ⟨u.slots, k b u q⟩
  free := fun b u q n _ => by rw [upd_ne (Nat.ne_of_lt (Nat.lt_of_lt_of_le (Heap.lt_size q) hp))]; exact n
  there := fun b u q _ => ⟨u, k b u q⟩
  tups := fun b xs q => by rw [upd_ne (ne_of_none q hn)]; exact q
  frzs := fun b u xs q => by rw [upd_ne (ne_of_none q hn)]; exact q
  tbls := fun b ps q => ⟨#[], by rw [upd_ne (ne_of_none q hn), q]; simp⟩
theorem Un.write (mu : Mut (H x)) (he : e = x ∨ H e = some (.own x)) (k : ∀ b u, b ≠ e → h.get? b = some u → h'.get? b = some u) (heo : ∃ u, h'.get? e = some u) : Un fs ex H (upd H x o) h h' := by
  have hx : ∀ b, H b = none → b ≠ x := fun b n z => by subst z; rw [n] at mu; exact mu
  have hb : ∀ b, H b = none → b ≠ e := fun b n z => by
    subst z
    rcases he with r | r
    · exact hx b n r
    · rw [n] at r; cases r
  have hm : ∀ b u, H b = some u → ¬ Mut (some u) → b ≠ x := fun b u q nm z => by subst z; rw [q] at mu; exact nm mu
  refine ⟨fun b u q n _ _ => k b u (hb b n) q, fun b u q n _ _ => ⟨u.slots, k b u (hb b n) q⟩, fun b u q n _ => by rw [upd_ne (hx b n)]; exact n, fun b u q _ => ?_,
    fun b xs q => by rw [upd_ne (hm b _ q fun z => z)]; exact q, fun b u xs q => by rw [upd_ne (hm b _ q fun z => z)]; exact q, fun b ps q => ⟨#[], by rw [upd_ne (hm b _ q fun z => z), q]; simp⟩⟩
  by_cases hbe : b = e
  · subst hbe; exact heo
  · exact ⟨u, k b u hbe q⟩
end
noncomputable def trk (h : Heap) (H : Hp) : List Addr := (List.range h.objs.size).filter fun a => (H a).isSome
noncomputable def hidT (h : Heap) (H : Hp) : Heap := PySem.W.hideAll h (trk h H)
theorem hidT_size (h : Heap) (H : Hp) : (hidT h H).objs.size = h.objs.size := PySem.W.hideAll_size _ _
theorem hidT_get {h : Heap} {H : Hp} {b : Addr} {o : Obj} (e : h.get? b = some o) (n : H b = none) : (hidT h H).get? b = some o :=
  PySem.W.hideAll_get _ e fun hm => by
    have q : (H b).isSome = true := (List.mem_filter.mp hm).2
    rw [n] at q; simp at q
theorem of_hidT {h : Heap} {H : Hp} {b : Addr} {o : Obj} (e : (hidT h H).get? b = some o) : h.get? b = some o ∧ H b = none := by
  have e' : h.get? b = some o := PySem.W.of_hideAll (trk h H) e
  refine ⟨e', ?_⟩
  cases q : H b with
  | none => rfl
  | some x =>
    have hm : b ∈ trk h H := List.mem_filter.mpr ⟨List.mem_range.mpr (Heap.lt_size e'), by simp [q]⟩
    have z : (hidT h H).get? b = none := PySem.W.hideAll_none (trk h H) hm
    rw [z] at e; cases e

end L2
namespace L2
open PySem PySem.Spec PyProof.Rows
structure Mod (K : PySem.W.Frag) (mg : Str → Option Value) (base : Heap) : Prop where
  kin : K.In base
  glob : base.Ns mainGlobals mg
  blt : ∃ mb, base.Ns builtinsNs mb ∧ ∀ x : Str, x ≠ "__name__" → mb x = bootBuiltins x
  nolimit : base.NoLimit

structure Cx where
  prog : Program
  w : World
  K : PySem.W.Frag
  mg : Str → Option Value
  base : Heap
  A : Around
  N : List Str
  s₀ : Shared
  H₀ : Hp
  env : Env
  outer : List Env
  stack : List Env
  ex : List Addr
  fn : Str → Bool
  calm : Bool
  pn : List (Addr × Obj)
  xe : Value → Shared → Prop
noncomputable def frs (l : List Env) : List Addr := l.filterMap (·.frame)
noncomputable abbrev Cx.fs (X : Cx) : List Addr := frs X.outer

noncomputable def Vis (sc : Scope) (x : Str) : Prop := sc.names.lookup x = some .local ∨ sc.names.lookup x = some .cell ∨ sc.names.lookup x = some .free
noncomputable def Loc (sc : Scope) (x : Str) : Prop := sc.names.lookup x = some .local ∨ sc.names.lookup x = some .cell
noncomputable def Look (env : Env) (h : Heap) (m : Str → Option Value) (x : Str) (u : Value) : Prop :=
  (env.kindOf x = some .local ∧ m x = some u) ∨ ((env.kindOf x = some .cell ∨ env.kindOf x = some .free) ∧ ∃ c, env.cells.lookup x = some c ∧ h.IsCell c (some u))

structure Cx.Ok (X : Cx) : Prop where
  mod : Mod X.K X.mg X.base
  kind : X.env.scope.kind = .function
  glob : X.env.globals = mainGlobals
  blt : X.env.builtins = builtinsNs
  above : X.s₀.heap.objs.size ≤ X.env.locals
  inj : ∀ x y c, X.env.cells.lookup x = some c → X.env.cells.lookup y = some c → x = y
  has : ∀ x, (X.env.kindOf x = some .cell ∨ X.env.kindOf x = some .free) → ∃ c, X.env.cells.lookup x = some c
  cab : ∀ x c, X.fn x = true → X.env.cells.lookup x = some c → X.s₀.heap.objs.size ≤ c
  hd : X.calm = true → X.A.handled = none
  frames : X.A.frames = some X.stack
  stk : X.stack = X.outer ∨ (X.stack = X.env :: X.outer ∧ X.env.frame = some X.env.locals)
  exf : ∀ b ∈ X.ex, b ≠ X.env.locals ∧ ∀ x c, X.env.cells.lookup x = some c → c ≠ b
  bs : ∀ b o, X.base.get? b = some o → X.s₀.heap.get? b = some o ∧ X.H₀ b = none
  bsz : X.base.objs.size ≤ X.s₀.heap.objs.size
  noex : ∀ b o, X.base.get? b = some o → b ∉ X.ex
  exfs : ∀ b ∈ X.ex, b ∉ X.fs
  funs : X.s₀.heap.FunFrames X.base X.outer
  frf : ∀ b ∈ X.fs, X.H₀ b = none

structure Inv (X : Cx) (pins : List (Addr × Obj)) (σ : List (Option V)) (H : Hp) (s : Shared) : Prop where
  ok : X.Ok
  os : s.os = X.s₀.os
  bare : AllBare s.gens
  base : Un X.fs X.ex X.H₀ H X.s₀.heap s.heap
  loc : ∃ m, s.heap.Ns X.env.locals m ∧ ∀ (i : Nat) (x : Str) (v : V), X.N[i]? = some x → σ[i]? = some (some v) → Vis X.env.scope x → ∃ u, RelV v u ∧ Look X.env s.heap m x u
  cell : ∀ x c, X.env.cells.lookup x = some c → ∃ v, s.heap.IsCell c v
  free : H X.env.locals = none
  freeC : ∀ x c, X.env.cells.lookup x = some c → H c = none
  pin : ∀ p ∈ X.pn ++ pins, s.heap.get? p.1 = some p.2 ∧ H p.1 = none ∧ p.1 ≠ X.env.locals ∧ p.1 ∉ X.fs ∧ ∀ v, p.2.data ≠ .cell v
  hok : HOk X.prog X.w H s.heap
  len : σ.length = X.N.length

section
variable {X : Cx} {pins : List (Addr × Obj)} {σ : List (Option V)} {H H' : Hp} {s : Shared} {h' : Heap}
theorem Cx.Ok.nofr (ok : X.Ok) {b : Addr} {o : Obj} (e : X.base.get? b = some o) : b ∉ X.fs := fun hb => by
  have := (ok.funs.mem hb).1
  rw [e] at this; cases this
theorem Inv.bs (I : Inv X pins σ H s) : ∀ b o, X.base.get? b = some o → s.heap.get? b = some o ∧ H b = none := fun b o e =>
  ⟨I.base.keep b o (I.ok.bs b o e).1 (I.ok.bs b o e).2 (I.ok.nofr e) (I.ok.noex b o e), I.base.free b o (I.ok.bs b o e).1 (I.ok.bs b o e).2 (I.ok.noex b o e)⟩
theorem Inv.bk (I : Inv X pins σ H s) : ∀ b o, X.base.get? b = some o → s.heap.get? b = some o := fun b o e => (I.bs b o e).1
theorem Inv.mod (I : Inv X pins σ H s) : Mod X.K X.mg X.base := I.ok.mod
theorem Inv.kIn (I : Inv X pins σ H s) : X.K.In s.heap := I.ok.mod.kin.keeps I.bk
theorem Inv.lt (I : Inv X pins σ H s) : X.env.locals < s.heap.objs.size := let ⟨_, hn, _⟩ := I.loc; hn.lt
theorem Inv.sz (I : Inv X pins σ H s) : X.s₀.heap.objs.size ≤ s.heap.objs.size := Nat.le_trans I.ok.above (Nat.le_of_lt I.lt)
theorem Inv.nofs (I : Inv X pins σ H s) {a : Addr} (h : s.heap.objs.size ≤ a) : a ∉ X.fs := fun hb => by
  obtain ⟨_, o, ho, _⟩ := I.ok.funs.mem hb
  exact absurd (Nat.lt_of_lt_of_le (Heap.lt_size ho) (Nat.le_trans I.sz h)) (Nat.lt_irrefl _)
theorem Inv.cne (I : Inv X pins σ H s) : ∀ x c, X.env.cells.lookup x = some c → c ≠ X.env.locals := fun x c e z => by
  obtain ⟨v, o, ho, hd⟩ := I.cell x c e
  obtain ⟨m, ⟨o', es, ep, ho', hd', _⟩, _⟩ := I.loc
  rw [z, ho'] at ho; cases ho; rw [hd'] at hd; cases hd
theorem Inv.funs (I : Inv X pins σ H s) : s.heap.FunFrames X.base X.outer := by
  have all : ∀ (l : List Env), (∀ b ∈ frs l, b ∈ X.fs) → X.s₀.heap.FunFrames X.base l → s.heap.FunFrames X.base l := by
    intro l
    induction l with
    | nil => intro _ _; trivial
    | cons env r ih =>
      intro hs hl
      obtain ⟨hk, ⟨L, o, hf, hn, ho, hd⟩, hr⟩ := hl
      have hL : L ∈ X.fs := hs L (by unfold frs; rw [List.filterMap_cons, hf]; exact List.mem_cons_self)
      obtain ⟨sl, e⟩ := I.base.slot L o ho (I.ok.frf L hL) hL fun z => I.ok.exfs L z hL
      exact ⟨hk, ⟨L, _, hf, hn, e, hd⟩, ih (fun b hb => hs b (by unfold frs; rw [List.filterMap_cons, hf]; exact List.mem_cons_of_mem _ hb)) hr⟩
  exact all X.outer (fun _ hb => hb) I.ok.funs

theorem Inv.stack (I : Inv X pins σ H s) : s.heap.FunFrames X.base X.stack := by
  rcases I.ok.stk with e | ⟨e, hf⟩
  · rw [e]; exact I.funs
  · rw [e]
    obtain ⟨m, hn, _⟩ := I.loc
    refine .cons (by rw [I.ok.kind]; decide) hf hn ?_ I.funs
    exact Heap.get?_none_of_le (Nat.le_trans I.ok.bsz I.ok.above)
theorem Inv.stkSub (I : Inv X pins σ H s) : ∀ b ∈ frs X.stack, b ∈ X.env.locals :: X.fs := fun b hb => by
  rcases I.ok.stk with e | ⟨e, hf⟩
  · rw [e] at hb; exact List.mem_cons_of_mem _ hb
  · rw [e] at hb
    unfold frs at hb
    rw [List.filterMap_cons, hf] at hb
    exact hb
theorem Inv.stkFree (I : Inv X pins σ H s) : ∀ b ∈ frs X.stack, H b = none := fun b hb => by
  rcases List.mem_cons.mp (I.stkSub b hb) with e | hb
  · rw [e]; exact I.free
  · obtain ⟨_, o, ho, _⟩ := I.ok.funs.mem hb
    exact I.base.free b o ho (I.ok.frf b hb) fun z => I.ok.exfs b z hb

theorem Inv.step {g' : Array GenState} {t' : Nat} {d' : Drawn} {ch : List Addr} (I : Inv X pins σ H s)
    (hch : ∀ b ∈ ch, (b ∈ X.ex ∨ X.s₀.heap.objs.size ≤ b) ∧ b ≠ X.env.locals ∧ (∀ x c, X.env.cells.lookup x = some c → c ≠ b) ∧ ∀ p ∈ X.pn ++ pins, p.1 ≠ b)
    (keep : ∀ b o, b ≠ X.env.locals → b ∉ X.fs → b ∉ ch → s.heap.get? b = some o → H b = none → h'.get? b = some o)
    (slot : ∀ b o, b ≠ X.env.locals → b ∈ X.fs → b ∉ ch → s.heap.get? b = some o → H b = none → ∃ sl, h'.get? b = some { o with slots := sl }) (free : ∀ b o, b ∉ ch → s.heap.get? b = some o → H b = none → H' b = none)
    (there : ∀ b o, b ∉ ch → s.heap.get? b = some o → ∃ o', h'.get? b = some o')
    (tups : ∀ b xs, H b = some (.tup xs) → H' b = some (.tup xs)) (frzs : ∀ b o u, H b = some (.frz o u) → H' b = some (.frz o u)) (tbls : ∀ b ps, H b = some (.tbl ps) → ∃ more, H' b = some (.tbl (ps ++ more)))
    (ns : ∀ m, s.heap.Ns X.env.locals m → h'.Ns X.env.locals m) (hok : HOk X.prog X.w H' h') (hg : AllBare g') :
    Inv X pins σ H' { s with heap := h', gens := g', drawn := d', toks := t' } := by
  have neL : ∀ b o, X.s₀.heap.get? b = some o → b ≠ X.env.locals := fun b o e => Nat.ne_of_lt (Nat.lt_of_lt_of_le (Heap.lt_size e) I.ok.above)
  have neC : ∀ b o, X.s₀.heap.get? b = some o → b ∉ X.ex → b ∉ ch := fun b o e hx hb => by
    rcases (hch b hb).1 with z | z
    · exact hx z
    · exact absurd (Nat.lt_of_lt_of_le (Heap.lt_size e) z) (Nat.lt_irrefl _)
  have cellK : ∀ x c, X.env.cells.lookup x = some c → ∀ v, s.heap.IsCell c v → h'.IsCell c v := fun x c e v ⟨o, ho, hd⟩ => by
    have nch : c ∉ ch := fun z => (hch c z).2.2.1 x c e rfl
    by_cases hc : c ∈ X.fs
    · obtain ⟨sl, q⟩ := slot c o (I.cne x c e) hc nch ho (I.freeC x c e)
      exact ⟨_, q, hd⟩
    · exact ⟨o, keep c o (I.cne x c e) hc nch ho (I.freeC x c e), hd⟩
  refine ⟨I.ok, I.os, hg, ⟨fun b o e n hb hx => ?_, fun b o e n hb hx => ?_, fun b o e n hx => ?_, fun b o e hx => ?_, fun b xs e => tups b xs (I.base.tups b xs e), fun b o xs e => frzs b o xs (I.base.frzs b o xs e), fun b ps e => ?_⟩, ?_, fun x c e => ?_, ?_, fun x c e => ?_, fun p hp => ?_, hok, I.len⟩
  · exact keep b o (neL b o e) hb (neC b o e hx) (I.base.keep b o e n hb hx) (I.base.free b o e n hx)
  · obtain ⟨sl, e1⟩ := I.base.slot b o e n hb hx
    obtain ⟨sl', e2⟩ := slot b _ (neL b o e) hb (neC b o e hx) e1 (I.base.free b o e n hx)
    exact ⟨sl', e2⟩
  · obtain ⟨o', e1⟩ := I.base.there b o e hx
    exact free b o' (neC b o e hx) e1 (I.base.free b o e n hx)
  · obtain ⟨o', e1⟩ := I.base.there b o e hx
    exact there b o' (neC b o e hx) e1
  · obtain ⟨m1, e1⟩ := I.base.tbls b ps e
    obtain ⟨m2, e2⟩ := tbls b _ e1
    exact ⟨m1 ++ m2, by rw [e2, Array.append_assoc]⟩
  · obtain ⟨m, hn, hl⟩ := I.loc
    refine ⟨m, ns m hn, fun i x v e1 e2 e3 => ?_⟩
    obtain ⟨u, r, l⟩ := hl i x v e1 e2 e3
    refine ⟨u, r, ?_⟩
    rcases l with l | ⟨k, c, e, z⟩
    · exact .inl l
    · exact .inr ⟨k, c, e, cellK x c e _ z⟩
  · obtain ⟨v, z⟩ := I.cell x c e
    exact ⟨v, cellK x c e v z⟩
  · obtain ⟨m, ⟨o, _, _, ho, _⟩, _⟩ := I.loc
    exact free _ o (fun z => (hch _ z).2.1 rfl) ho I.free
  · obtain ⟨v, o, ho, hd⟩ := I.cell x c e
    exact free c o (fun z => (hch c z).2.2.1 x c e rfl) ho (I.freeC x c e)
  · obtain ⟨e, n, ne, nf, d⟩ := I.pin p hp
    have nch : p.1 ∉ ch := fun z => (hch p.1 z).2.2.2 p hp rfl
    exact ⟨keep p.1 p.2 ne nf nch e n, free p.1 p.2 nch e n, ne, nf, d⟩
theorem Inv.un {t' : Nat} (I : Inv X pins σ H s) (u : Un X.fs [] H H' s.heap h') (hok : HOk X.prog X.w H' h') : Inv X pins σ H' { s with heap := h', toks := t' } := by
  obtain ⟨m, ⟨o, es, ep, ho, r⟩, _⟩ := id I.loc
  obtain ⟨sl, hL⟩ := u.any ho I.free (by simp)
  exact I.step (g' := s.gens) (d' := s.drawn) (ch := []) (fun _ z => nomatch z) (fun b o _ hb _ e n => u.keep b o e n hb (by simp)) (fun b o _ hb _ e n => u.slot b o e n hb (by simp)) (fun b o _ e n => u.free b o e n (by simp)) (fun b o _ e => u.there b o e (by simp)) u.tups u.frzs u.tbls (fun m' hm => by
    obtain ⟨o', es', ep', ho', r'⟩ := hm
    rw [ho] at ho'; cases ho'
    exact ⟨_, es', ep', hL, r'⟩) hok I.bare
theorem Inv.call {g' : Array GenState} {t' : Nat} {d' : Drawn} {ch : List Addr} (I : Inv X pins σ H s) (u : Un (frs X.stack) ch H H' s.heap h') (hok : HOk X.prog X.w H' h') (hg : AllBare g')
    (hch : ∀ b ∈ ch, (b ∈ X.ex ∨ X.s₀.heap.objs.size ≤ b) ∧ b ≠ X.env.locals ∧ (∀ x c, X.env.cells.lookup x = some c → c ≠ b) ∧ ∀ p ∈ X.pn ++ pins, p.1 ≠ b) :
    Inv X pins σ H' { s with heap := h', gens := g', drawn := d', toks := t' } := by
  obtain ⟨m, ⟨o, es, ep, ho, r⟩, _⟩ := id I.loc
  obtain ⟨sl, hL⟩ := u.any ho I.free fun z => (hch _ z).2.1 rfl
  exact I.step (ch := ch) hch (fun b o hL hb hc e n => u.keep b o e n (fun z => (List.mem_cons.mp (I.stkSub b z)).elim hL hb) hc) (fun b o _ _ hc e n => u.any e n hc) (fun b o hc e n => u.free b o e n hc) (fun b o hc e => u.there b o e hc) u.tups u.frzs u.tbls (fun m' hm => by
    obtain ⟨o', es', ep', ho', r'⟩ := hm
    rw [ho] at ho'; cases ho'
    exact ⟨_, es', ep', hL, r'⟩) hok hg
theorem Inv.turned {t' : Nat} {it : Addr} (I : Inv X pins σ H s) (k : ∀ b o, b ≠ it → s.heap.get? b = some o → h'.get? b = some o) (hn : H it = none) (hL : it ≠ X.env.locals)
    (h1 : it ∈ X.ex ∨ X.s₀.heap.objs.size ≤ it) (h2 : ∀ x c, X.env.cells.lookup x = some c → c ≠ it) (h3 : ∀ p ∈ X.pn ++ pins, p.1 ≠ it) : Inv X pins σ H { s with heap := h', toks := t' } := by
  have nit : ∀ b u, H b = some u → b ≠ it := fun b u e z => by rw [z, hn] at e; cases e
  refine I.step (g' := s.gens) (d' := s.drawn) (ch := [it]) (fun b hb => ?_) (fun b o _ _ hc e _ => k b o (fun z => hc (by simp [z])) e) (fun b o _ _ hc e _ => ⟨o.slots, k b o (fun z => hc (by simp [z])) e⟩) (fun _ _ _ _ n => n)
    (fun b o hc e => ⟨o, k b o (fun z => hc (by simp [z])) e⟩) (fun _ _ e => e) (fun _ _ _ e => e) (fun b ps e => ⟨#[], by rw [e]; simp⟩) (fun m hm => ?_) (fun b u e => ?_) I.bare
  · have e : b = it := by simpa using hb
    subst e
    exact ⟨h1, hL, h2, h3⟩
  · obtain ⟨o, es, ep, ho, r⟩ := hm
    exact ⟨o, es, ep, k _ o (Ne.symm hL) ho, r⟩
  · refine (I.hok b u e).stay (fun c v hc q => k c v ?_ q) (fun _ q => q) fun _ _ q => q
    rcases hc with z | z
    · rw [z]; exact nit b u e
    · exact nit c _ z
theorem Inv.tok (I : Inv X pins σ H s) (t : Nat) : Inv X pins σ H { s with toks := t } := I.un (h' := s.heap) (t' := t) Un.refl I.hok
theorem Inv.kept {t' : Nat} (I : Inv X pins σ H s) (k : ∀ b u, s.heap.get? b = some u → h'.get? b = some u) : Inv X pins σ H { s with heap := h', toks := t' } := I.un (Un.kept k) (I.hok.kept k)
theorem Inv.laid {a : Addr} {o : HO} {t' : Nat} (I : Inv X pins σ H s) (k : ∀ b u, s.heap.get? b = some u → h'.get? b = some u) (hp : s.heap.objs.size ≤ a) (new : ObjOk X.prog X.w (upd H a o) h' a o) :
    Inv X pins σ (upd H a o) { s with heap := h', toks := t' } := I.un (Un.laid k hp (I.hok.fresh hp)) (I.hok.laid k hp new)
theorem Inv.write {x e : Addr} {o : HO} {t' : Nat} (I : Inv X pins σ H s) (mu : Mut (H x)) (he : e = x ∨ H e = some (.own x)) (k : ∀ b u, b ≠ e → s.heap.get? b = some u → h'.get? b = some u) (heo : ∃ u, h'.get? e = some u)
    (new : ObjOk X.prog X.w (upd H x o) h' x o) : Inv X pins σ (upd H x o) { s with heap := h', toks := t' } := I.un (Un.write mu he k heo) (I.hok.write mu he k heo new)
theorem Inv.weak {σ' : List (Option V)} (I : Inv X pins σ H s) (hl : σ'.length = σ.length) (w : ∀ (i : Nat) v, σ'[i]? = some (some v) → σ[i]? = some (some v)) : Inv X pins σ' H s :=
  ⟨I.ok, I.os, I.bare, I.base, let ⟨m, hn, hl'⟩ := I.loc; ⟨m, hn, fun i x v e1 e2 e3 => hl' i x v e1 (w i v e2) e3⟩, I.cell, I.free, I.freeC, I.pin, I.hok, hl.trans I.len⟩
theorem Inv.pins_of {pins' : List (Addr × Obj)} (I : Inv X pins σ H s) (h : ∀ p ∈ pins', s.heap.get? p.1 = some p.2 ∧ H p.1 = none ∧ p.1 ≠ X.env.locals ∧ p.1 ∉ X.fs ∧ ∀ v, p.2.data ≠ .cell v) : Inv X pins' σ H s :=
  ⟨I.ok, I.os, I.bare, I.base, I.loc, I.cell, I.free, I.freeC, fun p hp => (List.mem_append.mp hp).elim (fun z => I.pin p (List.mem_append_left _ z)) (h p), I.hok, I.len⟩

theorem nodup_ix {N : List Str} (hN : N.Nodup) {i j : Nat} {x : Str} (a : N[i]? = some x) (b : N[j]? = some x) : i = j := by
  obtain ⟨h1, e1⟩ := List.getElem?_eq_some_iff.mp a
  obtain ⟨h2, e2⟩ := List.getElem?_eq_some_iff.mp b
  exact (List.getElem_inj hN).mp (e1.trans e2.symm)

theorem store_ok2 {M : Model} {A : Around} {E : Value → Shared → Prop} {i : Nat} {x : Str} {v : V} {u : Value} {Q : Unit → Shared → Prop} (I : Inv X pins σ H s) (hN : X.N.Nodup) (hi : X.N[i]? = some x) (hx : Loc X.env.scope x) (r : RelV v u)
    (h : ∀ s', Inv X pins (σ.set i (some v)) H s' → (∃ a, Heap.SameBut a s.heap s'.heap ∧ (a = X.env.locals ∨ X.env.cells.lookup x = some a)) → Q () s') (hf : X.fn x = true ∨ X.env.scope.names.lookup x = some .local := by first | exact .inl rfl | exact .inr rfl | assumption) : wpAny M A (storeName X.env x u) Q E s := by
  obtain ⟨m, hn, hl⟩ := id I.loc
  have hcls : (X.env.scope.kind == .class || (X.env.scope.kind == .module && X.env.locals != X.env.globals)) = false := by rw [I.ok.kind]; rfl
  have hiσ : i < σ.length := by rw [I.len]; exact (List.getElem?_eq_some_iff.mp hi).1
  have cne := I.cne
  have tracked : ∀ {a : Addr} {h' : Heap}, (∃ o, s.heap.get? a = some o ∧ H a = none) → Heap.SameBut a s.heap h' → HOk X.prog X.w H h' := fun {a h'} ha hs b ob e => by
    obtain ⟨_, _, hfree⟩ := ha
    refine (I.hok b ob e).stay (fun c w' hc q => (hs.2 c ?_).trans q) (fun _ q => q) fun _ _ q => q
    rintro rfl
    rcases hc with rfl | hc
    · rw [hfree] at e; cases e
    · rw [hfree] at hc; cases hc
  rcases hx with hk | hk
  · refine wpAny_storeName_local hk hn (fun h' hn' hs => ?_) hcls
    obtain ⟨oL, _, _, hoL, _⟩ := id hn
    refine h _ ⟨I.ok, I.os, I.bare, ⟨fun b o e n hb hx => ?_, fun b o e n hb hx => ?_, I.base.free, fun b o e hx => ?_, I.base.tups, I.base.frzs, I.base.tbls⟩, ⟨_, hn', fun j y v' e1 e2 e3 => ?_⟩, fun y c e => ?_, I.free, I.freeC, fun p hp => ?_, tracked ⟨oL, hoL, I.free⟩ hs, by simpa using I.len⟩ ⟨_, hs, .inl rfl⟩
    · exact (hs.2 b (Nat.ne_of_lt (Nat.lt_of_lt_of_le (Heap.lt_size e) I.ok.above))).trans (I.base.keep b o e n hb hx)
    · obtain ⟨sl, e1⟩ := I.base.slot b o e n hb hx
      exact ⟨sl, (hs.2 b (Nat.ne_of_lt (Nat.lt_of_lt_of_le (Heap.lt_size e) I.ok.above))).trans e1⟩
    · obtain ⟨o', e1⟩ := I.base.there b o e hx
      exact ⟨o', (hs.2 b (Nat.ne_of_lt (Nat.lt_of_lt_of_le (Heap.lt_size e) I.ok.above))).trans e1⟩
    · by_cases hj : j = i
      · subst hj
        rw [hi] at e1; cases e1
        rw [List.getElem?_set_self hiσ] at e2
        cases e2
        exact ⟨u, r, .inl ⟨hk, by simp⟩⟩
      · rw [List.getElem?_set_ne (Ne.symm hj)] at e2
        obtain ⟨u', r', q⟩ := hl j y v' e1 e2 e3
        refine ⟨u', r', ?_⟩
        rcases q with ⟨k, e⟩ | ⟨k, c, e, z⟩
        · refine .inl ⟨k, ?_⟩
          have : y ≠ x := fun e => hj (nodup_ix hN e1 (e ▸ hi))
          simp [this, e]
        · exact .inr ⟨k, c, e, z.sameBut hs (cne y c e)⟩
    · obtain ⟨w', z⟩ := I.cell y c e
      exact ⟨w', z.sameBut hs (cne y c e)⟩
    · obtain ⟨e, n, ne, nf, d⟩ := I.pin p hp
      exact ⟨(hs.2 p.1 ne).trans e, n, ne, nf, d⟩
  · have hfn : X.fn x = true := by
      rcases hf with z | z
      · exact z
      · rw [z] at hk; cases hk
    obtain ⟨c, hc⟩ := I.ok.has x (.inl hk)
    obtain ⟨w', z⟩ := I.cell x c hc
    refine wpAny_storeName_cell I.ok.kind hk hc z (fun h' hc' hs => ?_)
    obtain ⟨oc, hoc, hocd⟩ := id z
    refine h { s with heap := h' } ⟨I.ok, I.os, I.bare, ⟨fun b o e n hb hx => ?_, fun b o e n hb hx => ?_, I.base.free, fun b o e hx => ?_, I.base.tups, I.base.frzs, I.base.tbls⟩, ⟨m, hn.sameBut hs (Ne.symm (cne x c hc)), fun j y v' e1 e2 e3 => ?_⟩, fun y c' e => ?_, I.free, I.freeC, fun p hp => ?_, tracked ⟨oc, hoc, I.freeC x c hc⟩ hs, by simpa using I.len⟩ ⟨c, hs, .inr hc⟩
    · exact (hs.2 b (Nat.ne_of_lt (Nat.lt_of_lt_of_le (Heap.lt_size e) (I.ok.cab x c hfn hc)))).trans (I.base.keep b o e n hb hx)
    · obtain ⟨sl, e1⟩ := I.base.slot b o e n hb hx
      exact ⟨sl, (hs.2 b (Nat.ne_of_lt (Nat.lt_of_lt_of_le (Heap.lt_size e) (I.ok.cab x c hfn hc)))).trans e1⟩
    · obtain ⟨o', e1⟩ := I.base.there b o e hx
      exact ⟨o', (hs.2 b (Nat.ne_of_lt (Nat.lt_of_lt_of_le (Heap.lt_size e) (I.ok.cab x c hfn hc)))).trans e1⟩
    · by_cases hj : j = i
      · subst hj
        rw [hi] at e1; cases e1
        rw [List.getElem?_set_self hiσ] at e2
        cases e2
        exact ⟨u, r, .inr ⟨.inl hk, c, hc, hc'⟩⟩
      · rw [List.getElem?_set_ne (Ne.symm hj)] at e2
        obtain ⟨u', r', q⟩ := hl j y v' e1 e2 e3
        refine ⟨u', r', ?_⟩
        rcases q with q | ⟨k, c', e, z'⟩
        · exact .inl q
        · refine .inr ⟨k, c', e, z'.sameBut hs ?_⟩
          rintro rfl
          exact hj (nodup_ix hN e1 (I.ok.inj _ _ _ e hc ▸ hi))
    · by_cases hcc : c' = c
      · subst hcc; exact ⟨_, hc'⟩
      · obtain ⟨w2, z2⟩ := I.cell y c' e
        exact ⟨w2, z2.sameBut hs hcc⟩
    · obtain ⟨e, n, ne, nf, d⟩ := I.pin p hp
      refine ⟨(hs.2 p.1 ?_).trans e, n, ne, nf, d⟩
      intro q
      rw [q, hoc] at e
      have q' : oc = p.2 := Option.some.inj e
      exact d w' (by rw [← q']; exact hocd)
theorem store_ok {M : Model} {A : Around} {E : Value → Shared → Prop} {i : Nat} {x : Str} {v : V} {u : Value} {Q : Unit → Shared → Prop} (I : Inv X pins σ H s) (hN : X.N.Nodup) (hi : X.N[i]? = some x) (hx : Loc X.env.scope x) (r : RelV v u)
    (h : ∀ s', Inv X pins (σ.set i (some v)) H s' → Q () s') (hf : X.fn x = true ∨ X.env.scope.names.lookup x = some .local := by first | exact .inl rfl | exact .inr rfl | assumption) : wpAny M A (storeName X.env x u) Q E s :=
  store_ok2 I hN hi hx r (fun s' I' _ => h s' I') hf
theorem Inv.call' {s' : Shared} {ch : List Addr} (I : Inv X pins σ H s) (ho : s'.os = s.os) (u : Un (frs X.stack) ch H H' s.heap s'.heap) (hok : HOk X.prog X.w H' s'.heap) (hg : AllBare s'.gens)
    (hch : ∀ b ∈ ch, (b ∈ X.ex ∨ X.s₀.heap.objs.size ≤ b) ∧ b ≠ X.env.locals ∧ (∀ x c, X.env.cells.lookup x = some c → c ≠ b) ∧ ∀ p ∈ X.pn ++ pins, p.1 ≠ b) : Inv X pins σ H' s' := by
  obtain ⟨h', g', d', t', o'⟩ := s'
  have e : o' = s.os := ho
  subst e
  exact I.call (g' := g') (t' := t') (d' := d') u hok hg hch
end
noncomputable abbrev XK := Value → Option Addr → Hp → Prop
noncomputable abbrev St := List (Option V)
noncomputable abbrev VK := V → Hp → Prop
noncomputable abbrev TE := St → Hp → VK → Prop
noncomputable abbrev TT := St → Hp → (Bool → Hp → Prop) → Prop
noncomputable abbrev TA := St → Hp → (List V → Hp → Prop) → Prop
structure Ends where
  nx : St → Hp → Prop
  rt : VK
  bk : St → Hp → Prop := fun _ _ => False
  ct : St → Hp → Prop := fun _ _ => False
noncomputable abbrev TS := Ends → St → Hp → Prop

noncomputable def EP (X : Cx) (pins : List (Addr × Obj)) (σ : St) (Q : VK) (u : Value) (s' : Shared) : Prop := ∃ v H', Inv X pins σ H' s' ∧ RelV v u ∧ Q v H'
noncomputable def TP (X : Cx) (pins : List (Addr × Obj)) (σ : St) (Q : Bool → Hp → Prop) (b : Bool) (s' : Shared) : Prop := ∃ H', Inv X pins σ H' s' ∧ Q b H'
noncomputable def AP (X : Cx) (pins : List (Addr × Obj)) (σ : St) (Q : List V → Hp → Prop) (us : List Value) (s' : Shared) : Prop := ∃ vs H', Inv X pins σ H' s' ∧ Vals vs us ∧ Q vs H'
noncomputable def SP (X : Cx) (pins : List (Addr × Obj)) (D : Ends) (f : Flow) (s' : Shared) : Prop :=
  match f with
  | .next => ∃ σ' H', Inv X pins σ' H' s' ∧ D.nx σ' H'
  | .brk => ∃ σ' H', Inv X pins σ' H' s' ∧ D.bk σ' H'
  | .cont => ∃ σ' H', Inv X pins σ' H' s' ∧ D.ct σ' H'
  | .ret u => ∃ v σ' H', Inv X pins σ' H' s' ∧ RelV v u ∧ D.rt v H'

noncomputable def PE (X : Cx) (e : Expr) (t : TE) : Prop :=
  ∀ (pins : List (Addr × Obj)) (s : Shared) (σ : St) (H : Hp) (Q : VK), Inv X pins σ H s → t σ H Q → wpAny (model X.prog X.w) X.A (eval e X.env) (EP X pins σ Q) X.xe s
@[irreducible] noncomputable def ZE (X : Cx) (e : Expr) (t : TE) : Prop := PE X e t
theorem ZE.p {X : Cx} {e : Expr} {t : TE}  (h : ZE X e t) : PE X e t := by unfold ZE at h; exact h
noncomputable def PT (X : Cx) (e : Expr) (t : TT) : Prop :=
  ∀ (pins : List (Addr × Obj)) (s : Shared) (σ : St) (H : Hp) (Q : Bool → Hp → Prop), Inv X pins σ H s → t σ H Q → wpAny (model X.prog X.w) X.A (isTrue e X.env (eval e X.env)) (TP X pins σ Q) X.xe s
@[irreducible] noncomputable def ZT (X : Cx) (e : Expr) (t : TT) : Prop := PT X e t
noncomputable def PW (X : Cx) (e : Expr) (t : TT) : Prop :=
  ∀ (whole : Sem Value) (pins : List (Addr × Obj)) (s : Shared) (σ : St) (H : Hp) (Q : Bool → Hp → Prop), Inv X pins σ H s → t σ H Q → wpAny (model X.prog X.w) X.A (isTrue e X.env whole) (TP X pins σ Q) X.xe s
@[irreducible] noncomputable def ZW (X : Cx) (e : Expr) (t : TT) : Prop := PW X e t
theorem PW.pt {X : Cx} {e : Expr} {t : TT} (h : PW X e t) : PT X e t := h _
theorem ZW.zt {X : Cx} {e : Expr} {t : TT} (h : ZW X e t) : ZT X e t := by with_unfolding_all exact PW.pt h
noncomputable def PA (X : Cx) (es : List Expr) (t : TA) : Prop :=
  ∀ (pos : Pos) (pins : List (Addr × Obj)) (s : Shared) (σ : St) (H : Hp) (Q : List V → Hp → Prop), Inv X pins σ H s → t σ H Q → wpAny (model X.prog X.w) X.A (spliced (backTo pos (starEach es X.env))) (AP X pins σ Q) X.xe s
@[irreducible] noncomputable def ZA (X : Cx) (es : List Expr) (t : TA) : Prop := PA X es t
noncomputable def PS (X : Cx) (st : Stmt) (t : TS) : Prop :=
  ∀ (pins : List (Addr × Obj)) (s : Shared) (σ : St) (H : Hp) (D : Ends), Inv X pins σ H s → t D σ H → wpAny (model X.prog X.w) X.A (exec st X.env) (SP X pins D) X.xe s
@[irreducible] noncomputable def ZS (X : Cx) (st : Stmt) (t : TS) : Prop := PS X st t
noncomputable def PSs (X : Cx) (st : List Stmt) (t : TS) : Prop :=
  ∀ (pins : List (Addr × Obj)) (s : Shared) (σ : St) (H : Hp) (D : Ends), Inv X pins σ H s → t D σ H → wpAny (model X.prog X.w) X.A (execs st X.env) (SP X pins D) X.xe s
@[irreducible] noncomputable def ZSs (X : Cx) (st : List Stmt) (t : TS) : Prop := PSs X st t
theorem ZSs.p {X : Cx} {st : List Stmt} {t : TS}  (h : ZSs X st t) : PSs X st t := by unfold ZSs at h; exact h
theorem thn {α : Type} {t : Sem α} {Q Q' : α → Shared → Prop} {M : Model} {A : Around} {E : Value → Shared → Prop} {s : Shared} (h : wpAny M A t Q E s) (hQ : ∀ a s, Q a s → Q' a s) : wpAny M A t Q' E s := wpAny_mono h hQ fun _ _ x => x
end L2
namespace L2
open PySem PySem.Spec PyProof.Rows
section
variable {X : Cx}
noncomputable def tVar (i : Nat) : TE := fun σ H Q => ∃ v, σ[i]? = some (some v) ∧ Q v H
noncomputable def tC (v : V) : TE := fun _ H Q => Q v H
theorem pe_var {i : Nat} {x : Str} {pos : Pos} (hN : X.N[i]? = some x) (hv : Vis X.env.scope x) (hd : (x == ("__debug__" : Str)) = false := by decide) (hcd : (x == ("__classdict__" : Str)) = false := by decide) : PE X (.Name x pos) (tVar i) := by
  intro pins s σ H Q I h
  obtain ⟨v, e, h⟩ := h
  obtain ⟨m, hn, hl⟩ := I.loc
  obtain ⟨u, r, l⟩ := hl i x v hN e hv
  have fin : EP X pins σ Q u s := ⟨v, H, I, r, h⟩
  rcases l with ⟨hk, hm⟩ | ⟨hk, c, hc, hcell⟩
  · exact wpAny_Name (wpAny_loadName_local I.ok.kind hk hn hm fin) hd
  · rcases hk with hk | hk
    · exact wpAny_Name (wpAny_loadName_cell I.ok.kind hk hc hcell fin) hd
    · exact wpAny_Name (wpAny_loadName_free I.ok.kind hk hc hcell fin hcd) hd
theorem pe_int {i j pos} : PE X (.Constant (.int i) j pos) (tC (.int i)) := fun _ _ _ H _ I h => wpAny_Constant_int ⟨.int i, H, I.tok _, ⟨_, rfl⟩, h⟩
theorem ze_int {i j pos} : ZE X (.Constant (.int i) j pos) (tC (.int i)) := by with_unfolding_all exact pe_int 
theorem pe_bl {b j pos} : PE X (.Constant (.bool b) j pos) (tC (.bl b)) := fun _ _ _ H _ I h => Constant_bool ⟨.bl b, H, I, rfl, h⟩
theorem ze_bl {b j pos} : ZE X (.Constant (.bool b) j pos) (tC (.bl b)) := by with_unfolding_all exact pe_bl 
theorem pe_non {j pos} : PE X (.Constant .none j pos) (tC .non) := fun _ _ _ H _ I h => Constant_none ⟨.non, H, I, rfl, h⟩
theorem ze_non {j pos} : ZE X (.Constant .none j pos) (tC .non) := by with_unfolding_all exact pe_non 
theorem pe_str {x j pos} : PE X (.Constant (.str x) j pos) (tC (.str x)) := fun _ _ _ H _ I h => Calls.Constant_str ⟨.str x, H, I.tok _, ⟨_, rfl⟩, h⟩
theorem ze_str {x j pos} : ZE X (.Constant (.str x) j pos) (tC (.str x)) := by with_unfolding_all exact pe_str 

noncomputable def Gl (X : Cx) (x : Str) : Prop := X.env.kindOf x = some .globalImplicit
theorem ld_glob {E : Value → Shared → Prop} {pins : List (Addr × Obj)} {s : Shared} {σ : St} {H : Hp} {x : Str} {u : Value} {pos : Pos} {Q : Value → Shared → Prop} (I : Inv X pins σ H s) (hg : Gl X x) (hm : X.mg x = some u) (h : Q u s)
    (hd : (x == ("__debug__" : Str)) = false := by decide) : wpAny (model X.prog X.w) X.A (eval (.Name x pos) X.env) Q E s :=
  Calls.Name_function_global I.ok.kind hg (Calls.loadGlobal_global (by rw [I.ok.glob]; exact I.mod.glob.keeps I.bk) hm h) hd
theorem ld_blt {E : Value → Shared → Prop} {pins : List (Addr × Obj)} {s : Shared} {σ : St} {H : Hp} {x : Str} {u : Value} {pos : Pos} {Q : Value → Shared → Prop} (I : Inv X pins σ H s) (hg : Gl X x) (hm : X.mg x = none) (hv : bootBuiltins x = some u) (h : Q u s)
    (hn : x ≠ "__name__" := by decide) (hd : (x == ("__debug__" : Str)) = false := by decide) : wpAny (model X.prog X.w) X.A (eval (.Name x pos) X.env) Q E s := by
  obtain ⟨mb, h1, h2⟩ := I.mod.blt
  exact Calls.Name_function_global I.ok.kind hg (Calls.loadGlobal_builtin (by rw [I.ok.glob]; exact I.mod.glob.keeps I.bk) hm (by rw [I.ok.blt]; exact h1.keeps I.bk) ((h2 x hn).trans hv) h) hd
theorem pe_glob {x : Str} {v : V} {u : Value} {pos : Pos} (hg : Gl X x) (hm : X.mg x = some u) (r : RelV v u) (hd : (x == ("__debug__" : Str)) = false := by decide) : PE X (.Name x pos) (tC v) :=
  fun _ _ _ H _ I h => ld_glob I hg hm ⟨v, H, I, r, h⟩ hd
theorem pe_bltn {x : Str} {v : V} {u : Value} {pos : Pos} (hg : Gl X x) (hm : X.mg x = none) (hv : bootBuiltins x = some u) (r : RelV v u) (hn : x ≠ "__name__" := by decide) (hd : (x == ("__debug__" : Str)) = false := by decide) : PE X (.Name x pos) (tC v) :=
  fun _ _ _ H _ I h => ld_blt I hg hm hv ⟨v, H, I, r, h⟩ hn hd

variable {a b : Expr} {ta tb : TE} {pos : Pos}
variable {tA tB' : TT} {rest : List Expr}
noncomputable def tAnd (t u : TT) : TT := fun σ H Q => t σ H fun c H1 => if c = true then u σ H1 Q else Q false H1
noncomputable def tOr (t u : TT) : TT := fun σ H Q => t σ H fun c H1 => if c = true then Q true H1 else u σ H1 Q
noncomputable def tNot (t : TT) : TT := fun σ H Q => t σ H fun c H1 => Q (!c) H1
theorem pw_and1 (ha : PT X a tA) : PW X (.BoolOp .And [a] pos) tA := by
  intro wh pins s σ H Q I h
  refine isTrue_and (thn (ha pins s σ H Q I h) fun c s1 e => ?_)
  cases c with
  | true => exact isTrue_and_nil e
  | false => exact e
theorem zw_and1 (ha : ZT X a tA) : ZW X (.BoolOp .And [a] pos) tA := by with_unfolding_all exact pw_and1 ha
theorem pw_or1 (ha : PT X a tA) : PW X (.BoolOp .Or [a] pos) tA := by
  intro wh pins s σ H Q I h
  refine isTrue_or (thn (ha pins s σ H Q I h) fun c s1 e => ?_)
  cases c with
  | false => exact isTrue_or_nil e
  | true => exact e
theorem zw_or1 (ha : ZT X a tA) : ZW X (.BoolOp .Or [a] pos) tA := by with_unfolding_all exact pw_or1 ha
theorem pw_and (ha : PT X a tA) (hb : PW X (.BoolOp .And (b :: rest) pos) tB') : PW X (.BoolOp .And (a :: b :: rest) pos) (tAnd tA tB') := by
  intro wh pins s σ H Q I h
  refine isTrue_and (thn (ha pins s σ H _ I h) fun c s1 ⟨H1, I1, q1⟩ => ?_)
  cases c with
  | true => exact hb wh pins s1 σ H1 Q I1 q1
  | false => exact ⟨H1, I1, q1⟩
theorem zw_and (ha : ZT X a tA) (hb : ZW X (.BoolOp .And (b :: rest) pos) tB') : ZW X (.BoolOp .And (a :: b :: rest) pos) (tAnd tA tB') := by with_unfolding_all exact pw_and ha hb
theorem pw_or (ha : PT X a tA) (hb : PW X (.BoolOp .Or (b :: rest) pos) tB') : PW X (.BoolOp .Or (a :: b :: rest) pos) (tOr tA tB') := by
  intro wh pins s σ H Q I h
  refine isTrue_or (thn (ha pins s σ H _ I h) fun c s1 ⟨H1, I1, q1⟩ => ?_)
  cases c with
  | true => exact ⟨H1, I1, q1⟩
  | false => exact hb wh pins s1 σ H1 Q I1 q1
theorem zw_or (ha : ZT X a tA) (hb : ZW X (.BoolOp .Or (b :: rest) pos) tB') : ZW X (.BoolOp .Or (a :: b :: rest) pos) (tOr tA tB') := by with_unfolding_all exact pw_or ha hb
theorem pt_not (ha : PT X a tA) : PT X (.UnaryOp .Not a pos) (tNot tA) := by
  intro pins s σ H Q I h
  exact isTrue_not (ha pins s σ H (fun c H1 => Q (!c) H1) I h)
theorem zt_not (ha : ZT X a tA) : ZT X (.UnaryOp .Not a pos) (tNot tA) := by with_unfolding_all exact pt_not ha
theorem pe_one {op} {t : TE} (h : PE X a t) : PE X (.BoolOp op [a] pos) t := fun pins s σ H Q I hw => BoolOp_one (h pins s σ H Q I hw)
theorem ze_one {op} {t : TE} (h : ZE X a t) : ZE X (.BoolOp op [a] pos) t := by with_unfolding_all exact pe_one h
end
end L2
namespace L2
open PySem PySem.Spec PyProof.Rows
noncomputable def SqL (K : PySem.W.Frag) (H : Hp) (a : Addr) (xs : List V) : Prop :=
  Rd H a (.lst xs) ∨
    ∃ (o : Obj) (its : Array Value) (n : Nat), K.lookup a = some o ∧ o.cls = .type "list" ∧ o.dict = none ∧ o.data = .seq its n ∧ its.size ≤ sizeLine ∧ Vals xs its.toList
noncomputable def SqT (K : PySem.W.Frag) (H : Hp) (a : Addr) (xs : List V) : Prop :=
  Rd H a (.tup xs) ∨
    ∃ (o : Obj) (its : Array Value) (n : Nat), K.lookup a = some o ∧ o.cls = .type "tuple" ∧ o.data = .seq its n ∧ its.size ≤ sizeLine ∧ Vals xs its.toList
noncomputable def absV : Value → Option V
  | .none => some .non
  | .bool b => some (.bl b)
  | .int i _ => some (.int i)
  | .str x _ => some (.str x)
  | .bytes b _ => some (.byt b)
  | .float b _ => some (.flt b)
  | .ref a => some (.ref a)
  | .type n => some (.ty n)
  | _ => none
theorem RelV.abs {x : V} {u : Value} (r : RelV x u) : absV u = some x := by
  cases x with
  | non => cases r; rfl
  | bl _ => cases r; rfl
  | int _ => obtain ⟨t, rfl⟩ := r; rfl
  | str _ => obtain ⟨t, rfl⟩ := r; rfl
  | byt _ => obtain ⟨t, rfl⟩ := r; rfl
  | flt _ => obtain ⟨t, rfl⟩ := r; rfl
  | ref _ => cases r; rfl
  | ty _ => cases r; rfl
theorem RelV.inj {x y : V} {u : Value} (r : RelV x u) (q : RelV y u) : x = y := Option.some.inj (r.abs.symm.trans q.abs)
theorem Vals.inj : ∀ {xs ys : List V} {us : List Value}, Vals xs us → Vals ys us → xs = ys
  | _, _, _, .nil, .nil => rfl
  | _, _, _, .cons r t, .cons r' t' => by rw [r.inj r', Vals.inj t t']
section
variable {X : Cx} {pins : List (Addr × Obj)} {σ : St} {H : Hp} {s : Shared} {a : Addr} {xs ys : List V}
theorem SqL.of {K : PySem.W.Frag} (h : H a = some (.lst xs)) : SqL K H a xs := .inl (.inl h)
theorem SqT.of {K : PySem.W.Frag} (h : H a = some (.tup xs)) : SqT K H a xs := .inl (.inl h)
theorem Inv.list (I : Inv X pins σ H s) (h : SqL X.K H a xs) : ∃ its : List Value, Vals xs its ∧ PlainL s.heap a its.toArray ∧ xs.length ≤ sizeLine := by
  rcases h with h | ⟨o, its, n, hk, hc, hd, hs, hz, r⟩
  · obtain ⟨z, its, n, r, e⟩ := h.ok I.hok
    exact ⟨its, r, ⟨_, n, e, rfl, rfl, rfl⟩, z⟩
  · refine ⟨its.toList, r, ⟨o, n, I.kIn a o hk, hc, hd, by simpa using hs⟩, ?_⟩
    have e := r.length
    simp only [Array.length_toList] at e
    omega
theorem Inv.tuple (I : Inv X pins σ H s) (h : SqT X.K H a xs) : ∃ its : List Value, Vals xs its ∧ IsTup s.heap a its.toArray ∧ xs.length ≤ sizeLine := by
  rcases h with h | ⟨o, its, n, hk, hc, hs, hz, r⟩
  · obtain ⟨z, its, r, p⟩ := h.ok I.hok
    exact ⟨its, r, p.tup, z⟩
  · refine ⟨its.toList, r, ⟨o, I.kIn a o hk, hc, n, by simpa using hs⟩, ?_⟩
    have e := r.length
    simp only [Array.length_toList] at e
    omega
theorem Inv.list_inj (I : Inv X pins σ H s) (h : SqL X.K H a xs) (h' : SqL X.K H a ys) : xs = ys := by
  obtain ⟨its, r, ⟨o, n, e, _, _, d⟩, _⟩ := I.list h
  obtain ⟨its', r', ⟨o', n', e', _, _, d'⟩, _⟩ := I.list h'
  rw [e] at e'; cases e'
  rw [d] at d'
  injection d' with d1 _
  have : its = its' := by simpa using congrArg Array.toList d1
  subst this
  exact r.inj r'
theorem Inv.tuple_inj (I : Inv X pins σ H s) (h : SqT X.K H a xs) (h' : SqT X.K H a ys) : xs = ys := by
  obtain ⟨its, r, ⟨o, e, _, n, d⟩, _⟩ := I.tuple h
  obtain ⟨its', r', ⟨o', e', _, n', d'⟩, _⟩ := I.tuple h'
  rw [e] at e'; cases e'
  rw [d] at d'
  injection d' with d1 _
  have : its = its' := by simpa using congrArg Array.toList d1
  subst this
  exact r.inj r'
end
noncomputable abbrev Cx.wish (X : Cx) (E : Value → Shared → Prop) : Cx := { X with xe := E }
noncomputable abbrev Cx.nox (X : Cx) : Cx := X.wish fun _ _ => False
theorem Cx.Ok.wish {X : Cx} (ok : X.Ok) (E : Value → Shared → Prop) : (X.wish E).Ok :=
  ⟨ok.mod, ok.kind, ok.glob, ok.blt, ok.above, ok.inj, ok.has, ok.cab, ok.hd, ok.frames, ok.stk, ok.exf, ok.bs, ok.bsz, ok.noex, ok.exfs, ok.funs, ok.frf⟩
theorem Cx.Ok.unwish {X : Cx} {E : Value → Shared → Prop} (ok : (X.wish E).Ok) : X.Ok :=
  ⟨ok.mod, ok.kind, ok.glob, ok.blt, ok.above, ok.inj, ok.has, ok.cab, ok.hd, ok.frames, ok.stk, ok.exf, ok.bs, ok.bsz, ok.noex, ok.exfs, ok.funs, ok.frf⟩
section
variable {X : Cx} {pins : List (Addr × Obj)} {σ : St} {H : Hp} {s : Shared} {E : Value → Shared → Prop}
theorem Inv.wish (I : Inv X pins σ H s) (E : Value → Shared → Prop) : Inv (X.wish E) pins σ H s := ⟨I.ok.wish E, I.os, I.bare, I.base, I.loc, I.cell, I.free, I.freeC, I.pin, I.hok, I.len⟩
theorem Inv.unwish (I : Inv (X.wish E) pins σ H s) : Inv X pins σ H s := ⟨I.ok.unwish, I.os, I.bare, I.base, I.loc, I.cell, I.free, I.freeC, I.pin, I.hok, I.len⟩
theorem SP.unwish {D : Ends} {f : Flow} {s' : Shared} (h : SP (X.wish E) pins D f s') : SP X pins D f s' := by
  cases f with
  | next => obtain ⟨σ', H', I, q⟩ := h; exact ⟨σ', H', I.unwish, q⟩
  | brk => obtain ⟨σ', H', I, q⟩ := h; exact ⟨σ', H', I.unwish, q⟩
  | cont => obtain ⟨σ', H', I, q⟩ := h; exact ⟨σ', H', I.unwish, q⟩
  | ret u => obtain ⟨v, σ', H', I, r, q⟩ := h; exact ⟨v, σ', H', I.unwish, r, q⟩
theorem PSs.nox {st : List Stmt} {t : TS} (h : PSs X.nox st t) : PSs X st t := fun pins s σ H D I hw =>
  wpAny_mono (h pins s σ H D (I.wish _) hw) (fun _ _ q => q.unwish) fun _ _ z => False.elim z
end
section
variable {X : Cx} {st : Stmt} {rest : List Stmt} {t u : TS} {e : Expr} {te : TE} {pos : Pos}
noncomputable def tNext : TS := fun D σ H => D.nx σ H
noncomputable def tSeq (t u : TS) : TS := fun D σ H => t { D with nx := u D } σ H
theorem pss_nil : PSs X [] tNext := fun _ _ σ H _ I h => wpAny_execs_nil ⟨σ, H, I, h⟩
theorem zss_nil : ZSs X [] tNext := by with_unfolding_all exact pss_nil 
theorem pss_cons (h1 : PS X st t) (h2 : PSs X rest u) : PSs X (st :: rest) (tSeq t u) := by
  intro pins s σ H D I h
  refine wpAny_execs_cons (thn (h1 pins s σ H { D with nx := u D } I h) fun f s1 q => ?_)
  cases f with
  | next =>
    obtain ⟨σ', H', I', q⟩ := q
    exact h2 pins s1 σ' H' D I' q
  | ret v => exact q
  | brk => exact q
  | cont => exact q
theorem zss_cons (h1 : ZS X st t) (h2 : ZSs X rest u) : ZSs X (st :: rest) (tSeq t u) := by with_unfolding_all exact pss_cons h1 h2
theorem pss_one (h1 : PS X st t) : PSs X [st] t := by
  intro pins s σ H D I h
  refine wpAny_execs_cons (thn (h1 pins s σ H D I h) fun f s1 q => ?_)
  cases f with
  | next => exact wpAny_execs_nil q
  | ret v => exact q
  | brk => exact q
  | cont => exact q
theorem zss_one (h1 : ZS X st t) : ZSs X [st] t := by with_unfolding_all exact pss_one h1
theorem Inv.quiet {pins : List (Addr × Obj)} {σ : St} {H : Hp} {s : Shared} (I : Inv X pins σ H s) : interactive X.env = false := by simp [interactive, I.ok.kind]
noncomputable def tDrop (te : TE) : TS := fun D σ H => te σ H fun _ H1 => D.nx σ H1
theorem ps_expr (he : PE X e te) (hs : swapsWith e none pos.line X.env = pure false := by rfl) : PS X (.Expr e pos) (tDrop te) := by
  intro pins s σ H D I h
  exact wpAny_Expr_any (thn (he pins s σ H _ I h) fun v s1 ⟨x, H1, I1, r1, q1⟩ => ⟨σ, H1, I1, q1⟩) I.quiet hs
theorem zs_expr (he : ZE X e te) (hs : swapsWith e none pos.line X.env = pure false := by rfl) : ZS X (.Expr e pos) (tDrop te) := by with_unfolding_all exact ps_expr he hs
noncomputable def tRet (te : TE) : TS := fun D σ H => te σ H D.rt
theorem ps_ret (he : PE X e te) : PS X (.Return (some e) pos) (tRet te) := by
  intro pins s σ H D I h
  exact wpAny_Return_some (thn (he pins s σ H _ I h) fun v s1 ⟨x, H1, I1, r1, q1⟩ => ⟨x, σ, H1, I1, r1, q1⟩)
theorem zs_ret (he : ZE X e te) : ZS X (.Return (some e) pos) (tRet te) := by with_unfolding_all exact ps_ret he
noncomputable def tIfS (c : TT) (t u : TS) : TS := fun D σ H => c σ H fun b H1 => if b = true then t D σ H1 else u D σ H1
theorem ps_if {c : Expr} {a b : List Stmt} {tc : TT} (hc : PT X c tc) (ha : PSs X a t) (hb : PSs X b u) : PS X (.If c a b pos) (tIfS tc t u) := by
  intro pins s σ H D I h
  refine wpAny_If (thn (hc pins s σ H _ I h) fun d s1 ⟨H1, I1, q1⟩ => ?_)
  cases d with
  | true => exact ha pins s1 σ H1 D I1 q1
  | false => exact hb pins s1 σ H1 D I1 q1
theorem zs_if {c : Expr} {a b : List Stmt} {tc : TT} (hc : ZT X c tc) (ha : ZSs X a t) (hb : ZSs X b u) : ZS X (.If c a b pos) (tIfS tc t u) := by with_unfolding_all exact ps_if hc ha hb
noncomputable def tNever : TS := fun _ _ _ => False
theorem pss_never {sts : List Stmt} : PSs X sts tNever := fun _ _ _ _ _ _ h => h.elim
end
noncomputable abbrev TG := V → St → Hp → (St → Hp → Prop) → Prop
noncomputable abbrev TGs := List V → St → Hp → (St → Hp → Prop) → Prop
noncomputable def PG (X : Cx) (target : Expr) (t : TG) : Prop :=
  ∀ (pins : List (Addr × Obj)) (s : Shared) (σ : St) (H : Hp) (v : V) (u : Value) (Q : St → Hp → Prop), Inv X pins σ H s → RelV v u → t v σ H Q →
    wpAny (model X.prog X.w) X.A (assign target X.env u) (fun _ s' => ∃ σ' H', Inv X pins σ' H' s' ∧ Q σ' H') X.xe s
@[irreducible] noncomputable def ZG (X : Cx) (target : Expr) (t : TG) : Prop := PG X target t
noncomputable def PGs (X : Cx) (ts : List Expr) (t : TGs) : Prop :=
  ∀ (pins : List (Addr × Obj)) (s : Shared) (σ : St) (H : Hp) (vs : List V) (us : List Value) (Q : St → Hp → Prop), Inv X pins σ H s → Vals vs us → t vs σ H Q →
    wpAny (model X.prog X.w) X.A (assignInOrder ((assignEach ts X.env).map (·.2)) us) (fun _ s' => ∃ σ' H', Inv X pins σ' H' s' ∧ Q σ' H') X.xe s
@[irreducible] noncomputable def ZGs (X : Cx) (ts : List Expr) (t : TGs) : Prop := PGs X ts t
noncomputable abbrev TSet := V → V → V → Hp → (Hp → Prop) → Prop
noncomputable def PSet (X : Cx) (t : TSet) : Prop :=
  ∀ (pins : List (Addr × Obj)) (s : Shared) (σ : St) (H : Hp) (o i v : V) (ov iv u : Value) (Q : Hp → Prop), Inv X pins σ H s → RelV o ov → RelV i iv → RelV v u → t o i v H Q →
    wpAny (model X.prog X.w) X.A (setItem ov iv u) (fun _ s' => ∃ H', Inv X pins σ H' s' ∧ Q H') X.xe s
section
variable {X : Cx} {pos : Pos}
noncomputable def gName (i : Nat) : TG := fun v σ H Q => Q (σ.set i (some v)) H
theorem pg_name {i : Nat} {x : Str} (hN : X.N.Nodup) (hi : X.N[i]? = some x) (hx : Loc X.env.scope x) (hf : X.fn x = true ∨ X.env.scope.names.lookup x = some .local := by first | exact .inl rfl | exact .inr rfl | assumption) : PG X (.Name x pos) (gName i) := by
  intro pins s σ H v u Q I r h
  exact wpAny_assign_Name (store_ok I hN hi hx r (fun s' I' => ⟨_, H, I', h⟩) hf)
theorem zg_name {i : Nat} {x : Str} (hN : X.N.Nodup) (hi : X.N[i]? = some x) (hx : Loc X.env.scope x) (hf : X.fn x = true ∨ X.env.scope.names.lookup x = some .local := by first | exact .inl rfl | exact .inr rfl | assumption) : ZG X (.Name x pos) (gName i) := by with_unfolding_all exact pg_name hN hi hx hf
noncomputable def gNil : TGs := fun vs σ H Q => vs = [] ∧ Q σ H
noncomputable def gCons (t : TG) (u : TGs) : TGs := fun vs σ H Q => ∃ v r, vs = v :: r ∧ t v σ H fun σ' H' => u r σ' H' Q
theorem pgs_nil : PGs X [] gNil := by
  intro pins s σ H vs us Q I r h
  obtain ⟨e, h⟩ := h
  subst e
  cases r
  exact assignInOrder_nil ⟨σ, H, I, h⟩
theorem zgs_nil : ZGs X [] gNil := by with_unfolding_all exact pgs_nil 
theorem pgs_cons {e : Expr} {es : List Expr} {t : TG} {u : TGs} (h1 : PG X e t) (h2 : PGs X es u)
    (hs : (assignEach (e :: es) X.env).map (·.2) = assign e X.env :: (assignEach es X.env).map (·.2) := by rfl) : PGs X (e :: es) (gCons t u) := by
  intro pins s σ H vs us Q I r h
  obtain ⟨v, vr, e1, h⟩ := h
  subst e1
  cases r with
  | cons r rr =>
    rw [hs]
    refine assignInOrder_cons (thn (h1 pins s σ H _ _ _ I r h) fun _ s1 ⟨σ1, H1, I1, q1⟩ => ?_)
    exact h2 pins s1 σ1 H1 _ _ Q I1 rr q1
theorem zgs_cons {e : Expr} {es : List Expr} {t : TG} {u : TGs} (h1 : ZG X e t) (h2 : ZGs X es u)
    (hs : (assignEach (e :: es) X.env).map (·.2) = assign e X.env :: (assignEach es X.env).map (·.2) := by rfl) : ZGs X (e :: es) (gCons t u) := by with_unfolding_all exact pgs_cons h1 h2 hs
noncomputable def gTup (K : PySem.W.Frag) (n : Nat) (t : TGs) : TG := fun v σ H Q => ∃ a xs, v = .ref a ∧ SqT K H a xs ∧ xs.length = n ∧ t xs σ H Q
theorem pg_tup {es : List Expr} {k : Nat} {t : TGs} {n : Nat} (hc : X.calm = true) (h : PGs X es t)
    (hn : (assignEach es X.env).length = n := by rfl) (hst : (assignEach es X.env).findIdx? (·.1) = none := by rfl) : PG X (.Tuple es k pos) (gTup X.K n t) := by
  intro pins s σ H v u Q I r hw
  obtain ⟨a, xs, e1, hq, hl, hw⟩ := hw
  subst e1
  cases r
  obtain ⟨its, rv, ht, hz⟩ := I.tuple hq
  refine assign_Tuple_tuple (I.ok.hd hc) ht (by simp [hn, ← hl, rv.length]) hst fun h' hx => ?_
  have I1 : Inv X pins σ H { s with heap := h' } := I.kept (t' := s.toks) fun b o e => hx b o (Nat.ne_of_lt (Heap.lt_size e)) e
  exact h pins _ σ H xs _ Q I1 (by simpa using rv) hw
theorem zg_tup {es : List Expr} {k : Nat} {t : TGs} {n : Nat} (hc : X.calm = true) (h : ZGs X es t)
    (hn : (assignEach es X.env).length = n := by rfl) (hst : (assignEach es X.env).findIdx? (·.1) = none := by rfl) : ZG X (.Tuple es k pos) (gTup X.K n t) := by with_unfolding_all exact pg_tup hc h hn hst
noncomputable def gSub (to ti : TE) (t : TSet) : TG := fun v σ H Q => to σ H fun o H1 => ti σ H1 fun i H2 => t o i v H2 fun H3 => Q σ H3
theorem pg_sub {o i : Expr} {to ti : TE} {t : TSet} (ho : PE X o to) (hi : PE X i ti) (hs : PSet X t)
    (ha : ∀ v, assign (.Subscript o i pos) X.env v = (do
      let ov ← holding [v] (eval o X.env)
      let iv ← holding [v, ov] (eval i X.env)
      standAt pos
      holding [v, ov, iv] (setItem ov iv v)
      release [v, ov, iv] []) := by intro _; rfl) : PG X (.Subscript o i pos) (gSub to ti t) := by
  intro pins s σ H v u Q I r h
  rw [ha]
  refine wpAny_bind (wpAny_holding (thn (ho pins s σ H _ I h) fun ov s1 ⟨x, H1, I1, r1, q1⟩ => ?_))
  refine wpAny_bind (wpAny_holding (thn (hi pins s1 σ H1 _ I1 q1) fun iv s2 ⟨y, H2, I2, r2, q2⟩ => ?_))
  refine wpAny_bind (wpAny_standAt (wpAny_bind (wpAny_holding (thn (hs pins s2 σ H2 x y v ov iv u _ I2 r1 r2 r q2) fun _ s3 ⟨H3, I3, q3⟩ => ?_))))
  exact wpAny_release ⟨σ, H3, I3, q3⟩
theorem zg_sub {o i : Expr} {to ti : TE} {t : TSet} (ho : ZE X o to) (hi : ZE X i ti) (hs : PSet X t)
    (ha : ∀ v, assign (.Subscript o i pos) X.env v = (do
      let ov ← holding [v] (eval o X.env)
      let iv ← holding [v, ov] (eval i X.env)
      standAt pos
      holding [v, ov, iv] (setItem ov iv v)
      release [v, ov, iv] []) := by intro _; rfl) : ZG X (.Subscript o i pos) (gSub to ti t) := by with_unfolding_all exact pg_sub ho hi hs ha
noncomputable def tAsg (te : TE) (g : TG) : TS := fun D σ H => te σ H fun x H1 => g x σ H1 D.nx
theorem ps_asg {tg e : Expr} {te : TE} {g : TG} (he : PE X e te) (hg : PG X tg g) (hs : swapsWithSole [tg] e pos.line X.env = pure false := by rfl) (hw : swappedStores [tg] e X.env = pure none := by rfl)
    (h1 : (assignEach [tg] X.env).map (·.2) = [assign tg X.env] := by rfl) : PS X (.Assign [tg] e pos) (tAsg te g) := by
  intro pins s σ H D I h
  refine wpAny_Assign_stores (thn (he pins s σ H _ I h) fun v s1 ⟨x, H1, I1, r1, q1⟩ => ?_) hs hw
  rw [h1]
  exact thn (hg pins s1 σ H1 x v _ I1 r1 q1) fun _ s2 q => q
theorem zs_asg {tg e : Expr} {te : TE} {g : TG} (he : ZE X e te) (hg : ZG X tg g) (hs : swapsWithSole [tg] e pos.line X.env = pure false := by rfl) (hw : swappedStores [tg] e X.env = pure none := by rfl)
    (h1 : (assignEach [tg] X.env).map (·.2) = [assign tg X.env] := by rfl) : ZS X (.Assign [tg] e pos) (tAsg te g) := by with_unfolding_all exact ps_asg he hg hs hw h1
theorem ps_set {i : Nat} {x : Str} {e : Expr} {te : TE} {pos' : Pos} (hN : X.N.Nodup) (hi : X.N[i]? = some x) (hx : Loc X.env.scope x) (he : PE X e te) (hs : swapsWith e (some (.Name x pos')) pos.line X.env = pure false := by rfl) (hf : X.fn x = true ∨ X.env.scope.names.lookup x = some .local := by first | exact .inl rfl | exact .inr rfl | assumption) :
    PS X (.Assign [.Name x pos'] e pos) (tAsg te (gName i)) := by
  intro pins s σ H D I h
  refine wpAny_Assign_Name (thn (he pins s σ H _ I h) fun v s1 ⟨y, H1, I1, r1, q1⟩ => ?_) hs
  exact store_ok I1 hN hi hx r1 (fun s2 I2 => ⟨_, H1, I2, q1⟩) hf
theorem zs_set {i : Nat} {x : Str} {e : Expr} {te : TE} {pos' : Pos} (hN : X.N.Nodup) (hi : X.N[i]? = some x) (hx : Loc X.env.scope x) (he : ZE X e te) (hs : swapsWith e (some (.Name x pos')) pos.line X.env = pure false := by rfl) (hf : X.fn x = true ∨ X.env.scope.names.lookup x = some .local := by first | exact .inl rfl | exact .inr rfl | assumption) :
    ZS X (.Assign [.Name x pos'] e pos) (tAsg te (gName i)) := by with_unfolding_all exact ps_set hN hi hx he hs hf
noncomputable def tPar (i j : Nat) (ta : TA) : TS := fun D σ H => ta σ H fun vs H1 => ∃ v w, vs = [v, w] ∧ D.nx ((σ.set i (some v)).set j (some w)) H1
theorem ps_par {i j : Nat} {x y : Str} {a b : Expr} {ta : TA} {px py pt : Pos} {kt k2 pt2} (hc : X.calm = true) (hN : X.N.Nodup) (hi : X.N[i]? = some x) (hj : X.N[j]? = some y) (hij : i ≠ j)
    (hx : X.env.scope.names.lookup x = some .local) (hy : X.env.scope.names.lookup y = some .local) (ha : PA X [a, b] ta)
    (hw : swappedStores [.Tuple [.Name x px, .Name y py] kt pt] (.Tuple [a, b] k2 pt2) X.env = pure (some [x, y]))
    (hs : swapsWithSole [.Tuple [.Name x px, .Name y py] kt pt] (.Tuple [a, b] k2 pt2) pos.line X.env = pure false := by rfl) :
    PS X (.Assign [.Tuple [.Name x px, .Name y py] kt pt] (.Tuple [a, b] k2 pt2) pos) (tPar i j ta) := by
  intro pins s σ H D I h
  rw [exec_Assign_arm]
  refine wpAny_bind (wpAny_standAt ?_)
  rw [hs]
  refine wpAny_bind (wpAny_pure ?_)
  rw [if_neg (by decide)]
  refine wpAny_bind (Tuple_ (thn (ha _ pins s σ H _ I h) fun us s1 ⟨vs, H1, I1, r1, q1⟩ => ?_))
  obtain ⟨v, w, e1, q1⟩ := q1
  subst e1
  obtain ⟨u1, u2, rfl, rv, rw'⟩ : ∃ u1 u2, us = [u1, u2] ∧ RelV v u1 ∧ RelV w u2 := by
    cases r1 with
    | cons p q =>
      cases q with
      | cons p' q' =>
        cases q'
        exact ⟨_, _, rfl, p, p'⟩
  refine wpAny_newObj_type ?_ (by show 2 ≤ sizeLine; decide)
  have I2 : Inv X pins σ H1 { s1 with heap := s1.heap.push { cls := .type "tuple", data := .seq [u1, u2].toArray } } := I1.kept (t' := s1.toks) fun b o e => Heap.get?_push_of_some _ e
  rw [hw]
  refine wpAny_bind (wpAny_pure ?_)
  show wpAny (model X.prog X.w) X.A (do rule "assign.swapped-stores"; let items ← unpackItems (.ref s1.heap.objs.size) 2 none; assignInOrder [fun v => bindName X.env y v, fun v => bindName X.env x v] items.reverse; pure Flow.next) _ _ _
  refine wpAny_bind (wpAny_rule (wpAny_bind (unpackItems_tuple (items := #[u1, u2]) (I.ok.hd hc) (IsTup.new s1.heap _) fun h' hx' => ?_)))
  have I3 := I2.kept (h' := h') (t' := s1.toks) fun b o e => hx' b o (Nat.ne_of_lt (Heap.lt_size e)) e
  show wpAny _ _ (assignInOrder [fun v => bindName X.env y v, fun v => bindName X.env x v] [u2, u1] >>= fun _ => pure Flow.next) _ _ _
  refine wpAny_bind (assignInOrder_cons (wpAny_bindName (store_ok I3 hN hj (.inl hy) rw' (fun s2 I4 => ?_) (.inr hy))))
  refine assignInOrder_cons (wpAny_bindName (store_ok I4 hN hi (.inl hx) rv (fun s3 I5 => assignInOrder_nil (wpAny_pure ?_)) (.inr hx)))
  rw [List.set_comm _ _ (Ne.symm hij)] at I5
  exact ⟨_, H1, I5, q1⟩
theorem zs_par {i j : Nat} {x y : Str} {a b : Expr} {ta : TA} {px py pt : Pos} {kt k2 pt2} (hc : X.calm = true) (hN : X.N.Nodup) (hi : X.N[i]? = some x) (hj : X.N[j]? = some y) (hij : i ≠ j)
    (hx : X.env.scope.names.lookup x = some .local) (hy : X.env.scope.names.lookup y = some .local) (ha : ZA X [a, b] ta)
    (hw : swappedStores [.Tuple [.Name x px, .Name y py] kt pt] (.Tuple [a, b] k2 pt2) X.env = pure (some [x, y]))
    (hs : swapsWithSole [.Tuple [.Name x px, .Name y py] kt pt] (.Tuple [a, b] k2 pt2) pos.line X.env = pure false := by rfl) :
    ZS X (.Assign [.Tuple [.Name x px, .Name y py] kt pt] (.Tuple [a, b] k2 pt2) pos) (tPar i j ta) := by with_unfolding_all exact ps_par hc hN hi hj hij hx hy ha hw hs
end
section
variable {X : Cx} {pos : Pos}
noncomputable def tWhile (c : TT) (tb : TS) : TS := fun D σ H => ∃ W : Nat → St → Hp → Prop, (∃ m, W m σ H) ∧ ∀ m σ H, W m σ H →
  c σ H fun b H1 => if b = true then ∃ N : St → Hp → Prop, (∀ σ' H', N σ' H' → ∃ m', m' < m ∧ W m' σ' H') ∧ tb { D with nx := N, ct := N, bk := D.nx } σ H1 else D.nx σ H1
theorem ps_while {c : Expr} {body : List Stmt} {tc : TT} {tb : TS} (hp : PassesOwn (model X.prog X.w) X.A X.env X.xe) (hc : PT X c tc) (hb : PSs X body tb) : PS X (.While c body [] pos) (tWhile tc tb) := by
  intro pins s σ H D I h
  obtain ⟨W, ⟨m0, w0⟩, turn⟩ := h
  refine wpAny_While (codeAny_whileLoop (fun n s' => ∃ σ' H', Inv X pins σ' H' s' ∧ W n σ' H') ?_ m0 ⟨σ, H, I, w0⟩)
  rintro n s1 ⟨σ1, H1, I1, w1⟩
  refine wpAny_passesOwn hp (thn (hc pins s1 σ1 H1 _ I1 (turn n σ1 H1 w1)) fun b s2 ⟨H2, I2, q2⟩ => ?_)
  cases b with
  | true =>
    obtain ⟨N, hN, q2⟩ := q2
    rw [if_pos rfl]
    refine wpAny_passesOwn hp (thn (hb pins s2 σ1 H2 _ I2 q2) fun f s3 q3 => ?_)
    cases f with
    | next =>
      obtain ⟨σ3, H3, I3, n3⟩ := q3
      obtain ⟨m', hm, w3⟩ := hN σ3 H3 n3
      exact ⟨m', hm, σ3, H3, I3, w3⟩
    | cont =>
      obtain ⟨σ3, H3, I3, n3⟩ := q3
      obtain ⟨m', hm, w3⟩ := hN σ3 H3 n3
      exact ⟨m', hm, σ3, H3, I3, w3⟩
    | brk => exact q3
    | ret v => exact q3
  | false =>
    rw [if_neg Bool.false_ne_true]
    exact wpAny_execs_nil ⟨σ1, H2, I2, q2⟩
theorem zs_while {c : Expr} {body : List Stmt} {tc : TT} {tb : TS} (hp : PassesOwn (model X.prog X.w) X.A X.env X.xe) (hc : ZT X c tc) (hb : ZSs X body tb) : ZS X (.While c body [] pos) (tWhile tc tb) := by with_unfolding_all exact ps_while hp hc hb
end
structure It where
  go : Nat → Hp → Prop
  yld : Nat → Hp → V → Hp → Prop
  stop : Nat → Hp → Prop
noncomputable def FpOk (X : Cx) (pins : List (Addr × Obj)) (H : Hp) (b : Addr) : Prop :=
  H b = none ∧ b ≠ X.env.locals ∧ b ∉ X.fs ∧ (b ∈ X.ex ∨ X.s₀.heap.objs.size ≤ b) ∧ (∀ x c, X.env.cells.lookup x = some c → c ≠ b) ∧ ∀ p ∈ X.pn ++ pins, p.1 ≠ b
theorem Inv.fpOk {X : Cx} {pins : List (Addr × Obj)} {σ : St} {H H' : Hp} {s : Shared} {b : Addr} (I : Inv X pins σ H s) (hb : s.heap.objs.size ≤ b) (hn : H' b = none) : FpOk X pins H' b := by
  refine ⟨hn, Nat.ne_of_gt (Nat.lt_of_lt_of_le I.lt hb), I.nofs hb, .inr (Nat.le_trans I.sz hb), fun x c e z => ?_, fun p hp z => ?_⟩
  · obtain ⟨v, q⟩ := I.cell x c e
    exact absurd (Nat.lt_of_lt_of_le q.lt (by rw [z]; exact hb)) (Nat.lt_irrefl _)
  · exact absurd (Nat.lt_of_lt_of_le (Heap.lt_size (I.pin p hp).1) (by rw [z]; exact hb)) (Nat.lt_irrefl _)
structure Turn (P : Program) (w : World) (K : PySem.W.Frag) (tg : Expr) (J : It) (fp : List Addr) (it : Addr) (tn : Nat → Heap → Prop) : Prop where
  mem : it ∈ fp
  obj : ∀ i h, tn i h → ∀ b ∈ fp, ∃ o, h.get? b = some o ∧ ∀ v, o.data ≠ .cell v
  keep : ∀ i h h', tn i h → (∀ b ∈ fp, ∀ o, h.get? b = some o → h'.get? b = some o) → tn i h'
  item : ∀ (X : Cx), X.prog = P → X.w = w → X.K = K → X.calm = true → ∀ (i : Nat) (pins : List (Addr × Obj)) (s : Shared) (σ : St) (H : Hp) (E : Value → Shared → Prop), Inv X pins σ H s → (∀ b ∈ fp, FpOk X pins H b) → tn i s.heap → J.go i H →
    wpAny (model P w) X.A (pyNext (.ref it)) (fun r s1 => ∃ u, r = some u ∧
      wpAny (model P w) X.A (letOwnedTupleGo tg (.ref it) u) (fun _ s2 => ∃ x H', Inv X pins σ H' s2 ∧ RelV x u ∧ J.yld i H x H' ∧ tn (i + 1) s2.heap ∧ ∀ b ∈ fp, H' b = none) E s1) E s
  done : ∀ (X : Cx), X.prog = P → X.w = w → X.K = K → X.calm = true → ∀ (i : Nat) (pins : List (Addr × Obj)) (s : Shared) (σ : St) (H : Hp) (E : Value → Shared → Prop), Inv X pins σ H s → (∀ b ∈ fp, FpOk X pins H b) → tn i s.heap → J.stop i H →
    wpAny (model P w) X.A (pyNext (.ref it)) (fun r s1 => r = none ∧ Inv X pins σ H s1) E s
  self : ∀ (A : Around) (i : Nat) (s : Shared) (Q : Value → Shared → Prop) (E : Value → Shared → Prop), tn i s.heap → Q (.ref it) s → wpAny (model P w) A (pyIter (.ref it)) Q E s
noncomputable abbrev TI := St → Hp → (It → Hp → Prop) → Prop
noncomputable def PIE (X : Cx) (pins : List (Addr × Obj)) (σ : St) (tg : Expr) (R : It → Hp → Prop) (itv : Value) (s2 : Shared) : Prop :=
  ∃ (it : Addr) (fp : List Addr) (tn : Nat → Heap → Prop) (J : It) (H' : Hp), itv = .ref it ∧ Inv X pins σ H' s2 ∧ Turn X.prog X.w X.K tg J fp it tn ∧ tn 0 s2.heap ∧ (∀ b ∈ fp, FpOk X pins H' b) ∧ R J H'
noncomputable def PI (X : Cx) (tg iter : Expr) (wi : TI) : Prop :=
  ∀ (pins : List (Addr × Obj)) (s : Shared) (σ : St) (H : Hp) (R : It → Hp → Prop), Inv X pins σ H s → wi σ H R →
    wpAny (model X.prog X.w) X.A (eval iter X.env) (fun v s1 => wpAny (model X.prog X.w) X.A (pyIter v) (PIE X pins σ tg R) X.xe s1) X.xe s
@[irreducible] noncomputable def ZI (X : Cx) (tg iter : Expr) (wi : TI) : Prop := PI X tg iter wi
theorem go_of {M : Model} {A : Around} {E : Value → Shared → Prop} {s : Shared} {tg : Expr} {it : Addr} {u : Value} {o : Obj} {n : String} {vs : Array Value} {Q : Unit → Shared → Prop} (ho : s.heap.get? it = some o) (hc : o.cls = .type n) (hd : o.data = .fields vs)
    (hn : ["enumerate", "zip", "dict_itemiterator", "dict_reverseitemiterator", "odict_iterator", "itertools.zip_longest", "itertools.pairwise"].contains n = false) (hQ : Q () s) : wpAny M A (letOwnedTupleGo tg (.ref it) u) Q E s := by
  unfold letOwnedTupleGo
  cases tg <;> first
    | exact wpAny_pure hQ
    | (cases u <;> first
        | exact wpAny_pure hQ
        | (refine wpAny_bind (wpAny_load ho ?_)
           rw [hc, hd]
           show wpAny M A (if (["enumerate", "zip", "dict_itemiterator", "dict_reverseitemiterator", "odict_iterator", "itertools.zip_longest", "itertools.pairwise"].contains n && vs[0]? == some (rawInt _)) = true then _ else _) Q E s
           rw [if_neg (by intro h; rw [hn, Bool.false_and] at h; cases h)]
           exact wpAny_pure hQ))

noncomputable def Itl (K : PySem.W.Frag) (a : Addr) : It :=
  ⟨fun i H => ∃ xs x, SqL K H a xs ∧ xs[i]? = some x, fun i H x H' => H' = H ∧ ∀ xs, SqL K H a xs → xs[i]? = some x, fun i H => ∃ xs, SqL K H a xs ∧ xs.length ≤ i⟩
noncomputable def Itt (K : PySem.W.Frag) (a : Addr) : It :=
  ⟨fun i H => ∃ xs x, SqT K H a xs ∧ xs[i]? = some x, fun i H x H' => H' = H ∧ ∀ xs, SqT K H a xs → xs[i]? = some x, fun i H => ∃ xs, SqT K H a xs ∧ xs.length ≤ i⟩
noncomputable def Itr (lo : Int) (n : Nat) : It := ⟨fun i _ => i < n, fun i H x H' => H' = H ∧ x = .int (lo + i), fun i _ => n ≤ i⟩
theorem turn_list {P : Program} {w : World} {K : PySem.W.Frag} {tg : Expr} (a it : Addr) : Turn P w K tg (Itl K a) [it] it (fun i h => h.IsListIter it a i) where
  mem := by simp
  obj := fun i h st b hb => by
    have e : b = it := by simpa using hb
    subst e
    obtain ⟨o, e, c, d⟩ := st
    exact ⟨o, e, fun v z => by rw [d] at z; cases z⟩
  keep := fun i h h' st k => st.at fun o e => k it (by simp) o e
  item := by
    intro X hP hw hK hc i pins s σ H E I hf st hg
    subst hP hw hK
    obtain ⟨xs, x, hq, hx⟩ := hg
    obtain ⟨its, rv, p, hz⟩ := I.list hq
    obtain ⟨u, hu, ru⟩ := rv.get hx
    obtain ⟨f0, f1, f2, f3, f4, f5⟩ := hf it (by simp)
    refine wpAny_pyNext_list_item st p.isList (x := u) (by simpa using hu) fun h' st' sb => ?_
    have I1 : Inv X pins σ H { s with heap := h' } := I.turned (t' := s.toks) (fun b o hb e => (sb.2 b hb).trans e) f0 f1 f3 f4 f5
    obtain ⟨o, e, c, d⟩ := id st'
    exact ⟨u, rfl, go_of (s := { s with heap := h' }) e c d (by decide) ⟨x, H, I1, ru, ⟨rfl, fun ys hy => by rw [I.list_inj hy hq]; exact hx⟩, st', fun b hb => (hf b hb).1⟩⟩
  done := by
    intro X hP hw hK hc i pins s σ H E I hf st hg
    subst hP hw hK
    obtain ⟨xs, hq, hx⟩ := hg
    obtain ⟨its, rv, p, hz⟩ := I.list hq
    obtain ⟨f0, f1, f2, f3, f4, f5⟩ := hf it (by simp)
    have hl := rv.length
    exact wpAny_pyNext_list_end (I.ok.hd hc) st p.isList (by simp; omega) fun h' eb => ⟨rfl, I.turned (t' := s.toks) (fun b o hb e => eb b o hb e) f0 f1 f3 f4 f5⟩
  self := fun _ _ _ _ _ st h => wpAny_pyIter_listiter st h
theorem turn_tuple {P : Program} {w : World} {K : PySem.W.Frag} {tg : Expr} (a it : Addr) : Turn P w K tg (Itt K a) [it] it (fun i h => h.IsTupleIter it a i) where
  mem := by simp
  obj := fun i h st b hb => by
    have e : b = it := by simpa using hb
    subst e
    obtain ⟨o, e, c, d⟩ := st
    exact ⟨o, e, fun v z => by rw [d] at z; cases z⟩
  keep := fun i h h' st k => st.at fun o e => k it (by simp) o e
  item := by
    intro X hP hw hK hc i pins s σ H E I hf st hg
    subst hP hw hK
    obtain ⟨xs, x, hq, hx⟩ := hg
    obtain ⟨its, rv, p, hz⟩ := I.tuple hq
    obtain ⟨u, hu, ru⟩ := rv.get hx
    obtain ⟨f0, f1, f2, f3, f4, f5⟩ := hf it (by simp)
    refine wpAny_pyNext_tuple_item st (show s.heap.IsTuple a its.toArray from p) (x := u) (by simpa using hu) fun h' st' sb => ?_
    have I1 : Inv X pins σ H { s with heap := h' } := I.turned (t' := s.toks) (fun b o hb e => (sb.2 b hb).trans e) f0 f1 f3 f4 f5
    obtain ⟨o, e, c, d⟩ := id st'
    exact ⟨u, rfl, go_of (s := { s with heap := h' }) e c d (by decide) ⟨x, H, I1, ru, ⟨rfl, fun ys hy => by rw [I.tuple_inj hy hq]; exact hx⟩, st', fun b hb => (hf b hb).1⟩⟩
  done := by
    intro X hP hw hK hc i pins s σ H E I hf st hg
    subst hP hw hK
    obtain ⟨xs, hq, hx⟩ := hg
    obtain ⟨its, rv, p, hz⟩ := I.tuple hq
    obtain ⟨f0, f1, f2, f3, f4, f5⟩ := hf it (by simp)
    have hl := rv.length
    exact wpAny_pyNext_tuple_end (I.ok.hd hc) st (show s.heap.IsTuple a its.toArray from p) (by simp; omega) fun h' eb => ⟨rfl, I.turned (t' := s.toks) (fun b o hb e => eb b o hb e) f0 f1 f3 f4 f5⟩
  self := fun _ _ _ _ _ st h => wpAny_pyIter_tupleiter st h
theorem turn_range {P : Program} {w : World} {K : PySem.W.Frag} {tg : Expr} (it : Addr) (lo : Int) (n : Nat) : Turn P w K tg (Itr lo n) [it] it (fun i h => IsRangeIter h it (lo + (i : Nat) * 1) ((n : Int) - (i : Nat)) 1) where
  mem := by simp
  obj := fun i h st b hb => by
    have e : b = it := by simpa using hb
    subst e
    exact ⟨_, st, fun v z => by
      have z' : Data.fields _ = Data.cell v := z
      cases z'⟩
  keep := fun i h h' st k => k it (by simp) _ st
  item := by
    intro X hP hw hK hc i pins s σ H E I hf st hg
    subst hP hw hK
    obtain ⟨f0, f1, f2, f3, f4, f5⟩ := hf it (by simp)
    have W := Walks.range (prog := X.prog) (w := X.w) (I.ok.hd hc) it lo 1 n
    refine W.item i s _ _ hg st fun v h' tk hv st' kk => ?_
    obtain ⟨t, rfl⟩ := hv
    have I1 : Inv X pins σ H { s with heap := h', toks := tk } := I.turned (fun b o hb e => kk b o (by simpa using hb) e) f0 f1 f3 f4 f5
    refine ⟨_, rfl, go_of (s := { s with heap := h', toks := tk }) (n := "range_iterator") st' rfl rfl (by decide) ⟨.int (lo + i), H, I1, ⟨t, ?_⟩, ⟨rfl, rfl⟩, st', fun b hb => (hf b hb).1⟩⟩
    rw [Int.mul_one]
  done := by
    intro X hP hw hK hc i pins s σ H E I hf st hg
    subst hP hw hK
    obtain ⟨f0, f1, f2, f3, f4, f5⟩ := hf it (by simp)
    exact wpAny_pyNext_range_end (I.ok.hd hc) st (by have : n ≤ i := hg; omega) fun h' eb => ⟨rfl, I.turned (t' := s.toks) (fun b o hb e => eb b o hb e) f0 f1 f3 f4 f5⟩
  self := fun _ _ _ _ _ st h => wpAny_pyIter_rangeiter st h
end L2
namespace L2
open PySem PySem.Spec PyProof.Rows
section
variable {X : Cx} {tg : Expr}
noncomputable def iList (K : PySem.W.Frag) (tl : TE) : TI := fun σ H R => tl σ H fun x H1 => ∃ a, x = .ref a ∧ (∃ xs, SqL K H1 a xs) ∧ R (Itl K a) H1
noncomputable def iTup (K : PySem.W.Frag) (tl : TE) : TI := fun σ H R => tl σ H fun x H1 => ∃ a, x = .ref a ∧ (∃ xs, SqT K H1 a xs) ∧ R (Itt K a) H1
theorem pi_list {l : Expr} {tl : TE} (hl : PE X l tl) : PI X tg l (iList X.K tl) := by
  intro pins s σ H R I h
  refine thn (hl pins s σ H _ I h) fun v s1 ⟨x, H1, I1, r1, q1⟩ => ?_
  obtain ⟨a, e, ⟨xs, hq⟩, q⟩ := q1
  subst e
  cases r1
  obtain ⟨its, rv, p, hz⟩ := I1.list hq
  refine wpAny_pyIter_list p.isList ?_
  refine ⟨s1.heap.objs.size, [s1.heap.objs.size], _, _, H1, rfl, I1.kept (t' := s1.toks) fun b o e => Heap.get?_push_of_some _ e, turn_list a _, ⟨_, Heap.get?_push_size _ rfl, rfl, rfl⟩, fun b hb => ?_, q⟩
  have e : b = s1.heap.objs.size := by simpa using hb
  subst e
  exact I1.fpOk (Nat.le_refl _) (I1.hok.fresh (Nat.le_refl _))
theorem zi_list {l : Expr} {tl : TE} (hl : ZE X l tl) : ZI X tg l (iList X.K tl) := by with_unfolding_all exact pi_list hl
theorem pi_tup {l : Expr} {tl : TE} (hl : PE X l tl) : PI X tg l (iTup X.K tl) := by
  intro pins s σ H R I h
  refine thn (hl pins s σ H _ I h) fun v s1 ⟨x, H1, I1, r1, q1⟩ => ?_
  obtain ⟨a, e, ⟨xs, hq⟩, q⟩ := q1
  subst e
  cases r1
  obtain ⟨its, rv, p, hz⟩ := I1.tuple hq
  refine wpAny_pyIter_tuple (show s1.heap.IsTuple a its.toArray from p) ?_
  refine ⟨s1.heap.objs.size, [s1.heap.objs.size], _, _, H1, rfl, I1.kept (t' := s1.toks) fun b o e => Heap.get?_push_of_some _ e, turn_tuple a _, ⟨_, Heap.get?_push_size _ rfl, rfl, rfl⟩, fun b hb => ?_, q⟩
  have e : b = s1.heap.objs.size := by simpa using hb
  subst e
  exact I1.fpOk (Nat.le_refl _) (I1.hok.fresh (Nat.le_refl _))
theorem zi_tup {l : Expr} {tl : TE} (hl : ZE X l tl) : ZI X tg l (iTup X.K tl) := by with_unfolding_all exact pi_tup hl
theorem range_it {pins : List (Addr × Obj)} {σ : St} {H : Hp} {s : Shared} {R : It → Hp → Prop} {E : Value → Shared → Prop} {lo hi : Int} {t u v : Tok} {tk : Nat} (I : Inv X pins σ H s) (h1 : -(2 ^ 62) ≤ lo) (h2 : lo < 2 ^ 62) (h3 : -(2 ^ 62) ≤ hi) (h4 : hi < 2 ^ 62)
    (q : R (Itr lo (hi - lo).toNat) H) : wpAny (model X.prog X.w) X.A (pyIter (.ref s.heap.objs.size)) (PIE X pins σ tg R) E { s with heap := s.heap.push { cls := .type "range", data := .fields #[.int lo t, .int hi u, .int 1 v] }, toks := tk } := by
  refine wpAny_pyIter_range (IsRange.new ..) (small_one h1 h2 h3 h4) ?_
  have I1 : Inv X pins σ H { s with heap := s.heap.push { cls := .type "range", data := .fields #[.int lo t, .int hi u, .int 1 v] }, toks := tk } := I.kept fun b o e => Heap.get?_push_of_some _ e
  refine ⟨(s.heap.push { cls := .type "range", data := .fields #[.int lo t, .int hi u, .int 1 v] }).objs.size, [(s.heap.push { cls := .type "range", data := .fields #[.int lo t, .int hi u, .int 1 v] }).objs.size], _, _, H, rfl,
    I1.kept (t' := tk) fun b o e => Heap.get?_push_of_some _ e, turn_range _ lo (hi - lo).toNat, ?_, fun b hb => ?_, q⟩
  · have e1 : lo + ((0 : Nat) : Int) * 1 = lo := by simp
    have e2 : (((hi - lo).toNat : Nat) : Int) - ((0 : Nat) : Int) = Builtin.Range.rangeSize lo hi 1 := by rw [rangeSize_one]; split <;> omega
    show IsRangeIter _ _ (lo + ((0 : Nat) : Int) * 1) ((((hi - lo).toNat : Nat) : Int) - ((0 : Nat) : Int)) 1
    rw [e1, e2]
    exact Heap.get?_push_size _ rfl
  · have e : b = (s.heap.push { cls := .type "range", data := .fields #[.int lo t, .int hi u, .int 1 v] }).objs.size := by simpa using hb
    subst e
    exact I1.fpOk (Nat.le_refl _) (I1.hok.fresh (Nat.le_refl _))
noncomputable def iRng1 (ta : TA) : TI := fun σ H R => ta σ H fun vs H1 => ∃ j : Int, vs = [.int j] ∧ -(2 ^ 62) ≤ j ∧ j < 2 ^ 62 ∧ R (Itr 0 j.toNat) H1
theorem pi_range1 {a : Expr} {ta : TA} {p pos : Pos} (hg : Gl X "range") (hm : X.mg "range" = none) (ha : PA X [a] ta) (hs : starEach [a] X.env = [(false, eval a X.env)] := by rfl) : PI X tg (.Call (.Name "range" p) [a] [] pos) (iRng1 ta) := by
  intro pins s σ H R I h
  refine Call_ (ld_blt I hg hm boot_range (PyProof.Rows.callWith_type1 (thn (ha pos pins s σ H _ I h) fun us s1 ⟨vs, H1, I1, r1, q1⟩ => ?_) hs rfl))
  obtain ⟨j, e, q1, q2, q⟩ := q1
  subst e
  cases r1 with
  | cons r rr =>
    cases rr
    obtain ⟨t, rfl⟩ := r
    exact call_range_1 (range_it I1 (by omega) (by omega) q1 q2 (by simpa using q))
theorem zi_range1 {a : Expr} {ta : TA} {p pos : Pos} (hg : Gl X "range") (hm : X.mg "range" = none) (ha : ZA X [a] ta) (hs : starEach [a] X.env = [(false, eval a X.env)] := by rfl) : ZI X tg (.Call (.Name "range" p) [a] [] pos) (iRng1 ta) := by with_unfolding_all exact pi_range1 hg hm ha hs
noncomputable def tFor (wi : TI) (g : TG) (tb : TS) : TS := fun D σ H => wi σ H fun J H1 => ∃ W : Nat → Nat → St → Hp → Prop, (∃ m, W 0 m σ H1) ∧ ∀ i m σ H, W i m σ H →
  (J.stop i H ∧ D.nx σ H) ∨ (J.go i H ∧ ∃ N : St → Hp → Prop, (∀ σ' H', N σ' H' → ∃ m', m' < m ∧ W (i + 1) m' σ' H') ∧ ∀ x H', J.yld i H x H' → g x σ H' fun σ2 H2 => tb { D with nx := N, ct := N, bk := D.nx } σ2 H2)
noncomputable def pinsAt (fp : List Addr) (h : Heap) : List (Addr × Obj) := fp.filterMap fun b => (h.get? b).map fun o => (b, o)
theorem mem_pinsAt {fp : List Addr} {h : Heap} {b : Addr} {o : Obj} (hb : b ∈ fp) (e : h.get? b = some o) : (b, o) ∈ pinsAt fp h := List.mem_filterMap.mpr ⟨b, hb, by rw [e]; rfl⟩
theorem of_pinsAt {fp : List Addr} {h : Heap} {p : Addr × Obj} (hp : p ∈ pinsAt fp h) : p.1 ∈ fp ∧ h.get? p.1 = some p.2 := by
  obtain ⟨b, hb, e⟩ := List.mem_filterMap.mp hp
  cases q : h.get? b with
  | none => rw [q] at e; cases e
  | some o =>
    rw [q] at e
    have e' : (b, o) = p := Option.some.inj e
    subst e'
    exact ⟨hb, q⟩
theorem Inv.pinned {pins : List (Addr × Obj)} {σ : St} {H : Hp} {s : Shared} {fp : List Addr} (I : Inv X pins σ H s) (hf : ∀ b ∈ fp, FpOk X pins H b) (ho : ∀ b ∈ fp, ∃ o, s.heap.get? b = some o ∧ ∀ v, o.data ≠ .cell v) : Inv X (pins ++ pinsAt fp s.heap) σ H s :=
  I.pins_of fun p hp => (List.mem_append.mp hp).elim (fun z => I.pin p (List.mem_append_right _ z)) fun z => by
    obtain ⟨hb, e⟩ := of_pinsAt z
    obtain ⟨f0, f1, f2, _⟩ := hf p.1 hb
    obtain ⟨o, e', d⟩ := ho p.1 hb
    rw [e] at e'; cases e'
    exact ⟨e, f0, f1, f2, d⟩
theorem Inv.unpinned {pins pl : List (Addr × Obj)} {σ : St} {H : Hp} {s : Shared} (I : Inv X (pins ++ pl) σ H s) : Inv X pins σ H s := I.pins_of fun p hp => I.pin p (List.mem_append_right _ (List.mem_append_left _ hp))
theorem ps_for {iter : Expr} {body : List Stmt} {wi : TI} {g : TG} {tb : TS} {pos : Pos} (hp : PassesOwn (model X.prog X.w) X.A X.env X.xe) (hc : X.calm = true) (hi : PI X tg iter wi) (hg : PG X tg g) (hb : PSs X body tb)
    (hs : ∀ x, foldedSetIterable iter X.env x = pure x := by intro _; rfl) : PS X (.For tg iter body [] pos) (tFor wi g tb) := by
  intro pins s σ H D I h
  refine wpAny_For (thn (hi pins s σ H _ I h) fun v s1 h1 => thn h1 fun itv s2 h2 => ?_) hs
  obtain ⟨it, fp, tn, J, H2, e, I2, T, st2, f2, W, ⟨m0, w0⟩, turn⟩ := h2
  subst e
  -- what stays true of the iterator's objects through the loop
  have stat : ∀ {H' : Hp}, (∀ b ∈ fp, H' b = none) → ∀ b ∈ fp, FpOk X pins H' b := fun hn b hb => ⟨hn b hb, (f2 b hb).2⟩
  refine codeAny_forLoop_any (fun n s' => ∃ i σ' H', Inv X pins σ' H' s' ∧ tn i s'.heap ∧ (∀ b ∈ fp, H' b = none) ∧ W i n σ' H') ?_ m0 ⟨0, σ, H2, I2, st2, fun b hb => (f2 b hb).1, w0⟩
  rintro n s3 ⟨i, σ3, H3, I3, st3, fr3, w3⟩
  rcases turn i n σ3 H3 w3 with ⟨stop, qn⟩ | ⟨go, N, hN, step⟩
  · refine wpAny_passesOwn hp (thn (T.done X rfl rfl rfl hc i pins s3 σ3 H3 X.xe I3 (stat fr3) st3 stop) fun r s4 ⟨hr, I4⟩ => ?_)
    subst hr
    exact wpAny_execs_nil ⟨σ3, H3, I4, qn⟩
  · refine wpAny_passesOwn hp (thn (T.item X rfl rfl rfl hc i pins s3 σ3 H3 X.xe I3 (stat fr3) st3 go) fun r s4 ⟨u, hr, h4⟩ => ?_)
    subst hr
    refine wpAny_passesOwn hp (thn h4 fun _ s5 ⟨x, H5, I5, r5, y5, st5, fr5⟩ => ?_)
    have I5' := I5.pinned (stat fr5) (T.obj _ _ st5)
    refine wpAny_passesOwn hp (thn (hg _ s5 σ3 H5 x u _ I5' r5 (step x H5 y5)) fun _ s6 ⟨σ6, H6, I6, q6⟩ => ?_)
    refine wpAny_passesOwn hp (thn (hb _ s6 σ6 H6 _ I6 q6) fun f s7 q7 => ?_)
    have again : ∀ {σ7 : St} {H7 : Hp}, Inv X (pins ++ pinsAt fp s5.heap) σ7 H7 s7 → N σ7 H7 → ∃ m, m < n ∧ ∃ i σ' H', Inv X pins σ' H' s7 ∧ tn i s7.heap ∧ (∀ b ∈ fp, H' b = none) ∧ W i m σ' H' := fun {σ7 H7} I7 n7 => by
      obtain ⟨m', hm, w7⟩ := hN σ7 H7 n7
      refine ⟨m', hm, i + 1, σ7, H7, I7.unpinned, T.keep _ _ _ st5 fun b hb o e => (I7.pin (b, o) (List.mem_append_right _ (List.mem_append_right _ (mem_pinsAt hb e)))).1, fun b hb => ?_, w7⟩
      obtain ⟨o, e, d⟩ := T.obj _ _ st5 b hb
      exact (I7.pin (b, o) (List.mem_append_right _ (List.mem_append_right _ (mem_pinsAt hb e)))).2.1
    cases f with
    | next => obtain ⟨σ7, H7, I7, n7⟩ := q7; exact again I7 n7
    | cont => obtain ⟨σ7, H7, I7, n7⟩ := q7; exact again I7 n7
    | brk => obtain ⟨σ7, H7, I7, q7⟩ := q7; exact ⟨σ7, H7, I7.unpinned, q7⟩
    | ret v => obtain ⟨x7, σ7, H7, I7, r7, q7⟩ := q7; exact ⟨x7, σ7, H7, I7.unpinned, r7, q7⟩
theorem zs_for {iter : Expr} {body : List Stmt} {wi : TI} {g : TG} {tb : TS} {pos : Pos} (hp : PassesOwn (model X.prog X.w) X.A X.env X.xe) (hc : X.calm = true) (hi : ZI X tg iter wi) (hg : ZG X tg g) (hb : ZSs X body tb)
    (hs : ∀ x, foldedSetIterable iter X.env x = pure x := by intro _; rfl) : ZS X (.For tg iter body [] pos) (tFor wi g tb) := by with_unfolding_all exact ps_for hp hc hi hg hb hs
end
theorem for_list {K : PySem.W.Frag} {a : Addr} {xs : List V} {g : TG} {tb : TS} {D : Ends} {σ : St} {H : Hp} (Pv : Nat → St → Hp → Prop) (h0 : Pv 0 σ H) (hl : ∀ i σ H, i ≤ xs.length → Pv i σ H → SqL K H a xs)
    (hs : ∀ i x σ H, xs[i]? = some x → Pv i σ H → g x σ H fun σ2 H2 => tb { D with nx := Pv (i + 1), ct := Pv (i + 1), bk := D.nx } σ2 H2) (hd : ∀ σ H, Pv xs.length σ H → D.nx σ H) :
    ∃ W : Nat → Nat → St → Hp → Prop, (∃ m, W 0 m σ H) ∧ ∀ i m σ H, W i m σ H →
      ((Itl K a).stop i H ∧ D.nx σ H) ∨ ((Itl K a).go i H ∧ ∃ N : St → Hp → Prop, (∀ σ' H', N σ' H' → ∃ m', m' < m ∧ W (i + 1) m' σ' H') ∧ ∀ x H', (Itl K a).yld i H x H' → g x σ H' fun σ2 H2 => tb { D with nx := N, ct := N, bk := D.nx } σ2 H2) := by
  refine ⟨fun i m σ H => m = xs.length - i ∧ i ≤ xs.length ∧ Pv i σ H, ⟨xs.length, by simp, Nat.zero_le _, h0⟩, ?_⟩
  rintro i m σ H ⟨rfl, hi, p⟩
  have q := hl i σ H hi p
  by_cases hlt : i < xs.length
  · refine .inr ⟨⟨xs, xs[i], q, by simp [hlt]⟩, Pv (i + 1), fun σ' H' p' => ⟨xs.length - (i + 1), by omega, rfl, hlt, p'⟩, fun x H' y => ?_⟩
    obtain ⟨e, y⟩ := y
    subst e
    exact hs i x σ _ (y xs q) p
  · have e : i = xs.length := by omega
    subst e
    exact .inl ⟨⟨xs, q, Nat.le_refl _⟩, hd σ H p⟩
theorem for_tup {K : PySem.W.Frag} {a : Addr} {xs : List V} {g : TG} {tb : TS} {D : Ends} {σ : St} {H : Hp} (Pv : Nat → St → Hp → Prop) (h0 : Pv 0 σ H) (hl : ∀ i σ H, i ≤ xs.length → Pv i σ H → SqT K H a xs)
    (hs : ∀ i x σ H, xs[i]? = some x → Pv i σ H → g x σ H fun σ2 H2 => tb { D with nx := Pv (i + 1), ct := Pv (i + 1), bk := D.nx } σ2 H2) (hd : ∀ σ H, Pv xs.length σ H → D.nx σ H) :
    ∃ W : Nat → Nat → St → Hp → Prop, (∃ m, W 0 m σ H) ∧ ∀ i m σ H, W i m σ H →
      ((Itt K a).stop i H ∧ D.nx σ H) ∨ ((Itt K a).go i H ∧ ∃ N : St → Hp → Prop, (∀ σ' H', N σ' H' → ∃ m', m' < m ∧ W (i + 1) m' σ' H') ∧ ∀ x H', (Itt K a).yld i H x H' → g x σ H' fun σ2 H2 => tb { D with nx := N, ct := N, bk := D.nx } σ2 H2) := by
  refine ⟨fun i m σ H => m = xs.length - i ∧ i ≤ xs.length ∧ Pv i σ H, ⟨xs.length, by simp, Nat.zero_le _, h0⟩, ?_⟩
  rintro i m σ H ⟨rfl, hi, p⟩
  have q := hl i σ H hi p
  by_cases hlt : i < xs.length
  · refine .inr ⟨⟨xs, xs[i], q, by simp [hlt]⟩, Pv (i + 1), fun σ' H' p' => ⟨xs.length - (i + 1), by omega, rfl, hlt, p'⟩, fun x H' y => ?_⟩
    obtain ⟨e, y⟩ := y
    subst e
    exact hs i x σ _ (y xs q) p
  · have e : i = xs.length := by omega
    subst e
    exact .inl ⟨⟨xs, q, Nat.le_refl _⟩, hd σ H p⟩
theorem for_range {lo : Int} {n : Nat} {g : TG} {tb : TS} {D : Ends} {σ : St} {H : Hp} (Pv : Nat → St → Hp → Prop) (h0 : Pv 0 σ H)
    (hs : ∀ i σ H, i < n → Pv i σ H → g (.int (lo + i)) σ H fun σ2 H2 => tb { D with nx := Pv (i + 1), ct := Pv (i + 1), bk := D.nx } σ2 H2) (hd : ∀ σ H, Pv n σ H → D.nx σ H) :
    ∃ W : Nat → Nat → St → Hp → Prop, (∃ m, W 0 m σ H) ∧ ∀ i m σ H, W i m σ H →
      ((Itr lo n).stop i H ∧ D.nx σ H) ∨ ((Itr lo n).go i H ∧ ∃ N : St → Hp → Prop, (∀ σ' H', N σ' H' → ∃ m', m' < m ∧ W (i + 1) m' σ' H') ∧ ∀ x H', (Itr lo n).yld i H x H' → g x σ H' fun σ2 H2 => tb { D with nx := N, ct := N, bk := D.nx } σ2 H2) := by
  refine ⟨fun i m σ H => m = n - i ∧ i ≤ n ∧ Pv i σ H, ⟨n, by simp, Nat.zero_le _, h0⟩, ?_⟩
  rintro i m σ H ⟨rfl, hi, p⟩
  by_cases hlt : i < n
  · refine .inr ⟨hlt, Pv (i + 1), fun σ' H' p' => ⟨n - (i + 1), by omega, rfl, hlt, p'⟩, fun x H' y => ?_⟩
    obtain ⟨e, y⟩ := y
    subst e y
    exact hs i σ _ hlt p
  · have e : i = n := by omega
    subst e
    exact .inl ⟨Nat.le_refl _, hd σ H p⟩
end L2
namespace L2
open PySem PySem.Spec PyProof.Rows
noncomputable abbrev R2 := V → V → Hp → VK → Prop
noncomputable def OpR (X : Cx) (f : Value → Value → Sem Value) (r : R2) : Prop :=
  ∀ (pins : List (Addr × Obj)) (s : Shared) (σ : St) (H : Hp) (x y : V) (v u : Value) (Q : VK), Inv X pins σ H s → RelV x v → RelV y u → r x y H Q →
    wpAny (model X.prog X.w) X.A (f v u) (EP X pins σ Q) X.xe s
noncomputable def UnR (X : Cx) (f : Value → Sem Value) (r : V → Hp → VK → Prop) : Prop :=
  ∀ (pins : List (Addr × Obj)) (s : Shared) (σ : St) (H : Hp) (x : V) (v : Value) (Q : VK), Inv X pins σ H s → RelV x v → r x H Q →
    wpAny (model X.prog X.w) X.A (f v) (EP X pins σ Q) X.xe s
noncomputable def CallR (X : Cx) (f : Value) (r : List V → Hp → VK → Prop) : Prop :=
  ∀ (pins : List (Addr × Obj)) (s : Shared) (σ : St) (H : Hp) (xs : List V) (us : List Value) (Q : VK), Inv X pins σ H s → Vals xs us → r xs H Q →
    wpAny (model X.prog X.w) X.A (call f us) (EP X pins σ Q) X.xe s
noncomputable def tOp (r : R2) (ta tb : TE) : TE := fun σ H Q => ta σ H fun x H1 => tb σ H1 fun y H2 => r x y H2 Q
noncomputable def tUn (r : V → Hp → VK → Prop) (ta : TE) : TE := fun σ H Q => ta σ H fun x H1 => r x H1 Q
noncomputable def rI (C : Int → Int → Prop) (g : Int → Int → V) : R2 := fun x y H Q => ∃ i j, x = .int i ∧ y = .int j ∧ C i j ∧ Q (g i j) H
noncomputable def rI0 (g : Int → Int → V) : R2 := fun x y H Q => ∃ i j, x = .int i ∧ y = .int j ∧ Q (g i j) H
noncomputable def rU (g : Int → V) : V → Hp → VK → Prop := fun x H Q => ∃ i, x = .int i ∧ Q (g i) H

section
variable {X : Cx} {a b c : Expr} {ta tb tc : TE} {pos : Pos}
theorem binT (ha : PE X a ta) (hb : PE X b tb) {pins : List (Addr × Obj)} {s : Shared} {σ : St} {H : Hp} {R : V → V → Hp → Prop} (I : Inv X pins σ H s)
    (h : ta σ H fun x H1 => tb σ H1 fun y H2 => R x y H2) {Q : Value → Shared → Prop} {f : Value → Value → Sem Value}
    (hf : ∀ v u s2 x y H2, Inv X pins σ H2 s2 → RelV x v → RelV y u → R x y H2 → wpAny (model X.prog X.w) X.A (f v u) Q X.xe s2) :
    wpAny (model X.prog X.w) X.A (eval a X.env) (fun v s₁ => wpAny (model X.prog X.w) X.A (eval b X.env) (fun u s₂ => wpAny (model X.prog X.w) X.A (f v u) Q X.xe s₂) X.xe s₁) X.xe s := by
  refine thn (ha pins s σ H _ I h) fun v s1 ⟨x, H1, I1, r1, q1⟩ => ?_
  refine thn (hb pins s1 σ H1 _ I1 q1) fun u s2 ⟨y, H2, I2, r2, q2⟩ => ?_
  exact hf v u s2 x y H2 I2 r1 r2 q2

theorem pe_op {op : Operator} {r : R2} (ho : OpR X (binaryOp op) r) (ha : PE X a ta) (hb : PE X b tb) : PE X (.BinOp a op b pos) (tOp r ta tb) := by
  intro pins s σ H Q I h
  exact wpAny_BinOp (binT ha hb I h fun v u s2 x y H2 I2 rx ry q => ho pins s2 σ H2 x y v u Q I2 rx ry q)
theorem ze_op {op : Operator} {r : R2} (ho : OpR X (binaryOp op) r) (ha : ZE X a ta) (hb : ZE X b tb) : ZE X (.BinOp a op b pos) (tOp r ta tb) := by with_unfolding_all exact pe_op ho ha hb
theorem pe_un {op : UnaryOp} {r : V → Hp → VK → Prop} (ho : UnR X (unaryOp op) r) (ha : PE X a ta) : PE X (.UnaryOp op a pos) (tUn r ta) := by
  intro pins s σ H Q I h
  exact UnaryOp_ (thn (ha pins s σ H _ I h) fun v s1 ⟨x, H1, I1, r1, q1⟩ => ho pins s1 σ H1 x v Q I1 r1 q1)
theorem ze_un {op : UnaryOp} {r : V → Hp → VK → Prop} (ho : UnR X (unaryOp op) r) (ha : ZE X a ta) : ZE X (.UnaryOp op a pos) (tUn r ta) := by with_unfolding_all exact pe_un ho ha
theorem opI {f : Value → Value → Sem Value} {C : Int → Int → Prop} {g : Int → Int → Int}
    (rule : ∀ (i j : Int) (t u : Tok) (s : Shared) (Q : Value → Shared → Prop) (E : Value → Shared → Prop), C i j → Q (.int (g i j) s.toks) { s with toks := s.toks + 1 } → wpAny (model X.prog X.w) X.A (f (.int i t) (.int j u)) Q E s) :
    OpR X f (rI C fun i j => .int (g i j)) := by
  intro pins s σ H x y v u Q I rx ry h
  obtain ⟨i, j, rfl, rfl, hc, q⟩ := h
  obtain ⟨t, rfl⟩ := rx
  obtain ⟨t', rfl⟩ := ry
  exact rule i j t t' s _ _ hc ⟨.int (g i j), H, I.tok _, ⟨_, rfl⟩, q⟩
theorem opI0 {f : Value → Value → Sem Value} {g : Int → Int → Int}
    (rule : ∀ (i j : Int) (t u : Tok) (s : Shared) (Q : Value → Shared → Prop) (E : Value → Shared → Prop), Q (.int (g i j) s.toks) { s with toks := s.toks + 1 } → wpAny (model X.prog X.w) X.A (f (.int i t) (.int j u)) Q E s) :
    OpR X f (rI0 fun i j => .int (g i j)) := by
  intro pins s σ H x y v u Q I rx ry h
  obtain ⟨i, j, rfl, rfl, q⟩ := h
  obtain ⟨t, rfl⟩ := rx
  obtain ⟨t', rfl⟩ := ry
  exact rule i j t t' s _ _ ⟨.int (g i j), H, I.tok _, ⟨_, rfl⟩, q⟩
theorem opB0 {f : Value → Value → Sem Value} {g : Int → Int → Bool}
    (rule : ∀ (i j : Int) (t u : Tok) (s : Shared) (Q : Value → Shared → Prop) (E : Value → Shared → Prop), Q (.bool (g i j)) s → wpAny (model X.prog X.w) X.A (f (.int i t) (.int j u)) Q E s) :
    OpR X f (rI0 fun i j => .bl (g i j)) := by
  intro pins s σ H x y v u Q I rx ry h
  obtain ⟨i, j, rfl, rfl, q⟩ := h
  obtain ⟨t, rfl⟩ := rx
  obtain ⟨t', rfl⟩ := ry
  exact rule i j t t' s _ _ ⟨.bl (g i j), H, I, rfl, q⟩

noncomputable def CDiv (i j : Int) : Prop := 0 < j ∧ j < 1073741824
noncomputable def CPow (i j : Int) : Prop := 0 ≤ j ∧ j ≤ 1000000 ∧ i.natAbs < 2 ^ 64
theorem op_add : OpR X (binaryOp .Add) (rI0 fun i j => .int (i + j)) := opI0 fun _ _ _ _ _ _ _ q => add_int q
theorem op_sub : OpR X (binaryOp .Sub) (rI0 fun i j => .int (i - j)) := opI0 fun _ _ _ _ _ _ _ q => sub_int q
theorem op_fdiv : OpR X (binaryOp .FloorDiv) (rI CDiv fun i j => .int (i / j)) := opI fun i j _ _ _ _ _ hc q => by
  have h1 : (0 : Int) < j := hc.1
  have h2 : j < 1073741824 := hc.2
  exact floordiv_int (by omega) (by rw [Int.fdiv_eq_ediv_of_nonneg i (by omega)]; exact q) (.inl (PyProof.noPylong_small (by omega)))
theorem op_mod : OpR X (binaryOp .Mod) (rI (fun _ j => 0 < j) fun i j => .int (i % j)) := opI fun i j _ _ _ _ _ hc q => by
  have h1 : (0 : Int) < j := hc
  exact mod_int' (by omega) (by rw [Int.fmod_eq_emod_of_nonneg i (by omega)]; exact q)
theorem op_pow : OpR X (binaryOp .Pow) (rI CPow fun i j => .int (i ^ j.toNat)) := opI fun _ _ _ _ _ _ _ hc q => pow_int_small hc.1 hc.2.1 hc.2.2 q
theorem unI {f : Value → Sem Value} {g : Int → Int}
    (rule : ∀ (i : Int) (t : Tok) (s : Shared) (Q : Value → Shared → Prop) (E : Value → Shared → Prop), Q (.int (g i) s.toks) { s with toks := s.toks + 1 } → wpAny (model X.prog X.w) X.A (f (.int i t)) Q E s) :
    UnR X f (rU fun i => .int (g i)) := by
  intro pins s σ H x v Q I rx h
  obtain ⟨i, rfl, q⟩ := h
  obtain ⟨t, rfl⟩ := rx
  exact rule i t s _ _ ⟨.int (g i), H, I.tok _, ⟨_, rfl⟩, q⟩
theorem un_neg : UnR X (unaryOp .USub) (rU fun i => .int (-i)) := unI fun _ _ _ _ _ q => neg_int q
end
noncomputable def scal : V → V → Bool
  | .non, .non => true | .non, .int _ => true | .int _, .non => true | .non, .bl _ => true | .bl _, .non => true | .non, .str _ => true | .str _, .non => true
  | .int _, .int _ => true | .bl _, .bl _ => true | .str _, .str _ => true | .byt _, .byt _ => true
  | .int _, .str _ => true | .str _, .int _ => true | .bl _, .str _ => true | .str _, .bl _ => true
  | _, _ => false
noncomputable def rEq : R2 := fun x y H Q => scal x y = true ∧ Q (.bl (decide (x = y))) H
noncomputable def rNe : R2 := fun x y H Q => scal x y = true ∧ Q (.bl (!decide (x = y))) H

theorem dec_int {i j : Int} : decide (V.int i = V.int j) = (i == j) := by
  rw [Bool.eq_iff_iff]
  simp
theorem dec_bl {i j : Bool} : decide (V.bl i = V.bl j) = (i == j) := by
  rw [Bool.eq_iff_iff]
  simp
theorem dec_str {i j : Str} : decide (V.str i = V.str j) = (i == j) := by
  rw [Bool.eq_iff_iff]
  simp
theorem dec_byt {i j : Array UInt8} : decide (V.byt i = V.byt j) = (i.toList == j.toList) := by
  rw [Bool.eq_iff_iff]
  cases i
  cases j
  simp

section
variable {X : Cx} {a b c : Expr} {ta tb tc : TE} {pos : Pos}
theorem fin_bl {pins : List (Addr × Obj)} {σ : St} {H : Hp} {s : Shared} {Q : VK} {k k' : Bool} (I : Inv X pins σ H s) (q : Q (.bl k) H) (e : k = k') : EP X pins σ Q (.bool k') s := by
  subst e
  exact ⟨.bl k, H, I, rfl, q⟩
theorem op_eq : OpR X (compareOp .Eq) rEq := by
  intro pins s σ H x y v u Q I rx ry h
  obtain ⟨hs, q⟩ := h
  cases x with
  | non =>
    cases rx
    cases y with
    | non => cases ry; exact PySem.EqNone.eq_none_none (fin_bl I q (by simp))
    | bl j => cases ry; exact PySem.EqNone.eq_none_bool (fin_bl I q (by simp))
    | int j => obtain ⟨t', rfl⟩ := ry; exact PySem.EqNone.eq_none_int (fin_bl I q (by simp))
    | str j => obtain ⟨t', rfl⟩ := ry; exact PySem.EqNone.eq_none_str (fin_bl I q (by simp))
    | _ => exact absurd (show false = true from hs) Bool.false_ne_true
  | bl i =>
    cases rx
    cases y with
    | non => cases ry; exact PySem.EqNone.eq_bool_none (fin_bl I q (by simp))
    | bl j => cases ry; exact eq_bool (fin_bl I q dec_bl)
    | str j => obtain ⟨t', rfl⟩ := ry; exact PySem.EqMixed.eq_bool_str (fin_bl I q (by simp))
    | _ => exact absurd (show false = true from hs) Bool.false_ne_true
  | int i =>
    obtain ⟨t, rfl⟩ := rx
    cases y with
    | non => cases ry; exact PySem.EqNone.eq_int_none (fin_bl I q (by simp))
    | int j => obtain ⟨t', rfl⟩ := ry; exact eq_int (fin_bl I q dec_int)
    | str j => obtain ⟨t', rfl⟩ := ry; exact PySem.EqMixed.eq_int_str (fin_bl I q (by simp))
    | _ => exact absurd (show false = true from hs) Bool.false_ne_true
  | str i =>
    obtain ⟨t, rfl⟩ := rx
    cases y with
    | non => cases ry; exact PySem.EqNone.eq_str_none (fin_bl I q (by simp))
    | bl j => cases ry; exact PySem.EqMixed.eq_str_bool (fin_bl I q (by simp))
    | int j => obtain ⟨t', rfl⟩ := ry; exact PySem.EqMixed.eq_str_int (fin_bl I q (by simp))
    | str j => obtain ⟨t', rfl⟩ := ry; exact eq_str (fin_bl I q dec_str)
    | _ => exact absurd (show false = true from hs) Bool.false_ne_true
  | byt i =>
    obtain ⟨t, rfl⟩ := rx
    cases y with
    | byt j => obtain ⟨t', rfl⟩ := ry; exact PySem.W.eq_bytes (fin_bl I q dec_byt)
    | _ => exact absurd (show false = true from hs) Bool.false_ne_true
  | _ => cases y <;> exact absurd (show false = true from hs) Bool.false_ne_true
theorem op_ne : OpR X (compareOp .NotEq) rNe := by
  intro pins s σ H x y v u Q I rx ry h
  obtain ⟨hs, q⟩ := h
  cases x with
  | non =>
    cases rx
    cases y with
    | non => cases ry; exact PySem.EqNone.ne_none_none (fin_bl I q (by simp))
    | bl j => cases ry; exact PySem.EqNone.ne_none_bool (fin_bl I q (by simp))
    | int j => obtain ⟨t', rfl⟩ := ry; exact PySem.EqNone.ne_none_int (fin_bl I q (by simp))
    | str j => obtain ⟨t', rfl⟩ := ry; exact PySem.EqNone.ne_none_str (fin_bl I q (by simp))
    | _ => exact absurd (show false = true from hs) Bool.false_ne_true
  | bl i =>
    cases rx
    cases y with
    | non => cases ry; exact PySem.EqNone.ne_bool_none (fin_bl I q (by simp))
    | bl j => cases ry; exact ne_bool (fin_bl I q (congrArg not dec_bl))
    | str j => obtain ⟨t', rfl⟩ := ry; exact PySem.EqMixed.ne_bool_str (fin_bl I q (by simp))
    | _ => exact absurd (show false = true from hs) Bool.false_ne_true
  | int i =>
    obtain ⟨t, rfl⟩ := rx
    cases y with
    | non => cases ry; exact PySem.EqNone.ne_int_none (fin_bl I q (by simp))
    | int j => obtain ⟨t', rfl⟩ := ry; exact ne_int (fin_bl I q (congrArg not dec_int))
    | str j => obtain ⟨t', rfl⟩ := ry; exact PySem.EqMixed.ne_int_str (fin_bl I q (by simp))
    | _ => exact absurd (show false = true from hs) Bool.false_ne_true
  | str i =>
    obtain ⟨t, rfl⟩ := rx
    cases y with
    | non => cases ry; exact PySem.EqNone.ne_str_none (fin_bl I q (by simp))
    | bl j => cases ry; exact PySem.EqMixed.ne_str_bool (fin_bl I q (by simp))
    | int j => obtain ⟨t', rfl⟩ := ry; exact PySem.EqMixed.ne_str_int (fin_bl I q (by simp))
    | str j => obtain ⟨t', rfl⟩ := ry; exact ne_str (fin_bl I q (congrArg not dec_str))
    | _ => exact absurd (show false = true from hs) Bool.false_ne_true
  | byt i =>
    obtain ⟨t, rfl⟩ := rx
    cases y with
    | byt j => obtain ⟨t', rfl⟩ := ry; exact PySem.W.ne_bytes (fin_bl I q (congrArg not dec_byt))
    | _ => exact absurd (show false = true from hs) Bool.false_ne_true
  | _ => cases y <;> exact absurd (show false = true from hs) Bool.false_ne_true

theorem op_gt : OpR X (compareOp .Gt) (rI0 fun i j => .bl (decide (j < i))) := opB0 fun _ _ _ _ _ _ _ q => gt_int q
theorem op_ge : OpR X (compareOp .GtE) (rI0 fun i j => .bl (decide (j ≤ i))) := opB0 fun _ _ _ _ _ _ _ q => ge_int q
theorem op_isN : OpR X (compareOp .Is) (fun x y H Q => y = .non ∧ Q (.bl (decide (x = .non))) H) := by
  intro pins s σ H x y v u Q I rx ry h
  obtain ⟨rfl, q⟩ := h
  cases ry
  refine is_none_gen (fin_bl I q ?_)
  cases x <;> first
    | (cases rx; rfl)
    | (obtain ⟨t, rfl⟩ := rx; rfl)
theorem op_notN : OpR X (compareOp .IsNot) (fun x y H Q => y = .non ∧ Q (.bl (!decide (x = .non))) H) := by
  intro pins s σ H x y v u Q I rx ry h
  obtain ⟨rfl, q⟩ := h
  cases ry
  refine isnot_none_gen (fin_bl I q ?_)
  cases x <;> first
    | (cases rx; rfl)
    | (obtain ⟨t, rfl⟩ := rx; rfl)

theorem nomark (b : Expr) {op : CmpOp} (h : op ≠ .In := by decide) (h2 : op ≠ .NotIn := by decide) : behindInMarks op b = false := by
  have e1 : (op == CmpOp.In) = false := by cases op <;> first | rfl | exact absurd rfl h
  have e2 : (op == CmpOp.NotIn) = false := by cases op <;> first | rfl | exact absurd rfl h2
  cases b <;> simp [behindInMarks, e1, e2]
theorem pe_cmpR {op : CmpOp} {r : R2} (ho : OpR X (compareOp op) r) (ha : PE X a ta) (hb : PE X b tb) (hm : behindInMarks op b = false) : PE X (.Compare a [op] [b] pos) (tOp r ta tb) := by
  intro pins s σ H Q I h
  exact wpAny_Compare1 (binT ha hb I h fun v u s2 x y H2 I2 rx ry q => ho pins s2 σ H2 x y v u Q I2 rx ry q) hm
theorem ze_cmpR {op : CmpOp} {r : R2} (ho : OpR X (compareOp op) r) (ha : ZE X a ta) (hb : ZE X b tb) (hm : behindInMarks op b = false) : ZE X (.Compare a [op] [b] pos) (tOp r ta tb) := by with_unfolding_all exact pe_cmpR ho ha hb hm
theorem line63 : (sizeLine : Nat) < 2 ^ 63 := by rw [sizeLine_eq]; decide
theorem op_add_str : OpR X (binaryOp .Add) (fun x y H Q => ∃ i j, x = .str i ∧ y = .str j ∧ i.length + j.length ≤ sizeLine ∧ Q (.str (i ++ j)) H) := by
  intro pins s σ H x y v u Q I rx ry h
  obtain ⟨i, j, rfl, rfl, hz, q⟩ := h
  obtain ⟨t, rfl⟩ := rx
  obtain ⟨t', rfl⟩ := ry
  exact add_str (fun t' tk => ⟨.str (i ++ j), H, I.tok _, ⟨_, rfl⟩, q⟩) hz
theorem vals1 {x : V} {us : List Value} (r : Vals [x] us) : ∃ u, us = [u] ∧ RelV x u := by
  cases r with
  | cons r1 r2 => cases r2; exact ⟨_, rfl, r1⟩
theorem vals2 {x y : V} {us : List Value} (r : Vals [x, y] us) : ∃ u w', us = [u, w'] ∧ RelV x u ∧ RelV y w' := by
  cases r with
  | cons r1 r2 =>
    cases r2 with
    | cons r3 r4 => cases r4; exact ⟨_, _, rfl, r1, r3⟩
theorem call_abs : CallR X (.builtin "abs") (fun xs H Q => ∃ i, xs = [.int i] ∧ Q (.int (if i < 0 then -i else i)) H) := by
  intro pins s σ H xs us Q I r h
  obtain ⟨i, rfl, q⟩ := h
  obtain ⟨u, rfl, t, rfl⟩ := vals1 r
  exact call_abs_int fun u tk => ⟨.int (if i < 0 then -i else i), H, I.tok _, ⟨_, rfl⟩, q⟩
theorem call_min2 (hc : X.calm = true) : CallR X (.builtin "min") (fun xs H Q => ∃ i j, xs = [.int i, .int j] ∧ Q (.int (if j < i then j else i)) H) := by
  intro pins s σ H xs us Q I r h
  obtain ⟨i, j, rfl, q⟩ := h
  obtain ⟨u, w', rfl, ⟨t, rfl⟩, ⟨t', rfl⟩⟩ := vals2 r
  refine min_two_ints (I.ok.hd hc) fun h' tk k => ⟨_, H, I.kept k, ?_, q⟩
  by_cases hj : j < i
  · rw [if_pos hj, if_pos hj]; exact ⟨_, rfl⟩
  · rw [if_neg hj, if_neg hj]; exact ⟨_, rfl⟩
theorem call_int1 : CallR X (.type "int") (fun xs H Q => (∃ i, xs = [.int i] ∧ Q (.int i) H) ∨ ∃ k, xs = [.bl k] ∧ Q (.int (if k then 1 else 0)) H) := by
  intro pins s σ H xs us Q I r h
  rcases h with ⟨i, rfl, q⟩ | ⟨k, rfl, q⟩
  · obtain ⟨u, rfl, t, rfl⟩ := vals1 r
    exact call_int_int ⟨.int i, H, I, ⟨_, rfl⟩, q⟩
  · obtain ⟨u, rfl, r1⟩ := vals1 r
    cases r1
    exact call_int_bool ⟨.int (if k then 1 else 0), H, I.tok _, ⟨_, rfl⟩, q⟩
end
end L2
namespace L2
open PySem PySem.Spec PyProof.Rows
structure ObjM (h : Heap) (x dx C : Addr) (mA : Str → Option Value) : Prop where
  obj : h.get? x = some (PySem.W.instObj C dx)
  ns : h.Ns1 dx mA
  ne : dx ≠ x

theorem lookIn_ns {h : Heap} {dx : Addr} {mA : Str → Option Value} (n : h.Ns1 dx mA) : ∃ od, h.get? dx = some od ∧ ∀ name, PySem.W.lookIn name od = some (mA name) := by
  obtain ⟨o, es, ep, ho, hd, hk, _, hm⟩ := n
  refine ⟨o, ho, fun name => ?_⟩
  have e := hm name
  unfold nsFind findBy at e
  rw [← Array.find?_toList] at e
  unfold PySem.W.lookIn
  rw [hd]
  dsimp only
  split
  · rename_i y q
    rw [q] at e
    exact congrArg some e
  · rename_i q
    rw [q] at e
    have a : es.toList.any (·.refKey) = false := by
      rw [List.any_eq_false]
      intro y hy
      obtain ⟨z, t, hkey⟩ := hk y (Array.mem_toList_iff.mp hy)
      simp [DictEntry.refKey, hkey]
    have a' : ¬ es.toList.any (·.refKey) = true := by rw [a]; exact Bool.false_ne_true
    rw [if_neg a']
    exact congrArg some e

theorem ObjM.look {h : Heap} {x dx C : Addr} {mA : Str → Option Value} (I : ObjM h x dx C mA) : ∃ od, PySem.W.InstAt h x (PySem.W.instObj C dx) C (some od) ∧ ∀ name, PySem.W.lookIn name od = some (mA name) :=
  let ⟨od, ho, hl⟩ := lookIn_ns I.ns
  ⟨od, ⟨I.obj, rfl, rfl, ho⟩, hl⟩

section
variable {prog : Program} {w : World} {A : Around} {E : Value → Shared → Prop} {s : Shared} {K : PySem.W.Frag} {x dx C f : Addr} {mA : Str → Option Value} {name : Str} {v : Value}
end
theorem RelO.some_of {v : V} {o : Option Value} (r : RelO (some v) o) : ∃ u, o = some u ∧ RelV v u := by
  cases o with
  | none => exact (show False from r).elim
  | some u => exact ⟨u, rfl, r⟩
section
variable {P : Program} {w : World} {H H' : Hp} {h h' : Heap} {a C dx : Addr} {fs fs' : List (Str × V)}
theorem ins_get (hok : HOk P w H h) (e : H a = some (.ins C dx fs)) : ∃ mA, ObjM h a dx C mA ∧ (∀ f, RelO (fs.lookup f) (mA f)) ∧ PySem.Within mA (fs.map (·.1)) ∧ fs.length ≤ 1000 ∧ H dx = some (.own a) := by
  obtain ⟨d, z, ne, ob, mA, n, r, q⟩ := (show ObjOk P w H h a (.ins C dx fs) from hok a _ e)
  exact ⟨mA, ⟨ob, n, ne⟩, r, q, z, d⟩
end
structure Cls (K : PySem.W.Frag) (C : Addr) : Prop where
  pg : PySem.W.plainGet K C Str.empty = true
  hd : PySem.W.hasDictIn K C = true
  po : PySem.W.plainOver K C = true
  sa : PySem.W.findIn K (.ref C) "__setattr__" = some (some (.builtin "object.__setattr__"))
theorem Cls.get {K : PySem.W.Frag} {C : Addr} (c : Cls K C) (f : Str) : PySem.W.plainGet K C f = true := c.pg
section
variable {X : Cx} {pins : List (Addr × Obj)} {σ : St} {H : Hp} {s : Shared} {a C dx : Addr} {fs : List (Str × V)} {f : Str} {v : V} {A : Around} {E : Value → Shared → Prop}
end
section
variable {X : Cx} {o e value : Expr} {f : Str} {pos pos' tpos : Pos} {ta tv : TE}
end
section
variable {X : Cx} {pins : List (Addr × Obj)} {σ : St} {H : Hp} {s : Shared} {A : Around} {E : Value → Shared → Prop} {Q : Value → Shared → Prop} {c : Value} {b : Bool}
inductive TyOf (K : PySem.W.Frag) (H : Hp) : V → Value → Prop where
  | non : TyOf K H .non (.type "NoneType")
  | bl (x : Bool) : TyOf K H (.bl x) (.type "bool")
  | int (i : Int) : TyOf K H (.int i) (.type "int")
  | str (x : Str) : TyOf K H (.str x) (.type "str")
  | flt (x : UInt64) : TyOf K H (.flt x) (.type "float")
  | lst {a : Addr} {xs : List V} (e : H a = some (.lst xs)) : TyOf K H (.ref a) (.type "list")
  | frz {a : Addr} {o : Obj} {xs : List V} (e : H a = some (.frz o (.lst xs))) : TyOf K H (.ref a) (.type "list")
  | tup {a : Addr} {xs : List V} (e : H a = some (.tup xs)) : TyOf K H (.ref a) (.type "tuple")
  | dK {a : Addr} {kvs : List (Key × V)} (e : H a = some (.dK kvs)) : TyOf K H (.ref a) (.type "dict")
  | dT {a : Addr} {kvs : List (List Key × V)} (e : H a = some (.dT kvs)) : TyOf K H (.ref a) (.type "dict")
  | ins {a C dx : Addr} {fs : List (Str × V)} (e : H a = some (.ins C dx fs)) (cl : Cls K C) (ha : PySem.W.findIn K (.ref C) "__class__" = some (some (.builtin "object.__class__")))
      (hn : PySem.W.specialIn K (.builtin "object.__class__") "__get__" = some (some (.builtin "getset_descriptor.__get__"))) (htk : PySem.W.takesIn K (.builtin "object.__class__") = some true)
      (hm : PySem.W.mroIn K C (.type "object") = some true) : TyOf K H (.ref a) (.ref C)
theorem isinst_ok {x : V} {u t : Value} (I : Inv X pins σ H s) (rx : RelV x u) (ty : TyOf X.K H x t) (e : PySem.W.kitOne X.K t c = some b) (h : ∀ tk, Q (.bool b) { s with toks := tk }) :
    wpAny (model X.prog X.w) A (call (.builtin "isinstance") [u, c]) Q E s := by
  cases ty with
  | non => cases (show u = Value.none from rx); exact PySem.W.kia_one PySem.W.kitx_none I.kIn True.intro e (fun z => nomatch z) h
  | bl y => cases (show u = Value.bool y from rx); exact PySem.W.kia_one PySem.W.kitx_bool I.kIn True.intro e (fun z => nomatch z) h
  | int i => obtain ⟨t, q⟩ := (show ∃ t, u = Value.int i t from rx); cases q; exact PySem.W.kia_one PySem.W.kitx_int I.kIn True.intro e (fun z => nomatch z) h
  | str y => obtain ⟨t, q⟩ := (show ∃ t, u = Value.str y t from rx); cases q; exact PySem.W.kia_one PySem.W.kitx_str I.kIn True.intro e (fun z => nomatch z) h
  | flt y => obtain ⟨t, q⟩ := (show ∃ t, u = Value.float y t from rx); cases q; exact PySem.W.kia_one PySem.W.kitx_float I.kIn True.intro e (fun z => nomatch z) h
  | @lst a xs ea =>
    cases (show u = Value.ref a from rx)
    obtain ⟨_, _, n, _, h1⟩ := (show ObjOk X.prog X.w H s.heap a (.lst xs) from I.hok a _ ea)
    exact PySem.W.kia_one PySem.W.kitx_list I.kIn ⟨_, h1, rfl⟩ e (fun z => nomatch z) h
  | @frz a ob xs ea =>
    cases (show u = Value.ref a from rx)
    obtain ⟨_, _, _, n, _, h1⟩ := (show ObjOk X.prog X.w H s.heap a (.frz ob (.lst xs)) from I.hok a _ ea)
    exact PySem.W.kia_one PySem.W.kitx_list I.kIn ⟨_, h1, rfl⟩ e (fun z => nomatch z) h
  | @tup a xs ea =>
    cases (show u = Value.ref a from rx)
    obtain ⟨_, _, _, p⟩ := (show ObjOk X.prog X.w H s.heap a (.tup xs) from I.hok a _ ea)
    obtain ⟨o, h1, h2, _⟩ := p.tup
    exact PySem.W.kia_one PySem.W.kitx_tuple I.kIn ⟨o, h1, h2⟩ e (fun z => nomatch z) h
  | @dK a kvs ea =>
    cases (show u = Value.ref a from rx)
    obtain ⟨_, _, vs, _, p⟩ := (show ObjOk X.prog X.w H s.heap a (.dK kvs) from I.hok a _ ea)
    obtain ⟨o, es, ep, h1, h2, _⟩ := p
    exact PySem.W.kia_one PySem.W.kitx_dict I.kIn ⟨o, h1, h2.1⟩ e (fun z => nomatch z) h
  | @dT a kvs ea =>
    cases (show u = Value.ref a from rx)
    obtain ⟨_, _, xs, _, o, es, ep, h1, h2, _⟩ := (show ObjOk X.prog X.w H s.heap a (.dT kvs) from I.hok a _ ea)
    exact PySem.W.kia_one PySem.W.kitx_dict I.kIn ⟨o, h1, h2.1⟩ e (fun z => nomatch z) h
  | @ins a C dx fs ea cl ha hn htk hm =>
    cases (show u = Value.ref a from rx)
    obtain ⟨mA, O, _⟩ := ins_get I.hok ea
    obtain ⟨od, J, _⟩ := O.look
    exact PySem.W.kia_one (PySem.W.kitx_own (cl.get _) cl.hd ha hn htk hm) I.kIn J e (fun z => nomatch z) h
end
end L2
namespace L2
open PySem PySem.Spec PyProof.Rows
structure Room (k : Nat) (A : Around) : Prop where
  hd : A.handled = none
  dp : A.depth + 3 * k + 5 < recursionLimit
  un : A.units + 16 * k + 200 < cLine
  gd : A.guards = some []
theorem Room.mono {j k : Nat} {A : Around} (r : Room k A) (h : j ≤ k) : Room j A := ⟨r.hd, by have := r.dp; omega, by have := r.un; omega, r.gd⟩
theorem Room.deeper {k : Nat} {A : Around} (r : Room (k + 1) A) (env : Env) : Room k (A.deeper env) :=
  ⟨r.hd, by have := r.dp; show A.depth + 1 + 3 * k + 5 < _; omega, by have := r.un; show A.units + 3 + 16 * k + 200 < _; omega, r.gd⟩
theorem Room.depth {k : Nat} {A : Around} (r : Room k A) : A.depth < recursionLimit := by have := r.dp; omega
theorem Room.units {k : Nat} {A : Around} (r : Room k A) : A.units + 64 < cLine := by have := r.un; omega
noncomputable def tNil : TA := fun _ H Q => Q [] H
noncomputable def tCons (ta : TE) (tr : TA) : TA := fun σ H Q => ta σ H fun x H1 => tr σ H1 fun xs H2 => Q (x :: xs) H2
section
variable {X : Cx} {e : Expr} {es : List Expr} {te : TE} {t : TA} {pos : Pos}
theorem pa_nil : PA X [] tNil := fun _ _ _ _ H Q I h => Calls.spliced_nil ⟨[], H, I, .nil, h⟩
theorem za_nil : ZA X [] tNil := by with_unfolding_all exact pa_nil 
theorem pa_cons (ha : PE X e te) (hr : PA X es t) (hs : starEach (e :: es) X.env = (false, eval e X.env) :: starEach es X.env := by rfl) : PA X (e :: es) (tCons te t) := by
  intro pos pins s σ H Q I h
  rw [hs]
  show wpAny _ _ (spliced ((false, eval e X.env) :: backTo pos (starEach es X.env))) _ _ s
  refine Calls.spliced_cons (thn (ha pins s σ H _ I h) fun u s1 ⟨x, H1, I1, r1, q1⟩ => ?_)
  exact thn (hr pos pins s1 σ H1 _ I1 q1) fun us s2 ⟨xs, H2, I2, r2, q2⟩ => ⟨x :: xs, H2, I2, .cons r1 r2, q2⟩
theorem za_cons (ha : ZE X e te) (hr : ZA X es t) (hs : starEach (e :: es) X.env = (false, eval e X.env) :: starEach es X.env := by rfl) : ZA X (e :: es) (tCons te t) := by with_unfolding_all exact pa_cons ha hr hs

noncomputable def tTup (t : TA) : TE := fun σ H Q => t σ H fun xs H1 => xs.length ≤ sizeLine ∧ ∀ p, H1 p = none → Q (.ref p) (upd H1 p (.tup xs))
noncomputable def tLst (t : TA) : TE := fun σ H Q => t σ H fun xs H1 => xs.length ≤ sizeLine ∧ ∀ p, H1 p = none → Q (.ref p) (upd H1 p (.lst xs))
theorem pe_tup {x1} (h : PA X es t) : PE X (.Tuple es x1 pos) (tTup t) := by
  intro pins s σ H Q I hq
  refine wpAny_Tuple_spliced (thn (h pos pins s σ H _ I hq) fun us s1 ⟨xs, H1, I1, r, z, q⟩ => ⟨by rw [← r.length]; exact z, ?_⟩)
  have hf : H1 s1.heap.objs.size = none := I1.hok.fresh (Nat.le_refl _)
  refine ⟨.ref s1.heap.objs.size, upd H1 s1.heap.objs.size (.tup xs), I1.laid (t' := s1.toks) (fun b u e => Heap.get?_push_of_some _ e) (Nat.le_refl _) ?_, rfl, q _ hf⟩
  exact ⟨z, us, r, ⟨_, Heap.get?_push_size _ rfl⟩⟩
theorem ze_tup {x1} (h : ZA X es t) : ZE X (.Tuple es x1 pos) (tTup t) := by with_unfolding_all exact pe_tup h
theorem pe_lst (h : PA X es t) : PE X (.List es pos) (tLst t) := by
  intro pins s σ H Q I hq
  refine wpAny_List_spliced (thn (h pos pins s σ H _ I hq) fun us s1 ⟨xs, H1, I1, r, z, q⟩ => ⟨by rw [← r.length]; exact z, ?_⟩)
  have hf : H1 s1.heap.objs.size = none := I1.hok.fresh (Nat.le_refl _)
  refine ⟨.ref s1.heap.objs.size, upd H1 s1.heap.objs.size (.lst xs), I1.laid (t' := s1.toks) (fun b u e => Heap.get?_push_of_some _ e) (Nat.le_refl _) ?_, rfl, q _ hf⟩
  exact ⟨z, us, 0, r, Heap.get?_push_size _ rfl⟩
theorem ze_lst (h : ZA X es t) : ZE X (.List es pos) (tLst t) := by with_unfolding_all exact pe_lst h
end
noncomputable abbrev Sp := List V → Hp → VK → XK → Prop
noncomputable abbrev CXT := List Env → Hp → Shared → XK → Value → Shared → Prop

structure Env0 (P : Program) (w : World) (K : PySem.W.Frag) (mg : Str → Option Value) (base : Heap) (A : Around) (outer : List Env) (s : Shared) (H : Hp) : Prop where
  frames : A.frames = some outer
  mod : Mod K mg base
  bs : ∀ b o, base.get? b = some o → s.heap.get? b = some o ∧ H b = none
  bsz : base.objs.size ≤ s.heap.objs.size
  funs : s.heap.FunFrames base outer
  frf : ∀ b ∈ frs outer, H b = none
  hok : HOk P w H s.heap
  bare : AllBare s.gens
noncomputable def CE (outer : List Env) (P : Program) (w : World) (H : Hp) (s : Shared) (Q : VK) (u : Value) (s' : Shared) : Prop :=
  ∃ v H', s'.os = s.os ∧ AllBare s'.gens ∧ Un (frs outer) [] H H' s.heap s'.heap ∧ HOk P w H' s'.heap ∧ RelV v u ∧ Q v H'
noncomputable def CR (CX : CXT) (outer : List Env) (P : Program) (w : World) (H : Hp) (s : Shared) (Q : VK) (E : XK) (r : Result) (s' : Shared) : Prop :=
  match r with
  | .ok (.ret u) => CE outer P w H s Q u s'
  | .ok _ => False
  | .error e => CX outer H s E e s'
structure FnOk (P : Program) (w : World) (K : PySem.W.Frag) (mg : Str → Option Value) (base : Heap) (CX : CXT) (k : Nat) (f : Addr) (fd : FuncData) (ps : List Str) (sp : Sp) : Prop where
  len : ∀ vs H Q E, sp vs H Q E → vs.length = ps.length
  run : ∀ (A : Around) (outer : List Env) (s : Shared) (H : Hp) (args : Args) (us : List Value) (vs : List V) (Q : VK) (E : XK), Room k A → Env0 P w K mg base A outer s H → BindsTo s fd args (ps.zip us) → Vals vs us → sp vs H Q E →
    codeAny (model P w) A (.call (.ref f) args) (CR CX outer P w H s Q E) s
theorem FnOk.mono {P : Program} {w : World} {K : PySem.W.Frag} {mg : Str → Option Value} {base : Heap} {CX : CXT} {j k : Nat} {f : Addr} {fd : FuncData} {ps : List Str} {sp : Sp} (F : FnOk P w K mg base CX j f fd ps sp) (h : j ≤ k) :
    FnOk P w K mg base CX k f fd ps sp := ⟨F.len, fun A outer s H args us vs Q E hr => F.run A outer s H args us vs Q E (hr.mono h)⟩
section
variable {X : Cx} {pins : List (Addr × Obj)} {σ : St} {H : Hp} {s s' : Shared}
theorem Inv.env0 (I : Inv X pins σ H s) : Env0 X.prog X.w X.K X.mg X.base X.A X.stack s H :=
  ⟨I.ok.frames, I.ok.mod, I.bs, Nat.le_trans I.ok.bsz I.sz, I.stack, I.stkFree, I.hok, I.bare⟩
theorem Inv.after {Q : VK} {u : Value} (I : Inv X pins σ H s) (h : CE X.stack X.prog X.w H s Q u s') : EP X pins σ Q u s' := by
  obtain ⟨v, H', os, bare, un, hok, r, q⟩ := h
  obtain ⟨hh, g, d, t, os'⟩ := s'
  obtain rfl : os' = s.os := os
  exact ⟨v, H', I.call (h' := hh) (g' := g) (d' := d) (t' := t) (ch := []) un hok bare (fun b z => absurd z (by simp)), r, q⟩
end
noncomputable def tCall (sp : Sp) (dvs : List V) (E : XK) (t : TA) : TE := fun σ H Q => t σ H fun vs H1 => sp (vs ++ dvs) H1 Q E
noncomputable def Binds (K : PySem.W.Frag) (fd : FuncData) (ps : List Str) (ds : List Value) : Prop :=
  ∀ (s : Shared) (us : List Value), K.In s.heap → (us ++ ds).length = ps.length → BindsTo s fd ⟨us, []⟩ (ps.zip (us ++ ds))
theorem Binds.all {K : PySem.W.Frag} {fd : FuncData} {ps : List Str} (h : ∀ us : List Value, us.length = ps.length → bindArgs fd ⟨us, []⟩ = pure (ps.zip us)) : Binds K fd ps [] := fun s us _ hl => by
  rw [List.append_nil] at hl ⊢
  exact .of_eq (h us hl)

noncomputable def Passes (CX : CXT) (X : Cx) (E : XK) : Prop := ∀ (pins : List (Addr × Obj)) (σ : St) (H : Hp) (s : Shared) (e : Value) (s' : Shared), Inv X pins σ H s → CX X.stack H s E e s' → X.xe e s'

section
variable {X : Cx} {CX : CXT} {k : Nat} {f C : Addr} {fd : FuncData} {ps : List Str} {sp : Sp} {dvs : List V} {ds : List Value} {E : XK} {x m : Str} {p pos apos : Pos} {e o : Expr} {es : List Expr} {ta : TE} {t : TA}
theorem run_fn {pins : List (Addr × Obj)} {σ : St} {H : Hp} {s : Shared} {Q : VK} {us : List Value} {vs : List V} (F : FnOk X.prog X.w X.K X.mg X.base CX k f fd ps sp) (hr : Room k X.A) (hb : Binds X.K fd ps ds) (hd : Vals dvs ds) (hx : Passes CX X E)
    (I : Inv X pins σ H s) (r : Vals vs us) (h : sp (vs ++ dvs) H Q E) : wpAny (model X.prog X.w) X.A (call (.ref f) us) (EP X pins σ Q) X.xe s := by
  have r2 : Vals (vs ++ dvs) (us ++ ds) := r.append hd
  have hl : (us ++ ds).length = ps.length := by rw [← r2.length]; exact F.len _ _ _ _ h
  refine wpAny_call (codeAny_mono (F.run X.A X.stack s H ⟨us, []⟩ (us ++ ds) (vs ++ dvs) Q E hr I.env0 (hb s us I.kIn hl) r2 h) fun r s' hq => ?_)
  cases r with
  | error e => exact hx pins σ H s e s' I hq
  | ok fl =>
    cases fl with
    | ret u => exact I.after hq
    | next => exact False.elim hq
    | brk => exact False.elim hq
    | cont => exact False.elim hq

theorem pe_call (F : FnOk X.prog X.w X.K X.mg X.base CX k f fd ps sp) (hr : Room k X.A) (hg : Gl X x) (hm : X.mg x = some (.ref f)) (hk : PySem.W.keepIn X.K (.ref f) = true) (hb : Binds X.K fd ps ds) (hd : Vals dvs ds) (hx : Passes CX X E)
    (ha : PA X (e :: es) t) (hdb : (x == ("__debug__" : Str)) = false := by decide) (he : starEach (e :: es) X.env = (false, eval e X.env) :: starEach es X.env := by rfl) (hpl : (backTo pos (starEach es X.env)).any (·.1) = false := by rfl) :
    PE X (.Call (.Name x p) (e :: es) [] pos) (tCall sp dvs E t) := by
  intro pins s σ H Q I h
  refine wpAny_Call_Name_kw (ld_glob I hg hm ?_ hdb)
  refine PySem.W.callWith_K (h₀ := X.base) I.ok.mod.kin hk (thn (ha pos pins s σ H _ I h) fun us s1 ⟨vs, H1, I1, r, q⟩ => ⟨I1.kIn, ?_⟩) he hpl
  exact run_fn F hr hb hd hx I1 r q
end
section
variable {X : Cx} {CX : CXT} {k : Nat} {f C : Addr} {fd : FuncData} {ps ks : List Str} {sp : Sp} {E : XK} {x m : Str} {p pos apos kpos : Pos} {e o : Expr} {es : List Expr} {kws : List Keyword} {te ta : TE} {t tk : TA} {nm : Option Str}
variable {g : List Value → List Value → List Value} {gV : List V → List V → List V}
end
structure FnScope (N P : List Str) (sc : Scope) : Prop where
  kind : sc.kind = .function
  co : sc.isCoroutine = false
  gen : sc.isGenerator = false
  nd : N.Nodup
  pre : N.take P.length = P
  par : ∀ x ∈ P, sc.names.lookup x = some .local ∨ sc.names.lookup x = some .cell
  nofree : ∀ y ∈ sc.names, y.2 ≠ .free

theorem bindL_out {kindOf : Str → Option NameKind} {x : Str} : ∀ {binds : List (Str × Value)} {m : Str → Option Value}, (∀ v, (x, v) ∉ binds) → bindL kindOf binds m x = m x
  | [], _, _ => rfl
  | (n, v) :: r, m, h => by
    unfold bindL
    rw [bindL_out fun w hw => h w (List.mem_cons_of_mem _ hw)]
    split
    · have : x ≠ n := by rintro rfl; exact h v List.mem_cons_self
      simp [this]
    · rfl
theorem bindC_out {kindOf : Str → Option NameKind} {x : Str} : ∀ {binds : List (Str × Value)} {m : Str → Option Value}, (∀ v, (x, v) ∉ binds) → bindC kindOf binds m x = m x
  | [], _, _ => rfl
  | (n, v) :: r, m, h => by
    unfold bindC
    rw [bindC_out fun w hw => h w (List.mem_cons_of_mem _ hw)]
    split
    · rfl
    · have : x ≠ n := by rintro rfl; exact h v List.mem_cons_self
      simp [this]
theorem bindL_get {kindOf : Str → Option NameKind} {x : Str} {v : Value} : ∀ {P : List Str} {vs : List Value} {i : Nat} {m : Str → Option Value}, P.Nodup → P[i]? = some x → vs[i]? = some v → kindOf x = some .local →
    bindL kindOf (P.zip vs) m x = some v
  | [], _, _, _, _, h, _, _ => by simp at h
  | _ :: _, [], _, _, _, _, h, _ => by simp at h
  | p :: P, w :: vs, 0, m, nd, h1, h2, hk => by
    simp at h1 h2; subst h1; subst h2
    show bindL kindOf ((p, w) :: P.zip vs) m p = _
    unfold bindL
    rw [bindL_out fun v hv => (List.nodup_cons.mp nd).1 (List.of_mem_zip hv).1, if_pos hk]
    simp
  | p :: P, w :: vs, i + 1, m, nd, h1, h2, hk => by
    show bindL kindOf ((p, w) :: P.zip vs) m x = _
    unfold bindL
    exact bindL_get (i := i) (List.nodup_cons.mp nd).2 (by simpa using h1) (by simpa using h2) hk
theorem bindC_get {kindOf : Str → Option NameKind} {x : Str} {v : Value} : ∀ {P : List Str} {vs : List Value} {i : Nat} {m : Str → Option Value}, P.Nodup → P[i]? = some x → vs[i]? = some v → kindOf x ≠ some .local →
    bindC kindOf (P.zip vs) m x = some v
  | [], _, _, _, _, h, _, _ => by simp at h
  | _ :: _, [], _, _, _, _, h, _ => by simp at h
  | p :: P, w :: vs, 0, m, nd, h1, h2, hk => by
    simp at h1 h2; subst h1; subst h2
    show bindC kindOf ((p, w) :: P.zip vs) m p = _
    unfold bindC
    rw [bindC_out fun v hv => (List.nodup_cons.mp nd).1 (List.of_mem_zip hv).1, if_neg hk]
    simp
  | p :: P, w :: vs, i + 1, m, nd, h1, h2, hk => by
    show bindC kindOf ((p, w) :: P.zip vs) m x = _
    unfold bindC
    exact bindC_get (i := i) (List.nodup_cons.mp nd).2 (by simpa using h1) (by simpa using h2) hk

noncomputable def start (N : List Str) (vs : List V) : St := vs.map some ++ List.replicate (N.length - vs.length) none

noncomputable def cxOf (CX : CXT) (P : Program) (w : World) (K : PySem.W.Frag) (mg : Str → Option Value) (base : Heap) (N : List Str) (qual : Str) (scope : Scope) (f : Addr) (cd : Value) (A : Around) (outer : List Env) (s : Shared) (H : Hp) (E : XK) : Cx where
  prog := P
  w := w
  K := K
  mg := mg
  base := base
  A := A.deeper (envOfC qual scope s.heap.objs.size f cd)
  N := N
  s₀ := s
  H₀ := H
  env := envOfC qual scope s.heap.objs.size f cd
  outer := outer
  stack := envOfC qual scope s.heap.objs.size f cd :: outer
  ex := []
  calm := true
  fn := fun _ => true
  pn := []
  xe := fun e s' => wpAny (model P w) (A.deeper (envOfC qual scope s.heap.objs.size f cd)) (leaving (envOfC qual scope s.heap.objs.size f cd) e) (fun _ s'' => CX outer H s E e s'') (fun e' s'' => CX outer H s E e' s'') s'

theorem cell_has {sc : Scope} {n : Nat} {x : Str} (h : sc.names.lookup x = some .cell) : ∃ c, (cellsFrom n sc.names []).lookup x = some c := by
  have q := PySem.W.cellsFrom_some sc.names n [] (.inl h)
  exact Option.isSome_iff_exists.mp q

theorem inv_start {CX : CXT} {P : Program} {w : World} {K : PySem.W.Frag} {mg : Str → Option Value} {base : Heap} {N ps : List Str} {qual : Str} {scope : Scope} {f : Addr} {cd : Value} {A : Around} {outer : List Env} {s s1 : Shared} {H : Hp} {E : XK} {us : List Value} {vs : List V}
    (S : FnScope N ps scope) (hd : A.handled = none) (e0 : Env0 P w K mg base A outer s H) (hl : vs.length = ps.length) (r : Vals vs us)
    (x : InCallC s s.heap.objs.size (bindL (envOfC qual scope s.heap.objs.size f cd).kindOf (ps.zip us) fun _ => none) (cellsFrom (s.heap.objs.size + 1) scope.names []) (bindC (envOfC qual scope s.heap.objs.size f cd).kindOf (ps.zip us) fun _ => none) s1) :
    Inv (cxOf CX P w K mg base N qual scope f cd A outer s H E) [] (start N vs) H s1 := by
  have hpl : ps.length ≤ N.length := by have := congrArg List.length S.pre; rw [List.length_take] at this; omega
  obtain ⟨h1, tk, rfl, hk⟩ := x.done
  have noA : ∀ b : Addr, b ∉ (cxOf CX P w K mg base N qual scope f cd A outer s H E).ex := fun b z => absurd (show b ∈ ([] : List Addr) from z) (by simp)
  refine ⟨⟨e0.mod, S.kind, rfl, rfl, Nat.le_refl _, fun y z c h1 h2 => ?_, fun y hy => ?_, fun y c _ h => ?_, fun _ => hd, Around.frames_deeper e0.frames, .inr ⟨rfl, rfl⟩, fun b z => absurd z (noA b), e0.bs, e0.bsz, fun b _ _ => noA b, fun b z => absurd z (noA b), e0.funs, e0.frf⟩,
    rfl, e0.bare, Un.kept hk, ⟨_, x.toInCall.ns, fun i y v h1 h2 h3 => ?_⟩, fun y c h => ⟨_, x.cell y c h⟩, e0.hok.fresh (Nat.le_refl _), fun y c h => ?_, fun p hp => absurd (show p ∈ ([] : List (Addr × Obj)) from hp) (by simp), e0.hok.kept hk, ?_⟩
  · exact name_of_addr x.apart (PySem.mem_of_lookup h1) (PySem.mem_of_lookup h2)
  · have hy : scope.names.lookup y = some .cell ∨ scope.names.lookup y = some .free := hy
    rcases hy with hy | hy
    · exact cell_has hy
    · exact absurd rfl (S.nofree _ (PySem.mem_of_lookup hy))
  · exact Nat.le_of_lt (x.above y c (PySem.mem_of_lookup h))
  · have hi : i < vs.length := by
      unfold start at h2
      by_cases hi : i < vs.length
      · exact hi
      · rw [List.getElem?_append_right (by simpa using hi)] at h2
        rw [List.getElem?_replicate] at h2
        split at h2 <;> cases h2
    have ha : vs[i]? = some v := by
      unfold start at h2
      rw [List.getElem?_append_left (by simpa using hi), List.getElem?_map] at h2
      cases e : vs[i]? with
      | none => rw [e] at h2; cases h2
      | some a => rw [e] at h2; cases h2; rfl
    obtain ⟨u, hu, rv⟩ := r.get ha
    have hp : ps[i]? = some y := by
      rw [← S.pre, List.getElem?_take_of_lt (by omega)]; exact h1
    have ndP : ps.Nodup := by rw [← S.pre]; exact S.nd.sublist (List.take_sublist _ _)
    refine ⟨u, rv, ?_⟩
    rcases S.par y (List.mem_of_getElem? hp) with k | k
    · exact .inl ⟨k, bindL_get ndP hp hu k⟩
    · obtain ⟨c, e⟩ := cell_has (n := s.heap.objs.size + 1) k
      refine .inr ⟨.inl k, c, e, ?_⟩
      have q := x.cell y c e
      rw [bindC_get ndP hp hu (by show scope.names.lookup y ≠ _; rw [k]; decide)] at q
      exact q
  · exact e0.hok.fresh (Nat.le_of_lt (x.above y c (PySem.mem_of_lookup h)))
  · unfold start
    show _ = N.length
    rw [List.length_append, List.length_map, List.length_replicate]
    omega

theorem fn_of {CX : CXT} {P : Program} {w : World} {K : PySem.W.Frag} {mg : Str → Option Value} {base : Heap} {k : Nat} {f : Addr} {name qual : Str} {params : Arguments} {body : List Stmt} {scope : Scope} {dV kV doc pm cdv ct oc : Value} {an od : Option Addr}
    {osl : Array (Option Value)} {N ps : List Str} {sp : Sp} (lk : K.lookup f = some ⟨oc, od, .func (PySem.W.fnOf name qual params body scope dV kV doc pm an cdv ct), osl⟩) (hcd : PySem.W.codeIn K cdv qual = true) (S : FnScope N ps scope)
    (len : ∀ vs H Q E, sp vs H Q E → vs.length = ps.length)
    (hbody : ∀ (A : Around) (outer : List Env) (s : Shared) (H : Hp) (vs : List V) (Q : VK) (E : XK), Room k (A.deeper (envOfC qual scope s.heap.objs.size f cdv)) → sp vs H Q E →
      ∃ t, PSs (cxOf CX P w K mg base N qual scope f cdv A outer s H E) body t ∧ t { nx := fun _ H' => Q .non H', rt := Q } (start N vs) H) :
    FnOk P w K mg base CX (k + 1) f (PySem.W.fnOf name qual params body scope dV kV doc pm an cdv ct) ps sp := by
  refine ⟨len, fun A outer s H args us vs Q E hr e0 hb r hsp => ?_⟩
  have hl := len _ _ _ _ hsp
  have KX : K.In s.heap := e0.mod.kin.keeps fun b o e => (e0.bs b o e).1
  have lim : s.heap.NoLimit := e0.mod.nolimit.keeps fun b o e => (e0.bs b o e).1
  have hkind : ∀ y ∈ ps.zip us, scope.names.lookup y.1 = some .local ∨ (scope.names.lookup y.1 = some .cell ∧ ((cellsFrom (s.heap.objs.size + 1) scope.names []).lookup y.1).isSome = true) := fun ⟨n, v⟩ hy => by
    rcases S.par n (List.of_mem_zip hy).1 with q | q
    · exact .inl q
    · exact .inr ⟨q, PySem.W.cellsFrom_some _ _ _ (.inl q)⟩
  refine codeAny_call_function hr.depth (KX _ _ lk) rfl S.co S.gen rfl (PySem.W.codeRec_of KX hcd) (hb _ _ _ _ ?_)
  refine wpAny_newFunctionEnv_cells S.kind hkind fun env he s1 x => ?_
  subst he
  refine ⟨lim.keeps x.toInCall.keep, codeAny_func ?_⟩
  obtain ⟨t, ht, hq⟩ := hbody A outer s H vs Q E (hr.deeper _) hsp
  have I : Inv (cxOf CX P w K mg base N qual scope f cdv A outer s H E) [] (start N vs) H s1 := inv_start S hr.hd e0 hl r x
  refine wpAny_mono (ht [] s1 (start N vs) H _ I hq) (fun fl s' hs => ?_) fun e s' hs => hs
  have fin : ∀ {σ' : St} {H' : Hp} {v : V} {u : Value}, Inv (cxOf CX P w K mg base N qual scope f cdv A outer s H E) [] σ' H' s' → RelV v u → Q v H' → CE outer P w H s Q u s' :=
    fun {σ' H' v u} J rv q => ⟨v, H', J.os, J.bare, J.base, J.hok, rv, q⟩
  cases fl with
  | ret u =>
    obtain ⟨v, σ', H', J, rv, q⟩ := hs
    exact fin J rv q
  | next =>
    obtain ⟨σ', H', J, q⟩ := hs
    exact fin (v := V.non) (u := Value.none) J rfl q
  | brk =>
    obtain ⟨_, _, _, q⟩ := hs
    exact False.elim q
  | cont =>
    obtain ⟨_, _, _, q⟩ := hs
    exact False.elim q
end L2
namespace L2
open PySem PySem.Spec PyProof.Rows
section
variable {X : Cx} {x : Str} {p pos : Pos} {e : Expr} {es : List Expr} {t : TA} {id T : String} {r : List V → Hp → VK → Prop}
noncomputable def tCB (r : List V → Hp → VK → Prop) (t : TA) : TE := fun σ H Q => t σ H fun vs H1 => r vs H1 Q
theorem pe_callB (hc : CallR X (.builtin id) r) (hg : Gl X x) (hm : X.mg x = none) (hv : bootBuiltins x = some (.builtin id)) (ha : PA X (e :: es) t) (hn : x ≠ "__name__" := by decide) (hdb : (x == ("__debug__" : Str)) = false := by decide)
    (he : starEach (e :: es) X.env = (false, eval e X.env) :: starEach es X.env := by rfl) (hpl : (backTo pos (starEach es X.env)).any (·.1) = false := by rfl) : PE X (.Call (.Name x p) (e :: es) [] pos) (tCB r t) := by
  intro pins s σ H Q I h
  refine wpAny_Call_Name_kw (ld_blt I hg hm hv ?_ hn hdb)
  exact PyProof.Rows.callWith_builtin1 (thn (ha pos pins s σ H _ I h) fun us s1 ⟨vs, H1, I1, r1, q1⟩ => hc pins s1 σ H1 vs us Q I1 r1 q1) he hpl
theorem pe_callTy (hc : CallR X (.type T) r) (hg : Gl X x) (hm : X.mg x = none) (hv : bootBuiltins x = some (.type T)) (ha : PA X (e :: es) t) (hn : x ≠ "__name__" := by decide) (hdb : (x == ("__debug__" : Str)) = false := by decide)
    (he : starEach (e :: es) X.env = (false, eval e X.env) :: starEach es X.env := by rfl) (hpl : (backTo pos (starEach es X.env)).any (·.1) = false := by rfl) : PE X (.Call (.Name x p) (e :: es) [] pos) (tCB r t) := by
  intro pins s σ H Q I h
  refine wpAny_Call_Name_kw (ld_blt I hg hm hv ?_ hn hdb)
  exact PyProof.Rows.callWith_type1 (thn (ha pos pins s σ H _ I h) fun us s1 ⟨vs, H1, I1, r1, q1⟩ => hc pins s1 σ H1 vs us Q I1 r1 q1) he hpl
end
end L2
namespace HT
open PySem PyProof.Rows
section
open PySem.SeqAt
open PySem.AutoSeq1 (wpAny_loadPart')
open PySem.MeetsSeq PySem.MeetsSeq2 PySem.MeetsSeq3
end
section
variable {prog : Program} {w : World} {A : Around} {E : Value → Shared → Prop} {s : Shared}
theorem cat_tup {t b : Addr} {vs ws : List Value} {Q : Value → Shared → Prop} (ht : IsTup s.heap t vs.toArray) (hb : IsTup s.heap b ws.toArray) (hv : vs ≠ [])
    (h1 : ws = [] → Q (.ref t) s) (h2 : ws ≠ [] → Q (.ref s.heap.objs.size) { s with heap := s.heap.push { cls := .type "tuple", data := .seq (vs ++ ws).toArray } })
    (hsz : vs.length + ws.length ≤ sizeLine) : wpAny (model prog w) A (binaryOp .Add (.ref t) (.ref b)) Q E s := by
  obtain ⟨⟨cls, dd, data, sl⟩, ho, hc, n, hd⟩ := id ht
  obtain ⟨⟨cls2, dd2, data2, sl2⟩, ho2, hc2, n2, hd2⟩ := id hb
  simp only at hc hd hc2 hd2
  subst hc hd hc2 hd2
  have e : vs.toArray ++ ws.toArray = (vs ++ ws).toArray := by simp
  by_cases hw : ws = []
  · exact concat_meets ⟨_, ho, rfl⟩ ⟨_, ho2, rfl⟩ noFill_tuple_add seq_tuple_add PySem.F.slot_tuple_add PySem.F.entry_tuple_add (PySem.F.args_tuple_add_2 _ _)
      (tuple_addW1 t b vs.toArray ws.toArray n n2 dd dd2 sl sl2 (by simpa using hv) (by simp [hw])) ⟨ho, ho2, h1 hw⟩
  · refine concat_meets ⟨_, ho, rfl⟩ ⟨_, ho2, rfl⟩ noFill_tuple_add seq_tuple_add PySem.F.slot_tuple_add PySem.F.entry_tuple_add (PySem.F.args_tuple_add_2 _ _)
      (tuple_addW2 t b vs.toArray ws.toArray n n2 dd dd2 sl sl2 (by simpa using hv) (by simpa using hw) (by rw [List.size_toArray, List.size_toArray]; exact hsz)) ⟨ho, ho2, ?_⟩
    rw [e]
    exact h2 hw

noncomputable def sIx (n d : Nat) : Option Int → Nat
  | none => d
  | some v => if v < 0 then (v + (n : Int)).toNat else min v.toNat n
theorem sIx_none (n d : Nat) : sIx n d none = d := rfl
theorem sIx_nat (n d k : Nat) : sIx n d (some (k : Int)) = min k n := by
  show (if (k : Int) < 0 then ((k : Int) + (n : Int)).toNat else min (k : Int).toNat n) = min k n
  rw [if_neg (by omega), Int.toNat_natCast]
theorem sIx_le (n d : Nat) (hd : d ≤ n) (o : Option Int) : sIx n d o ≤ n := by
  cases o with
  | none => exact hd
  | some v =>
    show (if v < 0 then (v + (n : Int)).toNat else min v.toNat n) ≤ n
    by_cases hv : v < 0
    · rw [if_pos hv]; omega
    · rw [if_neg hv]; exact Nat.min_le_right _ _
theorem clip_eq (v : Int) (n d : Nat) : (if v < 0 then max (v + (n : Int)) 0 else min v (n : Int)) = ((sIx n d (some v) : Nat) : Int) := by
  show (if v < 0 then max (v + (n : Int)) 0 else min v (n : Int)) = (((if v < 0 then (v + (n : Int)).toNat else min v.toNat n) : Nat) : Int)
  by_cases hv : v < 0
  · simp only [if_pos hv]; omega
  · simp only [if_neg hv]; omega
theorem adjust_gen (lo hi : Option Int) (n : Nat) : Builtin.Slice.sliceAdjust lo hi 1 (n : Int) = (((sIx n 0 lo : Nat) : Int), ((sIx n n hi : Nat) : Int)) := by
  have h1 : ¬ ((1 : Int) < 0) := by omega
  unfold Builtin.Slice.sliceAdjust
  simp only [h1, if_false]
  refine Prod.ext ?_ ?_
  · cases lo with
    | none => rfl
    | some v => exact clip_eq v n 0
  · cases hi with
    | none => rfl
    | some v => exact clip_eq v n n
theorem places_gen (i j : Nat) : Builtin.Slice.slicePlaces (i : Int) (j : Int) 1 = j - i := by
  unfold Builtin.Slice.slicePlaces
  have h1 : (1 : Int) > 0 := by omega
  simp only [h1, if_true, Int.ediv_one]
  split <;> omega
theorem slicePart_ {v : Value} {o : Option Int} {Q : Option Int → Shared → Prop} (p : IsPart v o) (h : Q o s) : wpAny (model prog w) A (Builtin.Slice.slicePartIndex v) Q E s := by
  cases p with
  | none => exact slicePart_none h
  | int i t => exact slicePart_int h
theorem sliceApplied_gen {sl : Addr} {vl vu : Value} {lo hi : Option Int} {n : Nat} {Q : Int × Int × Nat → Shared → Prop} (hs : s.heap.IsSliceOf sl vl vu .none) (pl : IsPart vl lo) (pu : IsPart vu hi)
    (h : Q (((sIx n 0 lo : Nat) : Int), 1, sIx n n hi - sIx n 0 lo) s) : wpAny (model prog w) A (Builtin.Slice.sliceApplied (.ref sl) (pure (n : Int))) Q E s := by
  obtain ⟨os, hos, hcs, hds⟩ := id hs
  unfold Builtin.Slice.sliceApplied Builtin.Slice.sliceFields
  refine wpAny_bind (wpAny_bind (wpAny_field hos hds (x := vl) rfl (wpAny_bind (wpAny_field hos hds (x := vu) rfl (wpAny_bind (wpAny_field hos hds (x := .none) rfl (wpAny_pure ?_)))))))
  refine wpAny_bind (slicePart_none ?_)
  show wpAny _ _ (if ((1 : Int) == 0) = true then _ else _) _ _ s
  rw [if_neg (by decide)]
  refine wpAny_bind (slicePart_ pl (wpAny_bind (slicePart_ pu (wpAny_bind (wpAny_pure ?_)))))
  show wpAny _ _ (match Builtin.Slice.sliceAdjust lo hi 1 (n : Int) with | (lo, hi) => pure (lo, (1 : Int), Builtin.Slice.slicePlaces lo hi 1)) _ _ s
  rw [adjust_gen lo hi n]
  show wpAny _ _ (pure (((sIx n 0 lo : Nat) : Int), (1 : Int), Builtin.Slice.slicePlaces ((sIx n 0 lo : Nat) : Int) ((sIx n n hi : Nat) : Int) 1)) _ _ s
  rw [places_gen]
  exact wpAny_pure h
theorem pick_gen (xs : Array Value) (i k : Nat) : ((List.range k).filterMap fun (m : Nat) => xs[((i : Int) + (m : Int) * 1).toNat]?).toArray = ((xs.toList.drop i).take k).toArray := by
  have e : (fun (m : Nat) => xs[((i : Int) + (m : Int) * 1).toNat]?) = fun m => xs[i + m]? := by
    funext m
    have : ((i : Int) + (m : Int) * 1).toNat = i + m := by omega
    rw [this]
  rw [e]
  have := pick_run xs i k
  rw [List.filterMap_map] at this
  have e2 : ((fun x => xs[x]?) ∘ fun x => i + x) = fun m => xs[i + m]? := rfl
  rw [e2] at this
  rw [this]

theorem getItem_tuple_cut {t sl : Addr} {items : Array Value} {vl vu : Value} {lo hi : Option Int} {Q : Value → Shared → Prop} (ht : IsTup s.heap t items) (hs : s.heap.IsSliceOf sl vl vu .none) (pl : IsPart vl lo) (pu : IsPart vu hi)
    (hw : ¬ (sIx items.size 0 lo = 0 ∧ sIx items.size items.size hi = items.size))
    (h : Q (.ref s.heap.objs.size) { s with heap := s.heap.push { cls := .type "tuple", data := .seq ((items.toList.drop (sIx items.size 0 lo)).take (sIx items.size items.size hi - sIx items.size 0 lo)).toArray } })
    (hsz : items.size ≤ sizeLine) : wpAny (model prog w) A (getItem (.ref t) (.ref sl)) Q E s := by
  have htake : sizeOk (.seq ((items.toList.drop (sIx items.size 0 lo)).take (sIx items.size items.size hi - sIx items.size 0 lo)).toArray) := by
    show ((items.toList.drop (sIx items.size 0 lo)).take (sIx items.size items.size hi - sIx items.size 0 lo)).toArray.size ≤ sizeLine
    rw [List.size_toArray, List.length_take, List.length_drop, Array.length_toList]
    omega
  have hj : sIx items.size items.size hi ≤ items.size := sIx_le _ _ (Nat.le_refl _) hi
  obtain ⟨os, hos, hcs, hds⟩ := id hs
  have hTs : s.TypeIs (.ref sl) "slice" := ⟨os, hos, hcs⟩
  unfold getItem
  try with_reducible refine wpAny_holding ?_
  first | refine wpAny_bind (wpAny_pure ?_) | skip
  refine wpAny_bind (wpAny_sequenceKey ht.typeIs (by decide) ?_)
  refine wpAny_bind (wpAny_callSpecial?_slot (name := Str.ofString "__getitem__") ht.typeIs PyProof.Rows.slot_tuple_getitem
    (wpAny_call_entry PyProof.Rows.slot_tuple_getitem ht.typeIs entry_tuple_getitem ?_ (args_tuple_getitem _ _)))
  show wpAny _ _ (Builtin.Tuple.tupleItemsOf (.ref t) >>= _) _ _ s
  refine wpAny_bind (tupleItemsOf_ ht ?_)
  refine wpAny_bind (wpAny_typeOf hTs ?_)
  rw [if_pos (by decide)]
  refine wpAny_bind (sliceApplied_gen hs pl pu ?_)
  have hno : ¬ ((((sIx items.size 0 lo : Nat) : Int) == 0 && (1 : Int) == 1 && (sIx items.size items.size hi - sIx items.size 0 lo) == items.size) = true) := by
    intro q
    rw [Bool.and_eq_true, Bool.and_eq_true] at q
    have q1 : ((sIx items.size 0 lo : Nat) : Int) = 0 := eq_of_beq q.1.1
    have q2 : sIx items.size items.size hi - sIx items.size 0 lo = items.size := eq_of_beq q.2
    exact hw ⟨by omega, by omega⟩
  show wpAny _ _ (if (((sIx items.size 0 lo : Nat) : Int) == 0 && (1 : Int) == 1 && (sIx items.size items.size hi - sIx items.size 0 lo) == items.size) = true then _ else _) _ _ s
  rw [if_neg hno, pick_gen]
  first
    | exact wpAny_bind (m := Builtin.Tuple.tupleExact _) (wpAny_newObj_type (wpAny_pure ⟨_, rfl, wpAny_pure h⟩) htake)
    | exact wpAny_bind (m := Builtin.Tuple.tupleExact _) (wpAny_newObj_type (wpAny_bind (wpAny_pure (wpAny_pure ⟨_, rfl, wpAny_pure h⟩))) htake)
    | exact wpAny_bind (wpAny_bind (m := Builtin.Tuple.tupleExact _) (wpAny_newObj_type (wpAny_pure (wpAny_pure ⟨_, rfl, wpAny_pure h⟩)) htake))
    | exact wpAny_bind (wpAny_bind (m := Builtin.Tuple.tupleExact _) (wpAny_newObj_type (wpAny_pure ⟨_, rfl, wpAny_pure h⟩) htake))
end
end HT
namespace L2
open PySem PySem.Spec PyProof.Rows
noncomputable abbrev TO := St → Hp → (Option Int → Hp → Prop) → Prop
noncomputable def PO (X : Cx) (e : Option Expr) (t : TO) : Prop :=
  ∀ (pins : List (Addr × Obj)) (s : Shared) (σ : St) (H : Hp) (Q : Option Int → Hp → Prop), Inv X pins σ H s → t σ H Q →
    wpAny (model X.prog X.w) X.A (evalPart e X.env) (fun u s' => ∃ o H', Inv X pins σ H' s' ∧ IsPart u o ∧ Q o H') X.xe s
@[irreducible] noncomputable def ZO (X : Cx) (e : Option Expr) (t : TO) : Prop := PO X e t
noncomputable def tNoPart : TO := fun _ H Q => Q none H
noncomputable def tPart (t : TE) : TO := fun σ H Q => t σ H fun x H1 => ∃ i, x = .int i ∧ Q (some i) H1

theorem intsAre_of {ns : List Int} : ∀ {us : List Value}, Vals (ns.map V.int) us → IntsAre us ns := by
  induction ns with
  | nil => intro us r; rw [List.map_nil] at r; cases r; exact .nil
  | cons n ns ih =>
    intro us r
    rw [List.map_cons] at r
    cases r with
    | cons r1 r2 =>
      obtain ⟨t, e⟩ := r1
      subst e
      exact .cons n t (ih r2)

section
variable {X : Cx} {e : Expr} {te : TE} {lo hi : Option Expr} {tl th : TO} {pos p2 : Pos}
theorem po_none : PO X none tNoPart := by
  intro pins s σ H Q I h
  rw [evalPart_none]
  exact wpAny_pure ⟨none, H, I, .none, h⟩
theorem zo_none : ZO X none tNoPart := by with_unfolding_all exact po_none 
theorem po_some (h : PE X e te) : PO X (some e) (tPart te) := by
  intro pins s σ H Q I hw
  rw [evalPart_some]
  refine thn (h pins s σ H _ I hw) fun u s1 ⟨x, H1, I1, r1, q1⟩ => ?_
  obtain ⟨i, rfl, q⟩ := q1
  obtain ⟨t, rfl⟩ := r1
  exact ⟨some i, H1, I1, .int i t, q⟩
theorem zo_some (h : ZE X e te) : ZO X (some e) (tPart te) := by with_unfolding_all exact po_some h

noncomputable def SlR (X : Cx) (r : V → Option Int → Option Int → Hp → VK → Prop) : Prop :=
  ∀ (pins : List (Addr × Obj)) (s : Shared) (σ : St) (H : Hp) (x : V) (v vl vu : Value) (lo hi : Option Int) (sl : Addr) (Q : VK), Inv X pins σ H s → RelV x v → s.heap.IsSliceOf sl vl vu .none → IsPart vl lo → IsPart vu hi → r x lo hi H Q →
    ∃ T id, typeLookup (.type T) "__getitem__" = pure (some (.builtin id)) ∧ s.TypeIs v T ∧ wpAny (model X.prog X.w) X.A (getItem v (.ref sl)) (EP X pins σ Q) X.xe s
noncomputable def tSl (r : V → Option Int → Option Int → Hp → VK → Prop) (te : TE) (tl th : TO) : TE := fun σ H Q => te σ H fun x H1 => tl σ H1 fun l H2 => th σ H2 fun u H3 => r x l u H3 Q
theorem pe_slice {r : V → Option Int → Option Int → Hp → VK → Prop} (hr : SlR X r) (he : PE X e te) (hl : PO X lo tl) (hu : PO X hi th) : PE X (.Subscript e (.Slice lo hi none p2) pos) (tSl r te tl th) := by
  intro pins s σ H Q I h
  refine Subscript_ (thn (he pins s σ H _ I h) fun v s1 ⟨x, H1, I1, r1, q1⟩ => ?_)
  refine wpAny_Slice (thn (hl pins s1 σ H1 _ I1 q1) fun vl s2 ⟨l, H2, I2, pl, q2⟩ => thn (hu pins s2 σ H2 _ I2 q2) fun vu s3 ⟨u, H3, I3, pu, q3⟩ => ?_)
  rw [evalPart_none]
  refine wpAny_pure ?_
  have I4 : Inv X pins σ H3 { s3 with heap := s3.heap.push { cls := .type "slice", data := .fields #[vl, vu, .none] } } := I3.kept (t' := s3.toks) fun b ob q => Heap.get?_push_of_some _ q
  obtain ⟨T, id, hT, ht, hg⟩ := hr pins { s3 with heap := s3.heap.push { cls := .type "slice", data := .fields #[vl, vu, .none] } } σ H3 x v vl vu l u s3.heap.objs.size Q I4 r1 (Heap.IsSliceOf.new ..) pl pu q3
  show wpAny (model X.prog X.w) X.A (subscriptTail e (.Slice lo hi none p2) v (.ref s3.heap.objs.size)) (EP X pins σ Q) X.xe { s3 with heap := s3.heap.push { cls := .type "slice", data := .fields #[vl, vu, .none] } }
  exact tail_any (ops := [.ref s3.heap.objs.size, v]) ht hT hg (by with_unfolding_all rfl)
theorem ze_slice {r : V → Option Int → Option Int → Hp → VK → Prop} (hr : SlR X r) (he : ZE X e te) (hl : ZO X lo tl) (hu : ZO X hi th) : ZE X (.Subscript e (.Slice lo hi none p2) pos) (tSl r te tl th) := by with_unfolding_all exact pe_slice hr he hl hu

noncomputable def cutV (xs : List V) (lo hi : Option Int) : List V := (xs.drop (HT.sIx xs.length 0 lo)).take (HT.sIx xs.length xs.length hi - HT.sIx xs.length 0 lo)
theorem cutV_length (xs : List V) (lo hi : Option Int) : (cutV xs lo hi).length ≤ xs.length := by
  unfold cutV
  rw [List.length_take, List.length_drop]
  omega
noncomputable def rSlT (K : PySem.W.Frag) : V → Option Int → Option Int → Hp → VK → Prop := fun x lo hi H Q => ∃ a xs, x = .ref a ∧ SqT K H a xs ∧
  ¬ (HT.sIx xs.length 0 lo = 0 ∧ HT.sIx xs.length xs.length hi = xs.length) ∧ ∀ p, H p = none → Q (.ref p) (upd H p (.tup (cutV xs lo hi)))
theorem sl_tup : SlR X (rSlT X.K) := by
  intro pins s σ H x v vl vu lo hi sl Q I rx hs pl pu h
  obtain ⟨a, xs, rfl, hx, hw, q⟩ := h
  cases rx
  obtain ⟨its, r, ht, hz⟩ := I.tuple hx
  have hlen : its.toArray.size = xs.length := by rw [List.size_toArray]; exact r.length.symm
  refine ⟨"tuple", _, PyProof.Rows.slot_tuple_getitem.lookup, ht.typeIs, ?_⟩
  refine HT.getItem_tuple_cut ht hs pl pu (by rw [hlen]; exact hw) ?_ (by rw [hlen]; exact hz)
  rw [hlen]
  refine ⟨.ref s.heap.objs.size, _, I.laid (t' := s.toks) (o := .tup (cutV xs lo hi)) (fun b ob q => Heap.get?_push_of_some _ q) (Nat.le_refl _) ?_, rfl, q _ (I.hok.fresh (Nat.le_refl _))⟩
  exact ⟨Nat.le_trans (cutV_length xs lo hi) hz, _, (r.drop (HT.sIx xs.length 0 lo)).take (HT.sIx xs.length xs.length hi - HT.sIx xs.length 0 lo), TupD.new _ _⟩

noncomputable def rCatT (K : PySem.W.Frag) : R2 := fun x y H Q => ∃ a b xs ys, x = .ref a ∧ y = .ref b ∧ SqT K H a xs ∧ SqT K H b ys ∧ xs ≠ [] ∧ xs.length + ys.length ≤ sizeLine ∧
  (ys = [] → Q (.ref a) H) ∧ (ys ≠ [] → ∀ p, H p = none → Q (.ref p) (upd H p (.tup (xs ++ ys))))
theorem Vals.nil_iff {xs : List V} {us : List Value} (r : Vals xs us) : us = [] ↔ xs = [] := by
  cases r with
  | nil => simp
  | cons _ _ => simp
theorem op_catT : OpR X (binaryOp .Add) (rCatT X.K) := by
  intro pins s σ H x y v u Q I rx ry h
  obtain ⟨a, b, xs, ys, rfl, rfl, ha, hb, hx, hz, q1, q2⟩ := h
  cases rx
  cases ry
  obtain ⟨its, r1, p1, _⟩ := I.tuple ha
  obtain ⟨its2, r2, p2, _⟩ := I.tuple hb
  refine HT.cat_tup p1 p2 (fun z => hx (r1.nil_iff.mp z)) (fun z => ⟨.ref a, H, I, rfl, q1 (r2.nil_iff.mp z)⟩) (fun z => ?_) (by rw [← r1.length, ← r2.length]; exact hz)
  refine ⟨.ref s.heap.objs.size, _, I.laid (t' := s.toks) (o := .tup (xs ++ ys)) (fun b ob q => Heap.get?_push_of_some _ q) (Nat.le_refl _) ?_, rfl, q2 (fun w => z (r2.nil_iff.mpr w)) _ (I.hok.fresh (Nat.le_refl _))⟩
  exact ⟨by rw [List.length_append]; exact hz, _, r1.append r2, TupD.new _ _⟩
end
end L2
namespace L2
open PySem PySem.Spec PyProof.Rows
noncomputable def ixN (n : Nat) (i : Int) : Option Nat := if 0 ≤ i then (if i < n then some i.toNat else none) else if -(n : Int) ≤ i then some (i + n).toNat else none
noncomputable def atI {α : Type} (xs : List α) (i : Int) : Option α := (ixN xs.length i).bind fun j => xs[j]?
theorem ixN_seq {n : Nat} {i : Int} {j : Nat} (h : ixN n i = some j) : seqIndex? i n = some j ∧ j < n ∧ -(n : Int) ≤ i ∧ i < n := by
  unfold ixN at h
  by_cases h0 : 0 ≤ i
  · rw [if_pos h0] at h
    by_cases h1 : i < n
    · rw [if_pos h1] at h
      have e : i.toNat = j := Option.some.inj h
      exact ⟨by rw [seqIndex_of h0 h1, e], by omega, by omega, h1⟩
    · rw [if_neg h1] at h; cases h
  · rw [if_neg h0] at h
    by_cases h1 : -(n : Int) ≤ i
    · rw [if_pos h1] at h
      have e : (i + n).toNat = j := Option.some.inj h
      exact ⟨by rw [seqIndex_neg (by omega) h1, e], by omega, h1, by omega⟩
    · rw [if_neg h1] at h; cases h
theorem atI_get {α : Type} {xs : List α} {i : Int} {v : α} (h : atI xs i = some v) : ∃ j, seqIndex? i xs.length = some j ∧ xs[j]? = some v ∧ j < xs.length ∧ -(xs.length : Int) ≤ i ∧ i < xs.length := by
  unfold atI at h
  cases e : ixN xs.length i with
  | none => rw [e] at h; cases h
  | some j =>
    rw [e] at h
    obtain ⟨h1, h2, h3, h4⟩ := ixN_seq e
    exact ⟨j, h1, h, h2, h3, h4⟩
theorem atI_nat {α : Type} {xs : List α} {j : Nat} {v : α} (h : xs[j]? = some v) : atI xs (j : Int) = some v := by
  have hj : j < xs.length := (List.getElem?_eq_some_iff.mp h).1
  have e : ixN xs.length (j : Int) = some j := by
    unfold ixN
    rw [if_pos (by omega), if_pos (by omega)]; simp
  unfold atI; rw [e]; exact h
theorem atI_last {α : Type} (xs : List α) (v : α) : atI (xs ++ [v]) (-1) = some v := by
  have hl : (xs ++ [v]).length = xs.length + 1 := by simp
  have e : ixN (xs ++ [v]).length (-1) = some xs.length := by
    unfold ixN
    rw [hl, if_neg (by decide), if_pos (by omega)]
    congr 1
    omega
  unfold atI
  rw [e]
  show (xs ++ [v])[xs.length]? = some v
  simp

noncomputable def PlainIx (b : Expr) : Prop := ∀ o i, subscripted b false o i = operate [o, i] (getItem o i)
noncomputable def IxR (X : Cx) (r : R2) : Prop :=
  ∀ (value slice : Expr) (pins : List (Addr × Obj)) (s : Shared) (σ : St) (H : Hp) (x y : V) (v u : Value) (Q : VK), Inv X pins σ H s → RelV x v → RelV y u → r x y H Q →
    subscripted slice false v u = operate [v, u] (getItem v u) → wpAny (model X.prog X.w) X.A (subscriptTail value slice v u) (EP X pins σ Q) X.xe s
noncomputable def MtR (X : Cx) (id : String) (r : V → List V → Hp → VK → Prop) : Prop :=
  ∀ (pins : List (Addr × Obj)) (s : Shared) (σ : St) (H : Hp) (x : V) (xs : List V) (v : Value) (us : List Value) (Q : VK), Inv X pins σ H s → RelV x v → Vals xs us → r x xs H Q →
    wpAny (model X.prog X.w) X.A (call (.builtin id) (v :: us)) (EP X pins σ Q) X.xe s
section
variable {X : Cx} {a b : Expr} {ta tb : TE} {pos : Pos}
theorem pe_ix {r : R2} (hr : IxR X r) (ha : PE X a ta) (hb : PE X b tb) (hs : PlainIx b) : PE X (.Subscript a b pos) (tOp r ta tb) := by
  intro pins s σ H Q I h
  exact Subscript_ (binT ha hb I h fun v u s2 x y H2 I2 rx ry q => hr a b pins s2 σ H2 x y v u Q I2 rx ry q (hs _ _))
theorem ze_ix {r : R2} (hr : IxR X r) (ha : ZE X a ta) (hb : ZE X b tb) (hs : PlainIx b) : ZE X (.Subscript a b pos) (tOp r ta tb) := by with_unfolding_all exact pe_ix hr ha hb hs

noncomputable def rIxL (K : PySem.W.Frag) : R2 := fun x y H Q => ∃ p xs i v, x = .ref p ∧ y = .int i ∧ SqL K H p xs ∧ atI xs i = some v ∧ Q v H
noncomputable def rIxT (K : PySem.W.Frag) : R2 := fun x y H Q => ∃ p xs i v, x = .ref p ∧ y = .int i ∧ SqT K H p xs ∧ atI xs i = some v ∧ Q v H
theorem ix_list : IxR X (rIxL X.K) := by
  intro value slice pins s σ H x y v u Q I rx ry h hs
  obtain ⟨p, xs, i, z, rfl, rfl, hq, he, q⟩ := h
  cases rx
  obtain ⟨t, rfl⟩ := ry
  obtain ⟨its, r, pl, hz⟩ := I.list hq
  obtain ⟨j, h1, h2, h3, h4, h5⟩ := atI_get he
  obtain ⟨w, ew, rw'⟩ := r.get h2
  have hl := r.length
  have hn := line63
  have fin : EP X pins σ Q w s := ⟨z, H, I, rw', q⟩
  by_cases h0 : 0 ≤ i
  · have hj : i.toNat = j := by
      rw [seqIndex_of h0 h5] at h1
      exact Option.some.inj h1
    exact item_listR pl.isList h0 (by omega) (by rw [hj]; simpa using ew) fin hs
  · have hj : (i + (its.toArray.size : Int)).toNat = j := by
      rw [seqIndex_neg (by omega) h4] at h1
      rw [List.size_toArray, ← hl]
      exact Option.some.inj h1
    exact subscriptTail_builtinR (x := w) pl.isList.typeIs slot_list_getitem.lookup
      (wpAny_getItem_list_neg (Q := fun r s' => r = w ∧ EP X pins σ Q r s') pl.isList (by omega) (by rw [List.size_toArray] <;> omega) (by omega) (by rw [hj]; simpa using ew) ⟨rfl, fin⟩) hs
theorem ix_tup : IxR X (rIxT X.K) := by
  intro value slice pins s σ H x y v u Q I rx ry h hs
  obtain ⟨p, xs, i, z, rfl, rfl, hq, he, q⟩ := h
  cases rx
  obtain ⟨t, rfl⟩ := ry
  obtain ⟨its, r, pl, hz⟩ := I.tuple hq
  obtain ⟨j, h1, h2, h3, h4, h5⟩ := atI_get he
  obtain ⟨w, ew, rw'⟩ := r.get h2
  have hl := r.length
  have hn := line63
  have fin : EP X pins σ Q w s := ⟨z, H, I, rw', q⟩
  exact subscriptTail_builtinR (x := w) pl.typeIs slot_tuple_getitem.lookup
    (getItem_tuple (j := j) (Q := fun r s' => r = w ∧ EP X pins σ Q r s') pl (by omega) (by omega) (by rw [List.size_toArray, ← hl]; exact h1) (by simpa using ew) ⟨rfl, fin⟩) hs
theorem mapSeq_set (its : List Value) (n j : Nat) (u : Value) : Obj.mapSeq (·.setIfInBounds j u) { cls := .type "list", data := .seq its.toArray n } = { cls := .type "list", data := .seq (its.set j u).toArray n } := by
  simp [Obj.mapSeq]
theorem Inv.lst {pins : List (Addr × Obj)} {σ : St} {H : Hp} {s : Shared} {p : Addr} {xs : List V} (I : Inv X pins σ H s) (h : H p = some (.lst xs)) :
    ∃ (its : List Value) (n : Nat), Vals xs its ∧ s.heap.get? p = some { cls := .type "list", data := .seq its.toArray n } ∧ xs.length ≤ sizeLine := by
  obtain ⟨z, its, n, r, e⟩ := I.hok p _ h
  exact ⟨its, n, r, e, z⟩
theorem Inv.lstUpd {pins : List (Addr × Obj)} {σ : St} {H : Hp} {s : Shared} {p : Addr} {xs ys : List V} {its its' : List Value} {n n' : Nat} {f : Obj → Obj} (I : Inv X pins σ H s) (h : H p = some (.lst xs))
    (ho : s.heap.get? p = some { cls := .type "list", data := .seq its.toArray n }) (hf : f { cls := .type "list", data := .seq its.toArray n } = { cls := .type "list", data := .seq its'.toArray n' }) (r : Vals ys its') (hz : ys.length ≤ sizeLine) (t : Nat) :
    Inv X pins σ (upd H p (.lst ys)) { s with heap := s.heap.update p f, toks := t } := by
  have e : (s.heap.update p f).get? p = some { cls := .type "list", data := .seq its'.toArray n' } := by
    rw [Heap.get?_update_self f ho (by rw [hf] <;> rfl), hf]
  refine I.write (x := p) (e := p) (by rw [h]; trivial) (.inl rfl) (fun b u hb q => (Heap.get?_update_other _ _ (Ne.symm hb)).trans q) ⟨_, e⟩ ?_
  exact ⟨hz, its', n', r, e⟩
noncomputable def rSetL : V → V → V → Hp → (Hp → Prop) → Prop := fun o i v H Q => ∃ p xs k j, o = .ref p ∧ i = .int k ∧ H p = some (.lst xs) ∧ ixN xs.length k = some j ∧ Q (upd H p (.lst (xs.set j v)))
theorem set_list : PSet X rSetL := by
  intro pins s σ H o i v ov iv u Q I ro ri rv h
  obtain ⟨p, xs, k, j, rfl, rfl, hp, hj, q⟩ := h
  cases ro
  obtain ⟨t, rfl⟩ := ri
  obtain ⟨its, n, r, ho, hz⟩ := I.lst hp
  obtain ⟨h1, h2, h3, h4⟩ := ixN_seq hj
  have hl := r.length
  have hn := line63
  have I' : Inv X pins σ (upd H p (.lst (xs.set j v))) { s with heap := s.heap.update p (Obj.mapSeq (·.setIfInBounds j u)) } :=
    I.lstUpd hp ho (mapSeq_set its n j u) (r.set rv j) (by rw [List.length_set]; exact hz) s.toks
  by_cases h0 : 0 ≤ k
  · have hk : k.toNat = j := by
      rw [seqIndex_of h0 h4] at h1
      exact Option.some.inj h1
    exact PySem.W.ki_setAt ho h0 (by omega) (by rw [List.size_toArray, ← hl]; exact h4) (by rw [hk]; exact ⟨_, I', q⟩)
  · have hk : (k + (its.toArray.size : Int)).toNat = j := by
      rw [seqIndex_neg (by omega) h3] at h1
      rw [List.size_toArray, ← hl]
      exact Option.some.inj h1
    exact PySem.W.ki_setBack ho (by omega) (by rw [List.size_toArray, ← hl]; exact h3) (by omega) (by rw [hk]; exact ⟨_, I', q⟩)

theorem slice_bounds (lo hi : Option Int) (n : Nat) : (sliceBounds lo hi none n).1 = ((HT.sIx n 0 lo : Nat) : Int) ∧ (sliceBounds lo hi none n).2.1 = ((HT.sIx n n hi : Nat) : Int) ∧ (sliceBounds lo hi none n).2.2 = 1 := by
  refine ⟨?_, ?_, rfl⟩
  · cases lo with
    | none => simp [sliceBounds, HT.sIx]
    | some i =>
      simp only [sliceBounds, HT.sIx, Option.getD_none, show (1 : Int) > 0 by decide, if_true]
      by_cases h : i < 0
      · simp only [h, if_true] <;> omega
      · simp only [h, if_false] <;> omega
  · cases hi with
    | none => simp [sliceBounds, HT.sIx]
    | some i =>
      simp only [sliceBounds, HT.sIx, Option.getD_none, show (1 : Int) > 0 by decide, if_true]
      by_cases h : i < 0
      · simp only [h, if_true] <;> omega
      · simp only [h, if_false] <;> omega
theorem slicePick_cut (its : List Value) (lo hi : Option Int) : slicePick its.toArray lo hi none = ((its.drop (HT.sIx its.length 0 lo)).take (HT.sIx its.length its.length hi - HT.sIx its.length 0 lo)).toArray := by
  obtain ⟨h1, h2, h3⟩ := slice_bounds lo hi its.toArray.size
  unfold slicePick
  rw [h1, h2, h3]
  simp only [sliceRange_one, pick_run, List.size_toArray] <;> rfl
noncomputable def rSlL (K : PySem.W.Frag) : V → Option Int → Option Int → Hp → VK → Prop := fun x lo hi H Q => ∃ a xs, x = .ref a ∧ SqL K H a xs ∧ ∀ p, H p = none → Q (.ref p) (upd H p (.lst (cutV xs lo hi)))
theorem sl_list : SlR X (rSlL X.K) := by
  intro pins s σ H x v vl vu lo hi sl Q I rx hs pl pu h
  obtain ⟨a, xs, rfl, hx, q⟩ := h
  cases rx
  obtain ⟨its, r, ht, hz⟩ := I.list hx
  have hlen := r.length
  refine ⟨"list", _, slot_list_getitem.lookup, ht.isList.typeIs, ?_⟩
  refine wpAny_getItem_list_slice ht.isList hs pl pu .none (by simp) ?_ (by rw [List.size_toArray] <;> omega)
  rw [slicePick_cut, ← hlen]
  refine ⟨.ref s.heap.objs.size, _, I.laid (t' := s.toks) (o := .lst (cutV xs lo hi)) (fun b ob q => Heap.get?_push_of_some _ q) (Nat.le_refl _) ?_, rfl, q _ (I.hok.fresh (Nat.le_refl _))⟩
  exact ⟨Nat.le_trans (cutV_length xs lo hi) hz, _, 0, (r.drop (HT.sIx xs.length 0 lo)).take (HT.sIx xs.length xs.length hi - HT.sIx xs.length 0 lo), Heap.get?_push_size _ rfl⟩

theorem call_len_seq : CallR X (.builtin "len") (fun xs H Q => ∃ p ys, xs = [.ref p] ∧ (SqL X.K H p ys ∨ SqT X.K H p ys) ∧ Q (.int ys.length) H) := by
  intro pins s σ H xs us Q I r h
  obtain ⟨p, ys, rfl, hq, q⟩ := h
  obtain ⟨u, rfl, rx⟩ := vals1 r
  cases rx
  have hn := line63
  rcases hq with hq | hq
  · obtain ⟨its, r', pl, hz⟩ := I.list hq
    have hlen := r'.length
    exact Calls.call_len_list pl.isList (by simp only [List.size_toArray] <;> omega) ⟨.int ys.length, H, I.tok _, ⟨s.toks + 1, by rw [List.size_toArray, hlen]⟩, q⟩
  · obtain ⟨its, r', pl, hz⟩ := I.tuple hq
    have hlen := r'.length
    exact len_tuple pl (by simp only [List.size_toArray] <;> omega) ⟨.int ys.length, H, I.tok _, ⟨s.toks + 1, by rw [List.size_toArray, hlen]⟩, q⟩
theorem call_list_of : CallR X (.type "list") (fun xs H Q => ∃ p ys, xs = [.ref p] ∧ (SqL X.K H p ys ∨ SqT X.K H p ys) ∧ ∀ l, H l = none → Q (.ref l) (upd H l (.lst ys))) := by
  intro pins s σ H xs us Q I r h
  obtain ⟨p, ys, rfl, hq, q⟩ := h
  obtain ⟨u, rfl, rx⟩ := vals1 r
  cases rx
  have fin : ∀ (its : List Value), Vals ys its → ys.length ≤ sizeLine → ∀ (h' : Heap) (c' : Nat), (∀ b o', s.heap.get? b = some o' → h'.get? b = some o') →
      h'.get? s.heap.objs.size = some { cls := .type "list", dict := none, data := .seq its.toArray c', slots := #[] } → EP X pins σ Q (.ref s.heap.objs.size) { s with heap := h' } := fun its r' hz h' c' kp e =>
    ⟨.ref s.heap.objs.size, _, I.laid (t' := s.toks) kp (Nat.le_refl _) (show ObjOk X.prog X.w _ h' _ (.lst ys) from ⟨hz, its, c', r', e⟩), rfl, q _ (I.hok.fresh (Nat.le_refl _))⟩
  rcases hq with hq | hq
  · obtain ⟨its, r', pl, hz⟩ := I.list hq
    have hlen := r'.length
    obtain ⟨o, ho, hc, n, hd⟩ := pl.isList
    exact call_list_seq p (.inl rfl) ho hc hd (fun h' c' kp e => fin its r' hz h' c' kp e) (by simp only [List.size_toArray] <;> omega)
  · obtain ⟨its, r', pl, hz⟩ := I.tuple hq
    have hlen := r'.length
    obtain ⟨o, ho, hc, n, hd⟩ := pl
    exact call_list_seq p (.inr rfl) ho hc hd (fun h' c' kp e => fin its r' hz h' c' kp e) (by simp only [List.size_toArray] <;> omega)
theorem call_tuple_of : CallR X (.type "tuple") (fun xs H Q => ∃ p ys, xs = [.ref p] ∧ ((SqL X.K H p ys ∧ ∀ l, H l = none → Q (.ref l) (upd H l (.tup ys))) ∨ (SqT X.K H p ys ∧ Q (.ref p) H))) := by
  intro pins s σ H xs us Q I r h
  obtain ⟨p, ys, rfl, h⟩ := h
  obtain ⟨u, rfl, rx⟩ := vals1 r
  cases rx
  rcases h with ⟨hq, q⟩ | ⟨hq, q⟩
  · obtain ⟨its, r', pl, hz⟩ := I.list hq
    have hlen := r'.length
    refine call_tuple_list pl.isList (fun h' kp => ?_) (by simp only [List.size_toArray] <;> omega)
    have I1 : Inv X pins σ H { s with heap := h' } := I.kept (t' := s.toks) kp
    have I2 : Inv X pins σ (upd H h'.objs.size (.tup ys)) { s with heap := h'.push { cls := .type "tuple", data := .seq its.toArray } } :=
      I1.laid (t' := s.toks) (fun b o e => Heap.get?_push_of_some _ e) (Nat.le_refl _) (show ObjOk X.prog X.w _ _ _ (.tup ys) from ⟨hz, its, r', TupD.new _ _⟩)
    exact ⟨.ref h'.objs.size, _, I2, rfl, q _ (I1.hok.fresh (Nat.le_refl _))⟩
  · obtain ⟨its, r', pl, hz⟩ := I.tuple hq
    exact call_tuple_same pl ⟨.ref p, H, I, rfl, q⟩

noncomputable def tyV (K : PySem.W.Frag) (T : String) (x : V) (H : Hp) : Prop := match x with
  | .str _ => T = "str"
  | .int _ => T = "int"
  | .ref p => (T = "list" ∧ ∃ xs, SqL K H p xs) ∨ (T = "tuple" ∧ ∃ o, K.lookup p = some o ∧ o.cls = .type "tuple" ∧ o.dict = none) ∨
      (T = "dict" ∧ ((∃ kvs, H p = some (.dK kvs)) ∨ ∃ kvs, H p = some (.dT kvs))) ∨ (T = "set" ∧ ∃ S n, H p = some (.set S n)) ∨ (T = "tuple" ∧ ∃ xs, H p = some (.tup xs))
  | _ => False
theorem tyV_is {pins : List (Addr × Obj)} {σ : St} {H : Hp} {s : Shared} {T : String} {x : V} {v : Value} (I : Inv X pins σ H s) (r : RelV x v) (ty : tyV X.K T x H) :
    s.TypeIs v T ∧ ∀ a, v = .ref a → ∃ ob, s.heap.get? a = some ob ∧ ob.dict = none := by
  cases x with
  | str z =>
    obtain ⟨t, rfl⟩ := r
    cases (show T = "str" from ty)
    exact ⟨typeIs_str s z t, fun _ e => nomatch e⟩
  | int i =>
    obtain ⟨t, rfl⟩ := r
    cases (show T = "int" from ty)
    exact ⟨typeIs_int s i t, fun _ e => nomatch e⟩
  | ref p =>
    cases r
    rcases ty with ⟨rfl, xs, hq⟩ | ⟨rfl, o, hk, hc, hd⟩ | ⟨rfl, hk⟩ | ⟨rfl, S, n, hk⟩ | ⟨rfl, xs, hk⟩
    · obtain ⟨its, _, pl, _⟩ := I.list hq
      refine ⟨pl.isList.typeIs, fun a e => ?_⟩
      cases e
      obtain ⟨o, n, e, c, hd, _⟩ := pl
      exact ⟨o, e, hd⟩
    · refine ⟨⟨o, I.kIn p o hk, hc⟩, fun a e => ?_⟩
      cases e
      exact ⟨o, I.kIn _ o hk, hd⟩
    · have z : ∃ o, s.heap.get? p = some o ∧ o.ExactDict := by
        rcases hk with ⟨kvs, hk⟩ | ⟨kvs, hk⟩
        · obtain ⟨_, _, _, _, o, _, _, e, ex, _⟩ := I.hok p _ hk
          exact ⟨o, e, ex⟩
        · obtain ⟨_, _, _, _, o, _, _, e, ex, _⟩ := I.hok p _ hk
          exact ⟨o, e, ex⟩
      obtain ⟨o, e, ex⟩ := z
      refine ⟨⟨o, e, ex.1⟩, fun a e2 => ?_⟩
      cases e2
      exact ⟨o, e, ex.2.1⟩
    · obtain ⟨o, _, _, _, e, ex, _⟩ := I.hok p _ hk
      refine ⟨⟨o, e, ex.1⟩, fun a e2 => ?_⟩
      cases e2
      exact ⟨o, e, ex.2.1⟩
    · obtain ⟨_, _, _, n, e⟩ := I.hok p _ hk
      refine ⟨⟨_, e, rfl⟩, fun a e2 => ?_⟩
      cases e2
      exact ⟨_, e, rfl⟩
  | _ => exact False.elim ty
noncomputable def tBM (K : PySem.W.Frag) (T : String) (r : V → List V → Hp → VK → Prop) (to : TE) (t : TA) : TE := fun σ H Q => to σ H fun x H1 => tyV K T x H1 ∧ t σ H1 fun xs H2 => r x xs H2 Q
variable {o e : Expr} {es : List Expr} {to : TE} {t : TA} {name : Str} {apos cpos : Pos} {T id : String} {r : V → List V → Hp → VK → Prop}
theorem pe_bm (pa : PlainAttrs T) (slot : Slot T name id) (hty : typeOf (.builtin id) = pure (.type "method_descriptor")) (hm : MtR X id r) (ho : PE X o to) (ha : PA X (e :: es) t)
    (hbase : attributeBase o name X.env (eval o X.env) = eval o X.env := by rfl)
    (hfew : ((backTo cpos (starEach (e :: es) X.env)).all (fun x => !x.1) && (backToKw cpos (keywordEach [] X.env)).all (fun x => x.1.isSome)
      && decide ((e :: es).length + ([] : List Keyword).length + (if ([] : List Keyword).isEmpty then 0 else 1) < 30)) = true := by rfl)
    (hline : (apos.endLine == cpos.line) = true := by rfl) (hs : starEach (e :: es) X.env = (false, eval e X.env) :: starEach es X.env := by rfl) (hplain : (backTo cpos (starEach es X.env)).any (·.1) = false := by rfl) :
    PE X (.Call (.Attribute o name apos) (e :: es) [] cpos) (tBM X.K T r to t) := by
  intro pins s σ H Q I h
  refine wpAny_Call_method_late hbase hfew hline rfl (thn (ho pins s σ H _ I h) fun v s1 ⟨x, H1, I1, r1, ty, q1⟩ => ?_)
  obtain ⟨h1, h2⟩ := tyV_is I1 r1 ty
  refine ⟨T, id, pa, slot, hty, h1, h2, ?_⟩
  have hA := ha cpos pins s1 σ H1 _ I1 q1
  rw [hs] at hA ⊢
  refine Calls.callWith_builtin (by show (false || (backTo cpos (starEach es X.env)).any (·.1)) = false; rw [hplain] <;> rfl) (Calls.evalArgs_plain ?_)
  exact thn hA fun us s2 ⟨vs, H2, I2, r2, q2⟩ => hm pins s2 σ H2 x vs v us Q I2 r1 r2 q2
/- xs.append(e), list.index on a module's tuple .. are MtR facts of 06m -/
end
end L2
namespace L2
open PySem PySem.Spec PyProof.Rows
noncomputable def MtM (X : Cx) (id : String) (r : V → List V → Hp → VK → Prop) : Prop :=
  ∀ (pins : List (Addr × Obj)) (s : Shared) (σ : St) (H : Hp) (x : V) (xs : List V) (v : Value) (us : List Value) (Q : VK), Inv X pins σ H s → RelV x v → Vals xs us → r x xs H Q →
    wpAny (model X.prog X.w) X.A (call (.builtin id) (v :: us)) (EP X pins σ Q) X.xe s

theorem Vals.one : ∀ {x : V} {us : List Value}, Vals [x] us → ∃ u, us = [u] ∧ RelV x u
  | _, _, .cons r .nil => ⟨_, rfl, r⟩
theorem Vals.rep {xs : List V} {us : List Value} (h : Vals xs us) : ∀ k : Nat, Vals (List.replicate k xs).flatten (List.replicate k us).flatten
  | 0 => .nil
  | k + 1 => by
    rw [List.replicate_succ, List.replicate_succ, List.flatten_cons, List.flatten_cons]
    exact Vals.append h (Vals.rep h k)
theorem foldl_rep (its : List Value) : ∀ (k : Nat) (acc : List Value),
    List.foldl (fun x1 x2 => x1 ++ x2) acc.toArray (List.replicate k its.toArray) = (acc ++ (List.replicate k its).flatten).toArray
  | 0, acc => by simp
  | k + 1, acc => by
    have e : acc.toArray ++ its.toArray = (acc ++ its).toArray := by simp
    have e2 : (acc ++ its) ++ (List.replicate k its).flatten = acc ++ (List.replicate (k + 1) its).flatten := by
      rw [List.replicate_succ, List.flatten_cons, List.append_assoc]
    rw [← e2, ← foldl_rep its k (acc ++ its), ← e, List.replicate_succ, List.foldl_cons]

section
variable {X : Cx} {pins : List (Addr × Obj)} {σ : St} {H : Hp} {s : Shared} {l b : Addr} {xs ys zs : List V}
theorem Inv.lset {its its' : List Value} {n : Nat} {f : Array Value → Array Value} {t' : Nat} (I : Inv X pins σ H s) (hH : H l = some (.lst xs))
    (e : s.heap.get? l = some { cls := .type "list", data := .seq its.toArray n }) (hf : f its.toArray = its'.toArray) (hv : Vals ys its') (hz : ys.length ≤ sizeLine) :
    Inv X pins σ (upd H l (.lst ys)) { s with heap := s.heap.update l (Obj.mapSeq f), toks := t' } := by
  have q := PySem.IsL.update e f
  rw [hf] at q
  refine I.write (x := l) (e := l) (by rw [hH]; exact trivial) (.inl rfl) (fun b' u hb hu => (Heap.get?_update_other s.heap (Obj.mapSeq f) (Ne.symm hb)).trans hu) ⟨_, q⟩ ?_
  exact ⟨hz, its', _, hv, q⟩
theorem Inv.lnew {its : List Value} {t' : Nat} (I : Inv X pins σ H s) (hv : Vals ys its) (hz : ys.length ≤ sizeLine) :
    Inv X pins σ (upd H s.heap.objs.size (.lst ys)) { s with heap := s.heap.push { cls := .type "list", data := .seq its.toArray }, toks := t' } :=
  I.laid (fun _ _ q => Heap.get?_push_of_some _ q) (Nat.le_refl _) ⟨hz, its, 0, hv, Heap.get?_push_size _ rfl⟩
theorem Inv.fresh (I : Inv X pins σ H s) : H s.heap.objs.size = none := I.hok.fresh (Nat.le_refl _)
theorem Inv.lstM (I : Inv X pins σ H s) (hH : H l = some (.lst xs)) : xs.length ≤ sizeLine ∧ ∃ (its : List Value) (n : Nat), Vals xs its ∧ xs.length = its.length ∧ s.heap.get? l = some { cls := .type "list", data := .seq its.toArray n } := by
  obtain ⟨z, its, n, r, e⟩ := I.hok l _ hH
  exact ⟨z, its, n, r, r.length, e⟩

theorem notLongL {n : Nat} (h : n ≤ sizeLine) : Builtin.List.listTooLong n = false := by
  unfold Builtin.List.listTooLong
  exact decide_eq_false (by omega)
end
section
variable {X : Cx}
noncomputable def rAppend : V → List V → Hp → VK → Prop := fun x vs H Q => ∃ l xs y, x = .ref l ∧ vs = [y] ∧ H l = some (.lst xs) ∧ xs.length < sizeLine ∧ Q .non (upd H l (.lst (xs ++ [y])))
theorem mt_append : MtM X "list.append" rAppend := by
  intro pins s σ H x vs v us Q I rx rv h
  obtain ⟨l, xs, y, rfl, rfl, hH, hz, q⟩ := h
  cases rx
  obtain ⟨u, rfl, ru⟩ := rv.one
  obtain ⟨z, its, n, r, hl, e⟩ := I.lstM hH
  refine call_meets F.slot_list_append ⟨_, e, rfl⟩ F.entry_list_append (F.args_list_append_2 _ _) (PySem.list_append l its.toArray n u (by rw [List.size_toArray]; omega)) ⟨e, ?_⟩
  refine ⟨.non, _, I.lset (its' := its ++ [u]) hH e (by simp) (r.append (.cons ru .nil)) ?_, rfl, q⟩
  rw [List.length_append, List.length_singleton]
  omega

noncomputable def rCat : R2 := fun x y H Q => ∃ l b xs zs, x = .ref l ∧ y = .ref b ∧ H l = some (.lst xs) ∧ H b = some (.lst zs) ∧ xs.length + zs.length ≤ sizeLine ∧ ∀ p, H p = none → Q (.ref p) (upd H p (.lst (xs ++ zs)))
theorem op_cat : OpR X (binaryOp .Add) rCat := by
  intro pins s σ H x y v u Q I rx ry h
  obtain ⟨l, b, xs, zs, rfl, rfl, hH, hB, hz, q⟩ := h
  cases rx
  cases ry
  obtain ⟨z, its, n, r, hl, e⟩ := I.lstM hH
  obtain ⟨z2, its2, n2, r2, hl2, e2⟩ := I.lstM hB
  refine PySem.P.add_list e e2 ?_ (by rw [List.size_toArray, List.size_toArray]; omega)
  have ea : its.toArray ++ its2.toArray = (its ++ its2).toArray := by simp
  rw [ea]
  exact ⟨.ref _, _, I.lnew (t' := s.toks) (r.append r2) (by rw [List.length_append]; omega), rfl, q _ I.fresh⟩
noncomputable def rRep : R2 := fun x y H Q => ∃ l k xs, x = .ref l ∧ y = .int k ∧ H l = some (.lst xs) ∧ -(2 ^ 63) ≤ k ∧ k < 2 ^ 63 ∧ xs.length * k.toNat ≤ sizeLine ∧
  ∀ p, H p = none → Q (.ref p) (upd H p (.lst (List.replicate k.toNat xs).flatten))
theorem len_rep {α : Type} (xs : List α) (k : Nat) : (List.replicate k xs).flatten.length = k * xs.length := by
  induction k with
  | zero => simp
  | succ k ih => rw [List.replicate_succ, List.flatten_cons, List.length_append, ih, Nat.succ_mul, Nat.add_comm]
theorem op_rep : OpR X (binaryOp .Mult) rRep := by
  intro pins s σ H x y v u Q I rx ry h
  obtain ⟨l, k, xs, rfl, rfl, hH, h1, h2, hz, q⟩ := h
  cases rx
  obtain ⟨t, rfl⟩ := ry
  obtain ⟨z, its, n, r, hl, e⟩ := I.lstM hH
  have hlen : its.toArray.size * k.toNat ≤ sizeLine := by rw [List.size_toArray, ← hl]; exact hz
  have hcap : ¬ its.toArray.size * k.toNat > (2 ^ 63 - 1) / 8 := by
    have : (sizeLine : Nat) ≤ (2 ^ 63 - 1) / 8 := by decide
    omega
  have hfit : ¬ (!Builtin.List.listFitsIndex k) = true := by
    rw [fitsIndex_both h1 h2]
    exact Bool.false_ne_true
  have hlong : ¬ Builtin.List.listTooLong (its.toArray.size * k.toNat) = true := by
    rw [notLongL hlen]
    exact Bool.false_ne_true
  have hnew : List.foldl (fun x1 x2 => x1 ++ x2) #[] (List.replicate (if its.toArray.isEmpty = true then 0 else k.toNat) its.toArray) = (List.replicate k.toNat its).flatten.toArray := by
    have f0 : ∀ m : Nat, List.foldl (fun x1 x2 => x1 ++ x2) #[] (List.replicate m its.toArray) = (List.replicate m its).flatten.toArray := fun m => by
      have := foldl_rep its m []
      rw [List.nil_append] at this
      exact this
    rw [f0]
    cases its with
    | nil => simp
    | cons a r' => rw [if_neg (by simp)]
  refine wpAny_binaryOp_repeat_ref (T := "list") (U := "int") (by decide) ⟨_, e, rfl⟩ (fun s' => typeIs_int s' k t) noFill_list_mul F.fills_int_mul F.slot_int_rmul repeat_list F.slot_int_index.lookup
    (call_meets F.slot_int_rmul (typeIs_int s k t) F.entry_int_rmul (F.args_int_rmul_2 _ _) (int___rmul___int_list k t l its.toArray n)
      ⟨e, rfl, ⟨_, e, rfl⟩, call_meets F.slot_list_mul ⟨_, e, rfl⟩ F.entry_list_mul (F.args_list_mul_2 _ _) (AutoListH.list___mul___list_int_3 l its.toArray n k t hfit hcap hlong) ⟨e, ?_⟩⟩)
  rw [hnew]
  exact ⟨.ref _, _, I.lnew (t' := s.toks) (r.rep k.toNat) (by rw [len_rep, Nat.mul_comm]; exact hz), rfl, q _ I.fresh⟩

end
section
variable {prog : Program} {w : World} {A : Around} {E : Value → Shared → Prop} {s : Shared}
end
section
variable {X : Cx}
end
end L2
namespace Att
open PySem PySem.W PySem.Calls PyProof.Rows
theorem ints_of_wellAll {P : Params} {h : Heap} : ∀ (ns : List Int) (vs : List Value), WellAll P h vs (ns.map WData.int) → IntsAre vs ns := by
  intro ns
  induction ns with
  | nil =>
    intro vs w
    rw [List.map_nil] at w
    cases w
    exact .nil
  | cons n ns ih =>
    intro vs w
    rw [List.map_cons] at w
    cases w with
    | cons a b =>
      cases a
      exact .cons _ _ (ih _ b)

theorem script_of {l : OpenLaw} {n : Nat} (hn : l.most = some n) {P : Params} {h : Heap} {args : List WData} {vals : List Value}
    (hpre : l.row.toRowW.claim.pre args = true) (hwl : WellAll P h vals args) :
    ∃ a vs ns, vals = [Value.ref a] ∧ args = [WData.list (ns.map WData.int)] ∧ h.get? a = some { cls := .type "list", data := .seq vs.toArray } ∧ IntsAre vs ns ∧ ns.length ≤ n := by
  have hsh : WShape.hasAll [] args [.list .int] = true := (pre_splitW hpre).1
  have hc : l.pre.holds [] { args := args } = true := (pre_splitW hpre).2
  obtain ⟨d, r, rfl, h1, h2⟩ := hasAllW_cons hsh
  obtain rfl := hasAllW_nil h2
  obtain ⟨xs, rfl, h3⟩ := hasW_list h1
  obtain ⟨ns, rfl⟩ := items_int h3
  have hlen : ns.length ≤ n := by
    unfold OpenLaw.pre at hc
    have h4 : (WTm.not (.lt (.lit (.int (n : Int))) (.len (.arg 0)))).holds [] { args := [.list (ns.map .int)] } = true := by
      have h4 := (holds_andW hc).1
      rw [hn] at h4
      exact h4
    have h5 := condW_of h4 (w_not (w_lt w_lit (w_len_list (w_arg rfl))))
    rw [List.length_map] at h5
    refine Nat.le_of_not_lt fun q => ?_
    have q' : (n : Int) < ((ns.length : Nat) : Int) := by omega
    first
      | (rw [decide_eq_true q'] at h5; exact absurd h5 (by decide))
      | (simp at h5; omega)
  cases hwl with
  | cons w1 w2 =>
    cases w2
    cases w1 with
    | list ho hall => exact ⟨_, _, ns, rfl, rfl, ho, ints_of_wellAll ns _ hall, hlen⟩

theorem post_true (l : OpenLaw) (args : List WData) : l.row.toRowW.claim.post args (.bool true) args = true :=
  postW_of (r := l.row.toRowW) (X := (true == true))
    (show WShape.has [] (.bool true) .bool = true by first | rfl | decide | simp [WShape.has, WShape.arms, WShape.armsAll])
    (show (WTm.eq .res (.lit (.bool true))).value [] { args := args, res := some (.bool true), after := args } = some (.bool (true == true)) from w_eq_bool (w_res rfl) w_lit) rfl

theorem attach_call {l : OpenLaw} {n : Nat} {q : Program} {loose : List Str} {XP : (Str → Option Value) → Heap → Prop} {YP : World → Heap → Prop} {d : DefRec}
    (hn : l.most = some n) (hdf : d.params.defaults = [])
    (call : ∀ (w : World) (s₀ s₁ : Shared) (mg mb : Str → Option Value) (fa : Addr) (o : Obj) (pm cd doc : Value) (a : Addr) (vs : List Value) (ns : List Int),
      Ground q loose [] XP w s₀ mg mb s₁.heap → YP w s₁.heap →
      s₁.heap.get? fa = some o → o.data = .func (docDef d.name d.params d.body d.scope pm cd doc) → s₁.heap.CodeRec cd d.name → mg d.name = some (.ref fa) →
      s₁.heap.get? a = some { cls := .type "list", data := .seq vs.toArray } → IntsAre vs ns → ns.length ≤ n → s₁.gens = #[] →
      codeAny (model l.prog w) callerA (.call (.ref fa) ⟨[.ref a], []⟩) (fun r s' => r = .ok (.ret (.bool true)) ∧ OldK s₁.heap s'.heap ∧ s'.os = s₁.os ∧ AllBare s'.gens) s₁) :
    WalkO q loose XP YP l.row.toRowW d [] (fun f vs => PySem.call f vs) := by
  intro w s₀ s₁ mg mb G Y fa o pm cd doc dV kV ho hd hcd hD hmg hg args vals as hpre hlay hrd hwl hlo
  obtain rfl : dV = .none := Dflts.none hD hdf
  obtain rfl : kV = .none := Dflts.noKw hD
  obtain ⟨a, vs, ns, rfl, rfl, hobj, hints, hlen⟩ := script_of hn hpre hwl
  refine enter_call (codeAny_mono (call w s₀ s₁ mg mb fa o pm cd doc a vs ns G Y ho (fd_plain hd) hcd hmg hobj hints hlen hg) fun r s' hq => ?_)
  obtain ⟨rfl, h2, h3, h4⟩ := hq
  exact ⟨.inl ⟨.bool true, .bool true, [], rfl, fun _ => rfl, .bool true, post_true l _, fun _ => ⟨List.Pairwise.nil, fun _ hm => (nomatch hm)⟩⟩, h2, h3, h4⟩

section
variable {prog : Program} {w : World} {A : Around} {E : Value → Shared → Prop} {s : Shared} {K : Frag}
end
end Att
namespace L2
open PySem PySem.Spec PyProof.Rows
theorem vals_ints : ∀ {vs : List Value} {ns : List Int}, IntsAre vs ns → Vals (ns.map V.int) vs
  | _, _, .nil => .nil
  | _, _, .cons n t h => .cons ⟨t, rfl⟩ (vals_ints h)

noncomputable def Only (H : Hp) : Prop := ∀ b, H b = none ∨ ∃ o xs, H b = some (.frz o (.lst xs))

theorem law_call {P : Program} {w : World} {K : PySem.W.Frag} {mg mb : Str → Option Value} {CX : CXT} {k : Nat} {fa a : Addr} {fd : FuncData} {x : Str} {sp : Sp} {s₁ : Shared} {vs : List Value} {ns : List Int}
    (KX : K.In s₁.heap) (hns : s₁.heap.Ns mainGlobals mg) (hb : s₁.heap.Ns builtinsNs mb) (hbb : ∀ x : Str, x ≠ "__name__" → mb x = bootBuiltins x) (hlim : s₁.heap.NoLimit) (hg : s₁.gens = #[])
    (ha : s₁.heap.get? a = some { cls := .type "list", data := .seq vs.toArray }) (hi : IntsAre vs ns) (hl : ns.length ≤ sizeLine) (hr : Room k callerA)
    (F : ∀ base : Heap, K.In base → base.Ns mainGlobals mg → FnOk P w K mg base CX k fa fd [x] sp) (hbind : ∀ (s : Shared) (u : Value), BindsTo s fd ⟨[u], []⟩ [(x, u)])
    (hsp : ∀ H : Hp, Only H → SqL K H a (ns.map V.int) → sp [.ref a] H (fun v _ => v = .bl true) fun _ _ _ => False)
    (hCX : ∀ H e s', CX [] H s₁ (fun _ _ _ => False) e s' → False) :
    codeAny (model P w) callerA (.call (.ref fa) ⟨[.ref a], []⟩) (fun r s' => r = .ok (.ret (.bool true)) ∧ OldK s₁.heap s'.heap ∧ s'.os = s₁.os ∧ AllBare s'.gens) s₁ := by
  have rv := vals_ints hi
  have lenV := hi.length
  -- from an abstract heap in which nothing but the script may be tracked
  have core : ∀ H : Hp, Only H → SqL K H a (ns.map V.int) → HOk P w H s₁.heap → (∀ b, H b ≠ none → b = a) → (H a ≠ none → K.lookup a = none) →
      codeAny (model P w) callerA (.call (.ref fa) ⟨[.ref a], []⟩) (fun r s' => r = .ok (.ret (.bool true)) ∧ OldK s₁.heap s'.heap ∧ s'.os = s₁.os ∧ AllBare s'.gens) s₁ := by
    intro H hO hS hok hA hK
    have base_of : ∀ {b : Addr} {o : Obj}, s₁.heap.get? b = some o → H b = none → (hidT s₁.heap H).get? b = some o := fun e n => hidT_get e n
    have noA : ∀ {b : Addr} {o : Obj} {es : Array DictEntry} {ep : Nat}, s₁.heap.get? b = some o → o.data = .dict es ep → H b = none := fun {b o es ep} e d => by
      cases q : H b with
      | none => rfl
      | some u =>
        have e' : b = a := hA b (by rw [q]; simp)
        subst e'
        rw [ha] at e; cases e
        have d' : Data.seq vs.toArray _ = Data.dict es ep := d
        cases d'
    have nsK : ∀ {b : Addr} {m : Str → Option Value}, s₁.heap.Ns b m → (hidT s₁.heap H).Ns b m := fun {b m} ⟨o, es, ep, e, d, r⟩ => ⟨o, es, ep, base_of e (noA e d), d, r⟩
    have hKb : K.In (hidT s₁.heap H) := fun b o e => base_of (KX b o e) (by
      cases q : H b with
      | none => rfl
      | some u =>
        have e' : b = a := hA b (by rw [q]; simp)
        subst e'
        rw [hK (by rw [q]; simp)] at e; cases e)
    have hM : Mod K mg (hidT s₁.heap H) := ⟨hKb, nsK hns, ⟨mb, nsK hb, hbb⟩, let ⟨mc, h1, h2⟩ := hlim; ⟨mc, nsK h1, h2⟩⟩
    have e0 : Env0 P w K mg (hidT s₁.heap H) callerA [] s₁ H := ⟨rfl, hM, fun b o e => of_hidT e, Nat.le_of_eq (hidT_size _ _), trivial, fun b hb => absurd (show b ∈ ([] : List Addr) from hb) (by simp), hok, .of_eq hg⟩
    refine codeAny_mono ((F _ hKb (nsK hns)).run callerA [] s₁ H ⟨[.ref a], []⟩ [.ref a] [.ref a] _ _ hr e0 (hbind s₁ (.ref a)) (.cons rfl .nil) (hsp H hO hS)) fun r s' h => ?_
    cases r with
    | error e => exact (hCX H e s' h).elim
    | ok fl =>
      cases fl with
      | next => exact False.elim h
      | brk => exact False.elim h
      | cont => exact False.elim h
      | ret u =>
        obtain ⟨v, H', os, bare, un, hok', r', q⟩ := h
        have q' : v = .bl true := q
        subst q'
        obtain rfl : u = Value.bool true := r'
        refine ⟨rfl, OldK.of_keep fun b o e => ?_, os, bare⟩
        cases q : H b with
        | none => exact un.keep b o e q (by intro z; exact absurd (show b ∈ ([] : List Addr) from z) (by simp)) (by simp)
        | some u =>
          rcases hO b with z | ⟨ob, xs, z⟩
          · rw [q] at z; cases z
          · have z2 := un.frzs b ob _ z
            obtain ⟨e1, _⟩ := hok b _ z
            obtain ⟨e2, _⟩ := hok' b _ z2
            rw [e] at e1; cases e1
            exact e2
  cases hk : K.lookup a with
  | some o =>
    -- the script is one of the module's own objects
    have e := KX a o hk
    rw [ha] at e
    cases e
    refine core (fun _ => none) (fun _ => .inl rfl) (.inr ⟨_, vs.toArray, _, hk, rfl, rfl, rfl, by rw [List.size_toArray, lenV]; exact hl, by simpa using rv⟩) (fun b u z => by have z' : (none : Option HO) = some u := z; cases z') (fun b z => absurd rfl z) fun z => absurd rfl z
  | none =>
    refine core (fun b => if b = a then some (.frz { cls := .type "list", data := .seq vs.toArray } (.lst (ns.map V.int))) else none) (fun b => ?_) (.inl (.inr ⟨{ cls := .type "list", data := .seq vs.toArray }, if_pos rfl⟩)) (fun b u z => ?_) (fun b z => ?_) fun _ => hk
    · by_cases hb : b = a
      · exact .inr ⟨_, _, if_pos hb⟩
      · exact .inl (if_neg hb)
    · by_cases hb : b = a
      · have z' := (if_pos hb).symm.trans z
        cases z'
        subst hb
        exact ⟨ha, by rw [List.length_map]; exact hl, vs, _, rv, ha⟩
      · have z' := (if_neg hb).symm.trans z
        cases z'
    · by_cases hb : b = a
      · exact hb
      · exact absurd (if_neg hb) z
end L2
namespace L2
open PySem PySem.Spec PyProof.Rows
theorem walk_of {l : PySem.W.OpenLaw} {n k : Nat} {q : Program} {loose : List Str} {XP : (Str → Option Value) → Heap → Prop} {YP : World → Heap → Prop} {d : DefRec} {K : Params → PySem.W.Frag} {CX : World → CXT} {sp : World → Sp} {x : Str}
    (hn : l.most = some n) (hn2 : n ≤ sizeLine) (hdf : d.params.defaults = []) (hr : Room k callerA)
    (hY : ∀ (w : World) (h : Heap), YP w h → (K w.params).In h)
    (F : ∀ (w : World) (mg : Str → Option Value) (fa : Addr) (h : Heap), (K w.params).In h → h.Ns mainGlobals mg → mg d.name = some (.ref fa) →
      ∃ fd : FuncData, (∀ (s : Shared) (u : Value), BindsTo s fd ⟨[u], []⟩ [(x, u)]) ∧
        ∀ base : Heap, (K w.params).In base → base.Ns mainGlobals mg → FnOk l.prog w (K w.params) mg base (CX w) k fa fd [x] (sp w))
    (hsp : ∀ (w : World) (H : Hp) (a : Addr) (ns : List Int), ns.length ≤ n → Only H → SqL (K w.params) H a (ns.map V.int) → sp w [.ref a] H (fun v _ => v = .bl true) fun _ _ _ => False)
    (hCX : ∀ (w : World) (H : Hp) (s : Shared) (e : Value) (s' : Shared), CX w [] H s (fun _ _ _ => False) e s' → False) :
    PySem.W.WalkO q loose XP YP l.row.toRowW d [] (fun f vs => PySem.call f vs) := by
  refine Att.attach_call hn hdf fun w s₀ s₁ mg mb fa o pm cd doc a vs ns G Y ho hd hcd hmg hobj hints hlen hg => ?_
  have KX := hY w _ Y
  obtain ⟨fd, hb, hF⟩ := F w mg fa _ KX G.T.g hmg
  exact law_call KX G.T.g G.T.b G.T.builtins G.T.nolimit hg hobj hints (Nat.le_trans hlen hn2) hr hF hb (fun H hO hS => hsp w H a ns hlen hO hS) fun H e s' => hCX w H s₁ e s'
end L2
/- THE LAST THEOREM (shape; LID, My.* are yours):
   My.Adr: a structure of the addresses that your layer names (classes, functions); My.Txt K t: a structure (Prop) of the equations over K;
   My.txt_mk : {K} {implicit addresses ..} (e1 : nsIn K mainGlobals "law" = some (some (.ref f))) (e2 : K.lookup f = some ⟨oc, od, .func (fnOf "law" "law" params body scope dV kV doc pm an cdv ct), sl⟩) (e3 : codeIn K cdv "law" = true) .. : ∃ t, My.Txt K t
(the tactic k_is has no namespace: write k_is) -/
namespace L2
open PySem PySem.Spec PyProof.Rows
noncomputable def defArgs (s : Stmt) : Arguments := match s with
  | .FunctionDef _ a _ _ _ _ _ _ _ _ => a
  | _ => { posonlyargs := [], args := [], vararg := none, kwonlyargs := [], kw_defaults := [], kwarg := none, defaults := [] }
noncomputable def defBody (s : Stmt) : List Stmt := match s with
  | .FunctionDef _ _ b _ _ _ _ _ _ _ => b
  | _ => []
noncomputable def defScope (s : Stmt) : Scope := match s with
  | .FunctionDef _ _ _ _ _ _ sc _ _ _ => sc
  | _ => { kind := .function, names := [], isGenerator := false, isCoroutine := false }

noncomputable abbrev CX0 : CXT := fun _ _ _ _ _ _ => False
noncomputable abbrev E0 : XK := fun _ _ _ => False
theorem pass0 {X : Cx} : Passes CX0 X E0 := fun _ _ _ _ _ _ _ h => h.elim

structure Fun (K : PySem.W.Frag) (x qual : Str) (st : Stmt) (f : Addr) (fd : FuncData) : Prop where
  ex : ∃ (oc : Value) (od : Option Addr) (kV doc pm : Value) (an : Option Addr) (cdv ct : Value) (osl : Array (Option Value)),
    fd = PySem.W.fnOf x qual (defArgs st) (defBody st) (defScope st) .none kV doc pm an cdv ct ∧ K.lookup f = some ⟨oc, od, .func fd, osl⟩ ∧ PySem.W.codeIn K cdv qual = true
  kp : PySem.W.keepIn K (.ref f) = true
section
variable {P : Program} {w : World} {K : PySem.W.Frag} {mg : Str → Option Value} {base : Heap}
theorem Fun.ok {x qual : Str} {st : Stmt} {f : Addr} {fd : FuncData} {N ps : List Str} {k : Nat} {sp : Sp} (F : Fun K x qual st f fd) (S : FnScope N ps (defScope st)) (len : ∀ vs H Q E, sp vs H Q E → vs.length = ps.length)
    (hbody : ∀ (cdv : Value) (A : Around) (outer : List Env) (s : Shared) (H : Hp) (vs : List V) (Q : VK) (E : XK), Room k (A.deeper (envOfC qual (defScope st) s.heap.objs.size f cdv)) → sp vs H Q E →
      ∃ t, PSs (cxOf CX0 P w K mg base N qual (defScope st) f cdv A outer s H E).nox (defBody st) t ∧ t { nx := fun _ H' => Q .non H', rt := Q } (start N vs) H) : FnOk P w K mg base CX0 (k + 1) f fd ps sp := by
  obtain ⟨oc, od, kV, doc, pm, an, cdv, ct, osl, rfl, lk, hcd⟩ := F.ex
  refine fn_of lk hcd S len fun A outer s H vs Q E hr hsp => ?_
  obtain ⟨t, h, q⟩ := hbody cdv A outer s H vs Q E hr hsp
  exact ⟨t, h.nox, q⟩
theorem Fun.okz {x qual : Str} {st : Stmt} {f : Addr} {fd : FuncData} {N ps : List Str} {k : Nat} {sp : Sp} (F : Fun K x qual st f fd) (S : FnScope N ps (defScope st)) (len : ∀ vs H Q E, sp vs H Q E → vs.length = ps.length)
    (hbody : ∀ (cdv : Value) (A : Around) (outer : List Env) (s : Shared) (H : Hp) (vs : List V) (Q : VK) (E : XK), Room k (A.deeper (envOfC qual (defScope st) s.heap.objs.size f cdv)) → sp vs H Q E →
      ∃ t, ZSs (cxOf CX0 P w K mg base N qual (defScope st) f cdv A outer s H E).nox (defBody st) t ∧ t { nx := fun _ H' => Q .non H', rt := Q } (start N vs) H) : FnOk P w K mg base CX0 (k + 1) f fd ps sp :=
  F.ok S len fun cdv A outer s H vs Q E hr h => let ⟨t, h1, h2⟩ := hbody cdv A outer s H vs Q E hr h; ⟨t, h1.p, h2⟩
theorem Fun.binds {x qual : Str} {st : Stmt} {f : Addr} {fd : FuncData} {ps : List Str} (F : Fun K x qual st f fd)
    (h : ∀ (kV doc pm : Value) (an : Option Addr) (cdv ct : Value) (us : List Value), us.length = ps.length → bindArgs (PySem.W.fnOf x qual (defArgs st) (defBody st) (defScope st) .none kV doc pm an cdv ct) ⟨us, []⟩ = pure (ps.zip us)) : Binds K fd ps [] := by
  obtain ⟨oc, od, kV, doc, pm, an, cdv, ct, osl, rfl, lk, hcd⟩ := F.ex
  exact .all (h kV doc pm an cdv ct)
theorem fun_mk {x qual : Str} {st : Stmt} {f : Addr} {oc : Value} {od an : Option Addr} {osl : Array (Option Value)} {kV doc pm cdv ct : Value} (l : K.lookup f = some ⟨oc, od, .func (PySem.W.fnOf x qual (defArgs st) (defBody st) (defScope st) .none kV doc pm an cdv ct), osl⟩)
    (c : PySem.W.codeIn K cdv qual = true) (k : PySem.W.keepIn K (.ref f) = true) : Fun K x qual st f (PySem.W.fnOf x qual (defArgs st) (defBody st) (defScope st) .none kV doc pm an cdv ct) := ⟨⟨oc, od, kV, doc, pm, an, cdv, ct, osl, rfl, l, c⟩, k⟩
end
theorem hu_of {A : Around} {k : Nat} (hr : Room k A) : A.units + 1 < cLine := Nat.lt_of_le_of_lt (Nat.add_le_add_left (by decide : 1 ≤ 64) _) hr.units
theorem small1000 {n : Nat} (h : n ≤ 1000) : n < sizeLine := Nat.lt_of_le_of_lt h (by decide)

section
variable {X : Cx}
end
theorem iteF {A B : Prop} (h : B) : if false = true then A else B := by
  rw [if_neg Bool.false_ne_true]
  exact h
theorem iteT {A B : Prop} (h : A) : if true = true then A else B := by
  rw [if_pos rfl]
  exact h
noncomputable def Same (H H' : Hp) : Prop := ∀ b o, H b = some o → H' b = some o
theorem Same.refl (H : Hp) : Same H H := fun _ _ h => h
theorem Same.trans {H H1 H2 : Hp} (a : Same H H1) (b : Same H1 H2) : Same H H2 := fun c o h => b c o (a c o h)
end L2
set_option Elab.async false
set_option linter.all false
set_option maxRecDepth 100000
set_option maxHeartbeats 4000000
namespace L2
open PySem PySem.Spec PyProof.Rows
noncomputable def clsOf (env : Env) : List (Str × NameKind) → List (Str × Addr) → List (Str × Addr)
  | [], cs => cs
  | y :: r, cs => clsOf env r (if (y.2 == .free) = true then (y.1, (env.cells.lookup y.1).getD 0) :: cs else cs)
theorem closure_ok {env : Env} {scope : Scope} (h : ∀ y ∈ scope.names, y.2 = .free → ∃ c, env.cells.lookup y.1 = some c) : closureFor scope env = pure (clsOf env scope.names []) := by
  simp only [closureFor]
  generalize scope.names = ns at h
  have go : ∀ (ns : List (Str × NameKind)) (cs : List (Str × Addr)), (∀ y ∈ ns, y.2 = .free → ∃ c, env.cells.lookup y.1 = some c) →
      (forIn ns cs fun (x : Str × NameKind) (r : List (Str × Addr)) => (if (x.2 == NameKind.free) = true then do let a ← cellOf env x.1; pure (ForInStep.yield ((x.1, a) :: r)) else pure (ForInStep.yield r) : Sem (ForInStep (List (Str × Addr))))) = (pure (clsOf env ns cs) : Sem (List (Str × Addr))) := by
    intro ns
    induction ns with
    | nil => intro cs _; rfl
    | cons y r ih =>
      intro cs hy
      rw [List.forIn_cons]
      have hr := fun z hz => hy z (List.mem_cons_of_mem _ hz)
      by_cases hf : (y.2 == NameKind.free) = true
      · obtain ⟨c, hc⟩ := hy y List.mem_cons_self (by simpa using hf)
        have e : cellOf env y.1 = pure c := by unfold cellOf; rw [hc]
        rw [if_pos hf, e]
        refine Eq.trans (ih ((y.1, c) :: cs) hr) (congrArg pure ?_)
        show _ = clsOf env r (if (y.2 == .free) = true then (y.1, (env.cells.lookup y.1).getD 0) :: cs else cs)
        rw [if_pos hf, hc]
        rfl
      · rw [if_neg hf]
        refine Eq.trans (ih cs hr) (congrArg pure ?_)
        show _ = clsOf env r (if (y.2 == .free) = true then (y.1, (env.cells.lookup y.1).getD 0) :: cs else cs)
        rw [if_neg hf]
  have e := go ns [] h
  exact (congrArg (fun (t : Sem (List (Str × Addr))) => t >>= fun cs => pure cs) e).trans rfl
theorem clsOf_look {env : Env} : ∀ (ns : List (Str × NameKind)) (cs : List (Str × Addr)), (∀ y ∈ ns, y.2 = .free → ∃ c, env.cells.lookup y.1 = some c) → (∀ n c, cs.lookup n = some c → env.cells.lookup n = some c) →
    ∀ n c, (clsOf env ns cs).lookup n = some c → env.cells.lookup n = some c
  | [], cs, _, hc => hc
  | y :: r, cs, hy, hc => by
    refine clsOf_look r _ (fun z hz => hy z (List.mem_cons_of_mem _ hz)) fun n c e => ?_
    by_cases hf : (y.2 == NameKind.free) = true
    · rw [if_pos hf, List.lookup_cons] at e
      obtain ⟨c', hc'⟩ := hy y List.mem_cons_self (by simpa using hf)
      cases hn : n == y.1 with
      | true =>
        rw [hn] at e
        have en : n = y.1 := by simpa using hn
        rw [hc'] at e
        rw [en, hc']
        exact e
      | false => rw [hn] at e; exact hc n c e
    · rw [if_neg hf] at e
      exact hc n c e
theorem clsOf_has {env : Env} : ∀ (ns : List (Str × NameKind)) (cs : List (Str × Addr)) (n : Str), ((n, NameKind.free) ∈ ns ∨ ∃ c, cs.lookup n = some c) → ∃ c, (clsOf env ns cs).lookup n = some c
  | [], cs, n, h => by
    rcases h with h | h
    · cases h
    · exact h
  | y :: r, cs, n, h => by
    refine clsOf_has r _ n ?_
    rcases h with h | ⟨c, h⟩
    · rcases List.mem_cons.mp h with e | h
      · refine .inr ⟨(env.cells.lookup n).getD 0, ?_⟩
        have e2 : y.2 = .free := by rw [← e]
        have e1 : y.1 = n := by rw [← e]
        rw [if_pos (by rw [e2]; rfl), e1, List.lookup_cons]
        simp
      · exact .inl h
    · refine .inr ?_
      by_cases hf : (y.2 == NameKind.free) = true
      · rw [if_pos hf, List.lookup_cons]
        cases hn : n == y.1 with
        | true => exact ⟨_, rfl⟩
        | false => exact ⟨c, h⟩
      · rw [if_neg hf]; exact ⟨c, h⟩
noncomputable def rlOf (env : Env) (y : Str × NameKind) : Str × NameKind := if (y.2 == NameKind.free && env.scope.kind == .function && env.kindOf y.1 == some .cell) = true then (y.1, NameKind.cell) else (y.1, y.2)
theorem rl_look {env : Env} : ∀ {names : List (Str × NameKind)} {x : Str} {k' : NameKind}, (names.map (rlOf env)).lookup x = some k' →
    ∃ k, (x, k) ∈ names ∧ names.lookup x = some k ∧ (k' = k ∨ (k = .free ∧ k' = .cell))
  | [], _, _, h => by simp at h
  | (n, k) :: r, x, k', h => by
    have ih := @rl_look env r x k'
    rw [List.map_cons] at h
    unfold rlOf at h
    dsimp only at h
    cases hx : x == n with
    | true =>
      have en : x = n := by simpa using hx
      refine ⟨k, by rw [en]; exact List.mem_cons_self, by simp [List.lookup_cons, hx], ?_⟩
      by_cases hc : (k == NameKind.free && env.scope.kind == .function && env.kindOf n == some .cell) = true
      · rw [if_pos hc, List.lookup_cons, hx] at h
        have hk : k = .free := by
          have := (Bool.and_eq_true_iff.mp (Bool.and_eq_true_iff.mp hc).1).1
          simpa using this
        exact .inr ⟨hk, by cases h; rfl⟩
      · rw [if_neg hc, List.lookup_cons, hx] at h
        exact .inl (by cases h; rfl)
    | false =>
      have h' : (r.map (rlOf env)).lookup x = some k' := by
        by_cases hc : (k == NameKind.free && env.scope.kind == .function && env.kindOf n == some .cell) = true
        · rw [if_pos hc, List.lookup_cons, hx] at h; exact h
        · rw [if_neg hc, List.lookup_cons, hx] at h; exact h
      obtain ⟨k, h1, h2, h3⟩ := ih h'
      exact ⟨k, List.mem_cons_of_mem _ h1, by rw [List.lookup_cons, hx]; exact h2, h3⟩
theorem rl_has {env : Env} : ∀ {names : List (Str × NameKind)} {x : Str} {k : NameKind}, names.lookup x = some k → ∃ k', (names.map (rlOf env)).lookup x = some k'
  | [], _, _, h => by simp at h
  | (n, k0) :: r, x, k, h => by
    have ih := @rl_has env r x k
    rw [List.map_cons]
    have e1 : (rlOf env (n, k0)).1 = n := by unfold rlOf; split <;> rfl
    have e0 : rlOf env (n, k0) = (n, (rlOf env (n, k0)).2) := by rw [Prod.ext_iff]; exact ⟨e1, rfl⟩
    rw [e0, List.lookup_cons]
    cases hx : x == n with
    | true => exact ⟨_, rfl⟩
    | false =>
      rw [List.lookup_cons, hx] at h
      exact ih h

noncomputable def cmpX (X : Cx) (nv : List Str) (ix : List (Str × Nat)) (scope : Scope) (C : Addr) (s₀ : Shared) (H₀ : Hp) (fp : List Addr) : Cx :=
  { X with N := nv ++ ix.map (·.1), s₀ := s₀, H₀ := H₀, env := compEnvC scope (clsOf X.env scope.names []) C X.env, outer := X.stack, stack := X.stack, ex := fp, fn := fun _ => false, pn := [], xe := fun _ _ => False }
noncomputable def frV (σ : St) (ix : List (Str × Nat)) : St := ix.map fun p => (σ[p.2]?).join
noncomputable def st0 (nv : List Str) (ix : List (Str × Nat)) (σ : St) : St := nv.map (fun _ => none) ++ frV σ ix
structure CompOk (X : Cx) (nv : List Str) (ix : List (Str × Nat)) (scope : Scope) : Prop where
  kind : scope.kind = .function
  nocell : ∀ y ∈ scope.names, y.2 ≠ .cell
  names : ∀ y ∈ scope.names, y.2 = .local → scope.names.lookup y.1 = some .local
  free : (scope.names.all fun y => !(y.2 == NameKind.free) || (X.env.kindOf y.1 == some NameKind.cell || X.env.kindOf y.1 == some NameKind.free)) = true
  ix : (ix.all fun p => (scope.names.lookup p.1 == some NameKind.free) && (X.N[p.2]? == some p.1)) = true
section
variable {X : Cx} {nv : List Str} {ix : List (Str × Nat)} {scope : Scope} {pins : List (Addr × Obj)} {σ : St} {H : Hp} {s : Shared}
theorem CompOk.fk (co : CompOk X nv ix scope) {y : Str × NameKind} (hy : y ∈ scope.names) (hf : y.2 = .free) : X.env.kindOf y.1 = some .cell ∨ X.env.kindOf y.1 = some .free := by
  have q := List.all_eq_true.mp co.free y hy
  rw [hf] at q
  simpa using q
theorem CompOk.cells (co : CompOk X nv ix scope) (ok : X.Ok) : ∀ y ∈ scope.names, y.2 = .free → ∃ c, X.env.cells.lookup y.1 = some c := fun y hy hf => ok.has y.1 (co.fk hy hf)
theorem CompOk.look (co : CompOk X nv ix scope) (ok : X.Ok) {n : Str} {c : Addr} (h : (clsOf X.env scope.names []).lookup n = some c) : X.env.cells.lookup n = some c :=
  clsOf_look _ _ (co.cells ok) (fun _ _ e => by cases e) n c h
theorem CompOk.ixp (co : CompOk X nv ix scope) {p : Str × Nat} (hp : p ∈ ix) : scope.names.lookup p.1 = some .free ∧ X.N[p.2]? = some p.1 := by
  have q := Bool.and_eq_true_iff.mp (List.all_eq_true.mp co.ix p hp)
  exact ⟨by simpa using q.1, by simpa using q.2⟩
theorem lookup_mem {α : Type} : ∀ {l : List (Str × α)} {n : Str} {k : α}, l.lookup n = some k → (n, k) ∈ l
  | [], _, _, h => by cases h
  | (m, j) :: r, n, k, h => by
    rw [List.lookup_cons] at h
    cases e : n == m with
    | true => rw [e] at h; cases h; have : n = m := by simpa using e
              rw [this]; exact List.mem_cons_self
    | false => rw [e] at h; exact List.mem_cons_of_mem _ (lookup_mem h)
theorem cmpX_ok (co : CompOk X nv ix scope) (I : Inv X pins σ H s) {fp : List Addr} {C : Addr} (hC : s.heap.objs.size ≤ C) (hf : ∀ b ∈ fp, FpOk X pins H b) (hlt : ∀ b ∈ fp, b < s.heap.objs.size) : (cmpX X nv ix scope C s H fp).Ok where
  mod := I.mod
  kind := co.kind
  glob := I.ok.glob
  blt := I.ok.blt
  above := hC
  inj := fun x y c a b => I.ok.inj x y c (co.look I.ok a) (co.look I.ok b)
  has := fun x hk => by
    have z : ∃ k, (x, k) ∈ scope.names ∧ k = .free := by
      rcases hk with hk | hk
      · obtain ⟨k, h1, _, h3⟩ := rl_look (env := X.env) (names := scope.names) hk
        rcases h3 with h3 | ⟨h3, _⟩
        · exact absurd h3.symm (co.nocell _ h1)
        · exact ⟨k, h1, h3⟩
      · obtain ⟨k, h1, _, h3⟩ := rl_look (env := X.env) (names := scope.names) hk
        rcases h3 with h3 | ⟨_, h3⟩
        · exact ⟨k, h1, h3.symm⟩
        · cases h3
    obtain ⟨k, h1, rfl⟩ := z
    exact clsOf_has _ _ x (.inl h1)
  cab := fun x c h _ => by cases h
  hd := I.ok.hd
  frames := I.ok.frames
  stk := .inl rfl
  exf := fun b hb => ⟨Nat.ne_of_lt (Nat.lt_of_lt_of_le (hlt b hb) hC), fun x c e => (hf b hb).2.2.2.2.1 x c (co.look I.ok e)⟩
  bs := fun b o e => I.bs b o e
  bsz := Nat.le_trans I.ok.bsz I.sz
  noex := fun b o e hb => by
    rcases (hf b hb).2.2.2.1 with z | z
    · exact I.ok.noex b o e z
    · exact absurd (Nat.lt_of_lt_of_le (Heap.lt_size e) (Nat.le_trans I.ok.bsz z)) (Nat.lt_irrefl _)
  exfs := fun b hb hs => by
    rcases List.mem_cons.mp (I.stkSub b hs) with e | h
    · exact (hf b hb).2.1 e
    · exact (hf b hb).2.2.1 h
  funs := I.stack
  frf := I.stkFree
noncomputable abbrev lobj (its : List Value) (k : Nat) : Obj := { cls := .type "list", data := .seq its.toArray k }
theorem join_some {o : Option (Option V)} {v : V} (h : o.join = some v) : o = some (some v) := by
  cases o with
  | none => cases h
  | some o' => exact congrArg some h
theorem cmp_start (co : CompOk X nv ix scope) (I : Inv X pins σ H s) {fp : List Addr} {h₁ : Heap} {tk : Nat} {m : Str → Option Value} (hf : ∀ b ∈ fp, FpOk X pins H b) (hlt : ∀ b ∈ fp, b < s.heap.objs.size)
    (hn : h₁.Ns (s.heap.objs.size + 1) m) (old : ∀ b o, s.heap.get? b = some o → h₁.get? b = some o) (hD : h₁.get? s.heap.objs.size = some (lobj [] 0)) :
    Inv (cmpX X nv ix scope (s.heap.objs.size + 1) s H fp) [(s.heap.objs.size, lobj [] 0)] (st0 nv ix σ) H { s with heap := h₁, toks := tk } where
  ok := cmpX_ok co I (Nat.le_succ _) hf hlt
  os := rfl
  bare := I.bare
  base := Un.kept old
  loc := by
    refine ⟨m, hn, fun i x v e1 e2 hv => ?_⟩
    obtain ⟨m₀, _, hl⟩ := I.loc
    have e1' : (nv ++ ix.map (·.1))[i]? = some x := e1
    unfold st0 at e2
    by_cases hi : i < nv.length
    · rw [List.getElem?_append_left (by rw [List.length_map]; exact hi), List.getElem?_map] at e2
      cases q : nv[i]? with
      | none => rw [q] at e2; cases e2
      | some z => rw [q] at e2; cases e2
    · have hi' : nv.length ≤ i := Nat.not_lt.mp hi
      rw [List.getElem?_append_right hi', List.getElem?_map] at e1'
      rw [List.getElem?_append_right (by rw [List.length_map]; exact hi'), List.length_map] at e2
      unfold frV at e2
      rw [List.getElem?_map] at e2
      cases q : ix[i - nv.length]? with
      | none => rw [q] at e1'; cases e1'
      | some p =>
        rw [q] at e1' e2
        have hp : p ∈ ix := List.mem_of_getElem? q
        have ex : p.1 = x := Option.some.inj e1'
        have ev : σ[p.2]? = some (some v) := join_some (Option.some.inj e2)
        obtain ⟨f1, f2⟩ := co.ixp hp
        have hk := co.fk (lookup_mem f1) rfl
        obtain ⟨u, r, l⟩ := hl p.2 p.1 v f2 ev (hk.elim (fun z => .inr (.inl z)) fun z => .inr (.inr z))
        refine ⟨u, r, .inr ⟨?_, ?_⟩⟩
        · obtain ⟨k', hk'⟩ := rl_has (env := X.env) f1
          obtain ⟨k, h1, h2, h3⟩ := rl_look hk'
          rw [f1] at h2
          cases h2
          rw [← ex]
          rcases h3 with h3 | ⟨_, h3⟩
          · exact .inr (hk'.trans (congrArg some h3))
          · exact .inl (hk'.trans (congrArg some h3))
        · obtain ⟨c, hc⟩ := clsOf_has (env := X.env) scope.names [] p.1 (.inl (lookup_mem f1))
          refine ⟨c, by rw [← ex]; exact hc, ?_⟩
          have hc' := co.look I.ok hc
          rcases l with ⟨z, _⟩ | ⟨_, c', z1, o, z2, z3⟩
          · have z' : X.env.kindOf p.1 = some .local := z
            rcases hk with hk | hk
            · have hk' : X.env.kindOf p.1 = some .cell := hk
              rw [z'] at hk'; cases hk'
            · have hk' : X.env.kindOf p.1 = some .free := hk
              rw [z'] at hk'; cases hk'
          · rw [hc'] at z1
            cases z1
            exact ⟨o, old _ _ z2, z3⟩
  cell := fun x c e => by
    obtain ⟨v, o, h1, h2⟩ := I.cell x c (co.look I.ok e)
    exact ⟨v, o, old _ _ h1, h2⟩
  free := I.hok.fresh (Nat.le_succ _)
  freeC := fun x c e => I.freeC x c (co.look I.ok e)
  pin := fun p hp => by
    have e : p = (s.heap.objs.size, lobj [] 0) := by simpa [cmpX] using hp
    subst e
    refine ⟨hD, I.hok.fresh (Nat.le_refl _), Nat.ne_of_lt (Nat.lt_succ_self _), fun hb => ?_, fun v z => by cases z⟩
    rcases List.mem_cons.mp (I.stkSub _ hb) with e | h
    · exact absurd I.lt (by rw [← e]; exact Nat.lt_irrefl _)
    · exact I.nofs (Nat.le_refl _) h
  hok := I.hok.kept old
  len := by
    show (nv.map (fun _ => none) ++ frV σ ix).length = (nv ++ ix.map (·.1)).length
    unfold frV
    simp
theorem Inv.track {D : Addr} {ys its : List _} {k : Nat} (I : Inv X pins σ H s) (rv : Vals ys its) (hz : ys.length ≤ sizeLine) (e : s.heap.get? D = some (lobj its k)) (hn : H D = none) (hd : FpOk X pins H D) : Inv X pins σ (upd H D (.lst ys)) s := by
  have nD : ∀ b u, H b = some u → b ≠ D := fun b u q z => by rw [z, hn] at q; cases q
  obtain ⟨h1, h2, h3, h4, h5, h6⟩ := hd
  refine I.step (s := s) (h' := s.heap) (g' := s.gens) (t' := s.toks) (d' := s.drawn) (ch := [D]) (fun b hb => ?_) (fun b o _ _ _ q _ => q) (fun b o _ _ _ q _ => ⟨o.slots, q⟩) (fun b o hb _ q => ?_) (fun b o _ q => ⟨o, q⟩)
    (fun b xs q => by rw [upd_ne (nD b _ q)]; exact q) (fun b o u q => by rw [upd_ne (nD b _ q)]; exact q) (fun b ps q => ⟨#[], by rw [upd_ne (nD b _ q), q]; simp⟩) (fun m hm => hm) (fun b u q => ?_) I.bare
  · have e : b = D := by simpa using hb
    subst e
    exact ⟨h4, h2, h5, h6⟩
  · rw [upd_ne (fun z => hb (by simp [z]))]; exact q
  · by_cases hb : b = D
    · subst hb
      rw [upd_same] at q
      cases q
      exact ⟨hz, its, k, rv, e⟩
    · rw [upd_ne hb] at q
      exact (I.hok b u q).stay (fun c v _ r => r) (fun c r => by rw [upd_ne (nD c _ r)]; exact r) fun c xs r => by rw [upd_ne (nD c _ r)]; exact r
theorem cmp_end {ps2 : List (Addr × Obj)} {σ2 : St} {H' : Hp} {s' : Shared} {fp : List Addr} {C : Addr} (I : Inv X pins σ H s) (hf : ∀ b ∈ fp, FpOk X pins H b) (Ic : Inv (cmpX X nv ix scope C s H fp) ps2 σ2 H' s') : Inv X pins σ H' s' :=
  I.call' (ch := fp) Ic.os Ic.base Ic.hok Ic.bare fun b hb => ⟨(hf b hb).2.2.2.1, (hf b hb).2.1, (hf b hb).2.2.2.2.1, (hf b hb).2.2.2.2.2⟩

noncomputable def PIf (X : Cx) (ifs : List Expr) (t : TT) : Prop :=
  ∀ (pins : List (Addr × Obj)) (s : Shared) (σ : St) (H : Hp) (Q : Bool → Hp → Prop), Inv X pins σ H s → t σ H Q →
    wpAny (model X.prog X.w) X.A (forIn ifs true fun c r => if r = true then do let ok ← isTrue c X.env (eval c X.env); pure (ForInStep.yield ok) else pure (ForInStep.yield r)) (TP X pins σ Q) X.xe s
@[irreducible] noncomputable def ZIf (X : Cx) (ifs : List Expr) (t : TT) : Prop := PIf X ifs t
noncomputable def tYes : TT := fun _ H Q => Q true H
theorem pif_nil : PIf X [] tYes := fun _ _ _ H _ I h => wpAny_tests_nil ⟨H, I, h⟩
theorem zif_nil : ZIf X [] tYes := by with_unfolding_all exact pif_nil 
theorem pif_one {c : Expr} {t : TT} (h : PT X c t) : PIf X [c] t := fun pins s σ H Q I q => wpAny_tests_one (h pins s σ H Q I q)
theorem zif_one {c : Expr} {t : TT} (h : ZT X c t) : ZIf X [c] t := by with_unfolding_all exact pif_one h
end
section
variable {prog : Program} {w : World} {A : Around} {E : Value → Shared → Prop} {R : Result → Shared → Prop} {s : Shared}
theorem compLoop_go {elt target iter : Expr} {ifs : List Expr} {scope : Scope} {pos : Pos} {it acc : Value} {env : Env} (I : Nat → Shared → Prop)
    (turn : ∀ n s, I n s → wpAny (model prog w) A (pyNext it) (fun r s₁ => match r with
      | none => R (.ok .next) s₁
      | some v => wpAny (model prog w) A (letOwnedTupleGo target it v) (fun _ s₁' => wpAny (model prog w) A (assign target env v) (fun _ s₂ =>
          wpAny (model prog w) A (forIn ifs true fun c r => if r = true then do let ok ← isTrue c env (eval c env); pure (ForInStep.yield ok) else pure (ForInStep.yield r)) (fun ok s₃ =>
            if ok = true then wpAny (model prog w) A (eval elt env) (fun x s₄ =>
              wpAny (model prog w) A (call (.builtin "list.append") [acc, x]) (fun _ s₅ => ∃ m, m < n ∧ I m s₅) (fun _ _ => False) s₄) (fun _ _ => False) s₃
            else ∃ m, m < n ∧ I m s₃) (fun _ _ => False) s₂) (fun _ _ => False) s₁') (fun _ _ => False) s₁) (fun _ _ => False) s)
    (n : Nat) (h : I n s) :
    codeAny (model prog w) A (.compLoop (.ListComp elt [⟨target, iter, ifs, 0⟩] scope pos) 0 it acc env) R s := by
  refine codeAny_loop rfl I (fun n s hI => ?_) n h
  show wpAny _ A ((compTurn (.ListComp elt [⟨target, iter, ifs, 0⟩] scope pos) 0 it acc env).onRaise (fun x => do noteFrame x env; theTreesLotGoes x)) _ _ s
  refine wpAny_noted ?_
  rw [compTurn_list]
  refine wpAny_bind (wpAny_standAt (wpAny_bind (wpAny_mono (turn n s hI) (fun r s₁ h₁ => ?_) fun _ _ h' => h'.elim)))
  cases r with
  | none => exact wpAny_pure h₁
  | some v =>
    refine wpAny_bind (wpAny_mono h₁ (fun _ s₁' h₁' => ?_) fun _ _ h' => h'.elim)
    refine wpAny_bind (wpAny_mono h₁' (fun _ s₂ h₂ => wpAny_bind (wpAny_mono h₂ (fun ok s₃ h₃ => ?_) fun _ _ h' => h'.elim)) fun _ _ h' => h'.elim)
    cases ok with
    | false => exact wpAny_pure ⟨rfl, h₃⟩
    | true =>
      exact wpAny_bind (wpAny_bind (wpAny_mono h₃ (fun x s₄ h₄ => wpAny_bind (wpAny_mono h₄ (fun _ s₅ h₅ => wpAny_pure (wpAny_pure ⟨rfl, h₅⟩)) fun _ _ h' => h'.elim)) fun _ _ h' => h'.elim))
end
section
variable {X : Cx} {nv : List Str} {ix : List (Str × Nat)} {scope : Scope} {pins : List (Addr × Obj)} {σ : St} {H : Hp} {s : Shared} {elt tg iter : Expr} {ifs : List Expr} {pos : Pos}
noncomputable def Kp (σ σ2 : St) : Prop := σ.length = σ2.length ∧ ∀ (i : Nat) v, σ[i]? = some (some v) → σ2[i]? = some (some v)
noncomputable def KpG (nv : List Str) (g : TG) : Prop := ∀ (fr : St) (v : V) (H : Hp) (Q : St → Hp → Prop), g v (nv.map (fun _ => none) ++ fr) H Q → g v (nv.map (fun _ => none) ++ fr) H fun σ2 H2 => Kp (nv.map (fun _ => none) ++ fr) σ2 ∧ Q σ2 H2
theorem kpg_name {x : Str} : KpG [x] (gName 0) := fun fr v H Q h => by
  refine ⟨⟨by simp, fun i w e => ?_⟩, h⟩
  cases i with
  | zero => cases e
  | succ i => exact e
noncomputable def CmpW (nv : List Str) (ix : List (Str × Nat)) (g : TG) (ti : TT) (te : TE) (σ : St) (J : It) (Fin : List V → Hp → Prop) (H1 : Hp) : Prop :=
  ∃ W : Nat → Nat → List V → Hp → Prop, (∃ m, W 0 m [] H1) ∧ ∀ i m ys H, W i m ys H →
    (J.stop i H ∧ Fin ys H) ∨ (J.go i H ∧ ys.length < sizeLine ∧ ∃ N : List V → Hp → Prop, (∀ ys' H', N ys' H' → ∃ m', m' < m ∧ W (i + 1) m' ys' H') ∧
      ∀ x H', J.yld i H x H' → g x (st0 nv ix σ) H' fun σ2 H2 => ti σ2 H2 fun b H3 => if b = true then te σ2 H3 fun y H4 => N (ys ++ [y]) H4 else N ys H3)
theorem comp_run {J : It} {fp : List Addr} {it : Addr} {tn : Nat → Heap → Prop} {g : TG} {ti : TT} {te : TE} {Fin : List V → Hp → Prop} {E : Value → Shared → Prop} {RR : Value → Addr → Result → Shared → Prop}
    (co : CompOk X nv ix scope) (hc : X.calm = true) (I : Inv X pins σ H s) (T : Turn X.prog X.w X.K tg J fp it tn) (st : tn 0 s.heap) (hf : ∀ b ∈ fp, FpOk X pins H b)
    (kg : KpG nv g) (hg : ∀ C s₀ H₀ fp, PG (cmpX X nv ix scope C s₀ H₀ fp) tg g) (hi : ∀ C s₀ H₀ fp, PIf (cmpX X nv ix scope C s₀ H₀ fp) ifs ti) (he : ∀ C s₀ H₀ fp, PE (cmpX X nv ix scope C s₀ H₀ fp) elt te)
    (q : CmpW nv ix g ti te σ J Fin H)
    (fin : ∀ D C s' H' ys, Inv X pins σ (upd H' D (.lst ys)) s' → H' D = none → Fin ys H' → (∃ m, s'.heap.Ns C m) → FpOk X pins (upd H' D (.lst ys)) C → RR (.ref D) C (.ok .next) s') :
    wpAny (model X.prog X.w) X.A (newList []) (fun acc s₃ => wpAny (model X.prog X.w) X.A (newFunctionEnv scope X.env.globals (clsOf X.env scope.names []) [] X.env.qual none .none (some X.env)) (fun cenv s₄ =>
      codeAny (model X.prog X.w) X.A (.compStart (.ListComp elt [⟨tg, iter, ifs, 0⟩] scope pos) 0 (.ref it) acc { cenv with scope := relabel scope X.env }) (RR acc cenv.locals) s₄) E s₃) E s := by
  obtain ⟨W, ⟨m0, w0⟩, turn⟩ := q
  refine wpAny_newObj_type (wpAny_newFunctionEnv co.nocell (by intro y hy; simp at hy) (fun h₁ hns₁ hsb₁ => ?_) co.kind)
  dsimp only at hns₁ hsb₁ ⊢
  generalize hH2 : s.heap.push { cls := .type "list", dict := none, data := .seq ([] : List Value).toArray } = H2 at hns₁ hsb₁ ⊢
  have hC : H2.objs.size = s.heap.objs.size + 1 := by rw [← hH2, Heap.size_push]
  rw [hC] at hns₁ hsb₁ ⊢
  have hDC : s.heap.objs.size ≠ s.heap.objs.size + 1 := Nat.ne_of_lt (Nat.lt_succ_self _)
  have below : ∀ b, b < s.heap.objs.size → b ≠ s.heap.objs.size + 1 ∧ b ≠ s.heap.objs.size := fun b hb => ⟨Nat.ne_of_lt (Nat.lt_succ_of_lt hb), Nat.ne_of_lt hb⟩
  have old : ∀ b o, s.heap.get? b = some o → h₁.get? b = some o := fun b o e => hsb₁.extBut b o (below b (Heap.lt_size e)).1 (Heap.get?_push_of_some _ (hH2 ▸ Heap.get?_push_of_some _ e))
  have hacc : h₁.get? s.heap.objs.size = some (lobj [] 0) := hsb₁.extBut _ _ hDC (Heap.get?_push_of_some _ (hH2 ▸ Heap.get?_push_size _ rfl))
  have hlt : ∀ b ∈ fp, b < s.heap.objs.size := fun b hb => by
    obtain ⟨o, e, _⟩ := T.obj 0 _ st b hb
    exact Heap.lt_size e
  have I₁ := fun tk => cmp_start (tk := tk) co I hf hlt hns₁ old hacc
  have st₁ : tn 0 h₁ := T.keep 0 _ _ st fun b _ o e => old b o e
  have fpD : ∀ {H' : Hp}, H' s.heap.objs.size = none → FpOk X pins H' s.heap.objs.size := fun hn => I.fpOk (Nat.le_refl _) hn
  have loop : ∀ tk : Nat, codeAny (model X.prog X.w) X.A (.compLoop (.ListComp elt [⟨tg, iter, ifs, 0⟩] scope pos) 0 (.ref it) (.ref s.heap.objs.size) (compEnvC scope (clsOf X.env scope.names []) (s.heap.objs.size + 1) X.env))
      (RR (.ref s.heap.objs.size) (s.heap.objs.size + 1)) { s with heap := h₁, toks := tk } := by
    intro tk
    refine compLoop_go (fun n s' => ∃ i H' ys its k, Inv (cmpX X nv ix scope (s.heap.objs.size + 1) s H fp) [(s.heap.objs.size, lobj its k)] (st0 nv ix σ) H' s' ∧ Vals ys its ∧ ys.length ≤ sizeLine ∧ tn i s'.heap ∧ (∀ b ∈ fp, H' b = none) ∧ W i n ys H')
      ?_ m0 ⟨0, H, [], [], 0, I₁ tk, .nil, Nat.zero_le _, st₁, fun b hb => (hf b hb).1, w0⟩
    rintro n s3 ⟨i, H3, ys, its, k, I3, rv, hz, st3, fr3, w3⟩
    have fpc : ∀ {H' : Hp} {its : List Value} {k : Nat}, (∀ b ∈ fp, H' b = none) → ∀ b ∈ fp, FpOk (cmpX X nv ix scope (s.heap.objs.size + 1) s H fp) [(s.heap.objs.size, lobj its k)] H' b := fun {H' its k} hn b hb => by
      refine ⟨hn b hb, (below b (hlt b hb)).1, fun hs => ?_, .inl hb, fun x c e => (hf b hb).2.2.2.2.1 x c (co.look I.ok e), fun p hp z => ?_⟩
      · rcases List.mem_cons.mp (I.stkSub b hs) with e | h
        · exact (hf b hb).2.1 e
        · exact (hf b hb).2.2.1 h
      · have e : p = (s.heap.objs.size, lobj its k) := by simpa [cmpX] using hp
        subst e
        exact (below b (hlt b hb)).2 z.symm
    have pD := fun {ps : List (Addr × Obj)} {σ' : St} {H' : Hp} {s' : Shared} (I' : Inv (cmpX X nv ix scope (s.heap.objs.size + 1) s H fp) ((s.heap.objs.size, lobj its k) :: ps) σ' H' s') =>
      I'.pin (s.heap.objs.size, lobj its k) (List.mem_append_right _ List.mem_cons_self)
    rcases turn i n ys H3 w3 with ⟨stop, fin0⟩ | ⟨go, hlt', N, hN, step⟩
    · refine thn (T.done (cmpX X nv ix scope (s.heap.objs.size + 1) s H fp) rfl rfl rfl hc i _ s3 _ H3 _ I3 (fpc fr3) st3 stop) fun r s4 ⟨hr, I4⟩ => ?_
      subst hr
      obtain ⟨p1, p2, _⟩ := pD I4
      have I5 := (cmp_end I hf I4).track rv hz p1 p2 (fpD p2)
      obtain ⟨mC, hmC, _⟩ := I4.loc
      exact fin _ _ s4 H3 ys I5 p2 fin0 ⟨mC, hmC⟩ (I.fpOk (Nat.le_succ _) (by rw [upd_ne (Ne.symm hDC)]; exact I4.free))
    · refine thn (T.item (cmpX X nv ix scope (s.heap.objs.size + 1) s H fp) rfl rfl rfl hc i _ s3 _ H3 _ I3 (fpc fr3) st3 go) fun r s4 ⟨u, hr, h4⟩ => ?_
      subst hr
      refine thn h4 fun _ s5 ⟨x, H5, I5, r5, y5, st5, fr5⟩ => ?_
      have I5' := I5.pinned (fpc fr5) (T.obj _ _ st5)
      refine thn (hg _ _ _ _ _ s5 _ H5 x u _ I5' r5 (kg _ _ _ _ (step x H5 y5))) fun _ s6 ⟨σ6, H6, I6, kp, q6⟩ => ?_
      refine thn (hi _ _ _ _ _ s6 σ6 H6 _ I6 q6) fun b s7 ⟨H7, I7, q7⟩ => ?_
      have again : ∀ {s7 : Shared} {H7 : Hp} {ys' its' : List _} {k' : Nat}, Inv (cmpX X nv ix scope (s.heap.objs.size + 1) s H fp) ([(s.heap.objs.size, lobj its' k')] ++ pinsAt fp s5.heap) σ6 H7 s7 → Vals ys' its' → ys'.length ≤ sizeLine → N ys' H7 →
          ∃ m, m < n ∧ ∃ i H' ys its k, Inv (cmpX X nv ix scope (s.heap.objs.size + 1) s H fp) [(s.heap.objs.size, lobj its k)] (st0 nv ix σ) H' s7 ∧ Vals ys its ∧ ys.length ≤ sizeLine ∧ tn i s7.heap ∧ (∀ b ∈ fp, H' b = none) ∧ W i m ys H' := fun {s7 H7 ys' its' k'} I8 rv' hz' n8 => by
        obtain ⟨m', hm, w8⟩ := hN _ _ n8
        have pn := fun (b : Addr) (o : Obj) (hb : b ∈ fp) (e : s5.heap.get? b = some o) => I8.pin (b, o) (List.mem_append_right _ (List.mem_append_right _ (mem_pinsAt hb e)))
        refine ⟨m', hm, i + 1, H7, ys', its', k', (I8.unpinned).weak kp.1 kp.2, rv', hz', T.keep _ _ _ st5 fun b hb o e => (pn b o hb e).1, fun b hb => ?_, w8⟩
        obtain ⟨o, e, d⟩ := T.obj _ _ st5 b hb
        exact (pn b o hb e).2.1
      cases b with
      | false =>
        rw [if_neg Bool.false_ne_true] at q7 ⊢
        exact again I7 rv hz q7
      | true =>
        rw [if_pos rfl] at q7 ⊢
        refine thn (he _ _ _ _ _ s7 σ6 H7 _ I7 q7) fun u8 s8 ⟨y, H8, I8, r8, q8⟩ => ?_
        obtain ⟨p1, p2, p3, p4, p5⟩ := pD I8
        refine append_at (hsz := by rw [List.size_toArray, ← rv.length]; exact Nat.le_of_lt hlt') p1 fun h9 hs9 hD9 => ?_
        have I9 : Inv (cmpX X nv ix scope (s.heap.objs.size + 1) s H fp) (pinsAt fp s5.heap) σ6 H8 { s8 with heap := h9 } := by
          have Iu : Inv (cmpX X nv ix scope (s.heap.objs.size + 1) s H fp) (pinsAt fp s5.heap) σ6 H8 s8 := I8.pins_of fun p hp => I8.pin p (List.mem_append_right _ (List.mem_append_right _ hp))
          refine Iu.turned (t' := s8.toks) (it := s.heap.objs.size) (fun b o hb e => (hs9.2 b hb).trans e) p2 p3 (.inr (Nat.le_refl _)) (fun x c e z => ?_) fun p hp z => ?_
          · obtain ⟨v, o, e1, _⟩ := I.cell x c (co.look I.ok e)
            exact absurd (Heap.lt_size e1) (by rw [z]; exact Nat.lt_irrefl _)
          · have hp' : p ∈ pinsAt fp s5.heap := by simpa [cmpX] using hp
            obtain ⟨hb, _⟩ := of_pinsAt hp'
            exact (below _ (hlt _ hb)).2 z
        have I10 : Inv (cmpX X nv ix scope (s.heap.objs.size + 1) s H fp) ([(s.heap.objs.size, lobj (its ++ [u8]) (k + 1))] ++ pinsAt fp s5.heap) σ6 H8 { s8 with heap := h9 } :=
          I9.pins_of fun p hp => by
            rcases List.mem_append.mp hp with hp | hp
            · have e : p = (s.heap.objs.size, lobj (its ++ [u8]) (k + 1)) := by simpa using hp
              subst e
              refine ⟨?_, p2, p3, p4, fun v z => by cases z⟩
              rw [List.push_toArray] at hD9
              exact hD9
            · exact I9.pin p (List.mem_append_right _ hp)
        exact again I10 (rv.append (.cons r8 .nil)) (by rw [List.length_append, List.length_singleton]; exact hlt') q8
  exact codeAny_compStart_list (loop _) (T.self _ 0 _ _ _ st₁ (loop _))

noncomputable def tComp (nv : List Str) (ix : List (Str × Nat)) (wi : TI) (g : TG) (ti : TT) (te : TE) : TE := fun σ H Q => wi σ H fun J H1 => CmpW nv ix g ti te σ J (fun ys H2 => ∀ D, H2 D = none → Q (.ref D) (upd H2 D (.lst ys))) H1
theorem pe_comp {wi : TI} {g : TG} {ti : TT} {te : TE} (nv : List Str) (ix : List (Str × Nat)) (hc : X.calm = true) (co : CompOk X nv ix scope) (hit : PI X tg iter wi) (kg : KpG nv g) (hg : ∀ C s₀ H₀ fp, PG (cmpX X nv ix scope C s₀ H₀ fp) tg g)
    (hi : ∀ C s₀ H₀ fp, PIf (cmpX X nv ix scope C s₀ H₀ fp) ifs ti) (he : ∀ C s₀ H₀ fp, PE (cmpX X nv ix scope C s₀ H₀ fp) elt te)
    (hs : ∀ x, foldedSetIterable iter X.env x = pure x := by intro _; rfl) : PE X (.ListComp elt [⟨tg, iter, ifs, 0⟩] scope pos) (tComp nv ix wi g ti te) := by
  intro pins s σ H Q I h
  rw [eval_ListComp]
  refine wpAny_comprehension_free (use := none) rfl hs (closure_ok (co.cells I.ok)) co.kind co.names (thn (hit pins s σ H _ I h) fun v s1 h1 => thn h1 fun itv s2 h2 => ?_)
  obtain ⟨it, fp, tn, J, H2, e, I2, T, st2, f2, q⟩ := h2
  subst e
  refine comp_run co hc I2 T st2 f2 kg hg hi he q fun D C s' H' ys I' hD fin ⟨m, hm⟩ hC => ?_
  obtain ⟨c0, c1, c2, c3, c4, c5⟩ := hC
  exact ⟨m, hm, fun h' hs' => ⟨.ref D, _, I'.turned (t' := s'.toks) (fun b o hb e => (hs'.2 b hb).trans e) c0 c1 c3 c4 c5, rfl, fin D hD⟩⟩
theorem ze_comp {wi : TI} {g : TG} {ti : TT} {te : TE} (nv : List Str) (ix : List (Str × Nat)) (hc : X.calm = true) (co : CompOk X nv ix scope) (hit : ZI X tg iter wi) (kg : KpG nv g) (hg : ∀ C s₀ H₀ fp, ZG (cmpX X nv ix scope C s₀ H₀ fp) tg g)
    (hi : ∀ C s₀ H₀ fp, ZIf (cmpX X nv ix scope C s₀ H₀ fp) ifs ti) (he : ∀ C s₀ H₀ fp, ZE (cmpX X nv ix scope C s₀ H₀ fp) elt te)
    (hs : ∀ x, foldedSetIterable iter X.env x = pure x := by intro _; rfl) : ZE X (.ListComp elt [⟨tg, iter, ifs, 0⟩] scope pos) (tComp nv ix wi g ti te) := by with_unfolding_all exact pe_comp nv ix hc co hit kg hg hi he hs
theorem ps_setcomp {wi : TI} {g : TG} {ti : TT} {te : TE} {i : Nat} {y : Str} {py spos : Pos} (nv : List Str) (ix : List (Str × Nat)) (hc : X.calm = true) (hN : X.N.Nodup) (hi' : X.N[i]? = some y) (hy : Loc X.env.scope y) (co : CompOk X nv ix scope) (hit : PI X tg iter wi) (kg : KpG nv g)
    (hg : ∀ C s₀ H₀ fp, PG (cmpX X nv ix scope C s₀ H₀ fp) tg g) (hi : ∀ C s₀ H₀ fp, PIf (cmpX X nv ix scope C s₀ H₀ fp) ifs ti) (he : ∀ C s₀ H₀ fp, PE (cmpX X nv ix scope C s₀ H₀ fp) elt te)
    (hsw : swapsWith (.ListComp elt [⟨tg, iter, ifs, 0⟩] scope pos) (some (.Name y py)) spos.line X.env = pure true := by rfl)
    (hs : ∀ x, foldedSetIterable iter X.env x = pure x := by intro _; rfl) (hfn : X.fn y = true ∨ X.env.scope.names.lookup y = some .local := by first | exact .inl rfl | exact .inr rfl | assumption) :
    PS X (.Assign [.Name y py] (.ListComp elt [⟨tg, iter, ifs, 0⟩] scope pos) spos) (tAsg (tComp nv ix wi g ti te) (gName i)) := by
  intro pins s σ H D I h
  rw [exec_Assign_Name_used _ _ _ _ hsw]
  refine wpAny_bind (wpAny_standAt (wpAny_bind ?_))
  show wpAny _ X.A (do let _ ← comprehension (.ListComp elt [⟨tg, iter, ifs, 0⟩] scope pos) scope X.env _ (newList []) false (eval iter X.env) (some (assign (.Name y py) X.env))) _ _ s
  refine wpAny_bind (wpAny_mono (wpAny_comprehension_free (use := some (assign (.Name y py) X.env)) (Q := fun _ s' => SP X pins D .next s') rfl hs (closure_ok (co.cells I.ok)) co.kind co.names
    (thn (hit pins s σ H _ I h) fun v s1 h1 => thn h1 fun itv s2 h2 => ?_)) (fun _ s' hq => wpAny_pure (wpAny_pure hq)) fun _ _ e => e)
  obtain ⟨it, fp, tn, J, H2, e, I2, T, st2, f2, q⟩ := h2
  subst e
  refine comp_run co hc I2 T st2 f2 kg hg hi he q fun DD C s' H' ys I' hD fin ⟨m, hm⟩ hC => ?_
  obtain ⟨c0, c1, c2, c3, c4, c5⟩ := hC
  show wpAny _ X.A (assign (.Name y py) X.env (.ref DD)) _ _ s'
  refine wpAny_assign_Name (store_ok2 I' hN hi' hy (show RelV (.ref DD) (.ref DD) from rfl) (fun s'' I'' ⟨a, sb, ha⟩ => ?_) hfn)
  have hCa : C ≠ a := by
    rcases ha with rfl | ha
    · exact c1
    · exact fun z => c4 y a ha z.symm
  refine ⟨m, hm.sameBut sb hCa, fun h' hs' => ⟨_, _, I''.turned (t' := s''.toks) (fun b o hb e => (hs'.2 b hb).trans e) c0 c1 c3 c4 c5, fin DD hD⟩⟩
theorem zs_setcomp {wi : TI} {g : TG} {ti : TT} {te : TE} {i : Nat} {y : Str} {py spos : Pos} (nv : List Str) (ix : List (Str × Nat)) (hc : X.calm = true) (hN : X.N.Nodup) (hi' : X.N[i]? = some y) (hy : Loc X.env.scope y) (co : CompOk X nv ix scope) (hit : ZI X tg iter wi) (kg : KpG nv g)
    (hg : ∀ C s₀ H₀ fp, ZG (cmpX X nv ix scope C s₀ H₀ fp) tg g) (hi : ∀ C s₀ H₀ fp, ZIf (cmpX X nv ix scope C s₀ H₀ fp) ifs ti) (he : ∀ C s₀ H₀ fp, ZE (cmpX X nv ix scope C s₀ H₀ fp) elt te)
    (hsw : swapsWith (.ListComp elt [⟨tg, iter, ifs, 0⟩] scope pos) (some (.Name y py)) spos.line X.env = pure true := by rfl)
    (hs : ∀ x, foldedSetIterable iter X.env x = pure x := by intro _; rfl) (hfn : X.fn y = true ∨ X.env.scope.names.lookup y = some .local := by first | exact .inl rfl | exact .inr rfl | assumption) :
    ZS X (.Assign [.Name y py] (.ListComp elt [⟨tg, iter, ifs, 0⟩] scope pos) spos) (tAsg (tComp nv ix wi g ti te) (gName i)) := by with_unfolding_all exact ps_setcomp nv ix hc hN hi' hy co hit kg hg hi he hsw hs hfn
end
section
variable {nv : List Str} {ix : List (Str × Nat)} {σ : St} {H : Hp} {g : TG} {ti : TT} {te : TE} {Fin : List V → Hp → Prop} {K : PySem.W.Frag} {a : Addr} {xs : List V}
theorem cmp_list (Pv : Nat → List V → Hp → Prop) (h0 : Pv 0 [] H) (hl : ∀ i ys H, i ≤ xs.length → Pv i ys H → SqL K H a xs)
    (hs : ∀ i x ys H, xs[i]? = some x → Pv i ys H → ys.length < sizeLine ∧ g x (st0 nv ix σ) H fun σ2 H2 => ti σ2 H2 fun b H3 => if b = true then te σ2 H3 fun y H4 => Pv (i + 1) (ys ++ [y]) H4 else Pv (i + 1) ys H3)
    (hd : ∀ ys H, Pv xs.length ys H → Fin ys H) : CmpW nv ix g ti te σ (Itl K a) Fin H := by
  refine ⟨fun i m ys H => m = xs.length - i ∧ i ≤ xs.length ∧ Pv i ys H, ⟨xs.length, by simp, Nat.zero_le _, h0⟩, ?_⟩
  rintro i m ys H ⟨rfl, hi, p⟩
  have q := hl i ys H hi p
  by_cases hlt : i < xs.length
  · have e := hs i xs[i] ys H (by simp [hlt]) p
    refine .inr ⟨⟨xs, xs[i], q, by simp [hlt]⟩, e.1, Pv (i + 1), fun σ' H' p' => ⟨xs.length - (i + 1), by omega, rfl, hlt, p'⟩, fun x H' y => ?_⟩
    obtain ⟨e', y⟩ := y
    subst e'
    exact (hs i x ys _ (y xs q) p).2
  · have e : i = xs.length := by omega
    subst e
    exact .inl ⟨⟨xs, q, Nat.le_refl _⟩, hd ys H p⟩
theorem cmp_tup (Pv : Nat → List V → Hp → Prop) (h0 : Pv 0 [] H) (hl : ∀ i ys H, i ≤ xs.length → Pv i ys H → SqT K H a xs)
    (hs : ∀ i x ys H, xs[i]? = some x → Pv i ys H → ys.length < sizeLine ∧ g x (st0 nv ix σ) H fun σ2 H2 => ti σ2 H2 fun b H3 => if b = true then te σ2 H3 fun y H4 => Pv (i + 1) (ys ++ [y]) H4 else Pv (i + 1) ys H3)
    (hd : ∀ ys H, Pv xs.length ys H → Fin ys H) : CmpW nv ix g ti te σ (Itt K a) Fin H := by
  refine ⟨fun i m ys H => m = xs.length - i ∧ i ≤ xs.length ∧ Pv i ys H, ⟨xs.length, by simp, Nat.zero_le _, h0⟩, ?_⟩
  rintro i m ys H ⟨rfl, hi, p⟩
  have q := hl i ys H hi p
  by_cases hlt : i < xs.length
  · have e := hs i xs[i] ys H (by simp [hlt]) p
    refine .inr ⟨⟨xs, xs[i], q, by simp [hlt]⟩, e.1, Pv (i + 1), fun σ' H' p' => ⟨xs.length - (i + 1), by omega, rfl, hlt, p'⟩, fun x H' y => ?_⟩
    obtain ⟨e', y⟩ := y
    subst e'
    exact (hs i x ys _ (y xs q) p).2
  · have e : i = xs.length := by omega
    subst e
    exact .inl ⟨⟨xs, q, Nat.le_refl _⟩, hd ys H p⟩
theorem cmp_range {lo : Int} {n : Nat} (Pv : Nat → List V → Hp → Prop) (h0 : Pv 0 [] H)
    (hs : ∀ i ys H, i < n → Pv i ys H → ys.length < sizeLine ∧ g (.int (lo + i)) (st0 nv ix σ) H fun σ2 H2 => ti σ2 H2 fun b H3 => if b = true then te σ2 H3 fun y H4 => Pv (i + 1) (ys ++ [y]) H4 else Pv (i + 1) ys H3)
    (hd : ∀ ys H, Pv n ys H → Fin ys H) : CmpW nv ix g ti te σ (Itr lo n) Fin H := by
  refine ⟨fun i m ys H => m = n - i ∧ i ≤ n ∧ Pv i ys H, ⟨n, by simp, Nat.zero_le _, h0⟩, ?_⟩
  rintro i m ys H ⟨rfl, hi, p⟩
  by_cases hlt : i < n
  · refine .inr ⟨hlt, (hs i ys H hlt p).1, Pv (i + 1), fun σ' H' p' => ⟨n - (i + 1), by omega, rfl, hlt, p'⟩, fun x H' y => ?_⟩
    obtain ⟨e', y⟩ := y
    subst e' y
    exact (hs i ys _ hlt p).2
  · have e : i = n := by omega
    subst e
    exact .inl ⟨Nat.le_refl _, hd ys H p⟩
end
end L2
set_option Elab.async false
set_option linter.all false
set_option maxRecDepth 100000
set_option maxHeartbeats 4000000
namespace L2
open PySem PySem.Spec PyProof.Rows
theorem Same.new {H : Hp} {p : Addr} (h : H p = none) (o : HO) : Same H (upd H p o) := fun b u q => by rw [upd_ne (ne_of_none q h)]; exact q

section
variable {X : Cx} {a b c : Expr} {ta tb tc : TE} {pos : Pos}
theorem op_mulB : OpR X (binaryOp .Mult) (rI (fun i j => IntMulOk i j) fun i j => .int (i * j)) := opI fun _ _ _ _ _ _ _ hc q => mul_int q hc

end
end L2
set_option Elab.async false
set_option linter.all false
set_option maxRecDepth 100000
set_option maxHeartbeats 4000000
namespace L2
open PySem PySem.Spec PyProof.Rows
section
variable {prog : Program} {w : World} {A : Around} {E : Value → Shared → Prop} {s : Shared}
theorem getItem_tuple_whole {t sl : Addr} {items : Array Value} {vl vu : Value} {lo hi : Option Int} {Q : Value → Shared → Prop} (ht : IsTup s.heap t items) (hs : s.heap.IsSliceOf sl vl vu .none) (pl : IsPart vl lo) (pu : IsPart vu hi)
    (hw : HT.sIx items.size 0 lo = 0 ∧ HT.sIx items.size items.size hi = items.size)
    (h : Q (.ref t) s) : wpAny (model prog w) A (getItem (.ref t) (.ref sl)) Q E s := by
  obtain ⟨os, hos, hcs, hds⟩ := id hs
  have hTs : s.TypeIs (.ref sl) "slice" := ⟨os, hos, hcs⟩
  unfold getItem
  try with_reducible refine wpAny_holding ?_
  first | refine wpAny_bind (wpAny_pure ?_) | skip
  refine wpAny_bind (wpAny_sequenceKey ht.typeIs (by decide) ?_)
  refine wpAny_bind (wpAny_callSpecial?_slot (name := Str.ofString "__getitem__") ht.typeIs PyProof.Rows.slot_tuple_getitem
    (wpAny_call_entry PyProof.Rows.slot_tuple_getitem ht.typeIs entry_tuple_getitem ?_ (args_tuple_getitem _ _)))
  show wpAny _ _ (Builtin.Tuple.tupleItemsOf (.ref t) >>= _) _ _ s
  refine wpAny_bind (tupleItemsOf_ ht ?_)
  refine wpAny_bind (wpAny_typeOf hTs ?_)
  rw [if_pos (by decide)]
  refine wpAny_bind (HT.sliceApplied_gen hs pl pu ?_)
  have hyes : ((((HT.sIx items.size 0 lo : Nat) : Int) == 0 && (1 : Int) == 1 && (HT.sIx items.size items.size hi - HT.sIx items.size 0 lo) == items.size) = true) := by
    rw [hw.1, hw.2]
    simp
  show wpAny _ _ (if (((HT.sIx items.size 0 lo : Nat) : Int) == 0 && (1 : Int) == 1 && (HT.sIx items.size items.size hi - HT.sIx items.size 0 lo) == items.size) = true then _ else _) _ _ s
  rw [if_pos hyes]
  refine wpAny_bind (m := Builtin.Tuple.tupleIsExact _) ?_
  unfold Builtin.Tuple.tupleIsExact
  refine wpAny_bind (wpAny_typeOf ht.typeIs (wpAny_pure ?_))
  rw [if_pos (by decide)]
  exact wpAny_bind (wpAny_rule (wpAny_pure ⟨_, rfl, wpAny_pure h⟩))
end
section
variable {X : Cx} {a b c : Expr} {ta tb tc : TE} {pos : Pos}
noncomputable def rSlP (K : PySem.W.Frag) : V → Option Int → Option Int → Hp → VK → Prop := fun x lo hi H Q => ∃ a, x = .ref a ∧ ((∃ xs, H a = some (.tup xs) ∧ ∀ r H', Same H H' → H' r = some (.tup (cutV xs lo hi)) → Q (.ref r) H') ∨
  ∃ xs, SqL K H a xs ∧ ∀ p, H p = none → Q (.ref p) (upd H p (.lst (cutV xs lo hi))))
theorem sl_P : SlR X (rSlP X.K) := by
  intro pins s σ H x v vl vu lo hi sl Q I rx hs pl pu h
  obtain ⟨a, rfl, ⟨xs, hx, q⟩ | ⟨xs, hx, q⟩⟩ := h
  · by_cases hw : HT.sIx xs.length 0 lo = 0 ∧ HT.sIx xs.length xs.length hi = xs.length
    · cases rx
      obtain ⟨its, r, ht, hz⟩ := I.tuple (SqT.of hx)
      have hlen : its.toArray.size = xs.length := by rw [List.size_toArray]; exact r.length.symm
      refine ⟨"tuple", _, PyProof.Rows.slot_tuple_getitem.lookup, ht.typeIs, ?_⟩
      refine getItem_tuple_whole ht hs pl pu (by rw [hlen]; exact hw) ⟨.ref a, H, I, rfl, q a H (Same.refl H) ?_⟩
      rw [hx]
      unfold cutV
      rw [hw.1, hw.2, List.drop_zero, Nat.sub_zero, List.take_of_length_le (Nat.le_refl _)]
    · exact sl_tup pins s σ H _ v vl vu lo hi sl Q I rx hs pl pu ⟨a, xs, rfl, SqT.of hx, hw, fun p hp => q p _ (Same.new hp _) upd_same⟩
  · exact sl_list pins s σ H _ v vl vu lo hi sl Q I rx hs pl pu ⟨a, xs, rfl, hx, q⟩
theorem PE.imp {e : Expr} {t t' : TE} (h : PE X e t) (i : ∀ σ H Q, t' σ H Q → t σ H Q) : PE X e t' := fun pins s σ H Q I q => h pins s σ H Q I (i σ H Q q)
theorem OpR.imp {f : Value → Value → Sem Value} {r r' : R2} (h : OpR X f r) (i : ∀ x y H Q, r' x y H Q → r x y H Q) : OpR X f r' := fun pins s σ H x y v u Q I rx ry q => h pins s σ H x y v u Q I rx ry (i x y H Q q)
noncomputable def tV (i : Nat) : TE := fun σ H Q => match σ[i]? with | some (some v) => Q v H | _ => False
theorem tV_var {i : Nat} (σ : St) (H : Hp) (Q : VK) (h : tV i σ H Q) : tVar i σ H Q := by
  unfold tV at h
  split at h
  · exact ⟨_, by assumption, h⟩
  · exact h.elim
theorem pn (i : Nat) {x : Str} {pos : Pos} (hN : X.N[i]? = some x := by rfl) (hv : Vis X.env.scope x := by first | exact Or.inl rfl | exact Or.inr (Or.inl rfl) | exact Or.inr (Or.inr rfl)) (hd : (x == ("__debug__" : Str)) = false := by decide)
    (hcd : (x == ("__classdict__" : Str)) = false := by decide) : PE X (.Name x pos) (tV i) := (pe_var hN hv hd hcd).imp tV_var
theorem zn (i : Nat) {x : Str} {pos : Pos} (hN : X.N[i]? = some x := by rfl) (hv : Vis X.env.scope x := by first | exact Or.inl rfl | exact Or.inr (Or.inl rfl) | exact Or.inr (Or.inr rfl)) (hd : (x == ("__debug__" : Str)) = false := by decide)
    (hcd : (x == ("__classdict__" : Str)) = false := by decide) : ZE X (.Name x pos) (tV i) := by with_unfolding_all exact pn i hN hv hd hcd
noncomputable def rAddP (K : PySem.W.Frag) : R2 := fun x y H Q => match x, y with
  | .int i, .int j => Q (.int (i + j)) H
  | .str i, .str j => i.length + j.length ≤ sizeLine ∧ Q (.str (i ++ j)) H
  | .ref a, .ref b => (∃ xs ys, H a = some (.lst xs) ∧ H b = some (.lst ys) ∧ xs.length + ys.length ≤ sizeLine ∧ ∀ p, H p = none → Q (.ref p) (upd H p (.lst (xs ++ ys)))) ∨
      ∃ xs ys, H a = some (.tup xs) ∧ H b = some (.tup ys) ∧ xs.length + ys.length ≤ sizeLine ∧ ∀ r H', Same H H' → H' r = some (.tup (xs ++ ys)) → Q (.ref r) H'
  | _, _ => False
theorem op_catA' : OpR X (binaryOp .Add) (fun x y H Q => ∃ a b xs ys, x = .ref a ∧ y = .ref b ∧ H a = some (.tup xs) ∧ H b = some (.tup ys) ∧ xs.length + ys.length ≤ sizeLine ∧ ∀ r H', Same H H' → H' r = some (.tup (xs ++ ys)) → Q (.ref r) H') := by
  intro pins s σ H x y v u Q I rx ry h
  obtain ⟨a, b, xs, ys, rfl, rfl, ha, hb, hz, q⟩ := h
  by_cases hx : xs = []
  · subst hx
    cases rx
    cases ry
    obtain ⟨its, r1, p1, _⟩ := I.tuple (SqT.of ha)
    obtain ⟨its2, r2, p2, _⟩ := I.tuple (SqT.of hb)
    cases r1
    obtain ⟨⟨cls, dd, data, sl⟩, ho, hc, n, hd⟩ := id p1
    obtain ⟨⟨cls2, dd2, data2, sl2⟩, ho2, hc2, n2, hd2⟩ := id p2
    simp only at hc hd hc2 hd2
    subst hc hd hc2 hd2
    exact concat_meets ⟨_, ho, rfl⟩ ⟨_, ho2, rfl⟩ noFill_tuple_add seq_tuple_add PySem.F.slot_tuple_add PySem.F.entry_tuple_add (PySem.F.args_tuple_add_2 _ _)
      (tuple_addW0 a b _ _ n n2 dd dd2 sl sl2 (by rfl)) ⟨ho, ho2, ⟨.ref b, H, I, rfl, q b H (Same.refl H) hb⟩⟩
  · refine op_catT pins s σ H _ _ v u Q I rx ry ⟨a, b, xs, ys, rfl, rfl, SqT.of ha, SqT.of hb, hx, hz, fun e => ?_, fun e p hp => ?_⟩
    · subst e
      exact q a H (Same.refl H) (by rw [List.append_nil]; exact ha)
    · exact q p _ (Same.new hp _) upd_same
theorem op_addP : OpR X (binaryOp .Add) (rAddP X.K) := by
  intro pins s σ H x y v u Q I rx ry h
  unfold rAddP at h
  split at h
  · exact op_add pins s σ H _ _ v u Q I rx ry ⟨_, _, rfl, rfl, h⟩
  · exact op_add_str pins s σ H _ _ v u Q I rx ry ⟨_, _, rfl, rfl, h⟩
  · rcases h with ⟨xs, ys, h1, h2, h3, q⟩ | ⟨xs, ys, h1, h2, h3, q⟩
    · exact op_cat pins s σ H _ _ v u Q I rx ry ⟨_, _, xs, ys, rfl, rfl, h1, h2, h3, q⟩
    · exact op_catA' pins s σ H _ _ v u Q I rx ry ⟨_, _, xs, ys, rfl, rfl, h1, h2, h3, q⟩
  · exact h.elim
noncomputable def rP (C : Int → Int → Prop) (g : Int → Int → V) : R2 := fun x y H Q => match x, y with | .int i, .int j => C i j ∧ Q (g i j) H | _, _ => False
noncomputable def rP0 (g : Int → Int → V) : R2 := fun x y H Q => match x, y with | .int i, .int j => Q (g i j) H | _, _ => False
theorem rP_rI {C : Int → Int → Prop} {g : Int → Int → V} (x y : V) (H : Hp) (Q : VK) (h : rP C g x y H Q) : rI C g x y H Q := by
  unfold rP at h
  split at h
  · exact ⟨_, _, rfl, rfl, h⟩
  · exact h.elim
theorem rP0_rI0 {g : Int → Int → V} (x y : V) (H : Hp) (Q : VK) (h : rP0 g x y H Q) : rI0 g x y H Q := by
  unfold rP0 at h
  split at h
  · exact ⟨_, _, rfl, rfl, h⟩
  · exact h.elim
theorem op_subP : OpR X (binaryOp .Sub) (rP0 fun i j => .int (i - j)) := op_sub.imp rP0_rI0
theorem op_modP : OpR X (binaryOp .Mod) (rP (fun _ j => 0 < j) fun i j => .int (i % j)) := op_mod.imp rP_rI
theorem op_fdivP : OpR X (binaryOp .FloorDiv) (rP CDiv fun i j => .int (i / j)) := op_fdiv.imp rP_rI
theorem op_powP : OpR X (binaryOp .Pow) (rP CPow fun i j => .int (i ^ j.toNat)) := op_pow.imp rP_rI
theorem op_gtP : OpR X (compareOp .Gt) (rP0 fun i j => .bl (decide (j < i))) := op_gt.imp rP0_rI0
theorem op_geP : OpR X (compareOp .GtE) (rP0 fun i j => .bl (decide (j ≤ i))) := op_ge.imp rP0_rI0
noncomputable def rIsP (neg : Bool) : R2 := fun x y H Q => match y with
  | .non => Q (.bl (if neg then !decide (x = y) else decide (x = y))) H
  | .bl _ => match x with
    | .flt _ => False
    | .byt _ => False
    | .ty _ => False
    | _ => Q (.bl (if neg then !decide (x = y) else decide (x = y))) H
  | _ => False
end
end L2
set_option Elab.async false
set_option linter.all false
set_option maxRecDepth 100000
set_option maxHeartbeats 4000000
namespace L2
open PySem PySem.Spec PyProof.Rows
mutual
inductive DatV (H : Hp) : V → PyData → Prop where
  | non : DatV H .non .none
  | bl (b : Bool) : DatV H (.bl b) (.bool b)
  | int (i : Int) : DatV H (.int i) (.int i)
  | str (x : Str) : DatV H (.str x) (.str x)
  | lst {a : Addr} {xs : List V} {ds : List PyData} (e : H a = some (.lst xs)) (r : DatAll H xs ds) : DatV H (.ref a) (.list ds)
  | tup {a : Addr} {xs : List V} {ds : List PyData} (e : H a = some (.tup xs)) (r : DatAll H xs ds) : DatV H (.ref a) (.tuple ds)
inductive DatAll (H : Hp) : List V → List PyData → Prop where
  | nil : DatAll H [] []
  | cons {x : V} {d : PyData} {xs : List V} {ds : List PyData} (h : DatV H x d) (r : DatAll H xs ds) : DatAll H (x :: xs) (d :: ds)
end
mutual
theorem DatV.same {H H' : Hp} (s : Same H H') : ∀ {x : V} {d : PyData}, DatV H x d → DatV H' x d
  | _, _, .non => .non
  | _, _, .bl b => .bl b
  | _, _, .int i => .int i
  | _, _, .str x => .str x
  | _, _, .lst e r => .lst (s _ _ e) (DatAll.same s r)
  | _, _, .tup e r => .tup (s _ _ e) (DatAll.same s r)
theorem DatAll.same {H H' : Hp} (s : Same H H') : ∀ {xs : List V} {ds : List PyData}, DatAll H xs ds → DatAll H' xs ds
  | _, _, .nil => .nil
  | _, _, .cons h r => .cons (DatV.same s h) (DatAll.same s r)
end
theorem DatAll.ints {H : Hp} : ∀ ns : List Int, DatAll H (ns.map V.int) (ns.map PyData.int)
  | [] => .nil
  | n :: r => .cons (.int n) (DatAll.ints r)
section
variable {X : Cx} {pins : List (Addr × Obj)} {σ : St} {H : Hp} {s : Shared}
mutual
theorem DatV.reads (I : Inv X pins σ H s) : ∀ {x : V} {d : PyData} {v : Value}, DatV H x d → RelV x v → ∃ as, Reads s.heap v d as
  | _, _, _, .non, r => by cases r; exact ⟨_, .none⟩
  | _, _, _, .bl b, r => by cases r; exact ⟨_, .bool b⟩
  | _, _, _, .int i, r => by obtain ⟨t, rfl⟩ := r; exact ⟨_, .int i t⟩
  | _, _, _, .str x, r => by obtain ⟨t, rfl⟩ := r; exact ⟨_, .str x t⟩
  | _, _, _, .lst e q, r => by
    cases r
    obtain ⟨_, its, n, rv, h⟩ := I.lstM e
    obtain ⟨_, h⟩ := h
    obtain ⟨as, z⟩ := DatAll.reads I q rv
    exact ⟨_, reads_list_at h rfl rfl z⟩
  | _, _, _, .tup e q, r => by
    cases r
    obtain ⟨its, rv, ⟨o, h1, h2, n, h3⟩, _⟩ := I.tuple (SqT.of e)
    obtain ⟨as, z⟩ := DatAll.reads I q rv
    exact ⟨_, reads_tuple_at h1 h2 h3 z⟩
theorem DatAll.reads (I : Inv X pins σ H s) : ∀ {xs : List V} {ds : List PyData} {vs : List Value}, DatAll H xs ds → Vals xs vs → ∃ as, ReadsAll s.heap vs ds as
  | _, _, _, .nil, r => by cases r; exact ⟨_, .nil⟩
  | _, _, _, .cons h q, r => by
    cases r with
    | cons r1 r2 =>
      obtain ⟨as, z⟩ := DatV.reads I h r1
      obtain ⟨bs, y⟩ := DatAll.reads I q r2
      exact ⟨_, .cons z y⟩
end
end
section
variable {X : Cx} {a b c : Expr} {ta tb tc : TE} {pos : Pos}
noncomputable def rEqD (neg : Bool) : R2 := fun x y H Q => match scal x y with
  | true => Q (.bl (if neg then !decide (x = y) else decide (x = y))) H
  | false => ∃ d e, DatV H x d ∧ DatV H y e ∧ SeqAt.shaped d = true ∧ SeqAt.shaped e = true ∧ Q (.bl (if neg then !PyData.eqv d e else PyData.eqv d e)) H
theorem op_eqD (hu : X.A.units + 64 < cLine) : OpR X (compareOp .Eq) (rEqD false) := by
  intro pins s σ H x y v u Q I rx ry h
  unfold rEqD at h
  split at h
  · exact op_eq pins s σ H x y v u Q I rx ry ⟨by assumption, h⟩
  · obtain ⟨d, e, h1, h2, h3, h4, q⟩ := h
    obtain ⟨as, r1⟩ := h1.reads I rx
    obtain ⟨bs, r2⟩ := h2.reads I ry
    exact eq_dataH r1 r2 h3 h4 hu ⟨.bl _, H, I, rfl, q⟩
theorem op_neD (hu : X.A.units + 64 < cLine) : OpR X (compareOp .NotEq) (rEqD true) := by
  intro pins s σ H x y v u Q I rx ry h
  unfold rEqD at h
  split at h
  · exact op_ne pins s σ H x y v u Q I rx ry ⟨by assumption, h⟩
  · obtain ⟨d, e, h1, h2, h3, h4, q⟩ := h
    obtain ⟨as, r1⟩ := h1.reads I rx
    obtain ⟨bs, r2⟩ := h2.reads I ry
    exact ne_dataH r1 r2 h3 h4 hu ⟨.bl _, H, I, rfl, q⟩
theorem op_isP : OpR X (compareOp .Is) (rIsP false) := by
  intro pins s σ H x y v u Q I rx ry h
  unfold rIsP at h
  split at h
  · exact op_isN pins s σ H x _ v u Q I rx ry ⟨rfl, h⟩
  · rename_i k
    cases ry
    split at h
    · exact h.elim
    · exact h.elim
    · exact h.elim
    · rename_i hf hb ht
      cases x with
      | non => cases rx; exact wpAny_is_plain rfl (fin_bl I h (by simp))
      | bl j => cases rx; exact wpAny_is_plain rfl (fin_bl I h (by rw [Bool.eq_iff_iff]; simp))
      | int j => obtain ⟨t, rfl⟩ := rx; exact wpAny_is_plain rfl (fin_bl I h (by simp))
      | str j => obtain ⟨t, rfl⟩ := rx; exact wpAny_is_plain rfl (fin_bl I h (by simp))
      | byt j => exact absurd rfl (hb j)
      | flt j => exact absurd rfl (hf j)
      | ref j => cases rx; exact wpAny_is_plain rfl (fin_bl I h (by simp))
      | ty j => exact absurd rfl (ht j)
  · exact h.elim
theorem op_isntP : OpR X (compareOp .IsNot) (rIsP true) := by
  intro pins s σ H x y v u Q I rx ry h
  unfold rIsP at h
  split at h
  · exact op_notN pins s σ H x _ v u Q I rx ry ⟨rfl, h⟩
  · rename_i k
    cases ry
    split at h
    · exact h.elim
    · exact h.elim
    · exact h.elim
    · rename_i hf hb ht
      cases x with
      | non => cases rx; exact wpAny_isNot_plain rfl (fin_bl I h (by simp))
      | bl j => cases rx; exact wpAny_isNot_plain rfl (fin_bl I h (by rw [Bool.eq_iff_iff]; simp))
      | int j => obtain ⟨t, rfl⟩ := rx; exact wpAny_isNot_plain rfl (fin_bl I h (by simp))
      | str j => obtain ⟨t, rfl⟩ := rx; exact wpAny_isNot_plain rfl (fin_bl I h (by simp))
      | byt j => exact absurd rfl (hb j)
      | flt j => exact absurd rfl (hf j)
      | ref j => cases rx; exact wpAny_isNot_plain rfl (fin_bl I h (by simp))
      | ty j => exact absurd rfl (ht j)
  · exact h.elim

noncomputable def tBlP (t : TE) : TT := fun σ H Q => t σ H fun x H1 => match x with | .bl c => Q c H1 | _ => False
theorem blP {x : V} {P : Bool → Prop} (h : match x with | .bl c => P c | _ => False) : ∃ c, x = .bl c ∧ P c := by
  cases x <;> first | exact ⟨_, rfl, h⟩ | exact h.elim
theorem pt_cmpP {op : CmpOp} {r : R2} (ho : OpR X (compareOp op) r) (ha : PE X a ta) (hb : PE X b tb) (hm : behindInMarks op b = false) : PT X (.Compare a [op] [b] pos) (tBlP (tOp r ta tb)) := by
  intro pins s σ H Q I h
  refine wpAny_isTrue_Compare1 (binT ha hb I h fun v u s2 x y H2 I2 rx ry q => ?_) hm
  refine thn (ho pins s2 σ H2 x y v u _ I2 rx ry q) fun z s3 ⟨w', H3, I3, r3, q3⟩ => ?_
  obtain ⟨k, rfl, q3⟩ := blP q3
  cases r3
  exact wpAny_truthy_bool ⟨H3, I3, q3⟩
theorem zt_cmpP {op : CmpOp} {r : R2} (ho : OpR X (compareOp op) r) (ha : ZE X a ta) (hb : ZE X b tb) (hm : behindInMarks op b = false) : ZT X (.Compare a [op] [b] pos) (tBlP (tOp r ta tb)) := by with_unfolding_all exact pt_cmpP ho ha hb hm
theorem pt_valP {e : Expr} {t : TE} (h : PE X e t) (he : ∀ whole, isTrue e X.env whole = (do let v ← whole; standAt e.pos; holding [v] (truthy v)) := by intro _; rfl) : PT X e (tBlP t) := by
  intro pins s σ H Q I q
  refine isTrue_plain (thn (h pins s σ H _ I q) fun v s1 ⟨x, H1, I1, r1, q1⟩ => ?_) (he _)
  obtain ⟨k, rfl, q1⟩ := blP q1
  cases r1
  exact wpAny_truthy_bool ⟨H1, I1, q1⟩
theorem zt_valP {e : Expr} {t : TE} (h : ZE X e t) (he : ∀ whole, isTrue e X.env whole = (do let v ← whole; standAt e.pos; holding [v] (truthy v)) := by intro _; rfl) : ZT X e (tBlP t) := by with_unfolding_all exact pt_valP h he
noncomputable def tAndP (ta tb : TE) : TE := fun σ H Q => ta σ H fun x H1 => match x with | .bl c => if c = true then tb σ H1 Q else Q (.bl false) H1 | _ => False
variable {rest : List Expr}
theorem pe_andP (ha : PE X a ta) (hb : PE X (.BoolOp .And (b :: rest) pos) tb) : PE X (.BoolOp .And (a :: b :: rest) pos) (tAndP ta tb) := by
  intro pins s σ H Q I h
  refine BoolOp_and (thn (ha pins s σ H _ I h) fun v s1 ⟨x, H1, I1, r1, q1⟩ => ?_)
  obtain ⟨c, rfl, q1⟩ := blP q1
  cases r1
  refine wpAny_truthy_bool ?_
  cases c with
  | true => exact hb pins s1 σ H1 Q I1 q1
  | false => exact ⟨.bl false, H1, I1, rfl, q1⟩
theorem ze_andP (ha : ZE X a ta) (hb : ZE X (.BoolOp .And (b :: rest) pos) tb) : ZE X (.BoolOp .And (a :: b :: rest) pos) (tAndP ta tb) := by with_unfolding_all exact pe_andP ha hb
noncomputable def rIxP (K : PySem.W.Frag) : R2 := fun x y H Q => match x, y with
  | .ref p, .int i => (∃ xs, (SqL K H p xs ∨ H p = some (.tup xs)) ∧ ∃ v, atI xs i = some v ∧ Q v H)
  | _, _ => False
theorem ix_P : IxR X (rIxP X.K) := by
  intro value slice pins s σ H x y v u Q I rx ry h hs
  unfold rIxP at h
  split at h
  · obtain ⟨xs, h1 | h1, w, e, q⟩ := h
    · exact ix_list value slice pins s σ H _ _ v u Q I rx ry ⟨_, xs, _, w, rfl, rfl, h1, e, q⟩ hs
    · exact ix_tup value slice pins s σ H _ _ v u Q I rx ry ⟨_, xs, _, w, rfl, rfl, SqT.of h1, e, q⟩ hs
  · exact h.elim

theorem CallR.imp {f : Value} {r r' : List V → Hp → VK → Prop} (h : CallR X f r) (i : ∀ xs H Q, r' xs H Q → r xs H Q) : CallR X f r' := fun pins s σ H xs us Q I rs q => h pins s σ H xs us Q I rs (i xs H Q q)
noncomputable def rLenP (K : PySem.W.Frag) : List V → Hp → VK → Prop := fun xs H Q => match xs with
  | [.ref p] => ∃ ys, (SqL K H p ys ∨ H p = some (.tup ys)) ∧ Q (.int ys.length) H
  | _ => False
theorem call_lenP : CallR X (.builtin "len") (rLenP X.K) := call_len_seq.imp fun xs H Q h => by
  unfold rLenP at h
  split at h
  · obtain ⟨ys, h1 | h1, q⟩ := h
    · exact ⟨_, ys, rfl, .inl h1, q⟩
    · exact ⟨_, ys, rfl, .inr (SqT.of h1), q⟩
  · exact h.elim
noncomputable def tyName (H : Hp) : V → Option String
  | .non => some "NoneType"
  | .bl _ => some "bool"
  | .int _ => some "int"
  | .str _ => some "str"
  | .ref a => match H a with
    | some (.lst _) => some "list"
    | some (.tup _) => some "tuple"
    | some (.dK _) => some "dict"
    | _ => none
  | _ => none
noncomputable def subTy (t c : String) : Bool := t == c || (t == "bool" && c == "int")
theorem tyOf_name {K : PySem.W.Frag} {H : Hp} {x : V} {t : String} (h : tyName H x = some t) : TyOf K H x (.type t) := by
  unfold tyName at h
  split at h
  all_goals first | (cases h; constructor) | skip
  · split at h
    all_goals first | (cases h; constructor; assumption) | cases h
  · cases h
noncomputable def rIsiP : List V → Hp → VK → Prop := fun xs H Q => match xs with
  | [x, .ty c] => ∃ t, tyName H x = some t ∧ (c == "int" || c == "bool" || c == "tuple" || c == "str" || c == "list") = true ∧ Q (.bl (subTy t c)) H
  | _ => False
theorem kit_of {K : PySem.W.Frag} {H : Hp} {x : V} {t c : String} (h : tyName H x = some t) (hc : (c == "int" || c == "bool" || c == "tuple" || c == "str" || c == "list") = true) : PySem.W.kitOne K (.type t) (.type c) = some (subTy t c) := by
  have ht : t ∈ ["NoneType", "bool", "int", "str", "list", "tuple", "dict"] := by
    unfold tyName at h
    split at h
    all_goals first | (cases h; decide) | skip
    · split at h
      all_goals first | (cases h; decide) | cases h
    · cases h
  have hc' : c ∈ ["int", "bool", "tuple", "str", "list"] := by
    simp only [Bool.or_eq_true, beq_iff_eq] at hc
    simp only [List.mem_cons, List.not_mem_nil, or_false]
    rcases hc with (((hc | hc) | hc) | hc) | hc <;> simp [hc]
  have all : (["NoneType", "bool", "int", "str", "list", "tuple", "dict"].all fun t => ["int", "bool", "tuple", "str", "list"].all fun c => decide (PySem.W.kitOne [] (.type t) (.type c) = some (subTy t c))) = true := by decide +kernel
  have e : PySem.W.kitOne K (.type t) (.type c) = PySem.W.kitOne [] (.type t) (.type c) := rfl
  rw [e]
  exact of_decide_eq_true (List.all_eq_true.mp (List.all_eq_true.mp all t ht) c hc')
theorem call_isiP : CallR X (.builtin "isinstance") rIsiP := by
  intro pins s σ H xs us Q I r h
  unfold rIsiP at h
  split at h
  · obtain ⟨t, h1, h2, q⟩ := h
    obtain ⟨u, w', rfl, r1, r2⟩ := vals2 r
    cases r2
    exact isinst_ok I r1 (tyOf_name h1) (kit_of h1 h2) fun tk => ⟨.bl _, H, I.tok tk, rfl, q⟩
  · exact h.elim
noncomputable def rTupP (K : PySem.W.Frag) : List V → Hp → VK → Prop := fun xs H Q => match xs with
  | [.ref p] => ∃ ys, (SqL K H p ys ∨ H p = some (.tup ys)) ∧ ∀ r H', Same H H' → H' r = some (.tup ys) → Q (.ref r) H'
  | _ => False
theorem call_tupP : CallR X (.type "tuple") (rTupP X.K) := call_tuple_of.imp fun xs H Q h => by
  unfold rTupP at h
  split at h
  · obtain ⟨ys, h1 | h1, q⟩ := h
    · exact ⟨_, ys, rfl, .inl ⟨h1, fun l hl => q l _ (Same.new hl _) upd_same⟩⟩
    · exact ⟨_, ys, rfl, .inr ⟨SqT.of h1, q _ H (Same.refl H) h1⟩⟩
  · exact h.elim
noncomputable def rLstP (K : PySem.W.Frag) : List V → Hp → VK → Prop := fun xs H Q => match xs with
  | [.ref p] => ∃ ys, (SqL K H p ys ∨ H p = some (.tup ys)) ∧ ∀ l, H l = none → Q (.ref l) (upd H l (.lst ys))
  | _ => False
theorem call_lstP : CallR X (.type "list") (rLstP X.K) := call_list_of.imp fun xs H Q h => by
  unfold rLstP at h
  split at h
  · obtain ⟨ys, h1 | h1, q⟩ := h
    · exact ⟨_, ys, rfl, .inl h1, q⟩
    · exact ⟨_, ys, rfl, .inr (SqT.of h1), q⟩
  · exact h.elim
noncomputable def rIntP : List V → Hp → VK → Prop := fun xs H Q => match xs with
  | [.int i] => Q (.int i) H
  | [.bl k] => Q (.int (if k then 1 else 0)) H
  | _ => False
theorem call_intP : CallR X (.type "int") rIntP := call_int1.imp fun xs H Q h => by
  unfold rIntP at h
  split at h
  · exact .inl ⟨_, rfl, h⟩
  · exact .inr ⟨_, rfl, h⟩
  · exact h.elim
noncomputable def rMinP : List V → Hp → VK → Prop := fun xs H Q => match xs with
  | [.int i, .int j] => Q (.int (if j < i then j else i)) H
  | _ => False
theorem call_minP (hc : X.calm = true) : CallR X (.builtin "min") rMinP := (call_min2 hc).imp fun xs H Q h => by
  unfold rMinP at h
  split at h
  · exact ⟨_, _, rfl, h⟩
  · exact h.elim

structure FnA (P : Program) (w : World) (K : PySem.W.Frag) (mg : Str → Option Value) (base : Heap) (x : Str) (k : Nat) (ps : List Str) (sp : Sp) : Prop where
  ex : ∃ f fd, FnOk P w K mg base CX0 k f fd ps sp ∧ Binds K fd ps [] ∧ PySem.W.keepIn K (.ref f) = true ∧ mg x = some (.ref f)
noncomputable def tFn (sp : Sp) (t : TA) : TE := fun σ H Q => t σ H fun vs H1 => sp vs H1 Q E0
theorem pe_fn {x : Str} {k k' : Nat} {ps : List Str} {sp : Sp} {e : Expr} {es : List Expr} {t : TA} {p : Pos} (F : FnA X.prog X.w X.K X.mg X.base x k ps sp) (hr : Room k' X.A) (hk : k ≤ k') (hg : Gl X x)
    (ha : PA X (e :: es) t) (hdb : (x == ("__debug__" : Str)) = false := by decide) (he : starEach (e :: es) X.env = (false, eval e X.env) :: starEach es X.env := by rfl) (hpl : (backTo pos (starEach es X.env)).any (·.1) = false := by rfl) :
    PE X (.Call (.Name x p) (e :: es) [] pos) (tFn sp t) := by
  obtain ⟨f, fd, F1, b1, k1, m1⟩ := F.ex
  refine (pe_call (F1.mono hk) hr hg m1 k1 b1 .nil pass0 ha hdb he hpl).imp fun σ H Q h => ?_
  have e : (fun (vs : List V) (H1 : Hp) => sp (vs ++ []) H1 Q E0) = fun vs H1 => sp vs H1 Q E0 := by
    funext vs H1
    rw [List.append_nil]
  show t σ H fun vs H1 => sp (vs ++ []) H1 Q E0
  rw [e]
  exact h
theorem ze_fn {x : Str} {k k' : Nat} {ps : List Str} {sp : Sp} {e : Expr} {es : List Expr} {t : TA} {p : Pos} (F : FnA X.prog X.w X.K X.mg X.base x k ps sp) (hr : Room k' X.A) (hk : k ≤ k') (hg : Gl X x)
    (ha : ZA X (e :: es) t) (hdb : (x == ("__debug__" : Str)) = false := by decide) (he : starEach (e :: es) X.env = (false, eval e X.env) :: starEach es X.env := by rfl) (hpl : (backTo pos (starEach es X.env)).any (·.1) = false := by rfl) :
    ZE X (.Call (.Name x p) (e :: es) [] pos) (tFn sp t) := by with_unfolding_all exact pe_fn F hr hk hg ha hdb he hpl
end
end L2
set_option Elab.async false
set_option linter.all false
set_option maxRecDepth 100000
set_option maxHeartbeats 4000000
namespace L2
open PySem PySem.Spec PyProof.Rows
theorem pe_ty {X : Cx} {x : Str} {T : String} {pos : Pos} (hg : Gl X x) (hm : X.mg x = none) (hv : bootBuiltins x = some (.type T)) (hn : x ≠ "__name__" := by decide) (hd : (x == ("__debug__" : Str)) = false := by decide) : PE X (.Name x pos) (tC (.ty T)) :=
  pe_bltn hg hm hv (show RelV (.ty T) (.type T) from rfl) hn hd
theorem iteD {p : Prop} [Decidable p] {A B : Prop} (h1 : p → A) (h2 : ¬ p → B) : if decide p = true then A else B := by
  by_cases h : p
  · rw [decide_eq_true h]; exact iteT (h1 h)
  · rw [decide_eq_false h]; exact iteF (h2 h)
theorem iteB {b : Bool} {A B : Prop} (h1 : b = true → A) (h2 : b = false → B) : if b = true then A else B := by
  cases b with
  | true => exact iteT (h1 rfl)
  | false => exact iteF (h2 rfl)
theorem boot_isinstance : bootBuiltins "isinstance" = some (.builtin "isinstance") := by decide +kernel
theorem boot_sorted' : bootBuiltins "sorted" = some (.builtin "sorted") := by decide +kernel
theorem boot_min' : bootBuiltins "min" = some (.builtin "min") := by decide +kernel
theorem boot_all' : bootBuiltins "all" = some (.builtin "all") := by decide +kernel
theorem boot_int' : bootBuiltins "int" = some (.type "int") := by decide +kernel
theorem boot_bool' : bootBuiltins "bool" = some (.type "bool") := by decide +kernel
theorem boot_tuple' : bootBuiltins "tuple" = some (.type "tuple") := by decide +kernel
theorem boot_list' : bootBuiltins "list" = some (.type "list") := by decide +kernel
theorem boot_str' : bootBuiltins "str" = some (.type "str") := by decide +kernel
end L2
namespace L2
open PySem PySem.Spec PyProof.Rows
noncomputable def rAllP (K : PySem.W.Frag) : List V → Hp → VK → Prop := fun xs H Q => match xs with
  | [.ref p] => ∃ bs : List Bool, SqL K H p (bs.map V.bl) ∧ Q (.bl (bs.all id)) H
  | _ => False
theorem call_allP {X : Cx} (hc : X.calm = true) : CallR X (.builtin "all") (rAllP X.K) := by
  intro pins s σ H xs us Q I r h
  unfold rAllP at h
  split at h
  · rename_i p
    obtain ⟨bs, hq, q⟩ := h
    obtain ⟨u, rfl, rx⟩ := vals1 r
    cases rx
    obtain ⟨its, rv, pl, hz⟩ := I.list hq
    have hlen : its.length = bs.length := by rw [← rv.length, List.length_map]
    have hlt : p < s.heap.objs.size := by
      obtain ⟨_, e, _⟩ := pl.isList
      exact Heap.lt_size e
    refine call_all_walk (wpAny_pyIter_list pl.isList ?_)
    have W : Walks X.prog X.w X.A.in1 s.heap.objs.size [s.heap.objs.size, p] [s.heap.objs.size] its.toArray.size _ _ := Walks.list (show X.A.in1.handled = none from I.ok.hd hc) s.heap.objs.size p (Nat.ne_of_lt hlt) its.toArray
    refine ⟨s.heap.objs.size, _, _, _, _, _, fun i => bs.getD i false, rfl, W, ⟨⟨_, Heap.get?_push_size _ rfl, rfl, rfl⟩, pl.isList.push _⟩, ?_, fun h' tk hk => ?_⟩
    · intro i v s' Q' E' hP hQ
      have hP' : its[i]? = some v := by simpa using hP
      have hi : i < bs.length := by rw [← hlen]; exact (List.getElem?_eq_some_iff.mp hP').1
      obtain ⟨w', e1, e2⟩ := rv.get (i := i) (x := .bl bs[i]) (by rw [List.getElem?_map, List.getElem?_eq_getElem hi]; rfl)
      rw [hP'] at e1
      cases e1
      cases e2
      refine wpAny_truthy_bool ?_
      have e : bs.getD i false = bs[i] := by rw [List.getD_eq_getElem?_getD, List.getElem?_eq_getElem hi]; rfl
      have hQ' : Q' (bs.getD i false) s' := hQ
      rw [e] at hQ'
      exact hQ'
    · have I1 : Inv X pins σ H { s with heap := h', toks := tk } := I.kept fun b o e => hk b o (by simpa using Nat.ne_of_lt (Heap.lt_size e)) (Heap.get?_push_of_some _ e)
      refine ⟨.bl _, H, I1, rfl, ?_⟩
      have e : (List.range its.toArray.size).all (fun i => bs.getD i false) = bs.all id := by
        rw [List.size_toArray, hlen]
        have key : ∀ l : List Bool, (List.range l.length).all (fun i => l.getD i false) = l.all id := by
          intro l
          rw [Bool.eq_iff_iff, List.all_eq_true, List.all_eq_true]
          constructor
          · intro h x hx
            obtain ⟨i, hi, rfl⟩ := List.mem_iff_getElem.mp hx
            have := h i (List.mem_range.mpr hi)
            rw [List.getD_eq_getElem?_getD, List.getElem?_eq_getElem hi] at this
            exact this
          · intro h i hi
            have hi' := List.mem_range.mp hi
            rw [List.getD_eq_getElem?_getD, List.getElem?_eq_getElem hi']
            exact h _ (List.getElem_mem hi')
        exact key bs
      rw [e]
      exact q
  · exact h.elim
theorem dk_empty {P : Program} {w : World} {H : Hp} (h : Heap) (hb : sysModules < h.objs.size) : ObjOk P w H (h.push { cls := .type "dict", data := .dict #[] }) h.objs.size (.dK []) :=
  ⟨Nat.zero_le _, beq_eq_false_iff_ne.mpr (Ne.symm (Nat.ne_of_lt hb)), [], .nil, Heap.DictOf.new h⟩
theorem Inv.big {X : Cx} {pins : List (Addr × Obj)} {σ : St} {H : Hp} {s : Shared} (I : Inv X pins σ H s) : sysModules < s.heap.objs.size := by
  have h : mainGlobals < s.heap.objs.size := (I.mod.glob.keeps I.bk).lt
  exact Nat.lt_trans (by decide) h
end L2
namespace L2
open PySem PySem.Spec PyProof.Rows
section
variable {X : Cx} {e : Expr} {es : List Expr} {t : TA} {p pos : Pos}
theorem pcb_len (hg : Gl X "len") (hm : X.mg "len" = none) (ha : PA X (e :: es) t) (he : starEach (e :: es) X.env = (false, eval e X.env) :: starEach es X.env) (hpl : (backTo pos (starEach es X.env)).any (·.1) = false) :
    PE X (.Call (.Name "len" p) (e :: es) [] pos) (tCB (rLenP X.K) t) := pe_callB call_lenP hg hm PySem.boot_len ha (by decide) (by decide) he hpl
theorem zcb_len (hg : Gl X "len") (hm : X.mg "len" = none) (ha : ZA X (e :: es) t) (he : starEach (e :: es) X.env = (false, eval e X.env) :: starEach es X.env) (hpl : (backTo pos (starEach es X.env)).any (·.1) = false) :
    ZE X (.Call (.Name "len" p) (e :: es) [] pos) (tCB (rLenP X.K) t) := by with_unfolding_all exact pcb_len hg hm ha he hpl
theorem pcb_isinstance (hg : Gl X "isinstance") (hm : X.mg "isinstance" = none) (ha : PA X (e :: es) t) (he : starEach (e :: es) X.env = (false, eval e X.env) :: starEach es X.env) (hpl : (backTo pos (starEach es X.env)).any (·.1) = false) :
    PE X (.Call (.Name "isinstance" p) (e :: es) [] pos) (tCB rIsiP t) := pe_callB call_isiP hg hm boot_isinstance ha (by decide) (by decide) he hpl
theorem zcb_isinstance (hg : Gl X "isinstance") (hm : X.mg "isinstance" = none) (ha : ZA X (e :: es) t) (he : starEach (e :: es) X.env = (false, eval e X.env) :: starEach es X.env) (hpl : (backTo pos (starEach es X.env)).any (·.1) = false) :
    ZE X (.Call (.Name "isinstance" p) (e :: es) [] pos) (tCB rIsiP t) := by with_unfolding_all exact pcb_isinstance hg hm ha he hpl
theorem pcb_min (hc : X.calm = true) (hg : Gl X "min") (hm : X.mg "min" = none) (ha : PA X (e :: es) t) (he : starEach (e :: es) X.env = (false, eval e X.env) :: starEach es X.env) (hpl : (backTo pos (starEach es X.env)).any (·.1) = false) :
    PE X (.Call (.Name "min" p) (e :: es) [] pos) (tCB rMinP t) := pe_callB (call_minP hc) hg hm boot_min' ha (by decide) (by decide) he hpl
theorem zcb_min (hc : X.calm = true) (hg : Gl X "min") (hm : X.mg "min" = none) (ha : ZA X (e :: es) t) (he : starEach (e :: es) X.env = (false, eval e X.env) :: starEach es X.env) (hpl : (backTo pos (starEach es X.env)).any (·.1) = false) :
    ZE X (.Call (.Name "min" p) (e :: es) [] pos) (tCB rMinP t) := by with_unfolding_all exact pcb_min hc hg hm ha he hpl
theorem pcb_all (hc : X.calm = true) (hg : Gl X "all") (hm : X.mg "all" = none) (ha : PA X (e :: es) t) (he : starEach (e :: es) X.env = (false, eval e X.env) :: starEach es X.env) (hpl : (backTo pos (starEach es X.env)).any (·.1) = false) :
    PE X (.Call (.Name "all" p) (e :: es) [] pos) (tCB (rAllP X.K) t) := pe_callB (call_allP hc) hg hm boot_all' ha (by decide) (by decide) he hpl
theorem zcb_all (hc : X.calm = true) (hg : Gl X "all") (hm : X.mg "all" = none) (ha : ZA X (e :: es) t) (he : starEach (e :: es) X.env = (false, eval e X.env) :: starEach es X.env) (hpl : (backTo pos (starEach es X.env)).any (·.1) = false) :
    ZE X (.Call (.Name "all" p) (e :: es) [] pos) (tCB (rAllP X.K) t) := by with_unfolding_all exact pcb_all hc hg hm ha he hpl
theorem pcb_int (hg : Gl X "int") (hm : X.mg "int" = none) (ha : PA X (e :: es) t) (he : starEach (e :: es) X.env = (false, eval e X.env) :: starEach es X.env) (hpl : (backTo pos (starEach es X.env)).any (·.1) = false) :
    PE X (.Call (.Name "int" p) (e :: es) [] pos) (tCB rIntP t) := pe_callTy call_intP hg hm boot_int' ha (by decide) (by decide) he hpl
theorem zcb_int (hg : Gl X "int") (hm : X.mg "int" = none) (ha : ZA X (e :: es) t) (he : starEach (e :: es) X.env = (false, eval e X.env) :: starEach es X.env) (hpl : (backTo pos (starEach es X.env)).any (·.1) = false) :
    ZE X (.Call (.Name "int" p) (e :: es) [] pos) (tCB rIntP t) := by with_unfolding_all exact pcb_int hg hm ha he hpl
theorem pcb_tuple (hg : Gl X "tuple") (hm : X.mg "tuple" = none) (ha : PA X (e :: es) t) (he : starEach (e :: es) X.env = (false, eval e X.env) :: starEach es X.env) (hpl : (backTo pos (starEach es X.env)).any (·.1) = false) :
    PE X (.Call (.Name "tuple" p) (e :: es) [] pos) (tCB (rTupP X.K) t) := pe_callTy call_tupP hg hm boot_tuple' ha (by decide) (by decide) he hpl
theorem zcb_tuple (hg : Gl X "tuple") (hm : X.mg "tuple" = none) (ha : ZA X (e :: es) t) (he : starEach (e :: es) X.env = (false, eval e X.env) :: starEach es X.env) (hpl : (backTo pos (starEach es X.env)).any (·.1) = false) :
    ZE X (.Call (.Name "tuple" p) (e :: es) [] pos) (tCB (rTupP X.K) t) := by with_unfolding_all exact pcb_tuple hg hm ha he hpl
theorem pcb_list (hg : Gl X "list") (hm : X.mg "list" = none) (ha : PA X (e :: es) t) (he : starEach (e :: es) X.env = (false, eval e X.env) :: starEach es X.env) (hpl : (backTo pos (starEach es X.env)).any (·.1) = false) :
    PE X (.Call (.Name "list" p) (e :: es) [] pos) (tCB (rLstP X.K) t) := pe_callTy call_lstP hg hm boot_list' ha (by decide) (by decide) he hpl
theorem zcb_list (hg : Gl X "list") (hm : X.mg "list" = none) (ha : ZA X (e :: es) t) (he : starEach (e :: es) X.env = (false, eval e X.env) :: starEach es X.env) (hpl : (backTo pos (starEach es X.env)).any (·.1) = false) :
    ZE X (.Call (.Name "list" p) (e :: es) [] pos) (tCB (rLstP X.K) t) := by with_unfolding_all exact pcb_list hg hm ha he hpl
theorem pty_int (hg : Gl X "int") (hm : X.mg "int" = none) : PE X (.Name "int" pos) (tC (.ty "int")) := pe_ty hg hm boot_int' (by decide) (by decide)
theorem zty_int (hg : Gl X "int") (hm : X.mg "int" = none) : ZE X (.Name "int" pos) (tC (.ty "int")) := by with_unfolding_all exact pty_int hg hm
theorem pty_bool (hg : Gl X "bool") (hm : X.mg "bool" = none) : PE X (.Name "bool" pos) (tC (.ty "bool")) := pe_ty hg hm boot_bool' (by decide) (by decide)
theorem zty_bool (hg : Gl X "bool") (hm : X.mg "bool" = none) : ZE X (.Name "bool" pos) (tC (.ty "bool")) := by with_unfolding_all exact pty_bool hg hm
theorem pty_tuple (hg : Gl X "tuple") (hm : X.mg "tuple" = none) : PE X (.Name "tuple" pos) (tC (.ty "tuple")) := pe_ty hg hm boot_tuple' (by decide) (by decide)
theorem zty_tuple (hg : Gl X "tuple") (hm : X.mg "tuple" = none) : ZE X (.Name "tuple" pos) (tC (.ty "tuple")) := by with_unfolding_all exact pty_tuple hg hm
end
end L2
set_option Elab.async false
set_option linter.all false
set_option maxRecDepth 100000
set_option maxHeartbeats 4000000
namespace L2
open PySem PySem.Spec PyProof.Rows
end L2
set_option Elab.async false
set_option linter.all false
set_option maxRecDepth 100000
set_option maxHeartbeats 4000000
namespace L2
open PySem PySem.Spec PyProof.Rows
section
variable {X : Cx}
theorem Inv.moved {wr : List Addr} {pins : List (Addr × Obj)} {σ : St} {H : Hp} {s s' : Shared} {h2 : Heap} {t2 : Nat} (I : Inv X pins σ H s) (m : Moved wr (fun a b => b = a) { s with heap := h2, toks := t2 } s') (hk : ∀ b o, s.heap.get? b = some o → b ∉ wr ∧ h2.get? b = some o) : Inv X pins σ H s' := by
  have e : s' = { s with heap := s'.heap, toks := s'.toks } := by
    obtain ⟨_, h2, h3, h4, _⟩ := m
    cases s'
    simp only at h2 h3 h4
    subst h2 h3 h4
    rfl
  rw [e]
  exact I.kept fun b o q => m.heap b o (hk b o q).1 (hk b o q).2
noncomputable def rSumP (K : PySem.W.Frag) : List V → Hp → VK → Prop := fun xs H Q => match xs with
  | [.ref p] => ∃ ns : List Int, (SqL K H p (ns.map V.int) ∨ H p = some (.tup (ns.map V.int))) ∧ Q (.int ns.sum) H
  | _ => False
theorem preSum_ext {f g : Nat → Int} : ∀ n, (∀ i, i < n → f i = g i) → preSum f n = preSum g n
  | 0, _ => rfl
  | n + 1, h => by
    show preSum f n + f n = preSum g n + g n
    rw [preSum_ext n fun i hi => h i (by omega), h n (by omega)]
theorem preSum_succ (f : Nat → Int) : ∀ n, preSum f (n + 1) = f 0 + preSum (fun i => f (i + 1)) n
  | 0 => by show (0 : Int) + f 0 = f 0 + 0; omega
  | n + 1 => by
    show preSum f (n + 1) + f (n + 1) = f 0 + (preSum (fun i => f (i + 1)) n + f (n + 1))
    rw [preSum_succ f n]; omega
theorem preSum_list : ∀ ns : List Int, preSum (fun i => ns.getD i 0) ns.length = ns.sum
  | [] => rfl
  | n :: r => by
    rw [List.length_cons, preSum_succ, List.sum_cons]
    have e : preSum (fun i => (n :: r).getD (i + 1) 0) r.length = preSum (fun i => r.getD i 0) r.length := preSum_ext _ fun i _ => by simp
    rw [e, preSum_list r]
    rfl
theorem ints_at {ns : List Int} {its : List Value} (rv : Vals (ns.map V.int) its) {i : Nat} {v : Value} (h : its.toArray[i]? = some v) : ∃ t, v = .int (ns.getD i 0) t := by
  have h' : its[i]? = some v := by simpa using h
  have hl : its.length = ns.length := by rw [← rv.length, List.length_map]
  have hi : i < ns.length := by rw [← hl]; exact (List.getElem?_eq_some_iff.mp h').1
  obtain ⟨w', e1, t, e2⟩ := rv.get (i := i) (x := .int ns[i]) (by rw [List.getElem?_map, List.getElem?_eq_getElem hi]; rfl)
  rw [h'] at e1
  cases e1
  refine ⟨t, ?_⟩
  rw [e2, List.getD_eq_getElem?_getD, List.getElem?_eq_getElem hi]
  rfl
theorem call_sumP (hc : X.calm = true) : CallR X (.builtin "sum") (rSumP X.K) := by
  intro pins s σ H xs us Q I r h
  unfold rSumP at h
  split at h
  · rename_i p
    obtain ⟨ns, hq, q⟩ := h
    obtain ⟨u, rfl, rx⟩ := vals1 r
    cases rx
    have hh : X.A.in1.handled = none := I.ok.hd hc
    rcases hq with hq | hq
    · obtain ⟨its, rv, pl, hz⟩ := I.list hq
      have hlt : p < s.heap.objs.size := by
        obtain ⟨_, e, _⟩ := pl.isList
        exact Heap.lt_size e
      refine call_sum_walkAnyS (wpAny_pyIter_list pl.isList ?_)
      refine ⟨s.heap.objs.size, _, _, _, _, _, _, fun i => ns.getD i 0, rfl, (Walks.list hh s.heap.objs.size p (Nat.ne_of_lt hlt) its.toArray).toS, ⟨⟨_, Heap.get?_push_size _ rfl, rfl, rfl⟩, pl.isList.push _⟩, ?_, fun i v hv => ints_at rv hv, fun s' t' m => ?_⟩
      · intro b hb
        rw [Heap.size_push]
        rcases List.mem_cons.mp hb with rfl | hb
        · exact Nat.lt_succ_self _
        · rcases List.mem_cons.mp hb with rfl | hb
          · exact Nat.lt_succ_of_lt hlt
          · cases hb
      · have I1 : Inv X pins σ H s' := I.moved m fun b o e => ⟨by simpa using Nat.ne_of_lt (Heap.lt_size e), Heap.get?_push_of_some _ e⟩
        refine ⟨.int _, H, I1, ⟨t', rfl⟩, ?_⟩
        rw [List.size_toArray, ← rv.length, List.length_map, preSum_list]
        exact q
    · obtain ⟨its, rv, pl, hz⟩ := I.tuple (SqT.of hq)
      have hlt : p < s.heap.objs.size := pl.lt
      refine call_sum_walkAnyS (wpAny_pyIter_tuple (show s.heap.IsTuple p its.toArray from pl) ?_)
      refine ⟨s.heap.objs.size, _, _, _, _, _, _, fun i => ns.getD i 0, rfl, (Walks.tuple hh s.heap.objs.size p (Nat.ne_of_lt hlt) its.toArray).toS, ⟨⟨_, Heap.get?_push_size _ rfl, rfl, rfl⟩, ?_⟩, ?_, fun i v hv => ints_at rv hv, fun s' t' m => ?_⟩
      · exact IsTup.keeps pl fun b o e => Heap.get?_push_of_some _ e
      · intro b hb
        rw [Heap.size_push]
        rcases List.mem_cons.mp hb with rfl | hb
        · exact Nat.lt_succ_self _
        · rcases List.mem_cons.mp hb with rfl | hb
          · exact Nat.lt_succ_of_lt hlt
          · cases hb
      · have I1 : Inv X pins σ H s' := I.moved m fun b o e => ⟨by simpa using Nat.ne_of_lt (Heap.lt_size e), Heap.get?_push_of_some _ e⟩
        refine ⟨.int _, H, I1, ⟨t', rfl⟩, ?_⟩
        rw [List.size_toArray, ← rv.length, List.length_map, preSum_list]
        exact q
  · exact h.elim
theorem noFill_tuple_mul : fillsNumberSlot (.type "tuple") "mul" = pure false :=
  PySem.fillsNumberSlot_seq (id := "tuple.__mul__") (r := some (.builtin "tuple.__rmul__")) F.slot_tuple_mul.lookup (by decide +kernel) F.slot_tuple_rmul.lookup (by decide +kernel)
theorem repeat_tuple : seqRepeat? (.type "tuple") = pure (some (.builtin "tuple.__mul__")) := by
  unfold seqRepeat?
  rw [PySem.seqSlot_of (T := "tuple") (name := "__mul__") (id := "tuple.__mul__") F.slot_tuple_mul.lookup (by decide +kernel), PySem.seqSlot_of (T := "tuple") (name := "__rmul__") (id := "tuple.__rmul__") F.slot_tuple_rmul.lookup (by decide +kernel)]
  rfl

theorem int_rmul_tuple (a : Int) (t : Tok) (l : Addr) (items : Array Value) (n : Nat) :
    Meets (Builtin.«int.__rmul__» ⟨[.int a t, .ref l], []⟩) (fun _ R s => s.heap.get? l = some { cls := .type "tuple", dict := none, data := .seq items n, slots := #[] } ∧ R (.ok (.ret Value.notImplemented)) s) :=
  .of_wp fun prog w A R s h => by obtain ⟨hp, g, d, tk, os⟩ := s; obtain ⟨hl, h⟩ := h; wp_walk; exact ⟨_, rfl, h⟩
theorem tuple_mul_same (l : Addr) (items : Array Value) (n : Nat) (x : Int) (u : Tok) (h1 : (decide (x < -(2 ^ 63)) || decide (x ≥ 2 ^ 63)) = false) (h2 : (items.isEmpty || x == 1) = true) :
    Meets (Builtin.«tuple.__mul__» ⟨[.ref l, .int x u], []⟩) (fun _ R s => s.heap.get? l = some { cls := .type "tuple", dict := none, data := .seq items n, slots := #[] } ∧ R (.ok (.ret (.ref l))) s) :=
  .of_wp fun prog w A R s h => by
    obtain ⟨hp, g, d, tk, os⟩ := s; obtain ⟨hl, h⟩ := h
    wp_walk; refine wpAny_ite_false (by rw [h1]; rfl) ?_; wp_walk; exact ⟨_, rfl, h⟩
theorem tuple_mul_none (l : Addr) (items : Array Value) (n : Nat) (x : Int) (u : Tok) (h1 : (decide (x < -(2 ^ 63)) || decide (x ≥ 2 ^ 63)) = false) (h2 : (items.isEmpty || x == 1) = false) (h3 : (decide (x ≤ 0) || items.isEmpty) = true) :
    Meets (Builtin.«tuple.__mul__» ⟨[.ref l, .int x u], []⟩) (fun _ R s => s.heap.get? l = some { cls := .type "tuple", dict := none, data := .seq items n, slots := #[] } ∧ R (.ok (.ret (.ref s.heap.objs.size))) { s with heap := s.heap.push { cls := .type "tuple", data := .seq #[] } }) :=
  .of_wp fun prog w A R s h => by
    obtain ⟨hp, g, d, tk, os⟩ := s; obtain ⟨hl, h⟩ := h
    wp_walk; refine wpAny_ite_false (by rw [h1]; rfl) ?_; wp_walk; exact ⟨_, rfl, h⟩
theorem tuple_mul_many (l : Addr) (items : Array Value) (n : Nat) (x : Int) (u : Tok) (h1 : (decide (x < -(2 ^ 63)) || decide (x ≥ 2 ^ 63)) = false) (h2 : (items.isEmpty || x == 1) = false) (h3 : (decide (x ≤ 0) || items.isEmpty) = false) (h4 : decide ((items.size : Int) * x > (2 ^ 63 - 1) / 8) = false) (h5 : Builtin.Tuple.tupleTooMany ((items.size : Int) * x) = false) (hz : ((List.replicate x.toNat items).foldl (· ++ ·) #[]).size ≤ sizeLine) :
    Meets (Builtin.«tuple.__mul__» ⟨[.ref l, .int x u], []⟩) (fun _ R s => s.heap.get? l = some { cls := .type "tuple", dict := none, data := .seq items n, slots := #[] } ∧ R (.ok (.ret (.ref s.heap.objs.size))) { s with heap := s.heap.push { cls := .type "tuple", data := .seq ((List.replicate x.toNat items).foldl (· ++ ·) #[]) } }) :=
  .of_wp fun prog w A R s h => by
    obtain ⟨hp, g, d, tk, os⟩ := s; obtain ⟨hl, h⟩ := h
    wp_walk; refine wpAny_ite_false (by rw [h1]; rfl) ?_; wp_walk; refine wpAny_ite_false h4 ?_; wp_walk; exact ⟨_, rfl, h⟩
end
end L2
set_option Elab.async false
set_option linter.all false
set_option maxRecDepth 100000
set_option maxHeartbeats 4000000
namespace L2
open PySem PySem.Spec PyProof.Rows
section
variable {X : Cx}
noncomputable def rMulQ : R2 := fun x y H Q => match x, y with
  | .int i, .int j => IntMulOk i j ∧ Q (.int (i * j)) H
  | .ref a, .int k => (-(2 ^ 63) ≤ k ∧ k < 2 ^ 63) ∧ ((∃ xs, H a = some (.lst xs) ∧ xs.length * k.toNat ≤ sizeLine ∧ ∀ p, H p = none → Q (.ref p) (upd H p (.lst (List.replicate k.toNat xs).flatten))) ∨
      ∃ xs, H a = some (.tup xs) ∧ xs.length * k.toNat ≤ sizeLine ∧ ∀ r H', Same H H' → H' r = some (.tup (List.replicate k.toNat xs).flatten) → Q (.ref r) H')
  | _, _ => False
theorem op_mulQ : OpR X (binaryOp .Mult) rMulQ := by
  intro pins s σ H x y v u Q I rx ry h
  unfold rMulQ at h
  split at h
  · exact op_mulB pins s σ H _ _ v u Q I rx ry ⟨_, _, rfl, rfl, h⟩
  · obtain ⟨⟨hk1, hk2⟩, ⟨xs, h1, h4, q⟩ | ⟨xs, hH, hz, q⟩⟩ := h
    · exact op_rep pins s σ H _ _ v u Q I rx ry ⟨_, _, xs, rfl, rfl, h1, hk1, hk2, h4, q⟩
    rename_i l k
    cases rx
    obtain ⟨t, rfl⟩ := ry
    obtain ⟨z, its, r, n, e⟩ := I.hok l _ hH
    have hl : its.length = xs.length := r.length.symm
    have hemp : its.toArray.isEmpty = xs.isEmpty := by
      cases r <;> rfl
    have g1 : (decide (k < -(2 ^ 63)) || decide (k ≥ 2 ^ 63)) = false := by
      rw [Bool.or_eq_false_iff]
      exact ⟨decide_eq_false (by omega), decide_eq_false (by omega)⟩
    refine wpAny_binaryOp_repeat_ref (T := "tuple") (U := "int") (by decide) ⟨_, e, rfl⟩ (fun s' => typeIs_int s' k t) noFill_tuple_mul F.fills_int_mul F.slot_int_rmul repeat_tuple F.slot_int_index.lookup
      (call_meets F.slot_int_rmul (typeIs_int s k t) F.entry_int_rmul (F.args_int_rmul_2 _ _) (int_rmul_tuple k t l its.toArray n) ⟨e, rfl, ⟨_, e, rfl⟩, ?_⟩)
    by_cases c1 : (its.toArray.isEmpty || k == 1) = true
    · refine call_meets F.slot_tuple_mul ⟨_, e, rfl⟩ F.entry_tuple_mul (F.args_tuple_mul_2 _ _) (tuple_mul_same l its.toArray n k t g1 c1) ⟨e, ?_⟩
      refine ⟨.ref l, H, I, rfl, q l H (Same.refl H) ?_⟩
      rw [hH]
      rw [Bool.or_eq_true] at c1
      rcases c1 with c1 | c1
      · rw [hemp, List.isEmpty_iff] at c1
        subst c1
        have : (List.replicate k.toNat ([] : List V)).flatten = [] := by
          induction k.toNat with
          | zero => rfl
          | succ m ih => rw [List.replicate_succ, List.flatten_cons, ih]; rfl
        rw [this]
      · have : k = 1 := by simpa using c1
        subst this
        show some (HO.tup xs) = some (.tup (List.replicate 1 xs).flatten)
        simp
    · have c1' : (its.toArray.isEmpty || k == 1) = false := by simpa using c1
      have he : its.toArray.isEmpty = false := (Bool.or_eq_false_iff.mp c1').1
      by_cases c2 : k ≤ 0
      · refine call_meets F.slot_tuple_mul ⟨_, e, rfl⟩ F.entry_tuple_mul (F.args_tuple_mul_2 _ _) (tuple_mul_none l its.toArray n k t g1 c1' (by rw [decide_eq_true c2]; rfl)) ⟨e, ?_⟩
        have e0 : (List.replicate k.toNat xs).flatten = [] := by
          have : k.toNat = 0 := by omega
          rw [this]; rfl
        have I2 : Inv X pins σ (upd H s.heap.objs.size (.tup [])) { s with heap := s.heap.push { cls := .type "tuple", data := .seq #[] } } :=
          I.laid (t' := s.toks) (o := .tup []) (fun b ob q => Heap.get?_push_of_some _ q) (Nat.le_refl _) ⟨Nat.zero_le _, [], .nil, TupD.new _ _⟩
        exact ⟨.ref s.heap.objs.size, _, I2, rfl, q _ _ (Same.new (I.hok.fresh (Nat.le_refl _)) _) (by rw [e0]; exact upd_same)⟩
      · have hcast : (its.toArray.size : Int) * k = ((xs.length * k.toNat : Nat) : Int) := by
          rw [List.size_toArray, hl]
          have : k = (k.toNat : Int) := by omega
          conv => lhs; rw [this]
          norm_cast
        have hb : (sizeLine : Nat) ≤ (2 ^ 63 - 1) / 8 := by decide
        have g4 : decide ((its.toArray.size : Int) * k > (2 ^ 63 - 1) / 8) = false := by
          refine decide_eq_false ?_
          rw [hcast]
          omega
        have g5 : Builtin.Tuple.tupleTooMany ((its.toArray.size : Int) * k) = false := by
          unfold Builtin.Tuple.tupleTooMany
          rw [hcast]
          exact decide_eq_false (by omega)
        have f0 : List.foldl (fun x1 x2 => x1 ++ x2) #[] (List.replicate k.toNat its.toArray) = (List.replicate k.toNat its).flatten.toArray := by
          have := foldl_rep its k.toNat []
          rw [List.nil_append] at this
          exact this
        refine call_meets F.slot_tuple_mul ⟨_, e, rfl⟩ F.entry_tuple_mul (F.args_tuple_mul_2 _ _) (tuple_mul_many l its.toArray n k t g1 c1' (by rw [decide_eq_false c2, he]; rfl) g4 g5 (by rw [f0, List.size_toArray, len_rep, hl, Nat.mul_comm]; exact hz)) ⟨e, ?_⟩
        rw [f0]
        have I2 : Inv X pins σ (upd H s.heap.objs.size (.tup (List.replicate k.toNat xs).flatten)) { s with heap := s.heap.push { cls := .type "tuple", data := .seq (List.replicate k.toNat its).flatten.toArray } } :=
          I.laid (t' := s.toks) (o := .tup (List.replicate k.toNat xs).flatten) (fun b ob q => Heap.get?_push_of_some _ q) (Nat.le_refl _) ⟨by rw [len_rep, Nat.mul_comm]; exact hz, _, r.rep k.toNat, TupD.new _ _⟩
        exact ⟨.ref s.heap.objs.size, _, I2, rfl, q _ _ (Same.new (I.hok.fresh (Nat.le_refl _)) _) upd_same⟩
  · exact h.elim
theorem size_nonneg {a b c : Int} (hc : c ≠ 0) : 0 ≤ Builtin.Range.rangeSize a b c := by
  unfold Builtin.Range.rangeSize
  split
  · split
    · have := Int.ediv_nonneg (a := b - a - 1) (b := c) (by omega) (by omega); omega
    · omega
  · split
    · have := Int.ediv_nonneg (a := a - b - 1) (b := -c) (by omega) (by omega); omega
    · omega
end
section
variable {X : Cx} {e : Expr} {es : List Expr} {t : TA} {p pos : Pos}
theorem boot_sum' : bootBuiltins "sum" = some (.builtin "sum") := by decide +kernel
theorem boot_abs' : bootBuiltins "abs" = some (.builtin "abs") := by decide +kernel
theorem pcb_sum (hc : X.calm = true) (hg : Gl X "sum") (hm : X.mg "sum" = none) (ha : PA X (e :: es) t) (he : starEach (e :: es) X.env = (false, eval e X.env) :: starEach es X.env) (hpl : (backTo pos (starEach es X.env)).any (·.1) = false) :
    PE X (.Call (.Name "sum" p) (e :: es) [] pos) (tCB (rSumP X.K) t) := pe_callB (call_sumP hc) hg hm boot_sum' ha (by decide) (by decide) he hpl
theorem zcb_sum (hc : X.calm = true) (hg : Gl X "sum") (hm : X.mg "sum" = none) (ha : ZA X (e :: es) t) (he : starEach (e :: es) X.env = (false, eval e X.env) :: starEach es X.env) (hpl : (backTo pos (starEach es X.env)).any (·.1) = false) :
    ZE X (.Call (.Name "sum" p) (e :: es) [] pos) (tCB (rSumP X.K) t) := by with_unfolding_all exact pcb_sum hc hg hm ha he hpl
noncomputable def rAbsP : List V → Hp → VK → Prop := fun xs H Q => match xs with
  | [.int i] => Q (.int (if i < 0 then -i else i)) H
  | _ => False
theorem call_absP : CallR X (.builtin "abs") rAbsP := call_abs.imp fun xs H Q h => by
  unfold rAbsP at h
  split at h
  · exact ⟨_, rfl, h⟩
  · exact h.elim
theorem pcb_abs (hg : Gl X "abs") (hm : X.mg "abs" = none) (ha : PA X (e :: es) t) (he : starEach (e :: es) X.env = (false, eval e X.env) :: starEach es X.env) (hpl : (backTo pos (starEach es X.env)).any (·.1) = false) :
    PE X (.Call (.Name "abs" p) (e :: es) [] pos) (tCB rAbsP t) := pe_callB call_absP hg hm boot_abs' ha (by decide) (by decide) he hpl
theorem zcb_abs (hg : Gl X "abs") (hm : X.mg "abs" = none) (ha : ZA X (e :: es) t) (he : starEach (e :: es) X.env = (false, eval e X.env) :: starEach es X.env) (hpl : (backTo pos (starEach es X.env)).any (·.1) = false) :
    ZE X (.Call (.Name "abs" p) (e :: es) [] pos) (tCB rAbsP t) := by with_unfolding_all exact pcb_abs hg hm ha he hpl
noncomputable def rAppP : V → List V → Hp → VK → Prop := fun x vs H Q => match x, vs with
  | .ref l, [y] => ∃ xs, H l = some (.lst xs) ∧ xs.length < sizeLine ∧ Q .non (upd H l (.lst (xs ++ [y])))
  | _, _ => False
theorem mt_appP : MtM X "list.append" rAppP := fun pins s σ H x vs v us Q I rx rv h => by
  unfold rAppP at h
  split at h
  · obtain ⟨xs, h1, h2, q⟩ := h
    exact mt_append pins s σ H _ _ v us Q I rx rv ⟨_, xs, _, rfl, rfl, h1, h2, q⟩
  · exact h.elim
variable {o : Expr} {to : TE} {apos cpos : Pos}
theorem pm_append (ho : PE X o to) (ha : PA X (e :: es) t) (hbase : attributeBase o "append" X.env (eval o X.env) = eval o X.env := by rfl)
    (hfew : ((backTo cpos (starEach (e :: es) X.env)).all (fun x => !x.1) && (backToKw cpos (keywordEach [] X.env)).all (fun x => x.1.isSome)
      && decide ((e :: es).length + ([] : List Keyword).length + (if ([] : List Keyword).isEmpty then 0 else 1) < 30)) = true := by rfl)
    (hline : (apos.endLine == cpos.line) = true := by rfl) (hs : starEach (e :: es) X.env = (false, eval e X.env) :: starEach es X.env := by rfl) (hplain : (backTo cpos (starEach es X.env)).any (·.1) = false := by rfl) :
    PE X (.Call (.Attribute o "append" apos) (e :: es) [] cpos) (fun σ H Q => to σ H fun x H1 => tyV X.K "list" x H1 ∧ t σ H1 fun xs H2 => rAppP x xs H2 Q) :=
  pe_bm PySem.F.plainAttrs_list PySem.F.slot_list_append PySem.F.type_list_append mt_appP ho ha hbase hfew hline hs hplain
theorem zm_append (ho : ZE X o to) (ha : ZA X (e :: es) t) (hbase : attributeBase o "append" X.env (eval o X.env) = eval o X.env := by rfl)
    (hfew : ((backTo cpos (starEach (e :: es) X.env)).all (fun x => !x.1) && (backToKw cpos (keywordEach [] X.env)).all (fun x => x.1.isSome)
      && decide ((e :: es).length + ([] : List Keyword).length + (if ([] : List Keyword).isEmpty then 0 else 1) < 30)) = true := by rfl)
    (hline : (apos.endLine == cpos.line) = true := by rfl) (hs : starEach (e :: es) X.env = (false, eval e X.env) :: starEach es X.env := by rfl) (hplain : (backTo cpos (starEach es X.env)).any (·.1) = false := by rfl) :
    ZE X (.Call (.Attribute o "append" apos) (e :: es) [] cpos) (fun σ H Q => to σ H fun x H1 => tyV X.K "list" x H1 ∧ t σ H1 fun xs H2 => rAppP x xs H2 Q) := by with_unfolding_all exact pm_append ho ha hbase hfew hline hs hplain
theorem tyL {K : PySem.W.Frag} {H : Hp} {l : Addr} {xs : List V} (h : H l = some (.lst xs)) : tyV K "list" (.ref l) H := .inl ⟨rfl, xs, SqL.of h⟩
end
end L2
set_option Elab.async false
set_option linter.all false
set_option maxRecDepth 100000
set_option maxHeartbeats 4000000
namespace L2
open PySem PySem.Spec PyProof.Rows
theorem DatV.ints {H : Hp} {a : Addr} {ns : List Int} (e : H a = some (.tup (ns.map V.int))) : DatV H (.ref a) (.tuple (ns.map PyData.int)) := .tup e (DatAll.ints ns)
theorem Same.updN {H H' : Hp} {t : Addr} {o : HO} (y : Same H H') (h : H t = none) : Same H (upd H' t o) := fun b u e => by
  rw [upd_ne (ne_of_none e h)]
  exact y b u e
end L2
namespace L2
open PySem PySem.Spec PyProof.Rows
theorem canInts : ∀ ns : List Int, PyData.canLayAll0 (ns.map PyData.int) = true ∧ PyData.depthAll (ns.map PyData.int) ≤ 1
  | [] => ⟨by simp [PyData.canLayAll0], by simp [PyData.depthAll]⟩
  | n :: r => by
    obtain ⟨h1, h2⟩ := canInts r
    refine ⟨by simp only [List.map_cons, PyData.canLayAll0, PyData.canLay0, h1, Bool.and_self], ?_⟩
    simp only [List.map_cons, PyData.depthAll, PyData.depth]
    omega
theorem shaped_ints (ns : List Int) : SeqAt.shaped (.tuple (ns.map PyData.int)) = true := by
  obtain ⟨h1, h2⟩ := canInts ns
  unfold SeqAt.shaped
  rw [Bool.and_eq_true]
  exact ⟨by simp only [PyData.canLay0]; exact h1, decide_eq_true (by simp only [PyData.depth]; omega)⟩
theorem shaped_list_ints (ns : List Int) : SeqAt.shaped (.list (ns.map PyData.int)) = true := by
  obtain ⟨h1, h2⟩ := canInts ns
  unfold SeqAt.shaped
  rw [Bool.and_eq_true]
  exact ⟨by simp only [PyData.canLay0]; exact h1, decide_eq_true (by simp only [PyData.depth]; omega)⟩
theorem eqv_self {d : PyData} (h : SeqAt.shaped d = true) : PyData.eqv d d = true := SeqAt.eqv_refl d (SeqAt.canLay_of_shaped h)
end L2
namespace L2
open PySem PySem.Spec PyProof.Rows
theorem SqL.same {K : PySem.W.Frag} {H H' : Hp} {a : Addr} {xs : List V} (e : Same H H') (h : SqL K H a xs) : SqL K H' a xs := by
  rcases h with (h | ⟨o, h⟩) | h
  · exact .inl (.inl (e _ _ h))
  · exact .inl (.inr ⟨o, e _ _ h⟩)
  · exact .inr h
end L2
namespace L2
open PySem PySem.Spec PyProof.Rows
theorem while_by2 {c : TT} {tb : TS} {D : Ends} {σ : St} {H : Hp} (Pv : Nat → St → Hp → Prop) (m0 : Nat) (h0 : Pv m0 σ H)
    (hs : ∀ m σ H, Pv m σ H → c σ H fun b H1 => if b = true then ∃ N : St → Hp → Prop, (∀ σ' H', N σ' H' → ∃ m', m' < m ∧ Pv m' σ' H') ∧ tb { D with nx := N, ct := N, bk := D.nx } σ H1 else D.nx σ H1) : tWhile c tb D σ H := ⟨Pv, ⟨m0, h0⟩, hs⟩
end L2
set_option Elab.async false
set_option linter.all false
set_option maxRecDepth 100000
set_option maxHeartbeats 4000000
namespace L2
open PySem PySem.Spec PyProof.Rows
section
variable {X : Cx}
end
section
variable {X : Cx} {e : Expr} {es : List Expr} {t : TA} {o : Expr} {to : TE} {apos cpos : Pos}
end
end L2
namespace L2
open PySem PySem.Spec PyProof.Rows
end L2
namespace L2
open PySem PySem.Spec PyProof.Rows
section
variable {X : Cx} {e : Expr} {es : List Expr} {t : TA} {p pos : Pos} {K : PySem.W.Frag} {o : Expr} {to : TE} {apos cpos : Pos}
theorem pcb_len' (hg : Gl X "len") (hm : X.mg "len" = none) (ha : PA X (e :: es) t) (he : starEach (e :: es) X.env = (false, eval e X.env) :: starEach es X.env) (hpl : (backTo pos (starEach es X.env)).any (·.1) = false) (hK : X.K = K) :
    PE X (.Call (.Name "len" p) (e :: es) [] pos) (tCB (rLenP K) t) := by subst hK; exact pcb_len hg hm ha he hpl
theorem zcb_len' (hg : Gl X "len") (hm : X.mg "len" = none) (ha : ZA X (e :: es) t) (he : starEach (e :: es) X.env = (false, eval e X.env) :: starEach es X.env) (hpl : (backTo pos (starEach es X.env)).any (·.1) = false) (hK : X.K = K) :
    ZE X (.Call (.Name "len" p) (e :: es) [] pos) (tCB (rLenP K) t) := by with_unfolding_all exact pcb_len' hg hm ha he hpl hK
theorem pcb_tuple' (hg : Gl X "tuple") (hm : X.mg "tuple" = none) (ha : PA X (e :: es) t) (he : starEach (e :: es) X.env = (false, eval e X.env) :: starEach es X.env) (hpl : (backTo pos (starEach es X.env)).any (·.1) = false) (hK : X.K = K) :
    PE X (.Call (.Name "tuple" p) (e :: es) [] pos) (tCB (rTupP K) t) := by subst hK; exact pcb_tuple hg hm ha he hpl
theorem zcb_tuple' (hg : Gl X "tuple") (hm : X.mg "tuple" = none) (ha : ZA X (e :: es) t) (he : starEach (e :: es) X.env = (false, eval e X.env) :: starEach es X.env) (hpl : (backTo pos (starEach es X.env)).any (·.1) = false) (hK : X.K = K) :
    ZE X (.Call (.Name "tuple" p) (e :: es) [] pos) (tCB (rTupP K) t) := by with_unfolding_all exact pcb_tuple' hg hm ha he hpl hK
theorem pcb_sum' (hc : X.calm = true) (hg : Gl X "sum") (hm : X.mg "sum" = none) (ha : PA X (e :: es) t) (he : starEach (e :: es) X.env = (false, eval e X.env) :: starEach es X.env) (hpl : (backTo pos (starEach es X.env)).any (·.1) = false) (hK : X.K = K) :
    PE X (.Call (.Name "sum" p) (e :: es) [] pos) (tCB (rSumP K) t) := by subst hK; exact pcb_sum hc hg hm ha he hpl
theorem zcb_sum' (hc : X.calm = true) (hg : Gl X "sum") (hm : X.mg "sum" = none) (ha : ZA X (e :: es) t) (he : starEach (e :: es) X.env = (false, eval e X.env) :: starEach es X.env) (hpl : (backTo pos (starEach es X.env)).any (·.1) = false) (hK : X.K = K) :
    ZE X (.Call (.Name "sum" p) (e :: es) [] pos) (tCB (rSumP K) t) := by with_unfolding_all exact pcb_sum' hc hg hm ha he hpl hK
end
end L2
namespace L2
open PySem
noncomputable def forBody : Stmt → List Stmt
  | .For _ _ b _ _ => b
  | .While _ b _ _ => b
  | _ => []
end L2
set_option Elab.async false
set_option linter.all false
set_option maxRecDepth 100000
set_option maxHeartbeats 4000000
namespace L2
open PySem PySem.Spec PyProof.Rows
section
variable {prog : Program} {w : World} {A : Around} {E : Value → Shared → Prop} {s : Shared}
theorem nextOf_tup_item {it t : Addr} {i : Nat} {items : Array Value} {x : Value} {Q : Value → Shared → Prop} (hit : s.heap.IsTupleIter it t i) (ht : s.heap.IsTuple t items) (hx : items[i]? = some x)
    (hQ : ∀ h', h'.IsTupleIter it t (i + 1) → Heap.SameBut it s.heap h' → Q x { s with heap := h' }) : wpAny (model prog w) A (Builtin.SmallTypes.nextOf (.ref it)) Q E s := by
  obtain ⟨ot, h1, c1, d1⟩ := id hit
  obtain ⟨og, h2, c2, n2, d2⟩ := ht
  unfold Builtin.SmallTypes.nextOf
  refine wpAny_bind (wpAny_callSpecial?_slot hit.typeIs F.slot_tuple_iterator_next (wpAny_call_entry F.slot_tuple_iterator_next hit.typeIs F.entry_tuple_iterator_next ?_ (F.args_tuple_iterator_next_1 _)))
  refine wpAny_bind (m := field (.ref it) 0) (wpAny_field h1 d1 (x := .ref t) rfl ?_)
  have hnn : ¬ ((Value.ref t == Value.none) = true) := fun z => Bool.false_ne_true z
  show wpAny _ _ (if (Value.ref t == Value.none) = true then _ else _) _ _ _
  rw [if_neg hnn]
  refine wpAny_bind (m := field (.ref it) 1) (wpAny_field h1 d1 (x := .int i 0) rfl (wpAny_bind (m := seqItems? (.ref t)) (wpAny_seqItems h2 d2 ?_)))
  simp only [Int.toNat_natCast, hx]
  refine wpAny_bind (wpAny_setField h1 d1 (by simp) (wpAny_pure ⟨_, rfl, wpAny_pure (hQ _ ⟨_, Heap.get?_update_self _ h1 (Obj.isFreed_of_fields (Obj.data_mapFields d1 _)), (Obj.cls_mapFields ..).trans c1, ?_⟩ (Heap.SameBut.update ..))⟩))
  rw [Obj.data_mapFields d1]
  simp [rawInt]
theorem nextOf_tup_end {it t : Addr} {i : Nat} {items : Array Value} {Q : Value → Shared → Prop} (hh : A.handled = none) (hit : s.heap.IsTupleIter it t i) (ht : s.heap.IsTuple t items) (hx : items[i]? = none)
    (hE : ∀ h' e, Heap.ExtBut it s.heap h' → (∃ o, h'.get? e = some o ∧ o.cls = .type "StopIteration") → E (.ref e) { s with heap := h' }) : wpAny (model prog w) A (Builtin.SmallTypes.nextOf (.ref it)) Q E s := by
  obtain ⟨ot, h1, c1, d1⟩ := id hit
  obtain ⟨og, h2, c2, n2, d2⟩ := ht
  unfold Builtin.SmallTypes.nextOf
  refine wpAny_bind (wpAny_callSpecial?_slot hit.typeIs F.slot_tuple_iterator_next (wpAny_call_entry F.slot_tuple_iterator_next hit.typeIs F.entry_tuple_iterator_next ?_ (F.args_tuple_iterator_next_1 _)))
  refine wpAny_bind (m := field (.ref it) 0) (wpAny_field h1 d1 (x := .ref t) rfl ?_)
  have hnn : ¬ ((Value.ref t == Value.none) = true) := fun z => Bool.false_ne_true z
  show wpAny _ _ (if (Value.ref t == Value.none) = true then _ else _) _ _ _
  rw [if_neg hnn]
  refine wpAny_bind (m := field (.ref it) 1) (wpAny_field h1 d1 (x := .int i 0) rfl (wpAny_bind (m := seqItems? (.ref t)) (wpAny_seqItems h2 d2 ?_)))
  simp only [Int.toNat_natCast, hx]
  refine wpAny_bind (wpAny_rule (wpAny_bind (wpAny_setField h1 d1 (by simp) (wpAny_bind (m := newExc (.type "StopIteration") []) ?_))))
  simp only [newExc, newTuple, raiseNew]
  refine wpAny_bind (wpAny_newObj_type (wpAny_bind (m := firstArgMember _ _) (wpAny_of_eq (a := Value.none) (by first | rfl | (simp only [firstArgMember]; rfl)) (wpAny_newObj_type (wpAny_bind (wpAny_handled ?_)) (by size_fits)))) (by size_fits))
  first | rw [show A.in1.handled = none from hh] | rw [hh]
  exact wpAny_bind (wpAny_pure (wpAny_throw (hE _ _ (((Heap.SameBut.update ..).extBut.push _).push _) ⟨_, Heap.get?_push_size _ rfl, rfl⟩)))
end
section
variable {X : Cx} {pins : List (Addr × Obj)} {σ : St} {H : Hp} {s : Shared}
theorem Inv.turned2 {h' : Heap} {t' : Nat} {e it : Addr} (I : Inv X pins σ H s) (hk : ∀ b o, b ≠ e → b ≠ it → s.heap.get? b = some o → h'.get? b = some o) (fe : FpOk X pins H e) (fi : FpOk X pins H it) : Inv X pins σ H { s with heap := h', toks := t' } := by
  have ne : ∀ {b}, b ∉ [e, it] → b ≠ e ∧ b ≠ it := fun {b} hb => ⟨fun z => hb (by simp [z]), fun z => hb (by simp [z])⟩
  refine I.step (g' := s.gens) (d' := s.drawn) (ch := [e, it]) (fun b hb => ?_) (fun b o _ _ hb q _ => hk b o (ne hb).1 (ne hb).2 q) (fun b o _ _ hb q _ => ⟨o.slots, hk b o (ne hb).1 (ne hb).2 q⟩) (fun b o _ _ n => n) (fun b o hb q => ⟨o, hk b o (ne hb).1 (ne hb).2 q⟩)
    (fun _ _ q => q) (fun _ _ _ q => q) (fun b ps q => ⟨#[], by rw [q]; simp⟩) (fun m hm => ?_) (fun b u q => ?_) I.bare
  · rcases List.mem_cons.mp hb with rfl | hb
    · exact ⟨fe.2.2.2.1, fe.2.1, fe.2.2.2.2.1, fe.2.2.2.2.2⟩
    · have : b = it := by simpa using hb
      subst this
      exact ⟨fi.2.2.2.1, fi.2.1, fi.2.2.2.2.1, fi.2.2.2.2.2⟩
  · obtain ⟨o, es, ep, ho, r⟩ := hm
    exact ⟨o, es, ep, hk _ o (Ne.symm fe.2.1) (Ne.symm fi.2.1) ho, r⟩
  · refine (I.hok b u q).stay (fun c v hc r => ?_) (fun c r => r) fun c xs r => r
    have nn : ∀ x, FpOk X pins H x → c ≠ x := fun x fx z => by
      subst z
      rcases hc with rfl | hc
      · rw [fx.1] at q; cases q
      · rw [fx.1] at hc; cases hc
    exact hk c v (nn e fe) (nn it fi) r
theorem Inv.trackT {D : Addr} {ys : List V} {its : List Value} (I : Inv X pins σ H s) (rv : Vals ys its) (hz : ys.length ≤ sizeLine) (e : TupD s.heap D its.toArray) (hd : FpOk X pins H D) : Inv X pins σ (upd H D (.tup ys)) s := by
  obtain ⟨h1, h2, h3, h4, h5, h6⟩ := hd
  have nD : ∀ b u, H b = some u → b ≠ D := fun b u q z => by rw [z, h1] at q; cases q
  refine I.step (s := s) (h' := s.heap) (g' := s.gens) (t' := s.toks) (d' := s.drawn) (ch := [D]) (fun b hb => ?_) (fun b o _ _ _ q _ => q) (fun b o _ _ _ q _ => ⟨o.slots, q⟩) (fun b o hb _ q => ?_) (fun b o _ q => ⟨o, q⟩)
    (fun b xs q => (upd_ne (nD b _ q)).trans q) (fun b o u q => (upd_ne (nD b _ q)).trans q) (fun b ps q => ⟨#[], by rw [upd_ne (nD b _ q), q]; simp⟩) (fun m hm => hm) (fun b u q => ?_) I.bare
  · have : b = D := by simpa using hb
    subst this
    exact ⟨h4, h2, h5, h6⟩
  · rw [upd_ne (fun z => hb (by simp [z]))]; exact q
  · by_cases hb : b = D
    · subst hb
      rw [upd_same] at q
      cases q
      exact ⟨hz, its, rv, e⟩
    · rw [upd_ne hb] at q
      exact (I.hok b u q).stay (fun c v _ r => r) (fun c r => (upd_ne (nD c _ r)).trans r) fun c xs r => (upd_ne (nD c _ r)).trans r
theorem boot_enumerate' : bootBuiltins "enumerate" = some (.type "enumerate") := by decide +kernel
noncomputable def rngO (p : Addr) (i j c : Int) : HO := .ext fun h => ∃ t u v, IsRange h p i j c t u v
theorem rng_laid {pins : List (Addr × Obj)} {σ : St} {H : Hp} {s : Shared} {i j c : Int} {t u v : Tok} {tk : Nat} (I : Inv X pins σ H s) : Inv X pins σ (upd H s.heap.objs.size (rngO s.heap.objs.size i j c)) { s with heap := s.heap.push { cls := .type "range", data := .fields #[.int i t, .int j u, .int c v] }, toks := tk } := by
  refine I.laid (fun b o e => Heap.get?_push_of_some _ e) (Nat.le_refl _) ⟨⟨t, u, v, IsRange.new ..⟩, ⟨_, Heap.get?_push_size _ rfl⟩, ?_⟩
  rintro h1 h2 ⟨t, u, v, e⟩ k
  exact ⟨t, u, v, k _ e⟩
noncomputable def rLstR : List V → Hp → VK → Prop := fun vs H Q => match vs with
  | [.ref p] => ∃ i j c, H p = some (rngO p i j c) ∧ Builtin.Range.small i j c = true ∧ c ≠ 0 ∧ (Builtin.Range.rangeSize i j c).toNat ≤ 1000000 ∧ ∀ l, H l = none → Q (.ref l) (upd H l (.lst (((List.range (Builtin.Range.rangeSize i j c).toNat).map fun (k : Nat) => i + (k : Int) * c).map V.int)))
  | _ => False
theorem vals_of_items {F : Nat → Int} : ∀ (n : Nat) {us : List Value}, us.length = n → (∀ (j : Nat) (v : Value), us[j]? = some v → ∃ t, v = .int (F j) t) → Vals (((List.range n).map F).map V.int) us := by
  intro n us hl h
  have : ∀ (us : List Value) (G : Nat → Int), (∀ (j : Nat) (v : Value), us[j]? = some v → ∃ t, v = .int (G j) t) → Vals (((List.range us.length).map G).map V.int) us := by
    intro us
    induction us with
    | nil => intro G _; exact .nil
    | cons u r ih =>
      intro G hG
      rw [List.length_cons, List.range_succ_eq_map, List.map_cons, List.map_cons]
      refine .cons (hG 0 u rfl) ?_
      have := ih (fun j => G (j + 1)) fun j v e => hG (j + 1) v (by simpa using e)
      have e : ((List.range r.length).map Nat.succ).map G = (List.range r.length).map (fun j => G (j + 1)) := by rw [List.map_map]; rfl
      rw [e]
      exact this
  have := this us F h
  rw [hl] at this
  exact this
theorem call_lrng (hc : X.calm = true) : CallR X (.type "list") rLstR := by
  intro pins s σ H xs us Q I r h
  unfold rLstR at h
  split at h
  · rename_i p
    obtain ⟨i, j, c, hp, hs, hc0, hn, q⟩ := h
    obtain ⟨u, rfl, rx⟩ := vals1 r
    cases rx
    obtain ⟨⟨t, u, v, hr⟩, _⟩ := I.hok p _ hp
    have h0 := size_nonneg (a := i) (b := j) hc0
    refine call_list_range (I.ok.hd hc) hr hs (n := (Builtin.Range.rangeSize i j c).toNat) (by omega) (by omega) fun h' tk acc' c' hk hS hit => ?_
    have rv : Vals (((List.range (Builtin.Range.rangeSize i j c).toNat).map fun (k : Nat) => i + (k : Int) * c).map V.int) acc'.toList := vals_of_items _ (by rw [Array.length_toList]; exact hit.1) fun k v e => hit.2 k v (by simpa using e)
    refine ⟨.ref s.heap.objs.size, _, I.laid (t' := tk) hk (Nat.le_refl _) (show ObjOk X.prog X.w _ h' _ (.lst (((List.range (Builtin.Range.rangeSize i j c).toNat).map fun (k : Nat) => i + (k : Int) * c).map V.int)) from ⟨?_, acc'.toList, c', rv, hS⟩), rfl, q _ (I.hok.fresh (Nat.le_refl _))⟩
    rw [List.length_map, List.length_map, List.length_range, sizeLine_eq]
    omega
  · exact h.elim
theorem boot_list'' : bootBuiltins "list" = some (.type "list") := by decide +kernel
variable {e : Expr} {es : List Expr} {t : TA} {p pos : Pos}
theorem pcb_lrange (hc : X.calm = true) (hg : Gl X "list") (hm : X.mg "list" = none) (ha : PA X (e :: es) t) (he : starEach (e :: es) X.env = (false, eval e X.env) :: starEach es X.env) (hpl : (backTo pos (starEach es X.env)).any (·.1) = false) :
    PE X (.Call (.Name "list" p) (e :: es) [] pos) (tCB rLstR t) := pe_callTy (call_lrng hc) hg hm boot_list'' ha (by decide) (by decide) he hpl
theorem zcb_lrange (hc : X.calm = true) (hg : Gl X "list") (hm : X.mg "list" = none) (ha : ZA X (e :: es) t) (he : starEach (e :: es) X.env = (false, eval e X.env) :: starEach es X.env) (hpl : (backTo pos (starEach es X.env)).any (·.1) = false) :
    ZE X (.Call (.Name "list" p) (e :: es) [] pos) (tCB rLstR t) := by with_unfolding_all exact pcb_lrange hc hg hm ha he hpl
end
end L2
set_option Elab.async false
set_option linter.all false
set_option maxRecDepth 100000
set_option maxHeartbeats 4000000
namespace L2
open PySem PySem.Spec PyProof.Rows
section
variable {X : Cx} {pins : List (Addr × Obj)} {σ : St} {H : Hp} {s : Shared}
end
section
variable {X : Cx}
end
end L2
set_option Elab.async false
set_option linter.all false
set_option maxRecDepth 100000
set_option maxHeartbeats 4000000
namespace L2
open PySem PySem.Spec PyProof.Rows
section
variable {M : Model} {A : Around} {E : Value → Shared → Prop} {s : Shared}
theorem newEnv1 {scope : Scope} {globals : Addr} {cl : List (Str × Addr)} {qual : Str} {env : Env} {x : Str} {Q : Env → Shared → Prop}
    (hcl : ∀ n acc, cellsFrom n scope.names acc = (x, n) :: acc) (hpc : ∀ h : Heap, pushCells h scope.names = h.push { cls := .type "cell", data := .cell none })
    (h : Q { scope, locals := s.heap.objs.size, globals, cells := (x, s.heap.objs.size + 1) :: cl, qual, func := none, code := env.code, frame := env.frame, builtins := env.builtins }
      { s with heap := (s.heap.push { cls := .type "dict", data := .dict #[] }).push { cls := .type "cell", data := .cell none } }) :
    wpAny M A (newFunctionEnv scope globals cl [] qual none .none (some env)) Q E s := by
  simp only [newFunctionEnv, Option.isSome_some, if_true]
  refine wpAny_bind (wpAny_alloc ?_)
  refine wpAny_bind (wpAny_layCells _ (fun name kind cells => by cases hkc : kind == NameKind.cell <;> simp [hkc]) _ _ _ _ ?_)
  rw [hcl, hpc, show ({ s with heap := s.heap.push { cls := .type "dict", data := .dict #[] } } : Shared).heap.objs.size = s.heap.objs.size + 1 from Heap.size_push ..]
  rw [List.forIn_nil]
  exact wpAny_bind (wpAny_pure (wpAny_pure h))
end
noncomputable def cells1 (X : Cx) (x : Str) (scope : Scope) (C : Addr) : List (Str × Addr) := (x, C + 1) :: clsOf X.env scope.names []
noncomputable def cmpX1 (X : Cx) (x : Str) (nv : List Str) (ix : List (Str × Nat)) (scope : Scope) (C : Addr) (s₀ : Shared) (H₀ : Hp) (fp : List Addr) : Cx :=
  { X with N := nv ++ ix.map (·.1), s₀ := s₀, H₀ := H₀, env := { compEnvC scope (clsOf X.env scope.names []) C X.env with cells := cells1 X x scope C }, outer := X.stack, stack := X.stack, ex := fp, fn := fun y => y == x, pn := [], xe := fun _ _ => False }
structure CompOk1 (X : Cx) (x : Str) (nv : List Str) (ix : List (Str × Nat)) (scope : Scope) : Prop where
  kind : scope.kind = .function
  names : ∀ y ∈ scope.names, y.2 = .local → scope.names.lookup y.1 = some .local
  free : (scope.names.all fun y => !(y.2 == NameKind.free) || ((X.env.kindOf y.1 == some NameKind.cell || X.env.kindOf y.1 == some NameKind.free) && !(y.1 == x))) = true
  ix : (ix.all fun p => (scope.names.lookup p.1 == some NameKind.free) && (X.N[p.2]? == some p.1)) = true
  cl : ∀ n acc, cellsFrom n scope.names acc = (x, n) :: acc
  pc : ∀ h : Heap, pushCells h scope.names = h.push { cls := .type "cell", data := .cell none }
  own : (scope.names.all fun y => !(y.2 == NameKind.cell) || (y.1 == x)) = true
section
variable {X : Cx} {x : Str} {nv : List Str} {ix : List (Str × Nat)} {scope : Scope} {pins : List (Addr × Obj)} {σ : St} {H : Hp} {s : Shared}
theorem CompOk1.fk (co : CompOk1 X x nv ix scope) {y : Str × NameKind} (hy : y ∈ scope.names) (hf : y.2 = .free) : (X.env.kindOf y.1 = some .cell ∨ X.env.kindOf y.1 = some .free) ∧ y.1 ≠ x := by
  have q := List.all_eq_true.mp co.free y hy
  rw [hf] at q
  simpa using q
theorem CompOk1.cells (co : CompOk1 X x nv ix scope) (ok : X.Ok) : ∀ y ∈ scope.names, y.2 = .free → ∃ c, X.env.cells.lookup y.1 = some c := fun y hy hf => ok.has y.1 (co.fk hy hf).1
theorem CompOk1.look0 (co : CompOk1 X x nv ix scope) (ok : X.Ok) {n : Str} {c : Addr} (h : (clsOf X.env scope.names []).lookup n = some c) : X.env.cells.lookup n = some c :=
  clsOf_look _ _ (co.cells ok) (fun _ _ e => by cases e) n c h
theorem CompOk1.look (co : CompOk1 X x nv ix scope) (ok : X.Ok) {n : Str} {c C : Addr} (h : (cells1 X x scope C).lookup n = some c) : (n = x ∧ c = C + 1) ∨ X.env.cells.lookup n = some c := by
  unfold cells1 at h
  rw [List.lookup_cons] at h
  cases e : n == x with
  | true => rw [e] at h; cases h; exact .inl ⟨by simpa using e, rfl⟩
  | false => rw [e] at h; exact .inr (co.look0 ok h)
theorem CompOk1.ixp (co : CompOk1 X x nv ix scope) {p : Str × Nat} (hp : p ∈ ix) : scope.names.lookup p.1 = some .free ∧ X.N[p.2]? = some p.1 := by
  have q := Bool.and_eq_true_iff.mp (List.all_eq_true.mp co.ix p hp)
  exact ⟨by simpa using q.1, by simpa using q.2⟩
theorem CompOk1.isx (co : CompOk1 X x nv ix scope) {y : Str} (hy : (y, NameKind.cell) ∈ scope.names) : y = x := by
  have q := List.all_eq_true.mp co.own _ hy
  simpa using q
theorem cells1_has (co : CompOk1 X x nv ix scope) {y : Str} {C : Addr} (hy : (y, NameKind.free) ∈ scope.names) : ∃ c, (cells1 X x scope C).lookup y = some c := by
  unfold cells1
  rw [List.lookup_cons]
  cases e : y == x with
  | true => exact ⟨_, rfl⟩
  | false => exact clsOf_has _ _ y (.inl hy)
theorem cmpX1_ok (co : CompOk1 X x nv ix scope) (I : Inv X pins σ H s) {fp : List Addr} {C : Addr} (hC : s.heap.objs.size ≤ C) (hf : ∀ b ∈ fp, FpOk X pins H b) (hlt : ∀ b ∈ fp, b < s.heap.objs.size) : (cmpX1 X x nv ix scope C s H fp).Ok where
  mod := I.mod
  kind := co.kind
  glob := I.ok.glob
  blt := I.ok.blt
  above := hC
  inj := fun y z c a b => by
    have low : ∀ {n : Str}, X.env.cells.lookup n = some c → c = C + 1 → False := fun {n} e q => by
      obtain ⟨v, o, e1, _⟩ := I.cell n c e
      have := Heap.lt_size e1
      rw [q] at this
      exact Nat.lt_irrefl _ (Nat.lt_of_lt_of_le (Nat.lt_of_succ_lt this) hC)
    rcases co.look I.ok a with ⟨h1, h2⟩ | h1 <;> rcases co.look I.ok b with ⟨g1, g2⟩ | g1
    · rw [h1, g1]
    · exact (low g1 h2).elim
    · exact (low h1 g2).elim
    · exact I.ok.inj y z c h1 g1
  has := fun y hk => by
    have z : (y, NameKind.free) ∈ scope.names ∨ y = x := by
      rcases hk with hk | hk
      · obtain ⟨k, h1, _, h3⟩ := rl_look (env := X.env) (names := scope.names) hk
        rcases h3 with h3 | ⟨h3, _⟩
        · rw [← h3] at h1; exact .inr (co.isx h1)
        · rw [h3] at h1; exact .inl h1
      · obtain ⟨k, h1, _, h3⟩ := rl_look (env := X.env) (names := scope.names) hk
        rcases h3 with h3 | ⟨_, h3⟩
        · rw [← h3] at h1; exact .inl h1
        · cases h3
    rcases z with z | rfl
    · exact cells1_has co z
    · refine ⟨C + 1, ?_⟩
      show (cells1 X y scope C).lookup y = _
      unfold cells1
      simp
  cab := fun y c h e => by
    rcases co.look I.ok e with ⟨_, h2⟩ | h2
    · rw [h2]; exact Nat.le_succ_of_le hC
    · have hy : y = x := by simpa [cmpX1] using h
      have e' : (cells1 X x scope C).lookup y = some c := e
      unfold cells1 at e'
      rw [hy] at e'
      have : c = C + 1 := by simpa using e'.symm
      rw [this]; exact Nat.le_succ_of_le hC
  hd := I.ok.hd
  frames := I.ok.frames
  stk := .inl rfl
  exf := fun b hb => ⟨Nat.ne_of_lt (Nat.lt_of_lt_of_le (hlt b hb) hC), fun y c e => by
    rcases co.look I.ok e with ⟨_, h2⟩ | h2
    · have := hlt b hb
      intro z
      rw [← z, h2] at this
      exact Nat.lt_irrefl _ (Nat.lt_of_lt_of_le (Nat.lt_of_succ_lt this) hC)
    · exact (hf b hb).2.2.2.2.1 y c h2⟩
  bs := fun b o e => I.bs b o e
  bsz := Nat.le_trans I.ok.bsz I.sz
  noex := fun b o e hb => by
    rcases (hf b hb).2.2.2.1 with z | z
    · exact I.ok.noex b o e z
    · exact absurd (Nat.lt_of_lt_of_le (Heap.lt_size e) (Nat.le_trans I.ok.bsz z)) (Nat.lt_irrefl _)
  exfs := fun b hb hs => by
    rcases List.mem_cons.mp (I.stkSub b hs) with e | h
    · exact (hf b hb).2.1 e
    · exact (hf b hb).2.2.1 h
  funs := I.stack
  frf := I.stkFree
theorem cmp_start1 (co : CompOk1 X x nv ix scope) (I : Inv X pins σ H s) {fp : List Addr} {h₁ : Heap} {tk : Nat} {m : Str → Option Value} (hf : ∀ b ∈ fp, FpOk X pins H b) (hlt : ∀ b ∈ fp, b < s.heap.objs.size)
    (hn : h₁.Ns (s.heap.objs.size + 1) m) (old : ∀ b o, s.heap.get? b = some o → h₁.get? b = some o) (hD : h₁.get? s.heap.objs.size = some (lobj [] 0)) (hce : h₁.IsCell (s.heap.objs.size + 1 + 1) none) :
    Inv (cmpX1 X x nv ix scope (s.heap.objs.size + 1) s H fp) [(s.heap.objs.size, lobj [] 0)] (st0 nv ix σ) H { s with heap := h₁, toks := tk } where
  ok := cmpX1_ok co I (Nat.le_succ _) hf hlt
  os := rfl
  bare := I.bare
  base := Un.kept old
  loc := by
    refine ⟨m, hn, fun i y v e1 e2 hv => ?_⟩
    obtain ⟨m₀, _, hl⟩ := I.loc
    have e1' : (nv ++ ix.map (·.1))[i]? = some y := e1
    unfold st0 at e2
    by_cases hi : i < nv.length
    · rw [List.getElem?_append_left (by rw [List.length_map]; exact hi), List.getElem?_map] at e2
      cases q : nv[i]? with
      | none => rw [q] at e2; cases e2
      | some z => rw [q] at e2; cases e2
    · have hi' : nv.length ≤ i := Nat.not_lt.mp hi
      rw [List.getElem?_append_right hi', List.getElem?_map] at e1'
      rw [List.getElem?_append_right (by rw [List.length_map]; exact hi'), List.length_map] at e2
      unfold frV at e2
      rw [List.getElem?_map] at e2
      cases q : ix[i - nv.length]? with
      | none => rw [q] at e1'; cases e1'
      | some p =>
        rw [q] at e1' e2
        have hp : p ∈ ix := List.mem_of_getElem? q
        have ex : p.1 = y := Option.some.inj e1'
        have ev : σ[p.2]? = some (some v) := join_some (Option.some.inj e2)
        obtain ⟨f1, f2⟩ := co.ixp hp
        obtain ⟨hk, hpx⟩ := co.fk (lookup_mem f1) rfl
        obtain ⟨u, r, l⟩ := hl p.2 p.1 v f2 ev (hk.elim (fun z => .inr (.inl z)) fun z => .inr (.inr z))
        refine ⟨u, r, .inr ⟨?_, ?_⟩⟩
        · obtain ⟨k', hk'⟩ := rl_has (env := X.env) f1
          obtain ⟨k, h1, h2, h3⟩ := rl_look hk'
          rw [f1] at h2
          cases h2
          rw [← ex]
          rcases h3 with h3 | ⟨_, h3⟩
          · exact .inr (hk'.trans (congrArg some h3))
          · exact .inl (hk'.trans (congrArg some h3))
        · obtain ⟨c, hc⟩ := cells1_has (C := s.heap.objs.size + 1) co (lookup_mem f1)
          refine ⟨c, by rw [← ex]; exact hc, ?_⟩
          have hc' : X.env.cells.lookup p.1 = some c := by
            rcases co.look I.ok hc with ⟨z, _⟩ | z
            · exact absurd z hpx
            · exact z
          rcases l with ⟨z, _⟩ | ⟨_, c', z1, o, z2, z3⟩
          · have z' : X.env.kindOf p.1 = some .local := z
            rcases hk with hk | hk
            · have hk' : X.env.kindOf p.1 = some .cell := hk
              rw [z'] at hk'; cases hk'
            · have hk' : X.env.kindOf p.1 = some .free := hk
              rw [z'] at hk'; cases hk'
          · rw [hc'] at z1
            cases z1
            exact ⟨o, old _ _ z2, z3⟩
  cell := fun y c e => by
    rcases co.look I.ok e with ⟨_, h2⟩ | h2
    · rw [h2]; exact ⟨_, hce⟩
    · obtain ⟨v, o, h1, h2⟩ := I.cell y c h2
      exact ⟨v, o, old _ _ h1, h2⟩
  free := I.hok.fresh (Nat.le_succ _)
  freeC := fun y c e => by
    rcases co.look I.ok e with ⟨_, h2⟩ | h2
    · rw [h2]; exact I.hok.fresh (by omega)
    · exact I.freeC y c h2
  pin := fun p hp => by
    have e : p = (s.heap.objs.size, lobj [] 0) := by simpa [cmpX1] using hp
    subst e
    refine ⟨hD, I.hok.fresh (Nat.le_refl _), Nat.ne_of_lt (Nat.lt_succ_self _), fun hb => ?_, fun v z => by cases z⟩
    rcases List.mem_cons.mp (I.stkSub _ hb) with e | h
    · exact absurd I.lt (by rw [← e]; exact Nat.lt_irrefl _)
    · exact I.nofs (Nat.le_refl _) h
  hok := I.hok.kept old
  len := by
    show (nv.map (fun _ => none) ++ frV σ ix).length = (nv ++ ix.map (·.1)).length
    unfold frV
    simp
theorem cmp_end1 {ps2 : List (Addr × Obj)} {σ2 : St} {H' : Hp} {s' : Shared} {fp : List Addr} {C : Addr} (I : Inv X pins σ H s) (hf : ∀ b ∈ fp, FpOk X pins H b) (Ic : Inv (cmpX1 X x nv ix scope C s H fp) ps2 σ2 H' s') : Inv X pins σ H' s' :=
  I.call' (ch := fp) Ic.os Ic.base Ic.hok Ic.bare fun b hb => ⟨(hf b hb).2.2.2.1, (hf b hb).2.1, (hf b hb).2.2.2.2.1, (hf b hb).2.2.2.2.2⟩
end
section
variable {X : Cx} {x : Str} {nv : List Str} {ix : List (Str × Nat)} {scope : Scope} {pins : List (Addr × Obj)} {σ : St} {H : Hp} {s : Shared} {elt tg iter : Expr} {ifs : List Expr} {pos : Pos}
theorem comp_run1 {J : It} {fp : List Addr} {it : Addr} {tn : Nat → Heap → Prop} {g : TG} {ti : TT} {te : TE} {Fin : List V → Hp → Prop} {E : Value → Shared → Prop} {RR : Value → Addr → Result → Shared → Prop}
    (co : CompOk1 X x nv ix scope) (hc : X.calm = true) (I : Inv X pins σ H s) (T : Turn X.prog X.w X.K tg J fp it tn) (st : tn 0 s.heap) (hf : ∀ b ∈ fp, FpOk X pins H b)
    (kg : KpG nv g) (hg : ∀ C s₀ H₀ fp, PG (cmpX1 X x nv ix scope C s₀ H₀ fp) tg g) (hi : ∀ C s₀ H₀ fp, PIf (cmpX1 X x nv ix scope C s₀ H₀ fp) ifs ti) (he : ∀ C s₀ H₀ fp, PE (cmpX1 X x nv ix scope C s₀ H₀ fp) elt te)
    (q : CmpW nv ix g ti te σ J Fin H)
    (fin : ∀ D C s' H' ys, Inv X pins σ (upd H' D (.lst ys)) s' → H' D = none → Fin ys H' → (∃ m, s'.heap.Ns C m) → FpOk X pins (upd H' D (.lst ys)) C → RR (.ref D) C (.ok .next) s') :
    wpAny (model X.prog X.w) X.A (newList []) (fun acc s₃ => wpAny (model X.prog X.w) X.A (newFunctionEnv scope X.env.globals (clsOf X.env scope.names []) [] X.env.qual none .none (some X.env)) (fun cenv s₄ =>
      codeAny (model X.prog X.w) X.A (.compStart (.ListComp elt [⟨tg, iter, ifs, 0⟩] scope pos) 0 (.ref it) acc { cenv with scope := relabel scope X.env }) (RR acc cenv.locals) s₄) E s₃) E s := by
  obtain ⟨W, ⟨m0, w0⟩, turn⟩ := q
  refine wpAny_newObj_type (newEnv1 (x := x) co.cl co.pc ?_)
  dsimp only
  generalize hH2 : s.heap.push { cls := .type "list", dict := none, data := .seq ([] : List Value).toArray } = H2
  have hC : H2.objs.size = s.heap.objs.size + 1 := by rw [← hH2, Heap.size_push]
  rw [hC]
  generalize hh1 : (H2.push { cls := .type "dict", data := .dict #[] }).push { cls := .type "cell", data := .cell none } = h₁
  have hns₁ : h₁.Ns (s.heap.objs.size + 1) (fun _ => none) := by
    rw [← hh1, ← hC]
    exact (Heap.Ns.new H2 (.type "dict")).keeps fun b o e => Heap.get?_push_of_some _ e
  have hcell : h₁.IsCell (s.heap.objs.size + 1 + 1) none := by
    rw [← hh1, ← hC]
    have e : (H2.push { cls := .type "dict", data := .dict #[] }).objs.size = H2.objs.size + 1 := Heap.size_push ..
    rw [← e]
    exact ⟨_, Heap.get?_push_size _ rfl, rfl⟩
  have hDC : s.heap.objs.size ≠ s.heap.objs.size + 1 := Nat.ne_of_lt (Nat.lt_succ_self _)
  have below : ∀ b, b < s.heap.objs.size → b ≠ s.heap.objs.size + 1 ∧ b ≠ s.heap.objs.size := fun b hb => ⟨Nat.ne_of_lt (Nat.lt_succ_of_lt hb), Nat.ne_of_lt hb⟩
  have old : ∀ b o, s.heap.get? b = some o → h₁.get? b = some o := fun b o e => by
    rw [← hh1, ← hH2]
    exact Heap.get?_push_of_some _ (Heap.get?_push_of_some _ (Heap.get?_push_of_some _ e))
  have hacc : h₁.get? s.heap.objs.size = some (lobj [] 0) := by
    rw [← hh1, ← hH2]
    exact Heap.get?_push_of_some _ (Heap.get?_push_of_some _ (Heap.get?_push_size _ rfl))
  have hlt : ∀ b ∈ fp, b < s.heap.objs.size := fun b hb => by
    obtain ⟨o, e, _⟩ := T.obj 0 _ st b hb
    exact Heap.lt_size e
  have I₁ := fun tk => cmp_start1 (tk := tk) co I hf hlt hns₁ old hacc hcell
  have st₁ : tn 0 h₁ := T.keep 0 _ _ st fun b _ o e => old b o e
  have fpD : ∀ {H' : Hp}, H' s.heap.objs.size = none → FpOk X pins H' s.heap.objs.size := fun hn => I.fpOk (Nat.le_refl _) hn
  have loop : ∀ tk : Nat, codeAny (model X.prog X.w) X.A (.compLoop (.ListComp elt [⟨tg, iter, ifs, 0⟩] scope pos) 0 (.ref it) (.ref s.heap.objs.size) (cmpX1 X x nv ix scope (s.heap.objs.size + 1) s H fp).env)
      (RR (.ref s.heap.objs.size) (s.heap.objs.size + 1)) { s with heap := h₁, toks := tk } := by
    intro tk
    refine compLoop_go (fun n s' => ∃ i H' ys its k, Inv (cmpX1 X x nv ix scope (s.heap.objs.size + 1) s H fp) [(s.heap.objs.size, lobj its k)] (st0 nv ix σ) H' s' ∧ Vals ys its ∧ ys.length ≤ sizeLine ∧ tn i s'.heap ∧ (∀ b ∈ fp, H' b = none) ∧ W i n ys H')
      ?_ m0 ⟨0, H, [], [], 0, I₁ tk, .nil, Nat.zero_le _, st₁, fun b hb => (hf b hb).1, w0⟩
    rintro n s3 ⟨i, H3, ys, its, k, I3, rv, hz, st3, fr3, w3⟩
    have fpc : ∀ {H' : Hp} {its : List Value} {k : Nat}, (∀ b ∈ fp, H' b = none) → ∀ b ∈ fp, FpOk (cmpX1 X x nv ix scope (s.heap.objs.size + 1) s H fp) [(s.heap.objs.size, lobj its k)] H' b := fun {H' its k} hn b hb => by
      refine ⟨hn b hb, (below b (hlt b hb)).1, fun hs => ?_, .inl hb, fun y c e => ?_, fun p hp z => ?_⟩
      · rcases List.mem_cons.mp (I.stkSub b hs) with e | h
        · exact (hf b hb).2.1 e
        · exact (hf b hb).2.2.1 h
      · rcases co.look I.ok e with ⟨_, h2⟩ | h2
        · have := hlt b hb
          intro z
          rw [← z, h2] at this
          exact Nat.lt_irrefl _ (Nat.lt_of_succ_lt (Nat.lt_of_succ_lt this))
        · exact (hf b hb).2.2.2.2.1 y c h2
      · have e : p = (s.heap.objs.size, lobj its k) := by simpa [cmpX1] using hp
        subst e
        exact (below b (hlt b hb)).2 z.symm
    have pD := fun {ps : List (Addr × Obj)} {σ' : St} {H' : Hp} {s' : Shared} (I' : Inv (cmpX1 X x nv ix scope (s.heap.objs.size + 1) s H fp) ((s.heap.objs.size, lobj its k) :: ps) σ' H' s') =>
      I'.pin (s.heap.objs.size, lobj its k) (List.mem_append_right _ List.mem_cons_self)
    rcases turn i n ys H3 w3 with ⟨stop, fin0⟩ | ⟨go, hlt', N, hN, step⟩
    · refine thn (T.done (cmpX1 X x nv ix scope (s.heap.objs.size + 1) s H fp) rfl rfl rfl hc i _ s3 _ H3 _ I3 (fpc fr3) st3 stop) fun r s4 ⟨hr, I4⟩ => ?_
      subst hr
      obtain ⟨p1, p2, _⟩ := pD I4
      have I5 := (cmp_end1 I hf I4).track rv hz p1 p2 (fpD p2)
      obtain ⟨mC, hmC, _⟩ := I4.loc
      exact fin _ _ s4 H3 ys I5 p2 fin0 ⟨mC, hmC⟩ (I.fpOk (Nat.le_succ _) (by rw [upd_ne (Ne.symm hDC)]; exact I4.free))
    · refine thn (T.item (cmpX1 X x nv ix scope (s.heap.objs.size + 1) s H fp) rfl rfl rfl hc i _ s3 _ H3 _ I3 (fpc fr3) st3 go) fun r s4 ⟨u, hr, h4⟩ => ?_
      subst hr
      refine thn h4 fun _ s5 ⟨z, H5, I5, r5, y5, st5, fr5⟩ => ?_
      have I5' := I5.pinned (fpc fr5) (T.obj _ _ st5)
      refine thn (hg _ _ _ _ _ s5 _ H5 z u _ I5' r5 (kg _ _ _ _ (step z H5 y5))) fun _ s6 ⟨σ6, H6, I6, kp, q6⟩ => ?_
      refine thn (hi _ _ _ _ _ s6 σ6 H6 _ I6 q6) fun b s7 ⟨H7, I7, q7⟩ => ?_
      have again : ∀ {s7 : Shared} {H7 : Hp} {ys' its' : List _} {k' : Nat}, Inv (cmpX1 X x nv ix scope (s.heap.objs.size + 1) s H fp) ([(s.heap.objs.size, lobj its' k')] ++ pinsAt fp s5.heap) σ6 H7 s7 → Vals ys' its' → ys'.length ≤ sizeLine → N ys' H7 →
          ∃ m, m < n ∧ ∃ i H' ys its k, Inv (cmpX1 X x nv ix scope (s.heap.objs.size + 1) s H fp) [(s.heap.objs.size, lobj its k)] (st0 nv ix σ) H' s7 ∧ Vals ys its ∧ ys.length ≤ sizeLine ∧ tn i s7.heap ∧ (∀ b ∈ fp, H' b = none) ∧ W i m ys H' := fun {s7 H7 ys' its' k'} I8 rv' hz' n8 => by
        obtain ⟨m', hm, w8⟩ := hN _ _ n8
        have pn := fun (b : Addr) (o : Obj) (hb : b ∈ fp) (e : s5.heap.get? b = some o) => I8.pin (b, o) (List.mem_append_right _ (List.mem_append_right _ (mem_pinsAt hb e)))
        refine ⟨m', hm, i + 1, H7, ys', its', k', (I8.unpinned).weak kp.1 kp.2, rv', hz', T.keep _ _ _ st5 fun b hb o e => (pn b o hb e).1, fun b hb => ?_, w8⟩
        obtain ⟨o, e, d⟩ := T.obj _ _ st5 b hb
        exact (pn b o hb e).2.1
      cases b with
      | false =>
        rw [if_neg Bool.false_ne_true] at q7 ⊢
        exact again I7 rv hz q7
      | true =>
        rw [if_pos rfl] at q7 ⊢
        refine thn (he _ _ _ _ _ s7 σ6 H7 _ I7 q7) fun u8 s8 ⟨y, H8, I8, r8, q8⟩ => ?_
        obtain ⟨p1, p2, p3, p4, p5⟩ := pD I8
        refine append_at (hsz := by rw [List.size_toArray, ← rv.length]; exact Nat.le_of_lt hlt') p1 fun h9 hs9 hD9 => ?_
        have I9 : Inv (cmpX1 X x nv ix scope (s.heap.objs.size + 1) s H fp) (pinsAt fp s5.heap) σ6 H8 { s8 with heap := h9 } := by
          have Iu : Inv (cmpX1 X x nv ix scope (s.heap.objs.size + 1) s H fp) (pinsAt fp s5.heap) σ6 H8 s8 := I8.pins_of fun p hp => I8.pin p (List.mem_append_right _ (List.mem_append_right _ hp))
          refine Iu.turned (t' := s8.toks) (it := s.heap.objs.size) (fun b o hb e => (hs9.2 b hb).trans e) p2 p3 (.inr (Nat.le_refl _)) (fun y c e z => ?_) fun p hp z => ?_
          · rcases co.look I.ok e with ⟨_, h2⟩ | h2
            · rw [h2] at z
              exact Nat.lt_irrefl s.heap.objs.size (by have : s.heap.objs.size < s.heap.objs.size + 1 + 1 := Nat.lt_succ_of_lt (Nat.lt_succ_self _); rw [z] at this; exact this)
            · obtain ⟨v, o, e1, _⟩ := I.cell y c h2
              exact absurd (Heap.lt_size e1) (by rw [z]; exact Nat.lt_irrefl _)
          · have hp' : p ∈ pinsAt fp s5.heap := by simpa [cmpX1] using hp
            obtain ⟨hb, _⟩ := of_pinsAt hp'
            exact (below _ (hlt _ hb)).2 z
        have I10 : Inv (cmpX1 X x nv ix scope (s.heap.objs.size + 1) s H fp) ([(s.heap.objs.size, lobj (its ++ [u8]) (k + 1))] ++ pinsAt fp s5.heap) σ6 H8 { s8 with heap := h9 } :=
          I9.pins_of fun p hp => by
            rcases List.mem_append.mp hp with hp | hp
            · have e : p = (s.heap.objs.size, lobj (its ++ [u8]) (k + 1)) := by simpa using hp
              subst e
              refine ⟨?_, p2, p3, p4, fun v z => by cases z⟩
              rw [List.push_toArray] at hD9
              exact hD9
            · exact I9.pin p (List.mem_append_right _ hp)
        exact again I10 (rv.append (.cons r8 .nil)) (by rw [List.length_append, List.length_singleton]; exact hlt') q8
  exact codeAny_compStart_list (loop _) (T.self _ 0 _ _ _ st₁ (loop _))
theorem pe_comp1 {wi : TI} {g : TG} {ti : TT} {te : TE} (x : Str) (nv : List Str) (ix : List (Str × Nat)) (hc : X.calm = true) (co : CompOk1 X x nv ix scope) (hit : PI X tg iter wi) (kg : KpG nv g) (hg : ∀ C s₀ H₀ fp, PG (cmpX1 X x nv ix scope C s₀ H₀ fp) tg g)
    (hi : ∀ C s₀ H₀ fp, PIf (cmpX1 X x nv ix scope C s₀ H₀ fp) ifs ti) (he : ∀ C s₀ H₀ fp, PE (cmpX1 X x nv ix scope C s₀ H₀ fp) elt te)
    (hs : ∀ y, foldedSetIterable iter X.env y = pure y := by intro _; rfl) : PE X (.ListComp elt [⟨tg, iter, ifs, 0⟩] scope pos) (tComp nv ix wi g ti te) := by
  intro pins s σ H Q I h
  rw [eval_ListComp]
  refine wpAny_comprehension_free (use := none) rfl hs (closure_ok (co.cells I.ok)) co.kind co.names (thn (hit pins s σ H _ I h) fun v s1 h1 => thn h1 fun itv s2 h2 => ?_)
  obtain ⟨it, fp, tn, J, H2, e, I2, T, st2, f2, q⟩ := h2
  subst e
  refine comp_run1 co hc I2 T st2 f2 kg hg hi he q fun D C s' H' ys I' hD fin ⟨m, hm⟩ hC => ?_
  obtain ⟨c0, c1, c2, c3, c4, c5⟩ := hC
  exact ⟨m, hm, fun h' hs' => ⟨.ref D, _, I'.turned (t' := s'.toks) (fun b o hb e => (hs'.2 b hb).trans e) c0 c1 c3 c4 c5, rfl, fin D hD⟩⟩
theorem ze_comp1 {wi : TI} {g : TG} {ti : TT} {te : TE} (x : Str) (nv : List Str) (ix : List (Str × Nat)) (hc : X.calm = true) (co : CompOk1 X x nv ix scope) (hit : ZI X tg iter wi) (kg : KpG nv g) (hg : ∀ C s₀ H₀ fp, ZG (cmpX1 X x nv ix scope C s₀ H₀ fp) tg g)
    (hi : ∀ C s₀ H₀ fp, ZIf (cmpX1 X x nv ix scope C s₀ H₀ fp) ifs ti) (he : ∀ C s₀ H₀ fp, ZE (cmpX1 X x nv ix scope C s₀ H₀ fp) elt te)
    (hs : ∀ y, foldedSetIterable iter X.env y = pure y := by intro _; rfl) : ZE X (.ListComp elt [⟨tg, iter, ifs, 0⟩] scope pos) (tComp nv ix wi g ti te) := by with_unfolding_all exact pe_comp1 x nv ix hc co hit kg hg hi he hs
end
end L2
namespace L2
open PySem PySem.Spec PyProof.Rows
section
variable {X : Cx} {K : PySem.W.Frag}
theorem ix_P' (h : X.K = K) : IxR X (rIxP K) := by subst h; exact ix_P
theorem pi_list' {tg l : Expr} {tl : TE} (hl : PE X l tl) (h : X.K = K) : PI X tg l (iList K tl) := by subst h; exact pi_list hl
theorem zi_list' {tg l : Expr} {tl : TE} (hl : ZE X l tl) (h : X.K = K) : ZI X tg l (iList K tl) := by with_unfolding_all exact pi_list' hl h
end
end L2
set_option Elab.async false
set_option linter.all false
set_option maxRecDepth 100000
set_option maxHeartbeats 4000000
namespace L2
open PySem PySem.Spec PyProof.Rows
section
variable {κ : Type} [DecidableEq κ]
noncomputable def valV (kvs : List (κ × V)) (k : κ) : Option V := (kvs.find? fun kv => decide (kv.1 = k)).map (·.2)
noncomputable def putK (kvs : List (κ × V)) (k : κ) (v : V) : List (κ × V) :=
  if (kvs.any fun kv => decide (kv.1 = k)) = true then kvs.map (fun kv => if kv.1 = k then (kv.1, v) else kv) else kvs ++ [(k, v)]
theorem valV_pos {p : κ × V} {r : List (κ × V)} {k : κ} (e : p.1 = k) : valV (p :: r) k = some p.2 := by simp [valV, List.find?_cons, e]
theorem valV_neg {p : κ × V} {r : List (κ × V)} {k : κ} (e : ¬ p.1 = k) : valV (p :: r) k = valV r k := by simp [valV, List.find?_cons, e]
theorem valV_any (k : κ) : ∀ kvs : List (κ × V), (kvs.any fun kv => decide (kv.1 = k)) = (valV kvs k).isSome
  | [] => rfl
  | p :: r => by
    rw [List.any_cons]
    by_cases e : p.1 = k
    · simp only [valV_pos e, decide_eq_true e, Bool.true_or, Option.isSome_some]
    · rw [valV_neg e, decide_eq_false e, Bool.false_or]; exact valV_any k r
theorem length_putK (kvs : List (κ × V)) (k : κ) (v : V) : (putK kvs k v).length ≤ kvs.length + 1 := by
  unfold putK
  split
  · rw [List.length_map]; omega
  · rw [List.length_append, List.length_cons, List.length_nil]; omega
theorem RelO.isSome_eq {o : Option V} {u : Option Value} (r : RelO o u) : o.isSome = u.isSome := by
  cases o with
  | none => cases u with
    | none => rfl
    | some _ => exact (show False from r).elim
  | some _ => cases u with
    | none => exact (show False from r).elim
    | some _ => rfl
theorem KV.val {kvs : List (κ × V)} {vs : List (κ × Value)} (r : KV kvs vs) (k : κ) : RelO (valV kvs k) (valueAt vs k) := by
  unfold KV at r
  induction r with
  | nil => exact True.intro
  | @cons p q ps qs h t ih =>
    obtain ⟨h1, h2⟩ := h
    by_cases e : p.1 = k
    · have e' : q.1 = k := h1.symm.trans e
      have b : valueAt (q :: qs) k = some q.2 := by simp [valueAt, List.find?_cons, e']
      rw [valV_pos e, b]; exact h2
    · have e' : ¬ q.1 = k := fun z => e (h1.trans z)
      have b : valueAt (q :: qs) k = valueAt qs k := by simp [valueAt, List.find?_cons, e']
      rw [valV_neg e, b]; exact ih
theorem KV.any {kvs : List (κ × V)} {vs : List (κ × Value)} (r : KV kvs vs) (k : κ) : (kvs.any fun kv => decide (kv.1 = k)) = vs.any fun kv => decide (kv.1 = k) := by
  unfold KV at r
  induction r with
  | nil => rfl
  | cons h t ih => rw [List.any_cons, List.any_cons, ih, h.1]
theorem KV.repl {kvs : List (κ × V)} {vs : List (κ × Value)} (r : KV kvs vs) (k : κ) {y : V} {u : Value} (ry : RelV y u) :
    KV (kvs.map fun kv => if kv.1 = k then (kv.1, y) else kv) (vs.map fun kv => if kv.1 = k then (kv.1, u) else kv) := by
  unfold KV at r ⊢
  induction r with
  | nil => exact .nil
  | @cons p q ps qs h t ih =>
    rw [List.map_cons, List.map_cons]
    refine .cons ?_ ih
    obtain ⟨h1, h2⟩ := h
    by_cases e : p.1 = k
    · rw [if_pos e, if_pos (h1.symm.trans e)]; exact ⟨h1, ry⟩
    · rw [if_neg e, if_neg (fun z => e (h1.trans z))]; exact ⟨h1, h2⟩
theorem KV.put {kvs : List (κ × V)} {vs : List (κ × Value)} (r : KV kvs vs) (k : κ) {y : V} {u : Value} (ry : RelV y u) : KV (putK kvs k y) (stored vs k u) := by
  unfold putK stored
  rw [r.any k]
  by_cases e : (vs.any fun kv => decide (kv.1 = k)) = true
  · rw [if_pos e, if_pos e]; exact r.repl k ry
  · rw [if_neg e, if_neg e]; exact Paired.snoc r ⟨rfl, ry⟩
theorem KV.length {kvs : List (κ × V)} {vs : List (κ × Value)} (r : KV kvs vs) : kvs.length = vs.length := Paired.length r
end
theorem kV_is {P : Program} {w : World} {k : Key} {u : Value} (r : RelV (kV k) u) : (mixKind P w).is k u = true := by
  cases k with
  | inl i => obtain ⟨t, e⟩ := (show ∃ t, u = Value.int i t from r); subst e; exact mixKind_int P w i t
  | inr x => obtain ⟨t, e⟩ := (show ∃ t, u = Value.str x t from r); subst e; exact mixKind_str P w x t
theorem items_are {P : Program} {w : World} : ∀ {ks : List Key} {us : List Value}, Vals (ks.map kV) us → ItemsAre (mixKind P w) ks us
  | [], _, r => by rw [List.map_nil] at r; cases r; exact .nil
  | k :: ks, _, r => by
    rw [List.map_cons] at r
    cases r with
    | cons h t => exact .cons (kV_is h) (items_are t)

noncomputable abbrev KT (H : Hp) : List (List Key × V) → List (List Key × Addr × Value) → Prop := Paired fun p q => p.1 = q.1 ∧ H q.2.1 = some (.tup (p.1.map kV)) ∧ RelV p.2 q.2.2
theorem KT.val {H : Hp} {kvs : List (List Key × V)} {xs : List (List Key × Addr × Value)} (r : KT H kvs xs) (k : List Key) : RelO (valV kvs k) ((atKey xs k).map (·.2)) := by
  induction r with
  | nil => exact True.intro
  | @cons p q ps qs h t ih =>
    obtain ⟨h1, _, h2⟩ := h
    by_cases e : p.1 = k
    · have e' : q.1 = k := h1.symm.trans e
      have b : atKey (q :: qs) k = some q.2 := by simp [atKey, List.find?_cons, e']
      rw [valV_pos e, b]; exact h2
    · have e' : ¬ q.1 = k := fun z => e (h1.trans z)
      have b : atKey (q :: qs) k = atKey qs k := by simp [atKey, List.find?_cons, e']
      rw [valV_neg e, b]; exact ih
theorem KT.repl {H : Hp} {kvs : List (List Key × V)} {xs : List (List Key × Addr × Value)} (r : KT H kvs xs) (k : List Key) {y : V} {u : Value} (ry : RelV y u) :
    KT H (kvs.map fun kv => if kv.1 = k then (kv.1, y) else kv) (xs.map (putAt k u)) := by
  induction r with
  | nil => exact .nil
  | @cons p q ps qs h t ih =>
    rw [List.map_cons, List.map_cons]
    refine .cons ?_ ih
    obtain ⟨h1, h2, h3⟩ := h
    unfold putAt
    by_cases e : p.1 = k
    · rw [if_pos e, if_pos (h1.symm.trans e)]; exact ⟨h1, h2, ry⟩
    · rw [if_neg e, if_neg (fun z => e (h1.trans z))]; exact ⟨h1, h2, h3⟩
theorem KT.put {H : Hp} {kvs : List (List Key × V)} {xs : List (List Key × Addr × Value)} (r : KT H kvs xs) (k : List Key) {b : Addr} {y : V} {u : Value} (hb : H b = some (.tup (k.map kV))) (ry : RelV y u) :
    KT H (putK kvs k y) (storedH xs k b u) := by
  have e : (kvs.any fun kv => decide (kv.1 = k)) = (atKey xs k).isSome := by
    rw [valV_any, (r.val k).isSome_eq, Option.isSome_map]
  unfold putK storedH
  rw [e]
  by_cases q : (atKey xs k).isSome = true
  · rw [if_pos q, if_pos q]; exact r.repl k ry
  · rw [if_neg q, if_neg q]; exact Paired.snoc r ⟨rfl, hb, ry⟩
theorem KT.keeps {H H' : Hp} {kvs : List (List Key × V)} {xs : List (List Key × Addr × Value)} (r : KT H kvs xs) (ht : ∀ b ys, H b = some (.tup ys) → H' b = some (.tup ys)) : KT H' kvs xs :=
  Paired.mapP r fun _ _ z => ⟨z.1, ht _ _ z.2.1, z.2.2⟩

section
variable {P : Program} {w : World} {H : Hp} {h : Heap} {a : Addr}
theorem rd_of {u : HO} (ok : HOk P w H h) (e : Rd H a u) : ObjOk P w H h a u := e.ok ok
theorem dk_rd {kvs : List (Key × V)} (ok : HOk P w H h) (e : Rd H a (.dK kvs)) : kvs.length ≤ sizeLine ∧ (a == sysModules) = false ∧ ∃ vs, KV kvs vs ∧ h.DictOf (mixKind P w) a vs :=
  show ObjOk P w H h a (.dK kvs) from rd_of ok e
theorem dk_of {kvs : List (Key × V)} (ok : HOk P w H h) (e : H a = some (.dK kvs)) : kvs.length ≤ sizeLine ∧ (a == sysModules) = false ∧ ∃ vs, KV kvs vs ∧ h.DictOf (mixKind P w) a vs := dk_rd ok (.inl e)
theorem key_of {ks : List Key} (ok : HOk P w H h) (e : H a = some (.tup (ks.map kV))) : (tupleKind (mixKind P w)).is h ks a := by
  obtain ⟨_, its, r, pT⟩ := (show ObjOk P w H h a (.tup (ks.map kV)) from ok a _ e)
  obtain ⟨o, h1, h2, n, h3⟩ := pT.tup
  exact ⟨o, its.toArray, n, h1, h2, h3, by simpa using items_are r⟩
theorem dt_rd {kvs : List (List Key × V)} (ok : HOk P w H h) (e : Rd H a (.dT kvs)) : kvs.length ≤ sizeLine ∧ (a == sysModules) = false ∧
    ∃ xs, KT H kvs xs ∧ h.DictOfH (tupleKind (mixKind P w)) a xs := by
  obtain ⟨z, y, xs, r, o, es, ep, h1, h2, h3, h4, h5⟩ := (show ObjOk P w H h a (.dT kvs) from rd_of ok e)
  refine ⟨z, y, xs, r, o, es, ep, h1, h2, h3, h4, fun x hx => ?_, h5⟩
  have all : ∀ {l : List (List Key × V)} {m : List (List Key × Addr × Value)}, KT H l m → ∀ x ∈ m, (tupleKind (mixKind P w)).is h x.1 x.2.1 := by
    intro l m q
    induction q with
    | nil => intro x hx; exact nomatch hx
    | @cons p q ps qs hq t ih =>
      intro x hx
      rcases List.mem_cons.mp hx with e | hx
      · subst e
        exact key_of ok (by rw [← hq.1]; exact hq.2.1)
      · exact ih x hx
  exact all r x hx
theorem dt_of {kvs : List (List Key × V)} (ok : HOk P w H h) (e : H a = some (.dT kvs)) : kvs.length ≤ sizeLine ∧ (a == sysModules) = false ∧
    ∃ xs, KT H kvs xs ∧ h.DictOfH (tupleKind (mixKind P w)) a xs := dt_rd ok (.inl e)
end
noncomputable def DGet (H : Hp) (a : Addr) (y : V) (r : Option V) : Prop :=
  (∃ kvs k, Rd H a (.dK kvs) ∧ y = kV k ∧ r = valV kvs k) ∨ ∃ kvs k b, Rd H a (.dT kvs) ∧ y = .ref b ∧ H b = some (.tup (k.map kV)) ∧ r = valV kvs k
noncomputable def DPut (H : Hp) (a : Addr) (y v : V) (H' : Hp) : Prop :=
  (∃ kvs k, H a = some (.dK kvs) ∧ y = kV k ∧ kvs.length < sizeLine ∧ H' = upd H a (.dK (putK kvs k v))) ∨
  ∃ kvs k b, H a = some (.dT kvs) ∧ y = .ref b ∧ H b = some (.tup (k.map kV)) ∧ kvs.length < sizeLine ∧ H' = upd H a (.dT (putK kvs k v))
theorem DPut.k {H : Hp} {a : Addr} {kvs : List (Key × V)} {k : Key} {v : V} (e : H a = some (.dK kvs)) (hl : kvs.length < sizeLine) : DPut H a (kV k) v (upd H a (.dK (putK kvs k v))) := .inl ⟨kvs, k, e, rfl, hl, rfl⟩
section
variable {X : Cx} {pins : List (Addr × Obj)} {σ : St} {H : Hp} {s : Shared} {a : Addr} {y v : V} {u r : Value} {o : Option V} {A : Around} {E : Value → Shared → Prop}
theorem d_getItem {Q : Value → Shared → Prop} (hu : A.units + 1 < cLine) (I : Inv X pins σ H s) (g : DGet H a y (some v)) (ry : RelV y u) (h : ∀ w' s', Inv X pins σ H s' → RelV v w' → Q w' s') :
    wpAny (model X.prog X.w) A (getItem (.ref a) u) Q E s := by
  rcases g with ⟨kvs, k, e, ey, l⟩ | ⟨kvs, k, b, e, ey, eb, l⟩
  · subst ey
    obtain ⟨z, hd, vs, rel, dd⟩ := dk_rd I.hok e
    obtain ⟨w', hw, rw'⟩ := RelO.some_of (v := v) (o := valueAt vs k) (by rw [l]; exact rel.val k)
    exact wpAny_getItem_of (kV_is ry) dd.mapOf hw (h w' _ (I.tok _) rw')
  · subst ey
    cases (show u = Value.ref b from ry)
    obtain ⟨z, hd, xs, rel, dd⟩ := dt_rd I.hok e
    obtain ⟨w', hw, rw'⟩ := RelO.some_of (v := v) (o := (atKey xs k).map (·.2)) (by rw [l]; exact rel.val k)
    obtain ⟨p, hp, hp2⟩ := Option.map_eq_some_iff.mp hw
    refine wpAny_getItem_heap (tupleKind_room_in1 hu) (key_of I.hok eb) dd hp ?_
    rw [hp2]
    exact h w' _ (I.tok _) rw'
theorem d_write {h' : Heap} {t' : Nat} {ob : HO} (I : Inv X pins σ H s) (mu : Mut (H a)) (hs : Heap.SameBut a s.heap h') (he : ∃ q, h'.get? a = some q) (new : ObjOk X.prog X.w (upd H a ob) h' a ob) :
    Inv X pins σ (upd H a ob) { s with heap := h', toks := t' } :=
  I.write (x := a) (e := a) mu (.inl rfl) (fun b q hb z => (hs.2 b hb).trans z) he new
theorem dk_new {P : Program} {w : World} {H' : Hp} {h' : Heap} {kvs : List (Key × V)} {vs : List (Key × Value)} (z : kvs.length ≤ sizeLine) (hd : (a == sysModules) = false) (rel : KV kvs vs) (dd : h'.DictOf (mixKind P w) a vs) :
    ObjOk P w H' h' a (.dK kvs) := ⟨z, hd, vs, rel, dd⟩
theorem d_setItem {H' : Hp} {Q : Unit → Shared → Prop} (hu : A.units + 1 < cLine) (I : Inv X pins σ H s) (g : DPut H a y v H') (ry : RelV y u) (rv : RelV v r) (h : ∀ s', Inv X pins σ H' s' → Q () s') :
    wpAny (model X.prog X.w) A (setItem (.ref a) u r) Q E s := by
  rcases g with ⟨kvs, k, e, ey, l, eH⟩ | ⟨kvs, k, b, e, ey, eb, l, eH⟩
  · subst ey eH
    obtain ⟨z, hd, vs, rel, dd⟩ := dk_of I.hok e
    have hz : vs.length ≤ sizeLine := by rw [← rel.length]; exact z
    have hl : (putK kvs k v).length ≤ sizeLine := by have := length_putK kvs k v; omega
    refine wpAny_setItem_pairs (hsz := hz) (kV_is ry) dd fun h' dd' hs => h _ ?_
    have he : ∃ q, h'.get? a = some q := let ⟨q, _, _, hq, _⟩ := dd'; ⟨q, hq⟩
    exact d_write I (by rw [e]; exact True.intro) hs he (dk_new hl hd (rel.put k rv) dd')
  · subst ey eH
    cases (show u = Value.ref b from ry)
    obtain ⟨z, hd, xs, rel, dd⟩ := dt_of I.hok e
    have hz : xs.length ≤ sizeLine := by rw [← Paired.length rel]; exact z
    have hl : (putK kvs k v).length ≤ sizeLine := by have := length_putK kvs k v; omega
    refine wpAny_setItem_heap (hsz := hz) (tupleKind_room_in1 hu) (key_of I.hok eb) dd fun h' dd' hs => h _ ?_
    obtain ⟨q, es, ep, hq, h2, h3, h4, _, h5⟩ := dd'
    refine d_write I (by rw [e]; exact True.intro) hs ⟨q, hq⟩ ⟨hl, hd, _, (rel.put k eb rv).keeps fun c ys ec => ?_, q, es, ep, hq, h2, h3, h4, h5⟩
    rw [upd_ne (ne_of ec e (fun z => nomatch z))]
    exact ec
end
section
variable {X : Cx} {pins : List (Addr × Obj)} {σ : St} {H : Hp} {s : Shared} {a : Addr} {kvs : List (Key × V)} {k : Key} {u : Value} {A : Around} {E : Value → Shared → Prop}
end
noncomputable def NoSl (i : Expr) : Prop := ∀ ov iv, subscripted i false ov iv = operate [ov, iv] (getItem ov iv)
theorem subD_of {prog : Program} {w : World} {A : Around} {E : Value → Shared → Prop} {s : Shared} {env : Env} {value slice : Expr} {pos : Pos} {T id : String} {Q : Value → Shared → Prop}
    (hl : typeLookup (.type T) "__getitem__" = pure (some (.builtin id))) (hs : NoSl slice)
    (h : wpAny (model prog w) A (eval value env) (fun o s₁ => wpAny (model prog w) A (eval slice env) (fun i s₂ => s₂.TypeIs o T ∧ wpAny (model prog w) A (getItem o i) Q E s₂) E s₁) E s) :
    wpAny (model prog w) A (eval (.Subscript value slice pos) env) Q E s := by
  refine Subscript_ (wpAny_mono h (fun o s₁ h₁ => wpAny_mono h₁ (fun i s₂ h₂ => ?_) fun _ _ x => x) fun _ _ x => x)
  obtain ⟨hT, h₂⟩ := h₂
  unfold subscriptTail
  refine wpAny_bind ?_
  rw [getitemInPython_of_ne hT.not_modules]
  refine wpAny_bind (wpAny_specialOf hT hl ?_)
  have fin : wpAny (model prog w) A (subscripted slice false o i) (fun r s₃ => wpAny (model prog w) A (letTemporaryGo value o r >>= fun _ => pure r) Q E s₃) E s₂ := by
    rw [hs o i]
    exact wpAny_operating (wpAny_mono h₂ (fun r s₃ h₃ => wpAny_bind (wpAny_letTemporaryGo (wpAny_pure h₃))) fun _ _ x => x)
  first
    | exact wpAny_pure (wpAny_bind fin)
    | exact wpAny_bind (wpAny_pure (wpAny_bind fin))
    | exact wpAny_bind fin

theorem dict_typeIs {X : Cx} {pins : List (Addr × Obj)} {σ : St} {H : Hp} {s : Shared} {a : Addr} {y : V} {o : Option V} (I : Inv X pins σ H s) (g : DGet H a y o) : s.TypeIs (.ref a) "dict" := by
  rcases g with ⟨kvs, k, e, _, _⟩ | ⟨kvs, k, b, e, _, _, _⟩
  · obtain ⟨_, _, vs, _, dd⟩ := dk_rd I.hok e
    exact dd.typeIs
  · obtain ⟨_, _, xs, _, dd⟩ := dt_rd I.hok e
    exact dd.typeIs
noncomputable def tDGet (td ty : TE) : TE := fun σ H Q => td σ H fun x H1 => ty σ H1 fun y H2 => ∃ a v, x = .ref a ∧ DGet H2 a y (some v) ∧ Q v H2
noncomputable def sDPut (td ty tv : TE) : TS := fun D σ H => tv σ H fun v H1 => td σ H1 fun x H2 => ty σ H2 fun y H3 => ∃ a H4, x = .ref a ∧ DPut H3 a y v H4 ∧ D.nx σ H4
section
variable {X : Cx} {o i e value : Expr} {pos pos' tpos : Pos} {td ty tv : TE}
theorem pe_dget (hu : X.A.units + 1 < cLine) (ho : PE X o td) (hi : PE X i ty) (hs : NoSl i) : PE X (.Subscript o i pos) (tDGet td ty) := by
  intro pins s σ H Q I h
  refine subD_of PySem.F.slot_dict_getitem.lookup hs (thn (ho pins s σ H _ I h) fun u s1 ⟨x, H1, I1, rx, q1⟩ => thn (hi pins s1 σ H1 _ I1 q1) fun iv s2 ⟨y, H2, I2, ry, a, v, ex, g, q2⟩ => ?_)
  subst ex
  obtain rfl : u = Value.ref a := rx
  exact ⟨dict_typeIs I2 g, d_getItem hu I2 g ry fun w' s3 I3 rw' => ⟨v, H2, I3, rw', q2⟩⟩
theorem ze_dget (hu : X.A.units + 1 < cLine) (ho : ZE X o td) (hi : ZE X i ty) (hs : NoSl i) : ZE X (.Subscript o i pos) (tDGet td ty) := by with_unfolding_all exact pe_dget hu ho hi hs
theorem ps_dput (hu : X.A.units + 1 < cLine) (ho : PE X o td) (hi : PE X i ty) (hv : PE X value tv) (hs : swapsWith value (some (.Subscript o i pos')) pos.line X.env = pure false) :
    PS X (.Assign [.Subscript o i pos'] value pos) (sDPut td ty tv) := by
  intro pins s σ H D I h
  refine wpAny_Assign_Subscript (thn (hv pins s σ H _ I h) fun r s1 ⟨v, H1, I1, rv, q1⟩ => thn (ho pins s1 σ H1 _ I1 q1) fun u s2 ⟨x, H2, I2, rx, q2⟩ => thn (hi pins s2 σ H2 _ I2 q2) fun iv s3 ⟨y, H3, I3, ry, a, H4, ex, g, q3⟩ => ?_) hs
  subst ex
  obtain rfl : u = Value.ref a := rx
  exact d_setItem hu I3 g ry rv fun s4 I4 => ⟨σ, H4, I4, q3⟩
theorem zs_dput (hu : X.A.units + 1 < cLine) (ho : ZE X o td) (hi : ZE X i ty) (hv : ZE X value tv) (hs : swapsWith value (some (.Subscript o i pos')) pos.line X.env = pure false) :
    ZS X (.Assign [.Subscript o i pos'] value pos) (sDPut td ty tv) := by with_unfolding_all exact ps_dput hu ho hi hv hs
end
section
variable {X : Cx} {pos : Pos}
end
noncomputable def tPairs : List (TE × TE) → St → Hp → (List (V × V) → Hp → Prop) → Prop
  | [], _, H, Q => Q [] H
  | (tk, tv) :: r, σ, H, Q => tk σ H fun x H1 => tv σ H1 fun y H2 => tPairs r σ H2 fun ps H3 => Q ((x, y) :: ps) H3
noncomputable abbrev VV : List (V × V) → List (Value × Value) → Prop := Paired fun p q => RelV p.1 q.1 ∧ RelV p.2 q.2
noncomputable def PPs (X : Cx) (pos : Pos) (keys : List (Option Expr)) (values : List Expr) (trs : List (TE × TE)) : Prop :=
  ∀ (pins : List (Addr × Obj)) (s : Shared) (σ : St) (H : Hp) (Q : List (V × V) → Hp → Prop), Inv X pins σ H s → tPairs trs σ H Q →
    wpAny (model X.prog X.w) X.A (evalPairs (pairTrees keys values X.env pos)) (fun vs s' => ∃ ps H', Inv X pins σ H' s' ∧ VV ps vs ∧ Q ps H') X.xe s
@[irreducible] noncomputable def ZPs (X : Cx) (pos : Pos) (keys : List (Option Expr)) (values : List Expr) (trs : List (TE × TE)) : Prop := PPs X pos keys values trs
theorem pps_nil {X : Cx} {pos : Pos} : PPs X pos [] [] [] := fun pins s σ H Q I h => pairTrees_nil_walk ⟨[], H, I, .nil, h⟩
theorem zps_nil {X : Cx} {pos : Pos} : ZPs X pos [] [] [] := by with_unfolding_all exact pps_nil 
theorem pps_cons {X : Cx} {pos : Pos} {k v : Expr} {ks : List (Option Expr)} {vs : List Expr} {tk tv : TE} {trs : List (TE × TE)} (hk : PE X k tk) (hv : PE X v tv) (hr : PPs X pos ks vs trs) :
    PPs X pos (some k :: ks) (v :: vs) ((tk, tv) :: trs) := fun pins s σ H Q I h =>
  pairTrees_cons_walk (thn (hk pins s σ H _ I h) fun u s1 ⟨x, H1, I1, rx, q1⟩ => thn (hv pins s1 σ H1 _ I1 q1) fun w2 s2 ⟨y, H2, I2, ry, q2⟩ =>
    thn (hr pins s2 σ H2 _ I2 q2) fun ws s3 ⟨ps, H3, I3, rel, q3⟩ => ⟨(x, y) :: ps, H3, I3, .cons ⟨rx, ry⟩ rel, q3⟩)
theorem zps_cons {X : Cx} {pos : Pos} {k v : Expr} {ks : List (Option Expr)} {vs : List Expr} {tk tv : TE} {trs : List (TE × TE)} (hk : ZE X k tk) (hv : ZE X v tv) (hr : ZPs X pos ks vs trs) :
    ZPs X pos (some k :: ks) (v :: vs) ((tk, tv) :: trs) := by with_unfolding_all exact pps_cons hk hv hr

noncomputable def mergeK (kvs more : List (Key × V)) : List (Key × V) := more.foldl (fun acc kv => putK acc kv.1 kv.2) kvs
theorem KV.merge : ∀ {more : List (Key × V)} {rs : List (Key × Value)} {kvs : List (Key × V)} {vs : List (Key × Value)}, KV more rs → KV kvs vs → KV (mergeK kvs more) (merged vs rs) := by
  intro more rs kvs vs r
  unfold KV at r
  induction r generalizing kvs vs with
  | nil => intro q; exact q
  | @cons p q ps qs h t ih =>
    intro r0
    have e : KV (putK kvs p.1 p.2) (stored vs q.1 q.2) := by
      have := r0.put p.1 h.2
      rw [← h.1]; exact this
    exact ih e
theorem length_mergeK : ∀ (more kvs : List (Key × V)), (mergeK kvs more).length ≤ kvs.length + more.length
  | [], kvs => by show kvs.length ≤ kvs.length + 0; omega
  | p :: r, kvs => by
    have h1 := length_mergeK r (putK kvs p.1 p.2)
    have h2 := length_putK kvs p.1 p.2
    show (mergeK (putK kvs p.1 p.2) r).length ≤ _
    rw [List.length_cons]; omega
theorem carries_of {P : Program} {w : World} : ∀ {kvs : List (Key × V)} {ws : List (Value × Value)}, VV (kvs.map fun kv => (kV kv.1, kv.2)) ws → ∃ rs, Carries (mixKind P w) ws rs ∧ KV kvs rs
  | [], _, r => by rw [List.map_nil] at r; cases r; exact ⟨[], True.intro, .nil⟩
  | p :: kvs, _, r => by
    rw [List.map_cons] at r
    cases r with
    | @cons a b as bs h t =>
      obtain ⟨rs, c, q⟩ := carries_of (P := P) (w := w) t
      obtain ⟨b1, b2⟩ := b
      exact ⟨(p.1, b2) :: rs, ⟨kV_is h.1, rfl, c⟩, .cons ⟨rfl, h.2⟩ q⟩
noncomputable def tDisp (trs : List (TE × TE)) : TE := fun σ H Q => ∀ p, H p = none → tPairs trs σ (upd H p (.dK [])) fun ps H2 => H2 p = some (.dK []) ∧ ∃ kvs : List (Key × V), ps = kvs.map (fun kv => (kV kv.1, kv.2)) ∧ kvs.length ≤ 15 ∧ Q (.ref p) (upd H2 p (.dK (mergeK [] kvs)))
theorem pe_disp {X : Cx} {pos : Pos} {keys : List (Option Expr)} {values : List Expr} {trs : List (TE × TE)} (h : PPs X pos keys values trs) (hall : keys.all (·.isSome) = true) (hl : keys.length = values.length) (h0 : keys ≠ [])
    (h15 : keys.length ≤ 15) : PE X (.Dict keys values pos) (tDisp trs) := by
  intro pins s σ H Q I q
  have hn := I.hok.fresh (Nat.le_refl s.heap.objs.size)
  have I1 := I.laid (a := s.heap.objs.size) (o := .dK []) (h' := s.heap.push { cls := .type "dict", data := .dict #[] }) (t' := s.toks) (fun _ _ q => Heap.get?_push_of_some _ q) (Nat.le_refl _) (dk_empty s.heap I.big)
  refine wpAny_Dict_walk (knd := mixKind X.prog X.w) hall hl h0 h15 (thn (h pins _ σ _ _ I1 (q _ hn)) fun ws s2 ⟨ps, H2, I2, rel, e, kvs, ep, lk, q2⟩ => ?_)
  subst ep
  obtain ⟨rs, c, rk⟩ := carries_of (P := X.prog) (w := X.w) rel
  obtain ⟨z, hd, vs0, r0, dd⟩ := dk_of I2.hok e
  cases r0
  refine ⟨rs, c, dd, fun h' dd' hs => ⟨.ref s.heap.objs.size, _, ?_, rfl, q2⟩⟩
  have hz : (mergeK [] kvs).length ≤ sizeLine := by
    have h1 := length_mergeK kvs []
    rw [List.length_nil] at h1
    rw [sizeLine_eq]; omega
  have he : ∃ q, h'.get? s.heap.objs.size = some q := let ⟨q, _, _, hq, _⟩ := dd'; ⟨q, hq⟩
  exact d_write I2 (by rw [e]; exact True.intro) hs he (dk_new hz hd (rk.merge .nil) dd')
theorem ze_disp {X : Cx} {pos : Pos} {keys : List (Option Expr)} {values : List Expr} {trs : List (TE × TE)} (h : ZPs X pos keys values trs) (hall : keys.all (·.isSome) = true) (hl : keys.length = values.length) (h0 : keys ≠ [])
    (h15 : keys.length ≤ 15) : ZE X (.Dict keys values pos) (tDisp trs) := by with_unfolding_all exact pe_disp h hall hl h0 h15


end L2
set_option Elab.async false
set_option linter.all false
set_option maxRecDepth 100000
set_option maxHeartbeats 4000000
namespace SRT
open PySem PyProof.Rows
section
variable {prog : Program} {w : World} {A : Around} {E : Value → Shared → Prop} {s : Shared}
end
end SRT
set_option Elab.async false
set_option linter.all false
set_option maxRecDepth 100000
set_option maxHeartbeats 4000000
namespace SRT
open PySem PyProof.Rows
end SRT
set_option Elab.async false
set_option linter.all false
set_option maxRecDepth 100000
set_option maxHeartbeats 4000000
namespace SRT
open PySem PyProof.Rows
section
variable {A B : List Keyed} {o : List Keyed} {ia ib : Nat}
end
section
variable {prog : Program} {w : World} {A : Around} {E : Value → Shared → Prop} {s : Shared}
end
end SRT
set_option Elab.async false
set_option linter.all false
set_option maxRecDepth 100000
set_option maxHeartbeats 4000000
namespace SRT
open PySem PyProof.Rows
section
variable {prog : Program} {w : World} {A : Around} {E : Value → Shared → Prop} {s : Shared}
end
end SRT
set_option Elab.async false
set_option linter.all false
set_option maxRecDepth 100000
set_option maxHeartbeats 4000000
namespace SRT
open PySem PyProof.Rows
section
variable {xa xb ou : Array Keyed} {na nb : Nat}
end
end SRT
set_option Elab.async false
set_option linter.all false
set_option maxRecDepth 100000
set_option maxHeartbeats 4000000
namespace SRT
open PySem PyProof.Rows
section
variable {prog : Program} {w : World} {A : Around} {E : Value → Shared → Prop} {s : Shared}
end
end SRT
set_option Elab.async false
set_option linter.all false
set_option maxRecDepth 100000
set_option maxHeartbeats 4000000
namespace SRT
open PySem PyProof.Rows
end SRT
set_option Elab.async false
set_option linter.all false
set_option maxRecDepth 100000
set_option maxHeartbeats 4000000
namespace SRT
open PySem PyProof.Rows
section
variable {prog : Program} {w : World} {A : Around} {E : Value → Shared → Prop} {s : Shared}
end
end SRT
set_option Elab.async false
set_option linter.all false
set_option maxRecDepth 100000
set_option maxHeartbeats 4000000
namespace SRT
open PySem PyProof.Rows
section
variable {prog : Program} {w : World} {A : Around} {E : Value → Shared → Prop} {s : Shared} {a₀ : Array Keyed} {lo : Nat} {st₀ : SortSt}
end
end SRT
set_option Elab.async false
set_option linter.all false
set_option maxRecDepth 100000
set_option maxHeartbeats 4000000
namespace SRT
open PySem PyProof.Rows
section
variable {prog : Program} {w : World} {A : Around} {E : Value → Shared → Prop} {s : Shared} {a₀ : Array Keyed} {lo : Nat} {st₀ : SortSt}
end
end SRT
set_option Elab.async false
set_option linter.all false
set_option maxRecDepth 100000
set_option maxHeartbeats 4000000
namespace SRT
open PySem PyProof.Rows
section
variable {prog : Program} {w : World} {A : Around} {E : Value → Shared → Prop} {s : Shared} {a₀ : Array Keyed}
end
end SRT
set_option Elab.async false
set_option linter.all false
set_option maxRecDepth 100000
set_option maxHeartbeats 4000000
namespace SRT
open PySem PyProof.Rows
section
variable {prog : Program} {w : World} {A : Around} {E : Value → Shared → Prop} {s : Shared} {a₀ : Array Keyed}
end
end SRT
set_option Elab.async false
set_option linter.all false
set_option maxRecDepth 100000
set_option maxHeartbeats 4000000
namespace SRT
open PySem PyProof.Rows
section
variable {prog : Program} {w : World} {A : Around} {E : Value → Shared → Prop} {s : Shared}
end
end SRT
set_option Elab.async false
set_option linter.all false
set_option maxRecDepth 100000
set_option maxHeartbeats 4000000
namespace L2
open PySem PySem.Spec PyProof.Rows
section
variable {X : Cx}
variable {e : Expr} {es : List Expr} {t : TA} {p pos : Pos}
variable {o : Expr} {to : TE} {apos cpos : Pos}
end
end L2
set_option Elab.async false
set_option linter.all false
set_option maxRecDepth 100000
set_option maxHeartbeats 4000000
namespace MXD
open PySem
section
variable {prog : Program} {w : World} {A : Around} {R : Result → Shared → Prop} {I : Addr} {fp wr : List Addr} {n : Nat} {P : Nat → Value → Prop} {St : Nat → Heap → Prop}
end
section
variable {prog : Program} {w : World} {A : Around} {E : Value → Shared → Prop} {s : Shared}
end
end MXD
namespace L2
open PySem PySem.Spec PyProof.Rows
section
variable {X : Cx}
variable {e : Expr} {es : List Expr} {t : TA} {p pos : Pos}
noncomputable def rIntT : List V → Hp → VK → Prop := fun xs H Q => match xs with
  | [.str x] => ∃ n, intText? x = some n ∧ x.length ≤ 640 ∧ Q (.int n) H
  | _ => False
theorem call_intT : CallR X (.type "int") rIntT := by
  intro pins s σ H xs us Q I r h
  unfold rIntT at h
  split at h
  · obtain ⟨n, h1, h2, q⟩ := h
    obtain ⟨u, rfl, r1⟩ := vals1 r
    obtain ⟨t, rfl⟩ := r1
    exact PySem.W.KIN.call_text h1 h2 ⟨.int n, H, I.tok _, ⟨_, rfl⟩, q⟩
  · exact h.elim
theorem pcb_intT (hg : Gl X "int") (hm : X.mg "int" = none) (ha : PA X (e :: es) t) (he : starEach (e :: es) X.env = (false, eval e X.env) :: starEach es X.env) (hpl : (backTo pos (starEach es X.env)).any (·.1) = false) :
    PE X (.Call (.Name "int" p) (e :: es) [] pos) (tCB rIntT t) := pe_callTy call_intT hg hm boot_int' ha (by decide) (by decide) he hpl
theorem zcb_intT (hg : Gl X "int") (hm : X.mg "int" = none) (ha : ZA X (e :: es) t) (he : starEach (e :: es) X.env = (false, eval e X.env) :: starEach es X.env) (hpl : (backTo pos (starEach es X.env)).any (·.1) = false) :
    ZE X (.Call (.Name "int" p) (e :: es) [] pos) (tCB rIntT t) := by with_unfolding_all exact pcb_intT hg hm ha he hpl
variable {o : Expr} {to : TE} {apos cpos : Pos}
end
end L2
set_option Elab.async false
set_option linter.all false
set_option maxRecDepth 100000
set_option maxHeartbeats 4000000
namespace L2
open PySem PySem.Spec PyProof.Rows
noncomputable def Itq (h : Heap) (i l : Addr) (k : Nat) (xs : Array Value) : Prop := (h.IsListIter i l k ∧ h.IsList l xs) ∨ (h.IsTupleIter i l k ∧ h.IsTuple l xs)
theorem Itq.at {h h' : Heap} {i l : Addr} {k : Nat} {xs : Array Value} (x : Itq h i l k xs) (hi : ∀ o, h.get? i = some o → h'.get? i = some o) (hl : ∀ o, h.get? l = some o → h'.get? l = some o) : Itq h' i l k xs :=
  x.elim (fun a => .inl ⟨a.1.at hi, a.2.at hl⟩) fun a => .inr ⟨a.1.at hi, a.2.at hl⟩
theorem Itq.but {h h' : Heap} {i l z : Addr} {k : Nat} {xs : Array Value} (x : Itq h i l k xs) (e : Heap.ExtBut z h h') (n1 : i ≠ z) (n2 : l ≠ z) : Itq h' i l k xs := x.at (fun o q => e _ _ n1 q) fun o q => e _ _ n2 q
section
variable {prog : Program} {w : World} {A : Around} {E : Value → Shared → Prop} {s : Shared}
theorem Itq.item {i l : Addr} {k : Nat} {xs : Array Value} {v : Value} {Q : Value → Shared → Prop} (x : Itq s.heap i l k xs) (hne : l ≠ i) (hx : xs[k]? = some v)
    (hQ : ∀ h', Itq h' i l (k + 1) xs → Heap.SameBut i s.heap h' → Q v { s with heap := h' }) : wpAny (model prog w) A (Builtin.SmallTypes.nextOf (.ref i)) Q E s := by
  rcases x with ⟨x1, x2⟩ | ⟨x1, x2⟩
  · exact wpAny_nextOf_list_item x1 x2 hx fun h' a b => hQ h' (.inl ⟨a, x2.extBut b.extBut hne⟩) b
  · exact nextOf_tup_item x1 x2 hx fun h' a b => hQ h' (.inr ⟨a, x2.extBut b.extBut hne⟩) b
theorem Itq.fin {i l : Addr} {k : Nat} {xs : Array Value} {Q : Value → Shared → Prop} (hh : A.handled = none) (x : Itq s.heap i l k xs) (hx : xs[k]? = none)
    (hE : ∀ h' e, Heap.ExtBut i s.heap h' → (∃ o, h'.get? e = some o ∧ o.cls = .type "StopIteration") → E (.ref e) { s with heap := h' }) : wpAny (model prog w) A (Builtin.SmallTypes.nextOf (.ref i)) Q E s := by
  rcases x with ⟨x1, x2⟩ | ⟨x1, x2⟩
  · exact wpAny_nextOf_list_end hh x1 x2 hx hE
  · exact nextOf_tup_end hh x1 x2 hx hE
theorem zq_item {z TI TO i1 i2 l1 l2 : Addr} {k1 k2 : Nat} {xs ys : Array Value} {x y a b : Value} {Q : Value → Shared → Prop} (D : ZipApart z TI TO i1 i2 l1 l2) (n12 : l1 ≠ TI) (n22 : l2 ≠ TI)
    (hz : IsZip s.heap z TI TO .none) (hTI : IsPair s.heap TI (.ref i1) (.ref i2)) (hTO : IsPair s.heap TO a b) (h1 : Itq s.heap i1 l1 k1 xs) (h2 : Itq s.heap i2 l2 k2 ys) (hx : xs[k1]? = some x) (hy : ys[k2]? = some y)
    (hQ : ∀ h', IsZip h' z TI TO (rawInt s.heap.objs.size) → IsPair h' TO x y → Itq h' i1 l1 (k1 + 1) xs → Itq h' i2 l2 (k2 + 1) ys → IsPair h' s.heap.objs.size x y → h'.objs.size = s.heap.objs.size + 1 →
      (∀ c o, c ≠ z → c ≠ TO → c ≠ i1 → c ≠ i2 → s.heap.get? c = some o → h'.get? c = some o) → Q (.ref s.heap.objs.size) { s with heap := h' }) :
    wpAny (model prog w) A (Builtin.«zip.__next__» ⟨[.ref z], []⟩) (fun fin s' => ∃ v, fin = .done (.ret v) ∧ Q v s') E s := by
  show wpAny _ _ (field (.ref z) 2 >>= _) _ _ _; refine wpAny_bind (wpAny_field hz rfl (x := .bool false) rfl ?_)
  show wpAny _ _ (field (.ref z) 3 >>= _) _ _ _; refine wpAny_bind (wpAny_field hz rfl (x := .ref TI) rfl ?_)
  refine wpAny_bind (wpAny_seqItems hTI rfl ?_); show wpAny _ _ (Builtin.SmallTypes.ownedTupleIsFree (.ref z) >>= _) _ _ _
  refine wpAny_bind ?_; unfold Builtin.SmallTypes.ownedTupleIsFree
  refine wpAny_bind (wpAny_field hz rfl (x := .none) rfl (wpAny_pure ?_)); simp only [if_true]
  refine wpAny_bind (wpAny_rule ?_); refine wpAny_bind (wpAny_field hz rfl (x := .ref TO) rfl ?_)
  refine wpAny_bind (wpAny_setField_rec hz (by simp) fun g1 hz1 e1 => ?_)
  replace hz1 : IsZip g1 z TI TO .ellipsis := hz1
  refine wpAny_bind ?_; simp only [List.zipIdx_cons, List.zipIdx_nil, List.forIn_cons, List.forIn_nil]
  refine wpAny_bind (wpAny_bind (wpAny_onRaise ?_)); show wpAny _ _ (Builtin.SmallTypes.nextOf (.ref i1) >>= _) _ _ _
  have h1a : Itq g1 i1 l1 k1 xs := h1.but e1.extBut D.i1z D.l1z
  have h2a : Itq g1 i2 l2 k2 ys := h2.but e1.extBut D.i2z D.l2z
  refine wpAny_bind (Itq.item (s := { s with heap := g1 }) h1a D.l1i1 hx fun g2 h1b e2 => wpAny_pure ?_)
  have hTO2 : IsPair g2 TO a b := e2.extBut _ _ D.TOi1 (e1.extBut _ _ D.TOz hTO)
  have h2b : Itq g2 i2 l2 k2 ys := h2a.but e2.extBut (Ne.symm D.i12) D.l2i1
  refine wpAny_bind (wpAny_seqItems hTO2 rfl ?_); refine wpAny_bind (wpAny_updateSeq_pair hTO2 fun g3 hTO3 e3 => ?_)
  replace hTO3 : IsPair g3 TO x b := hTO3
  have h1c : Itq g3 i1 l1 (k1 + 1) xs := h1b.but e3.extBut (Ne.symm D.TOi1) D.l1TO
  have h2c : Itq g3 i2 l2 k2 ys := h2b.but e3.extBut (Ne.symm D.TOi2) D.l2TO
  refine wpAny_bind (wpAny_letGo (wpAny_pure ?_)); refine wpAny_bind (wpAny_bind (wpAny_onRaise ?_))
  show wpAny _ _ (Builtin.SmallTypes.nextOf (.ref i2) >>= _) _ _ _
  refine wpAny_bind (Itq.item (s := { s with heap := g3 }) h2c D.l2i2 hy fun g4 h2d e4 => wpAny_pure ?_)
  have hTO4 : IsPair g4 TO x b := e4.extBut _ _ D.TOi2 hTO3
  have h1d : Itq g4 i1 l1 (k1 + 1) xs := h1c.but e4.extBut D.i12 D.l1i2
  refine wpAny_bind (wpAny_seqItems hTO4 rfl ?_); refine wpAny_bind (wpAny_updateSeq_pair hTO4 fun g5 hTO5 e5 => ?_)
  replace hTO5 : IsPair g5 TO x y := hTO5
  have h1e : Itq g5 i1 l1 (k1 + 1) xs := h1d.but e5.extBut (Ne.symm D.TOi1) D.l1TO
  have h2e : Itq g5 i2 l2 (k2 + 1) ys := h2d.but e5.extBut (Ne.symm D.TOi2) D.l2TO
  refine wpAny_bind (wpAny_letGo (wpAny_pure (wpAny_pure ?_))); refine wpAny_bind (wpAny_seqItems hTO5 rfl ?_); refine wpAny_bind (wpAny_newTuple ?_)
  have hsz : g5.objs.size = s.heap.objs.size := by rw [e5.1, e4.1, e3.1, e2.1, e1.1]
  have hz5 : IsZip g5 z TI TO .ellipsis := e5.extBut _ _ (Ne.symm D.TOz) (e4.extBut _ _ (Ne.symm D.i2z) (e3.extBut _ _ (Ne.symm D.TOz) (e2.extBut _ _ (Ne.symm D.i1z) hz1)))
  have k5 : ∀ c o, c ≠ z → c ≠ TO → c ≠ i1 → c ≠ i2 → s.heap.get? c = some o → g5.get? c = some o := fun c o c1 c2 c3 c4 q => e5.extBut _ _ c2 (e4.extBut _ _ c4 (e3.extBut _ _ c2 (e2.extBut _ _ c3 (e1.extBut _ _ c1 q))))
  have zlt : z < g5.objs.size := Heap.lt_size hz5
  show wpAny _ _ (Builtin.SmallTypes.ownedTupleHandOut (.ref z) (.ref g5.objs.size) >>= _) _ _ _
  refine wpAny_bind ?_; unfold Builtin.SmallTypes.ownedTupleHandOut
  have hz6 : IsZip (g5.push { cls := .type "tuple", data := .seq #[x, y] }) z TI TO .ellipsis := Heap.get?_push_of_some _ hz5
  refine wpAny_bind (wpAny_setField_rec hz6 (by simp) fun g7 hz7 e7 => ?_)
  replace hz7 : IsZip g7 z TI TO (rawInt g5.objs.size) := hz7
  refine wpAny_setField_rec hz7 (by simp) fun g8 hz8 e8 => ?_
  replace hz8 : IsZip g8 z TI TO (rawInt g5.objs.size) := hz8
  have up : ∀ c o, c ≠ z → g5.get? c = some o → g8.get? c = some o := fun c o c1 q => e8.extBut _ _ c1 (e7.extBut _ _ c1 (Heap.get?_push_of_some _ q))
  have hT8 : IsPair g8 g5.objs.size x y := e8.extBut _ _ (Nat.ne_of_gt zlt) (e7.extBut _ _ (Nat.ne_of_gt zlt) (Heap.get?_push_size _ rfl))
  have hs8 : g8.objs.size = g5.objs.size + 1 := by rw [e8.1, e7.1, Heap.size_push]
  rw [hsz] at hz8 hT8 hs8
  refine wpAny_pure ⟨_, rfl, ?_⟩; show Q (.ref g5.objs.size) _; rw [hsz]
  exact hQ g8 hz8 (up _ _ D.TOz hTO5) (h1e.at (fun o q => up _ o D.i1z q) fun o q => up _ o D.l1z q) (h2e.at (fun o q => up _ o D.i2z q) fun o q => up _ o D.l2z q) hT8 hs8 fun c o c1 c2 c3 c4 q => up c o c1 (k5 c o c1 c2 c3 c4 q)
theorem zq_end {z TI TO i1 i2 l1 l2 : Addr} {k1 k2 : Nat} {xs ys : Array Value} {a b : Value} {Q : PySem.Fin → Shared → Prop} (hh : A.handled = none) (D : ZipApart z TI TO i1 i2 l1 l2)
    (hz : IsZip s.heap z TI TO .none) (hTI : IsPair s.heap TI (.ref i1) (.ref i2)) (hTO : IsPair s.heap TO a b) (h1 : Itq s.heap i1 l1 k1 xs) (h2 : Itq s.heap i2 l2 k2 ys) (hend : xs[k1]? = none ∨ ys[k2]? = none)
    (hE : ∀ h' e, (∀ c o, c ≠ z → c ≠ TO → c ≠ i1 → c ≠ i2 → s.heap.get? c = some o → h'.get? c = some o) → (∃ o, h'.get? e = some o ∧ o.cls = .type "StopIteration") → E (.ref e) { s with heap := h' }) : wpAny (model prog w) A (Builtin.«zip.__next__» ⟨[.ref z], []⟩) Q E s := by
  show wpAny _ _ (field (.ref z) 2 >>= _) _ _ _; refine wpAny_bind (wpAny_field hz rfl (x := .bool false) rfl ?_)
  show wpAny _ _ (field (.ref z) 3 >>= _) _ _ _; refine wpAny_bind (wpAny_field hz rfl (x := .ref TI) rfl ?_)
  refine wpAny_bind (wpAny_seqItems hTI rfl ?_); show wpAny _ _ (Builtin.SmallTypes.ownedTupleIsFree (.ref z) >>= _) _ _ _
  refine wpAny_bind ?_; unfold Builtin.SmallTypes.ownedTupleIsFree
  refine wpAny_bind (wpAny_field hz rfl (x := .none) rfl (wpAny_pure ?_)); simp only [if_true]
  refine wpAny_bind (wpAny_rule ?_); refine wpAny_bind (wpAny_field hz rfl (x := .ref TO) rfl ?_)
  refine wpAny_bind (wpAny_setField_rec hz (by simp) fun g1 hz1 e1 => ?_)
  replace hz1 : IsZip g1 z TI TO .ellipsis := hz1
  refine wpAny_bind ?_; simp only [List.zipIdx_cons, List.zipIdx_nil, List.forIn_cons, List.forIn_nil]
  refine wpAny_bind (wpAny_bind (wpAny_onRaise ?_)); show wpAny _ _ (Builtin.SmallTypes.nextOf (.ref i1) >>= _) _ _ _
  have h1a : Itq g1 i1 l1 k1 xs := h1.but e1.extBut D.i1z D.l1z
  have h2a : Itq g1 i2 l2 k2 ys := h2.but e1.extBut D.i2z D.l2z
  cases hx : xs[k1]? with
  | none =>
    refine wpAny_bind (Itq.fin (s := { s with heap := g1 }) hh h1a hx fun g2 e e2 he => ?_)
    obtain ⟨oe, hoe, hce⟩ := he
    have hz2 : IsZip g2 z TI TO .ellipsis := e2 _ _ (Ne.symm D.i1z) hz1
    have hez : e ≠ z := fun q => by subst q; rw [hz2] at hoe; cases hoe; simp at hce
    exact wpAny_setField_rec hz2 (by simp) fun g3 _ e3 => hE g3 e (fun c o c1 _ c3 _ q => e3.extBut _ _ c1 (e2 _ _ c3 (e1.extBut _ _ c1 q))) ⟨oe, e3.extBut _ _ hez hoe, hce⟩
  | some x =>
    have hy : ys[k2]? = none := by
      rcases hend with h | h
      · rw [hx] at h; cases h
      · exact h
    refine wpAny_bind (Itq.item (s := { s with heap := g1 }) h1a D.l1i1 hx fun g2 h1b e2 => wpAny_pure ?_)
    have hTO2 : IsPair g2 TO a b := e2.extBut _ _ D.TOi1 (e1.extBut _ _ D.TOz hTO)
    have h2b : Itq g2 i2 l2 k2 ys := h2a.but e2.extBut (Ne.symm D.i12) D.l2i1
    refine wpAny_bind (wpAny_seqItems hTO2 rfl ?_); refine wpAny_bind (wpAny_updateSeq_pair hTO2 fun g3 hTO3 e3 => ?_)
    have h2c : Itq g3 i2 l2 k2 ys := h2b.but e3.extBut (Ne.symm D.TOi2) D.l2TO
    refine wpAny_bind (wpAny_letGo (wpAny_pure ?_)); refine wpAny_bind (wpAny_bind (wpAny_onRaise ?_))
    show wpAny _ _ (Builtin.SmallTypes.nextOf (.ref i2) >>= _) _ _ _
    refine wpAny_bind (Itq.fin (s := { s with heap := g3 }) hh h2c hy fun g4 e e4 he => ?_)
    obtain ⟨oe, hoe, hce⟩ := he
    have hz4 : IsZip g4 z TI TO .ellipsis := e4 _ _ (Ne.symm D.i2z) (e3.extBut _ _ (Ne.symm D.TOz) (e2.extBut _ _ (Ne.symm D.i1z) hz1))
    have hez : e ≠ z := fun q => by subst q; rw [hz4] at hoe; cases hoe; simp at hce
    exact wpAny_setField_rec hz4 (by simp) fun g5 _ e5 => hE g5 e (fun c o c1 c2 c3 c4 q => e5.extBut _ _ c1 (e4 _ _ c4 (e3.extBut _ _ c2 (e2.extBut _ _ c3 (e1.extBut _ _ c1 q))))) ⟨oe, e5.extBut _ _ hez hoe, hce⟩
noncomputable def itCls (b : Bool) : String := if b then "tuple_iterator" else "list_iterator"
noncomputable def IsSq (h : Heap) (b : Bool) (l : Addr) (xs : Array Value) : Prop := if b = true then h.IsTuple l xs else h.IsList l xs
noncomputable abbrev zqI (b : Bool) (l : Addr) : Obj := { cls := .type (itCls b), data := .fields #[.ref l, .int 0 0] }
theorem IsSq.push {h : Heap} {b : Bool} {l : Addr} {xs : Array Value} (x : IsSq h b l xs) (o : Obj) : IsSq (h.push o) b l xs := by
  cases b with
  | true => exact (show h.IsTuple l xs from x).at fun u q => Heap.get?_push_of_some _ q
  | false => exact (show h.IsList l xs from x).push o
theorem iter_sq {b : Bool} {l : Addr} {xs : Array Value} {Q : Value → Shared → Prop} (x : IsSq s.heap b l xs) (h : Q (.ref s.heap.objs.size) { s with heap := s.heap.push (zqI b l) }) : wpAny (model prog w) A (pyIter (.ref l)) Q E s := by
  cases b with
  | true => exact wpAny_pyIter_tuple (show s.heap.IsTuple l xs from x) h
  | false => exact wpAny_pyIter_list (show s.heap.IsList l xs from x) h
end
noncomputable abbrev zq1 (h : Heap) (b : Bool) (l : Addr) : Heap := h.push (zqI b l)
noncomputable abbrev zq2 (h : Heap) (b c : Bool) (l m : Addr) : Heap := (zq1 h b l).push (zqI c m)
noncomputable abbrev zq3 (h : Heap) (b c : Bool) (l m : Addr) : Heap := (zq2 h b c l m).push { cls := .type "tuple", data := .seq #[.ref h.objs.size, .ref (zq1 h b l).objs.size] }
noncomputable abbrev zq4 (h : Heap) (b c : Bool) (l m : Addr) : Heap := (zq3 h b c l m).push { cls := .type "tuple", data := .seq #[.none, .none] }
noncomputable abbrev zq5 (h : Heap) (b c : Bool) (l m : Addr) : Heap := (zq4 h b c l m).push { cls := .type "zip", data := .fields #[.none, .bool false, .bool false, .ref (zq2 h b c l m).objs.size, .ref (zq3 h b c l m).objs.size] }
theorem meets_zq (b c : Bool) (l m : Addr) (xs ys : Array Value) : Meets (Builtin.«zip.__new__» ⟨[.type "zip", .ref l, .ref m], []⟩) (fun _ R s => IsSq s.heap b l xs ∧ IsSq s.heap c m ys ∧ R (.ok (.ret (.ref (zq4 s.heap b c l m).objs.size))) { s with heap := zq5 s.heap b c l m }) :=
  .of_wp fun prog w A R s h => by
    obtain ⟨hp, g, d, tk, os⟩ := s; obtain ⟨q1, q2, h⟩ := h
    have hsub := sub_zip
    have r1 : IsSq (Shared.heap ⟨hp, g, d, tk, os⟩) b l xs := q1
    have r2 : IsSq (Shared.heap ⟨hp.push (zqI b l), g, d, tk, os⟩) c m ys := IsSq.push q2 _
    wp_walk using iter_sq r1, iter_sq r2
    exact ⟨_, rfl, h⟩
section
variable {prog : Program} {w : World} {A : Around} {E : Value → Shared → Prop} {s : Shared}
theorem call_zq {b c : Bool} {l m : Addr} {xs ys : Array Value} {Q : Value → Shared → Prop} (q1 : IsSq s.heap b l xs) (q2 : IsSq s.heap c m ys)
    (h : ∀ h', IsZip h' (s.heap.objs.size + 4) (s.heap.objs.size + 2) (s.heap.objs.size + 3) .none → IsPair h' (s.heap.objs.size + 2) (.ref s.heap.objs.size) (.ref (s.heap.objs.size + 1)) →
      IsPair h' (s.heap.objs.size + 3) .none .none → Itq h' s.heap.objs.size l 0 xs → Itq h' (s.heap.objs.size + 1) m 0 ys → (∀ c o, s.heap.get? c = some o → h'.get? c = some o) → Q (.ref (s.heap.objs.size + 4)) { s with heap := h' }) :
    wpAny (model prog w) A (call (.type "zip") [.ref l, .ref m]) Q E s := by
  refine callType_new F.called_zip (by decide) (F.typeCall_zip_2 _ _) (F.newCall_zip_2 _ _) (fun obj => F.args_object_init_3 obj _ _) F.entry_zip_new (meets_zq b c l m xs ys) ⟨q1, q2, ?_⟩
  have z1 : (zq1 s.heap b l).objs.size = s.heap.objs.size + 1 := Heap.size_push ..
  have z2 : (zq2 s.heap b c l m).objs.size = s.heap.objs.size + 2 := by rw [Heap.size_push, z1]
  have z3 : (zq3 s.heap b c l m).objs.size = s.heap.objs.size + 3 := by rw [Heap.size_push, z2]
  have z4 : (zq4 s.heap b c l m).objs.size = s.heap.objs.size + 4 := by rw [Heap.size_push, z3]
  have g5 : (zq5 s.heap b c l m).get? (zq4 s.heap b c l m).objs.size = some _ := Heap.get?_push_size _ rfl
  have g4 : (zq5 s.heap b c l m).get? (zq3 s.heap b c l m).objs.size = some _ := Heap.get?_push_of_some _ (Heap.get?_push_size _ rfl)
  have g3 : (zq5 s.heap b c l m).get? (zq2 s.heap b c l m).objs.size = some _ := Heap.get?_push_of_some _ (Heap.get?_push_of_some _ (Heap.get?_push_size _ rfl))
  have g2 : (zq5 s.heap b c l m).get? (zq1 s.heap b l).objs.size = some (zqI c m) := Heap.get?_push_of_some _ (Heap.get?_push_of_some _ (Heap.get?_push_of_some _ (Heap.get?_push_size _ rfl)))
  have g1 : (zq5 s.heap b c l m).get? s.heap.objs.size = some (zqI b l) := Heap.get?_push_of_some _ (Heap.get?_push_of_some _ (Heap.get?_push_of_some _ (Heap.get?_push_of_some _ (Heap.get?_push_size _ rfl))))
  have kp : ∀ c' o, s.heap.get? c' = some o → (zq5 s.heap b c l m).get? c' = some o := fun c' o q => Heap.get?_push_of_some _ (Heap.get?_push_of_some _ (Heap.get?_push_of_some _ (Heap.get?_push_of_some _ (Heap.get?_push_of_some _ q))))
  show _ ∧ _
  rw [z2, z3, z4] at g5
  rw [z1, z2] at g3
  rw [z3] at g4
  rw [z1] at g2
  rw [z4]
  have j1 : Itq (zq5 s.heap b c l m) s.heap.objs.size l 0 xs := by
    cases b with
    | true => exact .inr ⟨⟨_, g1, rfl, rfl⟩, (show s.heap.IsTuple l xs from q1).at fun o q => kp _ o q⟩
    | false => exact .inl ⟨⟨_, g1, rfl, rfl⟩, (show s.heap.IsList l xs from q1).at fun o q => kp _ o q⟩
  have j2 : Itq (zq5 s.heap b c l m) (s.heap.objs.size + 1) m 0 ys := by
    cases c with
    | true => exact .inr ⟨⟨_, g2, rfl, rfl⟩, (show s.heap.IsTuple m ys from q2).at fun o q => kp _ o q⟩
    | false => exact .inl ⟨⟨_, g2, rfl, rfl⟩, (show s.heap.IsList m ys from q2).at fun o q => kp _ o q⟩
  exact ⟨⟨_, g5, rfl⟩, h _ g5 g3 g4 j1 j2 kp⟩
end
section
variable {X : Cx} {pins : List (Addr × Obj)} {σ : St} {H : Hp} {s : Shared}
theorem Inv.turnedL {h' : Heap} {t' : Nat} {ch : List Addr} (I : Inv X pins σ H s) (hk : ∀ b o, b ∉ ch → s.heap.get? b = some o → h'.get? b = some o) (fc : ∀ e ∈ ch, FpOk X pins H e) : Inv X pins σ H { s with heap := h', toks := t' } := by
  refine I.step (g' := s.gens) (d' := s.drawn) (ch := ch) (fun b hb => ?_) (fun b o _ _ hb q _ => hk b o hb q) (fun b o _ _ hb q _ => ⟨o.slots, hk b o hb q⟩) (fun b o _ _ n => n) (fun b o hb q => ⟨o, hk b o hb q⟩)
    (fun _ _ q => q) (fun _ _ _ q => q) (fun b ps q => ⟨#[], by rw [q]; simp⟩) (fun m hm => ?_) (fun b u q => ?_) I.bare
  · have f := fc b hb
    exact ⟨f.2.2.2.1, f.2.1, f.2.2.2.2.1, f.2.2.2.2.2⟩
  · obtain ⟨o, es, ep, ho, r⟩ := hm
    exact ⟨o, es, ep, hk _ o (fun z => (fc _ z).2.1 rfl) ho, r⟩
  · refine (I.hok b u q).stay (fun c v hc r => hk c v (fun z => ?_) r) (fun c r => r) fun c xs r => r
    have f := fc c z
    rcases hc with rfl | hc
    · rw [f.1] at q; cases q
    · rw [f.1] at hc; cases hc
noncomputable def SqK (H : Hp) (c : Bool) (a : Addr) (xs : List V) : Prop := H a = some (if c = true then HO.tup xs else HO.lst xs)
theorem SqK.inj {c : Bool} {a : Addr} {xs ys : List V} (h : SqK H c a xs) (h' : SqK H c a ys) : xs = ys := by
  unfold SqK at h h'
  rw [h] at h'
  cases c <;> (injection h' with h'; injection h')
theorem SqK.ne {c : Bool} {a b : Addr} {xs : List V} (h : SqK H c a xs) (hb : H b = none) : a ≠ b := fun z => by
  subst z
  unfold SqK at h
  rw [hb] at h; cases h
theorem SqK.same {H' : Hp} {c : Bool} {a : Addr} {xs : List V} (h : SqK H c a xs) (y : Same H H') : SqK H' c a xs := y _ _ h
theorem SqK.tup {a : Addr} {xs : List V} (h : H a = some (.tup xs)) : SqK H true a xs := h
theorem SqK.lst {a : Addr} {xs : List V} (h : H a = some (.lst xs)) : SqK H false a xs := h
theorem Inv.sqK {c : Bool} {a : Addr} {xs : List V} (I : Inv X pins σ H s) (h : SqK H c a xs) : ∃ its : List Value, Vals xs its ∧ IsSq s.heap c a its.toArray := by
  cases c with
  | true =>
    obtain ⟨its, r, p, _⟩ := I.tuple (SqT.of h)
    exact ⟨its, r, (show s.heap.IsTuple a its.toArray from p)⟩
  | false =>
    obtain ⟨its, r, p, _⟩ := I.list (SqL.of h)
    exact ⟨its, r, p.isList⟩
noncomputable def Itz (c d : Bool) (a b : Addr) : It := ⟨fun i H => ∃ xs ys x y, SqK H c a xs ∧ SqK H d b ys ∧ xs[i]? = some x ∧ ys[i]? = some y,
  fun i H v H' => ∃ p, H p = none ∧ v = .ref p ∧ ∀ xs ys, SqK H c a xs → SqK H d b ys → ∃ x y, xs[i]? = some x ∧ ys[i]? = some y ∧ H' = upd H p (.tup [x, y]),
  fun i H => ∃ xs ys, SqK H c a xs ∧ SqK H d b ys ∧ (xs[i]? = none ∨ ys[i]? = none)⟩
noncomputable def Itk (h : Heap) (c : Bool) (i l : Addr) (k : Nat) : Prop := if c = true then h.IsTupleIter i l k else h.IsListIter i l k
theorem Itk.at {h h' : Heap} {c : Bool} {i l : Addr} {k : Nat} (x : Itk h c i l k) (hi : ∀ o, h.get? i = some o → h'.get? i = some o) : Itk h' c i l k := by
  cases c with
  | true => exact (show h.IsTupleIter i l k from x).at hi
  | false => exact (show h.IsListIter i l k from x).at hi
theorem Itk.obj {h : Heap} {c : Bool} {i l : Addr} {k : Nat} (x : Itk h c i l k) : ∃ o, h.get? i = some o ∧ ∀ v, o.data ≠ .cell v := by
  cases c with
  | true => obtain ⟨o, e, _, d⟩ := (show h.IsTupleIter i l k from x); exact ⟨o, e, fun v z => by rw [d] at z; cases z⟩
  | false => obtain ⟨o, e, _, d⟩ := (show h.IsListIter i l k from x); exact ⟨o, e, fun v z => by rw [d] at z; cases z⟩
theorem Itk.q {h : Heap} {c : Bool} {i l : Addr} {k : Nat} {xs : Array Value} (x : Itk h c i l k) (q : IsSq h c l xs) : Itq h i l k xs := by
  cases c with
  | true => exact .inr ⟨x, q⟩
  | false => exact .inl ⟨x, q⟩
theorem two_cls {h : Heap} {l : Addr} {xs ys : Array Value} (p : h.IsTuple l xs) (q : h.IsList l ys) : False := by
  obtain ⟨o, e, c1, _⟩ := p
  obtain ⟨o', e', c2, _⟩ := q
  rw [e] at e'; cases e'
  rw [c1] at c2
  injection c2 with c2
  exact absurd c2 (by decide)
theorem Itq.k {h : Heap} {c : Bool} {i l : Addr} {k : Nat} {xs : Array Value} (x : Itq h i l k xs) (q : IsSq h c l xs) : Itk h c i l k := by
  rcases x with ⟨x1, x2⟩ | ⟨x1, x2⟩
  · cases c with
    | false => exact x1
    | true => exact (two_cls (show h.IsTuple l xs from q) x2).elim
  · cases c with
    | true => exact x1
    | false => exact (two_cls x2 (show h.IsList l xs from q)).elim
theorem IsSq.at {h h' : Heap} {c : Bool} {l : Addr} {xs : Array Value} (x : IsSq h c l xs) (hl : ∀ o, h.get? l = some o → h'.get? l = some o) : IsSq h' c l xs := by
  cases c with
  | true => exact (show h.IsTuple l xs from x).at hl
  | false => exact (show h.IsList l xs from x).at hl
noncomputable def ZTn (c d : Bool) (z TI TO i1 i2 a b : Addr) (i : Nat) (h : Heap) : Prop := IsZip h z TI TO .none ∧ IsPair h TI (.ref i1) (.ref i2) ∧ (∃ u v, IsPair h TO u v) ∧ Itk h c i1 a i ∧ Itk h d i2 b i
structure ZAp (z TI TO i1 i2 : Addr) : Prop where
  h1 : TI ≠ z
  h2 : TO ≠ z
  h3 : i1 ≠ z
  h4 : i2 ≠ z
  h5 : TI ≠ TO
  h6 : TI ≠ i1
  h7 : TI ≠ i2
  h8 : TO ≠ i1
  h9 : TO ≠ i2
  h10 : i1 ≠ i2
theorem ZAp.apart {z TI TO i1 i2 a b : Addr} (p : ZAp z TI TO i1 i2) (ha : ∀ e ∈ [z, TI, TO, i1, i2], a ≠ e) (hb : ∀ e ∈ [z, TI, TO, i1, i2], b ≠ e) : ZipApart z TI TO i1 i2 a b :=
  ⟨p.h1, p.h2, p.h3, p.h4, p.h5, p.h6, p.h7, p.h8, p.h9, p.h10, ha _ (by simp), ha _ (by simp), ha _ (by simp), ha _ (by simp), hb _ (by simp), hb _ (by simp), hb _ (by simp), hb _ (by simp)⟩
theorem turn_zip {P : Program} {w : World} {K : PySem.W.Frag} {elts : List Expr} {k : Nat} {pos : Pos} {c d : Bool} {z TI TO i1 i2 a b : Addr} (ap : ZAp z TI TO i1 i2) :
    Turn P w K (.Tuple elts k pos) (Itz c d a b) [z, TI, TO, i1, i2] z (ZTn c d z TI TO i1 i2 a b) where
  mem := List.mem_cons_self ..
  obj := fun i h st e he => by
    obtain ⟨hz, hTI, ⟨u, v, hTO⟩, k1, k2⟩ := st
    simp only [List.mem_cons, List.not_mem_nil, or_false] at he
    rcases he with rfl | rfl | rfl | rfl | rfl
    · exact ⟨_, hz, fun v q => by cases q⟩
    · exact ⟨_, hTI, fun v q => by cases q⟩
    · exact ⟨_, hTO, fun v q => by cases q⟩
    · exact k1.obj
    · exact k2.obj
  keep := fun i h h' st kp => by
    obtain ⟨hz, hTI, ⟨u, v, hTO⟩, k1, k2⟩ := st
    exact ⟨kp z (by simp) _ hz, kp TI (by simp) _ hTI, ⟨u, v, kp TO (by simp) _ hTO⟩, k1.at fun o q => kp i1 (by simp) o q, k2.at fun o q => kp i2 (by simp) o q⟩
  item := by
    intro X hP hw hK hc i pins s σ H E I hf st hg
    subst hP hw hK
    obtain ⟨xs, ys, x, y, ha, hb, hx, hy⟩ := hg
    obtain ⟨hz, hTI, ⟨u, v, hTO⟩, k1, k2⟩ := st
    obtain ⟨its, rv, q1⟩ := I.sqK ha
    obtain ⟨jts, rw', q2⟩ := I.sqK hb
    obtain ⟨u1, hu1, ru1⟩ := rv.get hx
    obtain ⟨u2, hu2, ru2⟩ := rw'.get hy
    have na : ∀ e ∈ [z, TI, TO, i1, i2], a ≠ e := fun e he => ha.ne (hf e he).1
    have nb : ∀ e ∈ [z, TI, TO, i1, i2], b ≠ e := fun e he => hb.ne (hf e he).1
    have D := ap.apart na nb
    have hT : s.TypeIs (.ref z) "zip" := ⟨_, hz, rfl⟩
    have step : wpAny (model X.prog X.w) X.A (pyNext (.ref z)) (fun r s1 => ∃ h', r = some (.ref s.heap.objs.size) ∧ s1 = { s with heap := h' } ∧ IsZip h' z TI TO (rawInt s.heap.objs.size) ∧ IsPair h' TO u1 u2 ∧ Itq h' i1 a (i + 1) its.toArray ∧ Itq h' i2 b (i + 1) jts.toArray ∧ IsPair h' s.heap.objs.size u1 u2 ∧ ∀ c o, c ≠ z → c ≠ TO → c ≠ i1 → c ≠ i2 → s.heap.get? c = some o → h'.get? c = some o) E s := by
      unfold pyNext
      exact wpAny_bind (wpAny_attempt (wpAny_callSpecial?_slot (name := Str.ofString "__next__") hT F.slot_zip_next (wpAny_call_entry F.slot_zip_next hT F.entry_zip_next (zq_item D (na _ (by simp)) (nb _ (by simp)) hz hTI hTO (k1.q q1) (k2.q q2) (by simpa using hu1) (by simpa using hu2) fun h' a1 a2 a3 a4 a5 a6 a7 => wpAny_pure ⟨h', rfl, rfl, a1, a2, a3, a4, a5, a7⟩) (F.args_zip_next_1 _))))
    refine thn step fun r s1 ⟨h', e1, e2, a1, a2, a3, a4, a5, a7⟩ => ?_
    subst e1 e2
    refine ⟨_, rfl, wpAny_letOwnedTupleGo_zip a1 fun h2 b1 b2 => ?_⟩
    have hn : H s.heap.objs.size = none := I.hok.fresh (Nat.le_refl _)
    have zlt : z < s.heap.objs.size := Heap.lt_size hz
    have up : ∀ c o, c ∉ [z, TO, i1, i2] → s.heap.get? c = some o → h2.get? c = some o := fun c o hc' q => by
      simp only [List.mem_cons, List.not_mem_nil, or_false, not_or] at hc'
      exact b2.extBut _ _ hc'.1 (a7 c o hc'.1 hc'.2.1 hc'.2.2.1 hc'.2.2.2 q)
    have I1 : Inv X pins σ H { s with heap := h2, toks := s.toks } := I.turnedL (ch := [z, TO, i1, i2]) up fun e he => hf e (by
      simp only [List.mem_cons, List.not_mem_nil, or_false] at he ⊢
      rcases he with rfl | rfl | rfl | rfl <;> simp)
    have hTd : TupD h2 s.heap.objs.size [u1, u2].toArray := ⟨0, b2.extBut _ _ (Nat.ne_of_gt zlt) a5⟩
    have I2 := I1.trackT (ys := [x, y]) (.cons ru1 (.cons ru2 .nil)) (by show 2 ≤ sizeLine; decide) hTd (I.fpOk (Nat.le_refl _) hn)
    have q1' : IsSq h' c a its.toArray := q1.at fun o q => a7 _ o (na _ (by simp)) (na _ (by simp)) (na _ (by simp)) (na _ (by simp)) q
    have q2' : IsSq h' d b jts.toArray := q2.at fun o q => a7 _ o (nb _ (by simp)) (nb _ (by simp)) (nb _ (by simp)) (nb _ (by simp)) q
    refine ⟨.ref s.heap.objs.size, _, I2, rfl, ⟨_, hn, rfl, fun xs' ys' ha' hb' => ?_⟩, ⟨b1, b2.extBut _ _ ap.h1 (a7 _ _ ap.h1 ap.h5 ap.h6 ap.h7 hTI), ⟨_, _, b2.extBut _ _ ap.h2 a2⟩, (a3.k q1').at fun o q => b2.extBut _ _ ap.h3 q, (a4.k q2').at fun o q => b2.extBut _ _ ap.h4 q⟩, fun e he => ?_⟩
    · cases ha.inj ha'
      cases hb.inj hb'
      exact ⟨x, y, hx, hy, rfl⟩
    · have le : e < s.heap.objs.size := by
        obtain ⟨o, q, _⟩ : ∃ o, s.heap.get? e = some o ∧ True := by
          simp only [List.mem_cons, List.not_mem_nil, or_false] at he
          rcases he with rfl | rfl | rfl | rfl | rfl
          · exact ⟨_, hz, trivial⟩
          · exact ⟨_, hTI, trivial⟩
          · exact ⟨_, hTO, trivial⟩
          · obtain ⟨o, q, _⟩ := k1.obj; exact ⟨o, q, trivial⟩
          · obtain ⟨o, q, _⟩ := k2.obj; exact ⟨o, q, trivial⟩
        exact Heap.lt_size q
      rw [upd_ne (Nat.ne_of_lt le)]
      exact (hf e he).1
  done := by
    intro X hP hw hK hc i pins s σ H E I hf st hg
    subst hP hw hK
    obtain ⟨xs, ys, ha, hb, hend⟩ := hg
    obtain ⟨hz, hTI, ⟨u, v, hTO⟩, k1, k2⟩ := st
    obtain ⟨its, rv, q1⟩ := I.sqK ha
    obtain ⟨jts, rw', q2⟩ := I.sqK hb
    have na : ∀ e ∈ [z, TI, TO, i1, i2], a ≠ e := fun e he => ha.ne (hf e he).1
    have nb : ∀ e ∈ [z, TI, TO, i1, i2], b ≠ e := fun e he => hb.ne (hf e he).1
    have D := ap.apart na nb
    have hT : s.TypeIs (.ref z) "zip" := ⟨_, hz, rfl⟩
    have e1 : its.toArray[i]? = none ∨ jts.toArray[i]? = none := by
      have l1 := rv.length
      have l2 := rw'.length
      rcases hend with h | h
      · left
        rw [List.getElem?_eq_none_iff] at h
        simp; omega
      · right
        rw [List.getElem?_eq_none_iff] at h
        simp; omega
    unfold pyNext
    refine wpAny_bind (wpAny_attempt (wpAny_callSpecial?_slot (name := Str.ofString "__next__") hT F.slot_zip_next (wpAny_call_entry F.slot_zip_next hT F.entry_zip_next (zq_end (I.ok.hd hc) D hz hTI hTO (k1.q q1) (k2.q q2) e1 fun h' e hk he => ?_) (F.args_zip_next_1 _))))
    obtain ⟨o, ho, hcl⟩ := he
    refine wpAny_bind (wpAny_isInstance (T := "StopIteration") (b := true) ⟨o, ho, hcl⟩ isSubtype_stop (wpAny_pure ⟨rfl, ?_⟩))
    refine I.turnedL (t' := s.toks) (ch := [z, TO, i1, i2]) (fun c o hc' q => ?_) fun e he => hf e (by
      simp only [List.mem_cons, List.not_mem_nil, or_false] at he ⊢
      rcases he with rfl | rfl | rfl | rfl <;> simp)
    simp only [List.mem_cons, List.not_mem_nil, or_false, not_or] at hc'
    exact hk c o hc'.1 hc'.2.1 hc'.2.2.1 hc'.2.2.2 q
  self := fun A i s Q E st h => wpAny_pyIter_zip st.1 h
theorem boot_zip' : bootBuiltins "zip" = some (.type "zip") := by decide +kernel
noncomputable def iZip (ta : TA) : TI := fun σ H R => ta σ H fun vs H1 => match vs with
  | [.ref a, .ref b] => ∃ c d xs ys, SqK H1 c a xs ∧ SqK H1 d b ys ∧ R (Itz c d a b) H1
  | _ => False
theorem pi_zip {l m : Expr} {ta : TA} {elts : List Expr} {k : Nat} {tp p pos : Pos} (hg : Gl X "zip") (hm : X.mg "zip" = none) (ha : PA X [l, m] ta) (hs : starEach [l, m] X.env = [(false, eval l X.env), (false, eval m X.env)] := by rfl) (hs2 : starEach [m] X.env = [(false, eval m X.env)] := by rfl) :
    PI X (.Tuple elts k tp) (.Call (.Name "zip" p) [l, m] [] pos) (iZip ta) := by
  intro pins s σ H R I h
  refine Call_ (ld_blt I hg hm boot_zip' (PyProof.Rows.callWith_type1 (thn (ha pos pins s σ H _ I h) fun us s1 ⟨vs, H1, I1, r1, q1⟩ => ?_) (by rw [hs, hs2]) (by rw [hs2]; rfl)))
  dsimp only at q1
  split at q1
  · rename_i a b
    obtain ⟨c, d, xs, ys, ka, kb, q⟩ := q1
    obtain ⟨u, u', rfl, rx, ry⟩ := vals2 r1
    cases rx
    cases ry
    obtain ⟨its, rv, p1⟩ := I1.sqK ka
    obtain ⟨jts, rv', p2⟩ := I1.sqK kb
    refine call_zq p1 p2 fun h' hz hTI hTO j1 j2 hk => ?_
    have I2 : Inv X pins σ H1 { s1 with heap := h' } := I1.kept (t' := s1.toks) hk
    have ap : ZAp (s1.heap.objs.size + 4) (s1.heap.objs.size + 2) (s1.heap.objs.size + 3) s1.heap.objs.size (s1.heap.objs.size + 1) := by
      have e : ∀ n m : Nat, n ≠ m → s1.heap.objs.size + n ≠ s1.heap.objs.size + m := fun n m h z => h (Nat.add_left_cancel z)
      exact ⟨e 2 4 (by decide), e 3 4 (by decide), e 0 4 (by decide), e 1 4 (by decide), e 2 3 (by decide), e 2 0 (by decide), e 2 1 (by decide), e 3 0 (by decide), e 3 1 (by decide), e 0 1 (by decide)⟩
    refine wpAny_pyIter_zip (s := { s1 with heap := h' }) hz ⟨s1.heap.objs.size + 4, _, _, _, H1, rfl, I2, turn_zip ap, ⟨hz, hTI, ⟨_, _, hTO⟩, j1.k (p1.at fun o q => hk _ o q), j2.k (p2.at fun o q => hk _ o q)⟩, fun e he => ?_, q⟩
    have hb' : s1.heap.objs.size ≤ e := by
      simp only [List.mem_cons, List.not_mem_nil, or_false] at he
      rcases he with rfl | rfl | rfl | rfl | rfl
      · exact Nat.le_add_right _ 4
      · exact Nat.le_add_right _ 2
      · exact Nat.le_add_right _ 3
      · exact Nat.le_refl _
      · exact Nat.le_add_right _ 1
    exact I1.fpOk hb' (I1.hok.fresh hb')
  · exact q1.elim
theorem zi_zip {l m : Expr} {ta : TA} {elts : List Expr} {k : Nat} {tp p pos : Pos} (hg : Gl X "zip") (hm : X.mg "zip" = none) (ha : ZA X [l, m] ta) (hs : starEach [l, m] X.env = [(false, eval l X.env), (false, eval m X.env)] := by rfl) (hs2 : starEach [m] X.env = [(false, eval m X.env)] := by rfl) :
    ZI X (.Tuple elts k tp) (.Call (.Name "zip" p) [l, m] [] pos) (iZip ta) := by with_unfolding_all exact pi_zip hg hm ha hs hs2
theorem cmp_zip {nv : List Str} {ix : List (Str × Nat)} {σ : St} {g : TG} {ti : TT} {te : TE} {Fin : List V → Hp → Prop} {c d : Bool} {a b : Addr} {xs ys : List V} (Pv : Nat → List V → Hp → Prop) (h0 : Pv 0 [] H) (hl : ∀ i zs H, i ≤ min xs.length ys.length → Pv i zs H → SqK H c a xs ∧ SqK H d b ys)
    (hn : ∀ i zs H, i < min xs.length ys.length → Pv i zs H → zs.length < sizeLine)
    (hs : ∀ i x y zs H p, xs[i]? = some x → ys[i]? = some y → Pv i zs H → H p = none → g (.ref p) (st0 nv ix σ) (upd H p (.tup [x, y])) fun σ2 H2 => ti σ2 H2 fun b H3 => if b = true then te σ2 H3 fun y H4 => Pv (i + 1) (zs ++ [y]) H4 else Pv (i + 1) zs H3)
    (hd : ∀ zs H, Pv (min xs.length ys.length) zs H → Fin zs H) : CmpW nv ix g ti te σ (Itz c d a b) Fin H := by
  refine ⟨fun i m zs H => m = min xs.length ys.length - i ∧ i ≤ min xs.length ys.length ∧ Pv i zs H, ⟨_, rfl, Nat.zero_le _, h0⟩, ?_⟩
  rintro i m zs H ⟨rfl, hi, p⟩
  obtain ⟨q1, q2⟩ := hl i zs H hi p
  by_cases hlt : i < min xs.length ys.length
  · have l1 : i < xs.length := by omega
    have l2 : i < ys.length := by omega
    refine .inr ⟨⟨xs, ys, xs[i], ys[i], q1, q2, by simp [l1], by simp [l2]⟩, hn i zs H hlt p, Pv (i + 1), fun σ' H' p' => ⟨_, by omega, rfl, hlt, p'⟩, fun x H' y => ?_⟩
    obtain ⟨pp, hn', rfl, hy⟩ := y
    obtain ⟨x1, y1, e1, e2, rfl⟩ := hy xs ys q1 q2
    exact hs i x1 y1 zs H pp e1 e2 p hn'
  · have e : i = min xs.length ys.length := by omega
    refine .inl ⟨⟨xs, ys, q1, q2, ?_⟩, hd zs H (e ▸ p)⟩
    by_cases l1 : i < xs.length
    · right; rw [List.getElem?_eq_none_iff]; omega
    · left; rw [List.getElem?_eq_none_iff]; omega
theorem kpg_two {K : PySem.W.Frag} {x y : Str} : KpG [x, y] (gTup K 2 (gCons (gName 0) (gCons (gName 1) gNil))) := fun fr v H Q h => by
  obtain ⟨a, xs, e, hq, hl, v1, r1, e1, v2, r2, e2, e3, q⟩ := h
  refine ⟨a, xs, e, hq, hl, v1, r1, e1, v2, r2, e2, e3, ⟨by simp, fun i w e => ?_⟩, q⟩
  match i, e with
  | 0, e => cases e
  | 1, e => cases e
  | i + 2, e => exact e
theorem drawsK {prog : Program} {w : World} {A : Around} (hh : A.handled = none) (c : Bool) (it l : Addr) (hne : l ≠ it) (items : Array Value) :
    Draws prog w A it [it, l] items.size (fun i v => items[i]? = some v) (fun i h => Itk h c it l i ∧ IsSq h c l items) where
  live := fun _ _ st => let ⟨o, ho, _⟩ := st.1.obj; ⟨o, ho⟩
  frame := fun _ _ _ st k => ⟨st.1.at fun o e => k it (List.mem_cons_self ..) o e, st.2.at fun o e => k l (by simp) o e⟩
  item := fun i s Q E hi st hQ => Itq.item (v := items[i]) (st.1.q st.2) hne (by simp [hi]) fun h' a b => hQ items[i] h' s.toks (by simp [hi]) ⟨a.k (st.2.at fun o e => b.extBut _ _ hne e), st.2.at fun o e => b.extBut _ _ hne e⟩ b
  done := fun s Q E st hE => Itq.fin hh (st.1.q st.2) (by simp) hE
theorem meets_enumK (c : Bool) (l : Addr) (items : Array Value) :
    Meets (Builtin.«enumerate.__new__» ⟨[.type "enumerate", .ref l], []⟩) (fun _ R s => IsSq s.heap c l items ∧
      R (.ok (.ret (.ref (s.heap.push (zqI c l)).objs.size))) { s with heap := (s.heap.push (zqI c l)).push { cls := .type "enumerate", data := .fields #[.none, .bool false, .ref s.heap.objs.size, rawInt 0, .none, .none] } }) :=
  .of_wp fun prog w A R s h => by
    obtain ⟨hp, g, d, tk, os⟩ := s
    obtain ⟨hl, h⟩ := h
    have hsub := sub_enumerate
    have hS : IsSq (Shared.heap ⟨hp, g, d, tk, os⟩) c l items := hl
    obtain ⟨o, ho, _⟩ : ∃ o, hp.get? l = some o ∧ True := by
      cases c with
      | true => obtain ⟨o, e, _⟩ := (show hp.IsTuple l items from hl); exact ⟨o, e, trivial⟩
      | false => obtain ⟨o, e, _⟩ := (show hp.IsList l items from hl); exact ⟨o, e, trivial⟩
    wp_walk using AutoSeq1.wpAny_loadPart' ho
    refine wpAny_stack_any fun st => wpAny_pure ?_
    split
    · rename_i c' _ _ _ _ _
      cases (c' == Value.type "enumerate") <;> (wp_walk using AutoSeq1.wpAny_loadPart' ho, iter_sq hS) <;> exact ⟨_, rfl, h⟩
    · wp_walk using AutoSeq1.wpAny_loadPart' ho, iter_sq hS
      exact ⟨_, rfl, h⟩
noncomputable def ItE (c : Bool) (a : Addr) : It := ⟨fun i H => ∃ xs x, SqK H c a xs ∧ xs[i]? = some x, fun i H v H' => ∃ p, H p = none ∧ v = .ref p ∧ ∀ xs, SqK H c a xs → ∃ y, xs[i]? = some y ∧ H' = upd H p (.tup [.int i, y]), fun i H => ∃ xs, SqK H c a xs ∧ xs.length = i⟩
theorem turn_enumK {P : Program} {w : World} {K : PySem.W.Frag} {elts : List Expr} {k : Nat} {pos : Pos} {c : Bool} {e it a : Addr} (hei : e ≠ it) :
    Turn P w K (.Tuple elts k pos) (ItE c a) [e, it] e (fun i h => (∃ old, IsEnum h e it i old) ∧ Itk h c it a i) where
  mem := List.mem_cons_self ..
  obj := fun i h st b hb => by
    obtain ⟨⟨old, he⟩, kt⟩ := st
    rcases List.mem_cons.mp hb with rfl | hb
    · exact ⟨_, he, fun v z => by cases z⟩
    · have : b = it := by simpa using hb
      subst this
      exact kt.obj
  keep := fun i h h' st k => ⟨let ⟨old, he⟩ := st.1; ⟨old, k e (by simp) _ he⟩, st.2.at fun o q => k it (by simp) o q⟩
  item := by
    intro X hP hw hK hc i pins s σ H E I hf st hg
    subst hP hw hK
    obtain ⟨xs, x, hq, hx⟩ := hg
    obtain ⟨⟨old, he⟩, hit⟩ := st
    obtain ⟨its, rv, p⟩ := I.sqK hq
    obtain ⟨u, hu, ru⟩ := rv.get hx
    have fe := hf e (by simp)
    have fi := hf it (by simp)
    have hae : a ≠ e := hq.ne fe.1
    have hai : a ≠ it := hq.ne fi.1
    have hlt : i < its.toArray.size := by rw [List.size_toArray]; exact (List.getElem?_eq_some_iff.mp hu).1
    refine wpAny_pyNext_enum_itemD (drawsK (A := X.A.in1) (I.ok.hd hc) c it a hai its.toArray) he ⟨hit, p⟩ hlt hei (by simp [hei, Ne.symm hae]) fun x' h' tk hPx ho hst' hTup hsz hk => ?_
    have ex : x' = u := by
      have : its[i]? = some x' := by simpa using hPx
      rw [hu] at this
      exact (Option.some.inj this).symm
    subst ex
    refine ⟨_, rfl, wpAny_letOwnedTupleGo_enum ho fun h2 he2 hs2 => ?_⟩
    have hel : e < s.heap.objs.size := Heap.lt_size he
    have I1 : Inv X pins σ H { s with heap := h2, toks := tk + 1 } := I.turned2 (fun b o n1 n2 q => (hs2.2 b n1).trans (hk b o n1 n2 q)) fe fi
    have hTd : TupD h2 s.heap.objs.size [.int i tk, x'].toArray := ⟨0, (hs2.2 _ (Nat.ne_of_gt hel)).trans hTup⟩
    have hn : H s.heap.objs.size = none := I.hok.fresh (Nat.le_refl _)
    have I2 := I1.trackT (ys := [.int i, x]) (.cons ⟨tk, rfl⟩ (.cons ru .nil)) (by show 2 ≤ sizeLine; decide) hTd (I.fpOk (Nat.le_refl _) hn)
    have hil : it < s.heap.objs.size := by obtain ⟨o, q, _⟩ := hit.obj; exact Heap.lt_size q
    refine ⟨.ref s.heap.objs.size, _, I2, rfl, ⟨_, hn, rfl, fun ys hy => ?_⟩, ⟨⟨x', by simpa using he2⟩, hst'.1.at fun o q => (hs2.2 it (Ne.symm hei)).trans q⟩, fun b hb => ?_⟩
    · cases hq.inj hy
      exact ⟨x, hx, rfl⟩
    · rcases List.mem_cons.mp hb with rfl | hb
      · rw [upd_ne (Nat.ne_of_lt hel)]; exact fe.1
      · have : b = it := by simpa using hb
        subst this
        rw [upd_ne (Nat.ne_of_lt hil)]; exact fi.1
  done := by
    intro X hP hw hK hc i pins s σ H E I hf st hg
    subst hP hw hK
    obtain ⟨xs, hq, hx⟩ := hg
    obtain ⟨⟨old, he⟩, hit⟩ := st
    obtain ⟨its, rv, p⟩ := I.sqK hq
    have fi := hf it (by simp)
    have hai : a ≠ it := hq.ne fi.1
    have hn : its.toArray.size = i := by rw [List.size_toArray, ← rv.length]; exact hx
    refine wpAny_pyNext_enum_endD (drawsK (A := X.A.in1) (I.ok.hd hc) c it a hai its.toArray) he ⟨by rw [hn]; exact hit, p⟩ fun h' hb => ⟨rfl, I.turned (t' := s.toks) (it := it) (fun b o n q => hb b o n q) fi.1 fi.2.1 fi.2.2.2.1 fi.2.2.2.2.1 fi.2.2.2.2.2⟩
  self := fun A i s Q E st h => let ⟨⟨_, he⟩, _⟩ := st; wpAny_pyIter_enum he h
theorem call_enumK {prog : Program} {w : World} {A : Around} {E : Value → Shared → Prop} {s : Shared} {c : Bool} {l : Addr} {items : Array Value} {Q : Value → Shared → Prop} (hL : IsSq s.heap c l items)
    (h : ∀ h', IsEnum h' (s.heap.objs.size + 1) s.heap.objs.size 0 .none → Itk h' c s.heap.objs.size l 0 → (∀ b o, s.heap.get? b = some o → h'.get? b = some o) → Q (.ref (s.heap.objs.size + 1)) { s with heap := h' }) :
    wpAny (model prog w) A (call (.type "enumerate") [.ref l]) Q E s := by
  have hz : (s.heap.push (zqI c l)).objs.size = s.heap.objs.size + 1 := Heap.size_push ..
  refine callType_new F.called_enumerate (by decide) (F.typeCall_enumerate_1 _) (F.newCall_enumerate_1 _) (fun obj => F.args_object_init_2 obj _) F.entry_enumerate_new (meets_enumK c l items) ⟨hL, ?_⟩
  have g := Heap.get?_push_size (s.heap.push (zqI c l)) (o := { cls := .type "enumerate", data := .fields #[.none, .bool false, .ref s.heap.objs.size, rawInt 0, .none, .none] }) rfl
  rw [hz] at g
  show _ ∧ _
  rw [hz]
  refine ⟨⟨_, g, rfl⟩, h _ g ?_ fun b o q => Heap.get?_push_of_some _ (Heap.get?_push_of_some _ q)⟩
  have e := Heap.get?_push_of_some { cls := .type "enumerate", data := .fields #[.none, .bool false, .ref s.heap.objs.size, rawInt 0, .none, .none] } (Heap.get?_push_size s.heap (o := zqI c l) rfl)
  cases c with
  | true => exact ⟨_, e, rfl, rfl⟩
  | false => exact ⟨_, e, rfl, rfl⟩
noncomputable def iEnumK (ta : TA) : TI := fun σ H R => ta σ H fun vs H1 => match vs with
  | [.ref a] => ∃ c xs, SqK H1 c a xs ∧ R (ItE c a) H1
  | _ => False
theorem pi_enumK {l : Expr} {ta : TA} {elts : List Expr} {k : Nat} {tp p pos : Pos} (hg : Gl X "enumerate") (hm : X.mg "enumerate" = none) (ha : PA X [l] ta) (hs : starEach [l] X.env = [(false, eval l X.env)] := by rfl) :
    PI X (.Tuple elts k tp) (.Call (.Name "enumerate" p) [l] [] pos) (iEnumK ta) := by
  intro pins s σ H R I h
  refine Call_ (ld_blt I hg hm boot_enumerate' (PyProof.Rows.callWith_type1 (thn (ha pos pins s σ H _ I h) fun us s1 ⟨vs, H1, I1, r1, q1⟩ => ?_) hs rfl))
  dsimp only at q1
  split at q1
  · rename_i a
    obtain ⟨c, xs, hx, q⟩ := q1
    obtain ⟨u, rfl, rx⟩ := vals1 r1
    cases rx
    obtain ⟨its, rv, pt⟩ := I1.sqK hx
    refine call_enumK pt fun h' he hit hk => ?_
    have I2 : Inv X pins σ H1 { s1 with heap := h' } := I1.kept (t' := s1.toks) hk
    refine wpAny_pyIter_enum (s := { s1 with heap := h' }) he ⟨s1.heap.objs.size + 1, [s1.heap.objs.size + 1, s1.heap.objs.size], _, _, H1, rfl, I2, turn_enumK (Nat.succ_ne_self _), ⟨⟨_, he⟩, hit⟩, fun b hb => ?_, q⟩
    have hb' : s1.heap.objs.size ≤ b := by
      rcases List.mem_cons.mp hb with rfl | hb
      · exact Nat.le_succ _
      · have : b = s1.heap.objs.size := by simpa using hb
        exact Nat.le_of_eq this.symm
    exact I1.fpOk hb' (I1.hok.fresh hb')
  · exact q1.elim
theorem zi_enumK {l : Expr} {ta : TA} {elts : List Expr} {k : Nat} {tp p pos : Pos} (hg : Gl X "enumerate") (hm : X.mg "enumerate" = none) (ha : ZA X [l] ta) (hs : starEach [l] X.env = [(false, eval l X.env)] := by rfl) :
    ZI X (.Tuple elts k tp) (.Call (.Name "enumerate" p) [l] [] pos) (iEnumK ta) := by with_unfolding_all exact pi_enumK hg hm ha hs
theorem for_enumK {c : Bool} {a : Addr} {xs : List V} {g : TG} {tb : TS} {D : Ends} {σ : St} {H : Hp} (Pv : Nat → St → Hp → Prop) (h0 : Pv 0 σ H) (hl : ∀ i σ H, i ≤ xs.length → Pv i σ H → SqK H c a xs)
    (hs : ∀ i x σ H p, xs[i]? = some x → Pv i σ H → H p = none → g (.ref p) σ (upd H p (.tup [.int i, x])) fun σ2 H2 => tb { D with nx := Pv (i + 1), ct := Pv (i + 1), bk := D.nx } σ2 H2) (hd : ∀ σ H, Pv xs.length σ H → D.nx σ H) :
    ∃ W : Nat → Nat → St → Hp → Prop, (∃ m, W 0 m σ H) ∧ ∀ i m σ H, W i m σ H →
      ((ItE c a).stop i H ∧ D.nx σ H) ∨ ((ItE c a).go i H ∧ ∃ N : St → Hp → Prop, (∀ σ' H', N σ' H' → ∃ m', m' < m ∧ W (i + 1) m' σ' H') ∧ ∀ x H', (ItE c a).yld i H x H' → g x σ H' fun σ2 H2 => tb { D with nx := N, ct := N, bk := D.nx } σ2 H2) := by
  refine ⟨fun i m σ H => m = xs.length - i ∧ i ≤ xs.length ∧ Pv i σ H, ⟨xs.length, by simp, Nat.zero_le _, h0⟩, ?_⟩
  rintro i m σ H ⟨rfl, hi, p⟩
  have q := hl i σ H hi p
  by_cases hlt : i < xs.length
  · refine .inr ⟨⟨xs, xs[i], q, by simp [hlt]⟩, Pv (i + 1), fun σ' H' p' => ⟨xs.length - (i + 1), by omega, rfl, hlt, p'⟩, fun x H' y => ?_⟩
    obtain ⟨pp, hn, rfl, hy⟩ := y
    obtain ⟨z, hz, rfl⟩ := hy xs q
    exact hs i z σ H pp hz p hn
  · have e : i = xs.length := by omega
    subst e
    exact .inl ⟨⟨xs, q, rfl⟩, hd σ H p⟩
theorem cmp_enumK {nv : List Str} {ix : List (Str × Nat)} {σ : St} {g : TG} {ti : TT} {te : TE} {Fin : List V → Hp → Prop} {c : Bool} {a : Addr} {xs : List V} (Pv : Nat → List V → Hp → Prop) (h0 : Pv 0 [] H) (hl : ∀ i zs H, i ≤ xs.length → Pv i zs H → SqK H c a xs)
    (hn : ∀ i zs H, i < xs.length → Pv i zs H → zs.length < sizeLine)
    (hs : ∀ i x zs H p, xs[i]? = some x → Pv i zs H → H p = none → g (.ref p) (st0 nv ix σ) (upd H p (.tup [.int i, x])) fun σ2 H2 => ti σ2 H2 fun b H3 => if b = true then te σ2 H3 fun y H4 => Pv (i + 1) (zs ++ [y]) H4 else Pv (i + 1) zs H3)
    (hd : ∀ zs H, Pv xs.length zs H → Fin zs H) : CmpW nv ix g ti te σ (ItE c a) Fin H := by
  refine ⟨fun i m zs H => m = xs.length - i ∧ i ≤ xs.length ∧ Pv i zs H, ⟨_, rfl, Nat.zero_le _, h0⟩, ?_⟩
  rintro i m zs H ⟨rfl, hi, p⟩
  have q := hl i zs H hi p
  by_cases hlt : i < xs.length
  · refine .inr ⟨⟨xs, xs[i], q, by simp [hlt]⟩, hn i zs H hlt p, Pv (i + 1), fun σ' H' p' => ⟨_, by omega, rfl, hlt, p'⟩, fun x H' y => ?_⟩
    obtain ⟨pp, hn', rfl, hy⟩ := y
    obtain ⟨z, hz, rfl⟩ := hy xs q
    exact hs i z zs H pp hz p hn'
  · have e : i = xs.length := by omega
    subst e
    exact .inl ⟨⟨xs, q, rfl⟩, hd zs H p⟩
end
end L2
set_option Elab.async false
set_option linter.all false
set_option maxRecDepth 100000
set_option maxHeartbeats 4000000
namespace L2
open PySem PySem.Spec PyProof.Rows
section
variable {X : Cx} {e : Expr} {es : List Expr} {t : TA} {p pos : Pos}
noncomputable def okTy (c : String) : Bool := c == "int" || c == "bool" || c == "tuple" || c == "str" || c == "list"
noncomputable def rIsiT : List V → Hp → VK → Prop := fun xs H Q => match xs with
  | [x, .ref a] => ∃ tn c1 c2, tyName H x = some tn ∧ H a = some (.tup [.ty c1, .ty c2]) ∧ okTy c1 = true ∧ okTy c2 = true ∧ Q (.bl (subTy tn c1 || subTy tn c2)) H
  | _ => False
theorem kit_two {K : PySem.W.Frag} {H : Hp} {x : V} {tn c1 c2 : String} (h : tyName H x = some tn) (h1 : okTy c1 = true) (h2 : okTy c2 = true) : PySem.W.kitAny K (.type tn) [.type c1, .type c2] = some (subTy tn c1 || subTy tn c2) := by
  have k1 := kit_of (K := K) h h1
  have k2 := kit_of (K := K) h h2
  unfold PySem.W.kitAny
  rw [k1]
  cases subTy tn c1 with
  | true => rfl
  | false =>
    show PySem.W.kitAny K (.type tn) [.type c2] = _
    unfold PySem.W.kitAny
    rw [k2]
    cases subTy tn c2 <;> rfl
theorem call_isiT : CallR X (.builtin "isinstance") rIsiT := by
  intro pins s σ H xs us Q I r h
  unfold rIsiT at h
  split at h
  · rename_i x a
    obtain ⟨tn, c1, c2, hn, ha, o1, o2, q⟩ := h
    obtain ⟨u, w', rfl, r1, r2⟩ := vals2 r
    cases r2
    obtain ⟨_, its, rv, n, ht⟩ := I.hok a _ ha
    have eits : its = [.type c1, .type c2] := by
      cases rv with
      | cons a1 b1 =>
        cases b1 with
        | cons a2 b2 =>
          cases b2
          cases (show _ = Value.type c1 from a1)
          cases (show _ = Value.type c2 from a2)
          rfl
    subst eits
    have kk := kit_two (K := X.K) hn o1 o2
    have fin : ∀ tk, EP X pins σ Q (.bool (subTy tn c1 || subTy tn c2)) { s with toks := tk } := fun tk => ⟨.bl _, H, I.tok tk, rfl, q⟩
    cases x with
    | non => cases (show u = Value.none from r1); cases hn; exact PySem.W.kia_tup PySem.W.kitx_none I.kIn True.intro ht kk (fun z => nomatch z) fin
    | bl y => cases (show u = Value.bool y from r1); cases hn; exact PySem.W.kia_tup PySem.W.kitx_bool I.kIn True.intro ht kk (fun z => nomatch z) fin
    | int i => obtain ⟨t, z⟩ := (show ∃ t, u = Value.int i t from r1); cases z; cases hn; exact PySem.W.kia_tup PySem.W.kitx_int I.kIn True.intro ht kk (fun z => nomatch z) fin
    | str y => obtain ⟨t, z⟩ := (show ∃ t, u = Value.str y t from r1); cases z; cases hn; exact PySem.W.kia_tup PySem.W.kitx_str I.kIn True.intro ht kk (fun z => nomatch z) fin
    | byt b => cases hn
    | flt b => cases hn
    | ty b => cases hn
    | ref b =>
      cases (show u = Value.ref b from r1)
      unfold tyName at hn
      cases eb : H b with
      | none => simp only [eb] at hn; cases hn
      | some o =>
        simp only [eb] at hn
        cases o with
        | lst xs =>
          cases hn
          obtain ⟨_, _, m, _, h1⟩ := (show ObjOk X.prog X.w H s.heap b (.lst xs) from I.hok b _ eb)
          exact PySem.W.kia_tup PySem.W.kitx_list I.kIn ⟨_, h1, rfl⟩ ht kk (fun z => nomatch z) fin
        | tup xs =>
          cases hn
          obtain ⟨_, _, _, p⟩ := (show ObjOk X.prog X.w H s.heap b (.tup xs) from I.hok b _ eb)
          obtain ⟨o, h1, h2, _⟩ := p.tup
          exact PySem.W.kia_tup PySem.W.kitx_tuple I.kIn ⟨o, h1, h2⟩ ht kk (fun z => nomatch z) fin
        | dK kvs =>
          cases hn
          obtain ⟨_, _, vs, _, p⟩ := (show ObjOk X.prog X.w H s.heap b (.dK kvs) from I.hok b _ eb)
          obtain ⟨o, es, ep, h1, h2, _⟩ := p
          exact PySem.W.kia_tup PySem.W.kitx_dict I.kIn ⟨o, h1, h2.1⟩ ht kk (fun z => nomatch z) fin
        | _ => cases hn
  · exact h.elim
theorem pcb_isiT (hg : Gl X "isinstance") (hm : X.mg "isinstance" = none) (ha : PA X (e :: es) t) (he : starEach (e :: es) X.env = (false, eval e X.env) :: starEach es X.env) (hpl : (backTo pos (starEach es X.env)).any (·.1) = false) :
    PE X (.Call (.Name "isinstance" p) (e :: es) [] pos) (tCB rIsiT t) := pe_callB call_isiT hg hm boot_isinstance ha (by decide) (by decide) he hpl
theorem zcb_isiT (hg : Gl X "isinstance") (hm : X.mg "isinstance" = none) (ha : ZA X (e :: es) t) (he : starEach (e :: es) X.env = (false, eval e X.env) :: starEach es X.env) (hpl : (backTo pos (starEach es X.env)).any (·.1) = false) :
    ZE X (.Call (.Name "isinstance" p) (e :: es) [] pos) (tCB rIsiT t) := by with_unfolding_all exact pcb_isiT hg hm ha he hpl
theorem pty_list (hg : Gl X "list") (hm : X.mg "list" = none) : PE X (.Name "list" pos) (tC (.ty "list")) := pe_ty hg hm boot_list' (by decide) (by decide)
theorem zty_list (hg : Gl X "list") (hm : X.mg "list" = none) : ZE X (.Name "list" pos) (tC (.ty "list")) := by with_unfolding_all exact pty_list hg hm
theorem pty_str (hg : Gl X "str") (hm : X.mg "str" = none) : PE X (.Name "str" pos) (tC (.ty "str")) := pe_ty hg hm boot_str' (by decide) (by decide)
theorem zty_str (hg : Gl X "str") (hm : X.mg "str" = none) : ZE X (.Name "str" pos) (tC (.ty "str")) := by with_unfolding_all exact pty_str hg hm
end
noncomputable def seqD (c : Bool) (ds : List PyData) : PyData := match c with | true => .tuple ds | false => .list ds
theorem DatAll.get {H : Hp} : ∀ {xs : List V} {ds : List PyData} {i : Nat} {x : V}, DatAll H xs ds → xs[i]? = some x → ∃ d, ds[i]? = some d ∧ DatV H x d
  | _, _, 0, _, .cons h _, e => by cases e; exact ⟨_, rfl, h⟩
  | _, _, i + 1, _, .cons _ r, e => by
    obtain ⟨d, h1, h2⟩ := DatAll.get (i := i) r (by simpa using e)
    exact ⟨d, by simpa using h1, h2⟩
theorem DatAll.len {H : Hp} : ∀ {xs : List V} {ds : List PyData}, DatAll H xs ds → xs.length = ds.length
  | _, _, .nil => rfl
  | _, _, .cons _ r => by rw [List.length_cons, List.length_cons, DatAll.len r]
theorem rep_snoc (j : Nat) : (List.replicate j true).map V.bl ++ [V.bl true] = (List.replicate (j + 1) true).map V.bl := by
  rw [List.replicate_succ', List.map_append]; rfl
theorem rep_all (n : Nat) : (List.replicate n true).all id = true := by
  rw [List.all_eq_true]; intro x hx; exact List.eq_of_mem_replicate hx
theorem seq_of {H : Hp} {x : V} {c : Bool} {ds : List PyData} (h : DatV H x (seqD c ds)) : ∃ a xs, x = .ref a ∧ SqK H c a xs ∧ DatAll H xs ds := by
  cases c with
  | true =>
    cases (show DatV H x (.tuple ds) from h) with
    | tup e r => exact ⟨_, _, rfl, e, r⟩
  | false =>
    cases (show DatV H x (.list ds) from h) with
    | lst e r => exact ⟨_, _, rfl, e, r⟩
noncomputable def seqT (c : Bool) : String := match c with | true => "tuple" | false => "list"
theorem SqK.ty {H : Hp} {c : Bool} {a : Addr} {xs : List V} (h : SqK H c a xs) : tyName H (.ref a) = some (seqT c) := by
  cases c with
  | true => unfold tyName; dsimp only; rw [show H a = some (.tup xs) from h]; rfl
  | false => unfold tyName; dsimp only; rw [show H a = some (.lst xs) from h]; rfl
theorem SqK.len {K : PySem.W.Frag} {H : Hp} {c : Bool} {a : Addr} {xs : List V} (h : SqK H c a xs) : SqL K H a xs ∨ H a = some (.tup xs) := by
  cases c with
  | true => exact .inr h
  | false => exact .inl (SqL.of h)
end L2
set_option Elab.async false
set_option linter.all false
set_option maxRecDepth 100000
set_option maxHeartbeats 4000000
namespace L2
open PySem PySem.Spec PyProof.Rows
section
variable {X : Cx} {e : Expr} {es : List Expr} {t : TA} {p pos : Pos} {o : Expr} {to : TE} {apos cpos : Pos}
noncomputable def ItS (z : Str) : It := ⟨fun i _ => i < z.cps.size, fun i H x H' => H' = H ∧ ∃ c, z.cps[i]? = some c ∧ x = .str ⟨#[c]⟩, fun i _ => z.cps.size ≤ i⟩
noncomputable def StI (h : Heap) (it : Addr) (z : Str) (t : Tok) (i : Nat) : Prop := h.IsStrIter it "str_ascii_iterator" z t i ∨ h.IsStrIter it "str_iterator" z t i
theorem turn_str {P : Program} {w : World} {K : PySem.W.Frag} {tg : Expr} (z : Str) (tk : Tok) (it : Addr) : Turn P w K tg (ItS z) [it] it (fun i h => StI h it z tk i) where
  mem := by simp
  obj := fun i h st b hb => by
    have e : b = it := by simpa using hb
    subst e
    rcases st with ⟨o, e, c, d⟩ | ⟨o, e, c, d⟩ <;> exact ⟨o, e, fun v z => by rw [d] at z; cases z⟩
  keep := fun i h h' st k => by
    rcases st with ⟨o, e, c⟩ | ⟨o, e, c⟩
    · exact .inl ⟨o, k it (by simp) o e, c⟩
    · exact .inr ⟨o, k it (by simp) o e, c⟩
  item := by
    intro X hP hw hK hc i pins s σ H E I hf st hg
    subst hP hw hK
    have hi : i < z.cps.size := hg
    obtain ⟨f0, f1, f2, f3, f4, f5⟩ := hf it (by simp)
    rcases st with st | st
    · refine wpAny_pyNext_ascii_item st (c := z.cps[i]) (by simp [hi]) fun h' st' sb => ?_
      have I1 : Inv X pins σ H { s with heap := h', toks := s.toks + 1 } := I.turned (t' := s.toks + 1) (fun b o hb e => (sb.2 b hb).trans e) f0 f1 f3 f4 f5
      obtain ⟨o, e, c, d⟩ := id st'
      exact ⟨_, rfl, go_of (s := { s with heap := h', toks := s.toks + 1 }) e c d (by decide) ⟨.str _, H, I1, ⟨_, rfl⟩, ⟨rfl, _, by simp [hi], rfl⟩, .inl st', fun b hb => (hf b hb).1⟩⟩
    · refine wpAny_pyNext_wide_item st (c := z.cps[i]) (by simp [hi]) fun h' st' sb => ?_
      have I1 : Inv X pins σ H { s with heap := h', toks := s.toks + 1 } := I.turned (t' := s.toks + 1) (fun b o hb e => (sb.2 b hb).trans e) f0 f1 f3 f4 f5
      obtain ⟨o, e, c, d⟩ := id st'
      exact ⟨_, rfl, go_of (s := { s with heap := h', toks := s.toks + 1 }) e c d (by decide) ⟨.str _, H, I1, ⟨_, rfl⟩, ⟨rfl, _, by simp [hi], rfl⟩, .inr st', fun b hb => (hf b hb).1⟩⟩
  done := by
    intro X hP hw hK hc i pins s σ H E I hf st hg
    subst hP hw hK
    have hi : z.cps.size ≤ i := hg
    obtain ⟨f0, f1, f2, f3, f4, f5⟩ := hf it (by simp)
    rcases st with st | st
    · exact wpAny_pyNext_ascii_end (I.ok.hd hc) st (by simp; omega) fun h' eb => ⟨rfl, I.turned (t' := s.toks) (fun b o hb e => eb b o hb e) f0 f1 f3 f4 f5⟩
    · exact wpAny_pyNext_wide_end (I.ok.hd hc) st (by simp; omega) fun h' eb => ⟨rfl, I.turned (t' := s.toks) (fun b o hb e => eb b o hb e) f0 f1 f3 f4 f5⟩
  self := fun _ _ _ _ _ st h => by
    rcases st with st | st
    · exact wpAny_pyIter_striter_ascii st h
    · exact wpAny_pyIter_striter_wide st h
noncomputable def iStr (tl : TE) : TI := fun σ H R => tl σ H fun x H1 => match x with
  | .str z => R (ItS z) H1
  | _ => False
theorem pi_str {tg l : Expr} {tl : TE} (hl : PE X l tl) : PI X tg l (iStr tl) := by
  intro pins s σ H R I h
  refine thn (hl pins s σ H _ I h) fun v s1 ⟨x, H1, I1, r1, q1⟩ => ?_
  dsimp only at q1
  split at q1
  · rename_i z
    obtain ⟨tk, rfl⟩ := r1
    have fp : ∀ b ∈ [s1.heap.objs.size], FpOk X pins H1 b := fun b hb => by
      have e : b = s1.heap.objs.size := by simpa using hb
      subst e
      exact I1.fpOk (Nat.le_refl _) (I1.hok.fresh (Nat.le_refl _))
    cases ha : z.cps.all (· < 128)
    · exact wpAny_pyIter_wide ha ⟨s1.heap.objs.size, [s1.heap.objs.size], _, _, H1, rfl, I1.kept (t' := s1.toks) fun b o e => Heap.get?_push_of_some _ e, turn_str z tk _, .inr ⟨_, Heap.get?_push_size _ rfl, rfl, rfl⟩, fp, q1⟩
    · exact wpAny_pyIter_ascii ha ⟨s1.heap.objs.size, [s1.heap.objs.size], _, _, H1, rfl, I1.kept (t' := s1.toks) fun b o e => Heap.get?_push_of_some _ e, turn_str z tk _, .inl ⟨_, Heap.get?_push_size _ rfl, rfl, rfl⟩, fp, q1⟩
  · exact q1.elim
theorem zi_str {tg l : Expr} {tl : TE} (hl : ZE X l tl) : ZI X tg l (iStr tl) := by with_unfolding_all exact pi_str hl
theorem cmp_str {nv : List Str} {ix : List (Str × Nat)} {σ : St} {H : Hp} {g : TG} {ti : TT} {te : TE} {Fin : List V → Hp → Prop} {z : Str} (Pv : Nat → List V → Hp → Prop) (h0 : Pv 0 [] H)
    (hs : ∀ i c zs H, z.cps[i]? = some c → Pv i zs H → zs.length < sizeLine ∧ g (.str ⟨#[c]⟩) (st0 nv ix σ) H fun σ2 H2 => ti σ2 H2 fun b H3 => if b = true then te σ2 H3 fun y H4 => Pv (i + 1) (zs ++ [y]) H4 else Pv (i + 1) zs H3)
    (hd : ∀ zs H, Pv z.cps.size zs H → Fin zs H) : CmpW nv ix g ti te σ (ItS z) Fin H := by
  refine ⟨fun i m zs H => m = z.cps.size - i ∧ i ≤ z.cps.size ∧ Pv i zs H, ⟨_, rfl, Nat.zero_le _, h0⟩, ?_⟩
  rintro i m zs H ⟨rfl, hi, p⟩
  by_cases hlt : i < z.cps.size
  · refine .inr ⟨hlt, (hs i z.cps[i] zs H (by simp [hlt]) p).1, Pv (i + 1), fun σ' H' p' => ⟨_, by omega, rfl, hlt, p'⟩, fun x H' y => ?_⟩
    obtain ⟨rfl, c, hc, rfl⟩ := y
    exact (hs i c zs _ hc p).2
  · have e : i = z.cps.size := by omega
    subst e
    exact .inl ⟨Nat.le_refl _, hd zs H p⟩
noncomputable def tNo : TS := fun _ _ _ => False
theorem ps_no {st : Stmt} : PS X st tNo := fun _ _ _ _ _ _ h => h.elim
theorem zs_no {st : Stmt} : ZS X st tNo := by with_unfolding_all exact ps_no 
end
end L2
set_option Elab.async false
set_option linter.all false
set_option maxRecDepth 100000
set_option maxHeartbeats 4000000
namespace L2
open PySem PySem.Spec PyProof.Rows
section
variable {prog : Program} {w : World} {A : Around} {E : Value → Shared → Prop} {R : Result → Shared → Prop} {s : Shared}
end
section
variable {X : Cx} {nv : List Str} {ix : List (Str × Nat)} {scope : Scope} {pins : List (Addr × Obj)} {σ : St} {H : Hp} {s : Shared} {elt t1 i1 t2 i2 : Expr} {c1 c2 : List Expr} {pos : Pos}
end
end L2
set_option Elab.async false
set_option linter.all false
set_option maxRecDepth 100000
set_option maxHeartbeats 4000000
namespace L2
open PySem PySem.Spec PyProof.Rows
section
variable {X : Cx} {e v₁ v₂ : Expr} {es : List Expr} {te : TE} {pos : Pos}
end
end L2
set_option Elab.async false
set_option linter.all false
set_option maxRecDepth 100000
set_option maxHeartbeats 4000000
namespace DCT
open PySem PyProof.Rows SRT L2
section
variable {prog : Program} {w : World} {A : Around} {E : Value → Shared → Prop} {s : Shared} {K : Type} [DecidableEq K] {knd : KeyKind prog w K}
end
end DCT
namespace L2
open PySem PySem.Spec PyProof.Rows
section
variable {X : Cx}
variable {e : Expr} {es : List Expr} {t : TA} {p pos : Pos}
end
end L2
set_option Elab.async false
set_option linter.all false
set_option maxRecDepth 100000
set_option maxHeartbeats 4000000
namespace PySem
open Sem (wp)
section
variable {prog : Program} {w : World} {A : Around} {E : Value → Shared → Prop} {K : Type} [DecidableEq K] {knd : KeyKind prog w K}
end
end PySem
namespace L2
open PySem PySem.Spec PyProof.Rows
section
variable {X : Cx}
variable {e : Expr} {es : List Expr} {t : TA} {p pos : Pos}
end
end L2
set_option Elab.async false
set_option linter.all false
set_option maxRecDepth 100000
set_option maxHeartbeats 4000000
namespace L2
open PySem PySem.Spec PyProof.Rows
section
variable {X : Cx} {pins : List (Addr × Obj)} {σ : St} {H : Hp} {s : Shared} {a : Addr} {y d : V} {u r : Value} {o : Option V} {A : Around} {E : Value → Shared → Prop}
end
section
variable {X : Cx} {o e f : Expr} {apos cpos : Pos} {td ty tx : TE}
end
end L2
set_option Elab.async false
set_option linter.all false
set_option maxRecDepth 100000
set_option maxHeartbeats 4000000
namespace L2
open PySem PySem.Spec PyProof.Rows
section
variable {X : Cx}
end
end L2
set_option Elab.async false
set_option linter.all false
set_option maxRecDepth 100000
set_option maxHeartbeats 4000000
namespace L2
open PySem PySem.Spec PyProof.Rows
section
variable {X : Cx}
theorem noPy60 {x y : Int} (h : y.natAbs < 2 ^ 60) : Builtin.divisionGoesByPylong x y = false := by
  unfold Builtin.divisionGoesByPylong
  have h1 : (if (y == 0) = true then 0 else y.natAbs.log2 / 30 + 1) ≤ 300 := by
    split
    · exact Nat.zero_le _
    · rename_i hy
      have hne : y.natAbs ≠ 0 := fun z => hy (by simp; omega)
      have : y.natAbs.log2 < 60 := (Nat.log2_lt hne).mpr h
      omega
  simp only [Bool.and_eq_false_iff]
  exact .inl (decide_eq_false (by omega))
noncomputable def CDivB (i j : Int) : Prop := 0 < j ∧ j < 1152921504606846976
theorem op_fdivB : OpR X (binaryOp .FloorDiv) (rP CDivB fun i j => .int (i / j)) := (show OpR X (binaryOp .FloorDiv) (rI CDivB fun i j => .int (i / j)) from opI fun i j _ _ _ _ _ hc q => by
  have h1 : (0 : Int) < j := hc.1
  have h2 : j < 1152921504606846976 := hc.2
  exact floordiv_int (by omega) (by rw [Int.fdiv_eq_ediv_of_nonneg i (by omega)]; exact q) (.inl (noPy60 (by omega)))).imp rP_rI
variable {e : Expr} {es : List Expr} {t : TA} {p pos : Pos}
end
end L2
set_option Elab.async false
set_option linter.all false
set_option maxRecDepth 100000
set_option maxHeartbeats 4000000
namespace L2
open PySem PySem.Spec PyProof.Rows
noncomputable def KTu (K : PySem.W.Frag) (a : Addr) (xs : List V) : Prop := ∃ (o : Obj) (its : Array Value) (n : Nat), K.lookup a = some o ∧ o.cls = .type "tuple" ∧ o.data = .seq its n ∧ its.size ≤ sizeLine ∧ Vals xs its.toList
theorem KTu.sq {K : PySem.W.Frag} {a : Addr} {xs : List V} (h : KTu K a xs) (H : Hp) : SqT K H a xs := .inr h
noncomputable def intsL : List Value → List Int → Bool
  | [], [] => true
  | .int i _ :: vs, n :: ns => decide (i = n) && intsL vs ns
  | _, _ => false
theorem intsL_ok : ∀ {vs : List Value} {ns : List Int}, intsL vs ns = true → Vals (ns.map V.int) vs := by
  intro vs
  induction vs with
  | nil => intro ns h; cases ns with
    | nil => exact .nil
    | cons n ns => simp [intsL] at h
  | cons v vs ih =>
    intro ns h
    cases ns with
    | nil => cases v <;> simp [intsL] at h
    | cons n ns =>
      cases v <;> simp [intsL] at h
      obtain ⟨rfl, h⟩ := h
      exact .cons ⟨_, rfl⟩ (ih h)
noncomputable def tupI (K : PySem.W.Frag) (v : Value) (ns : List Int) : Bool := match v with
  | .ref a => (match K.lookup a with
    | some o => o.cls == .type "tuple" && (match o.data with | .seq its _ => decide (its.size ≤ 1000) && intsL its.toList ns | _ => false)
    | none => false)
  | _ => false
theorem tupI_ok {K : PySem.W.Frag} {v : Value} {ns : List Int} (h : tupI K v ns = true) : ∃ a, v = .ref a ∧ KTu K a (ns.map V.int) := by
  unfold tupI at h
  split at h
  · split at h
    · rename_i a _ o ho
      simp only [Bool.and_eq_true] at h
      obtain ⟨h1, h2⟩ := h
      split at h2
      · rename_i its n hd
        simp only [Bool.and_eq_true, decide_eq_true_eq] at h2
        exact ⟨a, rfl, o, its, n, ho, beq_iff_eq.mp h1, hd, Nat.le_of_lt (small1000 h2.1), intsL_ok h2.2⟩
      · cases h2
    · cases h
  · cases h
noncomputable def tupsL (K : PySem.W.Frag) : List Value → List (List Int) → Bool
  | [], [] => true
  | v :: vs, n :: ns => tupI K v n && tupsL K vs ns
  | _, _ => false
noncomputable def KRows (K : PySem.W.Frag) (as : List Addr) (R : List (List Int)) : Prop := as.length = R.length ∧ ∀ (i : Nat) (h : i < as.length) (h2 : i < R.length), KTu K as[i] (R[i].map V.int)
theorem tupsL_ok {K : PySem.W.Frag} : ∀ {vs : List Value} {R : List (List Int)}, tupsL K vs R = true → ∃ as : List Addr, Vals (as.map V.ref) vs ∧ KRows K as R
  | [], [], _ => ⟨[], .nil, rfl, fun i h => absurd h (Nat.not_lt_zero _)⟩
  | v :: vs, n :: ns, h => by
    simp only [tupsL, Bool.and_eq_true] at h
    obtain ⟨a, rfl, ha⟩ := tupI_ok h.1
    obtain ⟨as, hv, hl, hr⟩ := tupsL_ok h.2
    refine ⟨a :: as, .cons rfl hv, by rw [List.length_cons, List.length_cons, hl], fun i h1 h2 => ?_⟩
    cases i with
    | zero => exact ha
    | succ i => exact hr i (Nat.lt_of_succ_lt_succ h1) (Nat.lt_of_succ_lt_succ h2)
  | [], _ :: _, h => by simp [tupsL] at h
  | _ :: _, [], h => by simp [tupsL] at h
noncomputable def KTs (K : PySem.W.Frag) (a : Addr) (R : List (List Int)) : Prop := ∃ as : List Addr, KTu K a (as.map V.ref) ∧ KRows K as R
noncomputable def tupT (K : PySem.W.Frag) (v : Value) (R : List (List Int)) : Bool := match v with
  | .ref a => (match K.lookup a with
    | some o => o.cls == .type "tuple" && (match o.data with | .seq its _ => decide (its.size ≤ 1000) && tupsL K its.toList R | _ => false)
    | none => false)
  | _ => false
theorem tupT_ok {K : PySem.W.Frag} {v : Value} {R : List (List Int)} (h : tupT K v R = true) : ∃ a, v = .ref a ∧ KTs K a R := by
  unfold tupT at h
  split at h
  · split at h
    · rename_i a _ o ho
      simp only [Bool.and_eq_true] at h
      obtain ⟨h1, h2⟩ := h
      split at h2
      · rename_i its n hd
        simp only [Bool.and_eq_true, decide_eq_true_eq] at h2
        obtain ⟨as, hv, hr⟩ := tupsL_ok h2.2
        exact ⟨a, rfl, as, ⟨o, its, n, ho, beq_iff_eq.mp h1, hd, Nat.le_of_lt (small1000 h2.1), hv⟩, hr⟩
      · cases h2
    · cases h
  · cases h
noncomputable def rowsL (K : PySem.W.Frag) : List DictEntry → List (Int × List (List Int)) → Bool
  | [], [] => true
  | e :: es, (i, R) :: D => (match e.key with | .int j _ => decide (j = i) | _ => false) && e.hash == hashInt i && tupT K e.val R && rowsL K es D
  | _, _ => false
theorem rowsL_ok (prog : Program) (w : World) {K : PySem.W.Frag} : ∀ {es : List DictEntry} {D : List (Int × List (List Int))}, rowsL K es D = true →
    (∀ e ∈ es, ∃ k, (PySem.intKind prog w).is k e.key = true ∧ e.hash = (PySem.intKind prog w).hash k) ∧ ∃ kvs : List (Int × Value), Pairs (PySem.intKind prog w) es kvs ∧ kvs.map (·.1) = D.map (·.1) ∧
      ∀ t R, D.lookup t = some R → ∃ a, valueAt kvs t = some (.ref a) ∧ KTs K a R
  | [], [], _ => ⟨(fun _ h => (nomatch h)), [], .nil, rfl, fun t R h => by cases h⟩
  | e :: es, (i, R) :: D, h => by
    simp only [rowsL, Bool.and_eq_true] at h
    obtain ⟨⟨⟨h1, h2⟩, h3⟩, h4⟩ := h
    obtain ⟨hk, kvs, hp, hm, hf⟩ := rowsL_ok prog w h4
    split at h1
    · rename_i j t hkey
      obtain rfl := of_decide_eq_true h1
      have hi : (PySem.intKind prog w).is j e.key = true := by rw [hkey]; show Value.isInt j (.int j t) = true; simp [Value.isInt]
      obtain ⟨a, ea, ha⟩ := tupT_ok h3
      refine ⟨fun e' he' => ?_, (j, e.val) :: kvs, .cons hi rfl hp, by simp [hm], fun t' R' hl => ?_⟩
      · rcases List.mem_cons.mp he' with rfl | he'
        · exact ⟨j, hi, beq_iff_eq.mp h2⟩
        · exact hk e' he'
      · rw [List.lookup_cons] at hl
        by_cases hj : t' = j
        · subst hj
          rw [beq_self_eq_true] at hl
          cases hl
          exact ⟨a, by simp [valueAt, ea], ha⟩
        · have hb : (t' == j) = false := by simpa using hj
          rw [hb] at hl
          obtain ⟨b, e1, e2⟩ := hf t' R' hl
          refine ⟨b, ?_, e2⟩
          rw [← e1]
          unfold valueAt
          rw [List.find?_cons]
          have : decide (j = t') = false := by simpa using fun z => hj z.symm
          simp only [this]
    · cases h1
  | [], _ :: _, h => by simp [rowsL] at h
  | _ :: _, [], h => by simp [rowsL] at h
noncomputable def tabL (K : PySem.W.Frag) (a : Addr) (D : List (Int × List (List Int))) : Bool := !(a == sysModules) && decide ((D.map (·.1)).Nodup) && (match K.lookup a with
  | some o => o.cls == .type "dict" && o.dict.isNone && o.slots.isEmpty && (match o.data with | .dict es _ => rowsL K es.toList D | _ => false)
  | none => false)
theorem tabL_ok (prog : Program) (w : World) {K : PySem.W.Frag} {h : Heap} (hK : K.In h) {a : Addr} {D : List (Int × List (List Int))} (hl : tabL K a D = true) :
    ∃ kvs : List (Int × Value), h.DictOf (PySem.intKind prog w) a kvs ∧ ∀ t R, D.lookup t = some R → ∃ b, valueAt kvs t = some (.ref b) ∧ KTs K b R := by
  simp only [tabL, Bool.and_eq_true] at hl
  obtain ⟨⟨h0, hn⟩, hl⟩ := hl
  split at hl
  · rename_i o ho
    simp only [Bool.and_eq_true] at hl
    obtain ⟨⟨⟨e1, e2⟩, e3⟩, e4⟩ := hl
    split at e4
    · rename_i es ep hd
      obtain ⟨hk, kvs, hp, hm, hf⟩ := rowsL_ok prog w e4
      exact ⟨kvs, ⟨o, es, ep, hK _ _ ho, ⟨beq_iff_eq.mp e1, by simpa using e2, by simpa using e3⟩, hd, fun e he => hk e (by simpa using he), hp, by rw [hm]; exact of_decide_eq_true hn⟩, hf⟩
    · cases e4
  · cases hl
structure TabG (K : PySem.W.Frag) (mg : Str → Option Value) (x : Str) (D : List (Int × List (List Int))) : Prop where
  ex : ∃ a, mg x = some (.ref a) ∧ tabL K a D = true
section
variable {X : Cx}
noncomputable def tTab (K : PySem.W.Frag) (D : List (Int × List (List Int))) (ti : TE) : TE := fun σ H Q => ti σ H fun y H1 => ∃ t R, y = .int t ∧ D.lookup t = some R ∧ ∀ a, KTs K a R → Q (.ref a) H1
theorem pe_tab {x : Str} {i : Expr} {ti : TE} {D : List (Int × List (List Int))} {p pos : Pos} (hg : Gl X x) (hm : TabG X.K X.mg x D) (hi : PE X i ti) (hs : NoSl i) (hd : (x == ("__debug__" : Str)) = false := by decide) : PE X (.Subscript (.Name x p) i pos) (tTab X.K D ti) := by
  obtain ⟨a, ha, hl⟩ := hm.ex
  intro pins s σ H Q I h
  refine subD_of PySem.F.slot_dict_getitem.lookup hs (thn ((pe_glob (v := .ref a) hg ha rfl hd) pins s σ H (fun x H1 => x = .ref a ∧ H1 = H) I ⟨rfl, rfl⟩) fun u s1 ⟨x, H1, I1, rx, ex, eH⟩ => ?_)
  subst ex eH
  obtain rfl : u = Value.ref a := rx
  refine thn (hi pins s1 σ H1 _ I1 h) fun iv s2 ⟨y, H2, I2, ry, t, R, ey, hD, q⟩ => ?_
  subst ey
  obtain ⟨tk, rfl⟩ := ry
  obtain ⟨kvs, dd, hf⟩ := tabL_ok X.prog X.w I2.kIn hl
  obtain ⟨b, hb, hT⟩ := hf t R hD
  exact ⟨dd.typeIs, wpAny_getItem_of (intKind_is X.prog X.w t tk) dd.mapOf hb ⟨.ref b, H2, I2.tok _, rfl, q b hT⟩⟩
theorem ze_tab {x : Str} {i : Expr} {ti : TE} {D : List (Int × List (List Int))} {p pos : Pos} (hg : Gl X x) (hm : TabG X.K X.mg x D) (hi : ZE X i ti) (hs : NoSl i) (hd : (x == ("__debug__" : Str)) = false := by decide) : ZE X (.Subscript (.Name x p) i pos) (tTab X.K D ti) := by with_unfolding_all exact pe_tab hg hm hi.p hs hd
noncomputable def rLenK (K : PySem.W.Frag) : List V → Hp → VK → Prop := fun xs H Q => match xs with
  | [.ref p] => ∃ ys, (SqL K H p ys ∨ SqT K H p ys) ∧ Q (.int ys.length) H
  | _ => False
theorem call_lenK : CallR X (.builtin "len") (rLenK X.K) := call_len_seq.imp fun xs H Q h => by
  unfold rLenK at h
  split at h
  · obtain ⟨ys, h1, q⟩ := h
    exact ⟨_, ys, rfl, h1, q⟩
  · exact h.elim
noncomputable def rAddK (K : PySem.W.Frag) : R2 := fun x y H Q => match x, y with
  | .int i, .int j => Q (.int (i + j)) H
  | .ref a, .ref b => ∃ xs ys, SqT K H a xs ∧ SqT K H b ys ∧ xs ≠ [] ∧ ys ≠ [] ∧ xs.length + ys.length ≤ sizeLine ∧ ∀ p, H p = none → Q (.ref p) (upd H p (.tup (xs ++ ys)))
  | _, _ => False
theorem op_addK : OpR X (binaryOp .Add) (rAddK X.K) := by
  intro pins s σ H x y v u Q I rx ry h
  unfold rAddK at h
  split at h
  · exact op_add pins s σ H _ _ v u Q I rx ry ⟨_, _, rfl, rfl, h⟩
  · obtain ⟨xs, ys, h1, h2, n1, n2, hz, q⟩ := h
    exact op_catT pins s σ H _ _ v u Q I rx ry ⟨_, _, xs, ys, rfl, rfl, h1, h2, n1, hz, fun e => absurd e n2, fun _ p hp => q p hp⟩
  · exact h.elim
noncomputable def rSumK (K : PySem.W.Frag) : List V → Hp → VK → Prop := fun xs H Q => match xs with
  | [.ref p] => ∃ ns : List Int, SqT K H p (ns.map V.int) ∧ Q (.int ns.sum) H
  | _ => False
theorem call_sumK (hc : X.calm = true) : CallR X (.builtin "sum") (rSumK X.K) := by
  intro pins s σ H xs us Q I r h
  unfold rSumK at h
  split at h
  · rename_i p
    obtain ⟨ns, hq, q⟩ := h
    obtain ⟨u, rfl, rx⟩ := vals1 r
    cases rx
    have hh : X.A.in1.handled = none := I.ok.hd hc
    obtain ⟨its, rv, pl, hz⟩ := I.tuple hq
    have hlt : p < s.heap.objs.size := pl.lt
    refine call_sum_walkAnyS (wpAny_pyIter_tuple (show s.heap.IsTuple p its.toArray from pl) ?_)
    refine ⟨s.heap.objs.size, _, _, _, _, _, _, fun i => ns.getD i 0, rfl, (Walks.tuple hh s.heap.objs.size p (Nat.ne_of_lt hlt) its.toArray).toS, ⟨⟨_, Heap.get?_push_size _ rfl, rfl, rfl⟩, ?_⟩, ?_, fun i v hv => ints_at rv hv, fun s' t' m => ?_⟩
    · exact IsTup.keeps pl fun b o e => Heap.get?_push_of_some _ e
    · intro b hb
      rw [Heap.size_push]
      rcases List.mem_cons.mp hb with rfl | hb
      · exact Nat.lt_succ_self _
      · rcases List.mem_cons.mp hb with rfl | hb
        · exact Nat.lt_succ_of_lt hlt
        · cases hb
    · have I1 : Inv X pins σ H s' := I.moved m fun b o e => ⟨by simpa using Nat.ne_of_lt (Heap.lt_size e), Heap.get?_push_of_some _ e⟩
      refine ⟨.int _, H, I1, ⟨t', rfl⟩, ?_⟩
      rw [List.size_toArray, ← rv.length, List.length_map, preSum_list]
      exact q
  · exact h.elim
noncomputable def rIxK (K : PySem.W.Frag) : R2 := fun x y H Q => match x, y with
  | .ref p, .int i => ∃ xs, SqT K H p xs ∧ ∃ v, atI xs i = some v ∧ Q v H
  | _, _ => False
theorem ix_K : IxR X (rIxK X.K) := by
  intro value slice pins s σ H x y v u Q I rx ry h hs
  unfold rIxK at h
  split at h
  · obtain ⟨xs, h1, w, e, q⟩ := h
    exact ix_tup value slice pins s σ H _ _ v u Q I rx ry ⟨_, xs, _, w, rfl, rfl, h1, e, q⟩ hs
  · exact h.elim
variable {e : Expr} {es : List Expr} {t : TA} {p pos : Pos}
theorem pcb_sumK (hc : X.calm = true) (hg : Gl X "sum") (hm : X.mg "sum" = none) (ha : PA X (e :: es) t) (he : starEach (e :: es) X.env = (false, eval e X.env) :: starEach es X.env) (hpl : (backTo pos (starEach es X.env)).any (·.1) = false) :
    PE X (.Call (.Name "sum" p) (e :: es) [] pos) (tCB (rSumK X.K) t) := pe_callB (call_sumK hc) hg hm boot_sum' ha (by decide) (by decide) he hpl
theorem zcb_sumK (hc : X.calm = true) (hg : Gl X "sum") (hm : X.mg "sum" = none) (ha : ZA X (e :: es) t) (he : starEach (e :: es) X.env = (false, eval e X.env) :: starEach es X.env) (hpl : (backTo pos (starEach es X.env)).any (·.1) = false) :
    ZE X (.Call (.Name "sum" p) (e :: es) [] pos) (tCB (rSumK X.K) t) := by with_unfolding_all exact pcb_sumK hc hg hm ha he hpl
theorem pcb_lenK (hg : Gl X "len") (hm : X.mg "len" = none) (ha : PA X (e :: es) t) (he : starEach (e :: es) X.env = (false, eval e X.env) :: starEach es X.env) (hpl : (backTo pos (starEach es X.env)).any (·.1) = false) :
    PE X (.Call (.Name "len" p) (e :: es) [] pos) (tCB (rLenK X.K) t) := pe_callB call_lenK hg hm PySem.boot_len ha (by decide) (by decide) he hpl
theorem zcb_lenK (hg : Gl X "len") (hm : X.mg "len" = none) (ha : ZA X (e :: es) t) (he : starEach (e :: es) X.env = (false, eval e X.env) :: starEach es X.env) (hpl : (backTo pos (starEach es X.env)).any (·.1) = false) :
    ZE X (.Call (.Name "len" p) (e :: es) [] pos) (tCB (rLenK X.K) t) := by with_unfolding_all exact pcb_lenK hg hm ha he hpl
noncomputable def rRng1 : List V → Hp → VK → Prop := fun vs H1 Q => match vs with
  | [.int j] => ∀ p, H1 p = none → Q (.ref p) (upd H1 p (rngO p 0 j 1))
  | _ => False
theorem call_rng1 : CallR X (.type "range") rRng1 := by
  intro pins s σ H xs us Q I r h
  unfold rRng1 at h
  split at h
  · obtain ⟨u1, rfl, t1, rfl⟩ := vals1 r
    exact call_range_1 ⟨.ref s.heap.objs.size, _, rng_laid I, rfl, h _ (I.hok.fresh (Nat.le_refl _))⟩
  · exact h.elim
theorem pcb_range1 (hg : Gl X "range") (hm : X.mg "range" = none) (ha : PA X (e :: es) t) (he : starEach (e :: es) X.env = (false, eval e X.env) :: starEach es X.env) (hpl : (backTo pos (starEach es X.env)).any (·.1) = false) :
    PE X (.Call (.Name "range" p) (e :: es) [] pos) (tCB rRng1 t) := pe_callTy call_rng1 hg hm boot_range ha (by decide) (by decide) he hpl
theorem zcb_range1 (hg : Gl X "range") (hm : X.mg "range" = none) (ha : ZA X (e :: es) t) (he : starEach (e :: es) X.env = (false, eval e X.env) :: starEach es X.env) (hpl : (backTo pos (starEach es X.env)).any (·.1) = false) :
    ZE X (.Call (.Name "range" p) (e :: es) [] pos) (tCB rRng1 t) := by with_unfolding_all exact pcb_range1 hg hm ha he hpl
end
end L2
set_option Elab.async false
set_option linter.all false
set_option maxRecDepth 100000
set_option maxHeartbeats 4000000
namespace L2
open PySem PySem.Spec PyProof.Rows
section
variable {prog : Program} {w : World} {A : Around} {E : Value → Shared → Prop} {s : Shared}
variable {z TI TO i1 i2 i3 l1 l2 l3 : Addr} {k1 k2 k3 : Nat} {xs ys zs : Array Value}
end
section
variable {prog : Program} {w : World} {A : Around} {E : Value → Shared → Prop} {s : Shared}
end
section
variable {X : Cx} {pins : List (Addr × Obj)} {σ : St} {H : Hp} {s : Shared}
end
end L2
set_option Elab.async false
set_option linter.all false
set_option maxRecDepth 100000
set_option maxHeartbeats 4000000
namespace L2
open PySem PySem.Spec PyProof.Rows
section
variable {X : Cx} {e : Expr} {t : TA} {p pos : Pos}
noncomputable def rSortQ (K : PySem.W.Frag) : List V → Hp → VK → Prop := fun xs H Q => match xs with
  | [.ref p] => ∃ ns : List Int, SqL K H p (ns.map V.int) ∧ ns.length < 64 ∧ ∀ l ns', H l = none → List.Perm ns' ns → Ordered true ns' → Q (.ref l) (upd H l (.lst (ns'.map V.int)))
  | _ => False
theorem sort_few (pins : List (Addr × Obj)) (s : Shared) (σ : St) (H : Hp) (xs : List V) (us : List Value) (Q : VK) (I : Inv X pins σ H s) (r : Vals xs us) (h : rSortQ X.K xs H Q) :
    wpAny (model X.prog X.w) X.A (call (.builtin "sorted") us [(Str.ofString "reverse", .bool true)]) (EP X pins σ Q) X.xe s := by
  unfold rSortQ at h
  split at h
  · rename_i p
    obtain ⟨ns, hq, h64, q⟩ := h
    obtain ⟨u, rfl, rx⟩ := vals1 r
    cases rx
    obtain ⟨its, rv, pl, hz⟩ := I.list hq
    have hI := intsAre_of rv
    have hlen : its.length = ns.length := by rw [← rv.length, List.length_map]
    refine sorted_ints_rev pl.isList hI (by omega) fun out ns' a1 a2 a3 => ?_
    obtain ⟨e, he⟩ := sortedAll_at s.heap its out
    refine ⟨.ref (s.heap.objs.size + 1), _, I.laid (t' := s.toks) (a := s.heap.objs.size + 1) (o := .lst (ns'.map V.int)) (fun c ob q => sortedAll_old q) (Nat.le_succ _) ?_, rfl, q _ ns' (I.hok.fresh (Nat.le_succ _)) a2 a3⟩
    refine ⟨?_, out.toList, e, vals_ints a1, he⟩
    rw [List.length_map, a2.length_eq]
    rw [List.length_map] at hz
    exact hz
  · exact h.elim
theorem pcb_sortQ {k : Nat} {p2 p3 : Pos} (hg : Gl X "sorted") (hm : X.mg "sorted" = none) (ha : PA X [e] t) (he : starEach [e] X.env = [(false, eval e X.env)]) :
    PE X (.Call (.Name "sorted" p) [e] [⟨some "reverse", .Constant (.bool true) k p2, p3⟩] pos) (tCB (rSortQ X.K) t) := by
  intro pins s σ H Q I h
  refine wpAny_Call_Name_kw (ld_blt I hg hm boot_sorted' ?_ (by decide) (by decide))
  refine callWith_kw (thn (ha pos pins s σ H _ I h) fun us s1 ⟨vs, H1, I1, r1, q1⟩ => ?_) ?_ ?_ rfl rfl
  · exact kws_cons (wpAny_Constant_bool (kws_nil (sort_few pins s1 σ H1 vs us Q I1 r1 q1)))
  · rw [he]
    rfl
  · rw [he]
    rfl
theorem zcb_sortQ {k : Nat} {p2 p3 : Pos} (hg : Gl X "sorted") (hm : X.mg "sorted" = none) (ha : ZA X [e] t) (he : starEach [e] X.env = [(false, eval e X.env)]) :
    ZE X (.Call (.Name "sorted" p) [e] [⟨some "reverse", .Constant (.bool true) k p2, p3⟩] pos) (tCB (rSortQ X.K) t) := by with_unfolding_all exact pcb_sortQ hg hm ha he
end
end L2
set_option Elab.async false
set_option linter.all false
set_option maxRecDepth 100000
set_option maxHeartbeats 4000000
namespace L2
open PySem PySem.Spec PyProof.Rows PySem.W PySem.Builtin PySem.Builtin.ObjectAttr PySem.Builtin.Getset_descriptor
structure ExC (K : PySem.W.Frag) (C : Addr) : Prop where
  cls : (clsIn K C).isSome = true
  ga : findIn K (.ref C) "__getattribute__" = some (some (.builtin "BaseException.__getattribute__"))
  gh : findIn K (.ref C) "__getattr__" = some none
  ha : findIn K (.ref C) "__class__" = some (some (.builtin "object.__class__"))
  hn : specialIn K (.builtin "object.__class__") "__get__" = some (some (.builtin "getset_descriptor.__get__"))
  htk : takesIn K (.builtin "object.__class__") = some true
  hm : mroIn K C (.type "object") = some true
  sb : subIn K (.ref C) (.type "BaseException") = some true
noncomputable def exCB (K : PySem.W.Frag) (C : Addr) : Bool :=
  (clsIn K C).isSome && findIn K (.ref C) "__getattribute__" == some (some (.builtin "BaseException.__getattribute__")) && findIn K (.ref C) "__getattr__" == some none
    && findIn K (.ref C) "__class__" == some (some (.builtin "object.__class__")) && specialIn K (.builtin "object.__class__") "__get__" == some (some (.builtin "getset_descriptor.__get__"))
    && takesIn K (.builtin "object.__class__") == some true && mroIn K C (.type "object") == some true && subIn K (.ref C) (.type "BaseException") == some true
theorem ExC.of {K : PySem.W.Frag} {C : Addr} (h : exCB K C = true) : ExC K C := by
  unfold exCB at h
  simp only [Bool.and_eq_true, beq_iff_eq] at h
  obtain ⟨⟨⟨⟨⟨⟨⟨a, b⟩, c⟩, d⟩, e⟩, f⟩, g⟩, i⟩ := h
  exact ⟨a, b, c, d, e, f, g, i⟩

noncomputable def IsX (x C : Addr) (h : Heap) : Prop := ∃ ox vs, h.get? x = some ox ∧ ox.cls = .ref C ∧ ox.data = .fields vs
theorem IsX.ty {x C : Addr} {h : Heap} {M : Model} (I : IsX x C h) : Looks M h (typeOf (.ref x)) (.ref C) := by
  obtain ⟨ox, vs, e, c, _⟩ := I
  have z : Looks M h (typeOf (.ref x)) ox.cls := (Looks.ld e).andThen .now
  rw [c] at z
  exact z

section
variable {prog : Program} {w : World} {A : Around} {E : Value → Shared → Prop} {s : Shared} {K : Frag} {x C : Addr}
theorem exc_check {M : Model} {nameV : Value} {Q : Unit → Shared → Prop} (L : ExC K C) (X : K.In s.heap) (I : IsX x C s.heap) (hq : Q () s) : wpAny M A (checkBuiltinCall "BaseException.__getattribute__" ⟨[.ref x, nameV], []⟩) Q E s := by
  have hk1 : builtinKind "BaseException.__getattribute__" = some .slot := by decide +kernel
  have hs1 : splitId "BaseException.__getattribute__" = some ("BaseException", "__getattribute__") := by decide +kernel
  have ha := F.args_bexc_ga (.ref x) nameV
  have LI : Looks M s.heap (isInstance (.ref x) (.type "BaseException")) true := I.ty.andThen (looks_subIn (M := M) X L.sb)
  obtain ⟨hh, g, d, t, os⟩ := s
  simp only [checkBuiltinCall, hk1, hs1]
  refine wpAny_bind (LI.at ?_)
  repeat (first | wp_step)
  all_goals exact hq
theorem exc_find {M : Model} {h : Heap} (L : ExC K C) (X : K.In h) (I : IsX x C h) : Looks M h (Builtin.ObjectAttr.find (.ref x) (.ref C) "__class__") (.bind (.builtin "getset_descriptor.__get__") (.builtin "object.__class__")) := by
  have L1 := looks_findIn (M := M) X L.ha
  have L2 : Looks M h (Builtin.ObjectAttr.getOf (some (.builtin "object.__class__"))) (some (.builtin "getset_descriptor.__get__")) := looks_specialIn X L.hn
  have L3 := looks_takesIn (M := M) X L.htk
  intro A Q E s k q
  unfold Builtin.ObjectAttr.find
  refine wpAny_bind (L1 A _ E s k (wpAny_bind (L2 A _ E s k (wpAny_bind ?_))))
  unfold Builtin.ObjectAttr.dataDescriptor?
  refine wpAny_bind (L3 A _ E s k ?_)
  rw [if_pos rfl]
  exact wpAny_pure (wpAny_bind (wpAny_rule (wpAny_pure q)))
theorem exc_cget {R : Result → Shared → Prop} {tp : Value} (L : ExC K C) (X : K.In s.heap) (I : IsX x C s.heap) (h : R (.ok (.ret (.ref C))) s) :
    codeAny (model prog w) A (.call (.builtin "getset_descriptor.__get__") ⟨[.builtin "object.__class__", .ref x, tp], []⟩) R s := by
  have M0 := I.ty (M := model prog w)
  have M1 := looks_mroIn (M := model prog w) X L.hm
  obtain ⟨hh, g, dr, t, os⟩ := s
  refine codeAny_call_builtin KF.slot_gs.plain KF.entry_gs (KF.slot_gs.check _ _ _ _ _ _ _ _ KF.type_class (KF.args_gs _ _ _) ?_)
  unfold Builtin.«getset_descriptor.__get__» descrGet; rw [dga_obj]
  refine wpAny_bind (wpAny_pure ?_); unfold descrGetter descrCheckInstance descrNameAndClass isInstance; simp only [KF.owner_class]
  repeat lk
  refine ⟨Code.quiet_builtin _ (by decide +kernel), codeAny_builtin KF.entry_class ?_⟩; unfold Builtin.«object.__class__» shownTypeOf
  repeat lk
  exact h
theorem exc_class {Q : Option Value → Shared → Prop} (L : ExC K C) (X : K.In s.heap) (I : IsX x C s.heap) (h : Q (some (.ref C)) { s with toks := s.toks + 1 }) : wpAny (model prog w) A (getAttr? (.ref x) "__class__") Q E s := by
  have M0 := I.ty (M := model prog w)
  have M1 := looks_findIn (M := model prog w) X L.ga
  have M2 := looks_findIn (M := model prog w) X L.gh
  have M3 := exc_find (M := model prog w) L X I
  obtain ⟨hh, g, d, t, os⟩ := s
  unfold getAttr? getAttrBy? getAttrBy
  refine wpAny_bind (wpAny_mkText (wpAny_bind (wpAny_attempt (wpAny_holding (wpAny_bind (M0.at (wpAny_bind (M1.at ?_))))))))
  have hx2 : (Value.builtin "BaseException.__getattribute__" == Value.builtin "object.__getattribute__") = false := by decide +kernel
  dsimp only
  rw [if_neg (by rw [hx2]; simp)]
  unfold getAttrByItsOwn hookBefore
  rw [if_pos (show onTheHeap (Value.ref C) = true from rfl)]
  refine wpAny_bind (M2.at (wpAny_bind (wpAny_attempt (wpAny_holding ?_))))
  unfold callGetattribute
  rw [if_neg (by simp [onTheHeap])]
  unfold boundAndCalled
  refine wpAny_bind (wpAny_of_eq (PySem.F.attrBase_ValueError.ga.bind (.ref x)) ?_)
  refine wpAny_call (codeAny_call_builtin PySem.F.attrBase_ValueError.ga.plain F.entry_bexc_ga (exc_check L X I ?_))
  refine wpAny_bind ?_
  repeat (first | wp_step)
  obtain ⟨ox, vs, hx, hc, hd⟩ := id I
  refine wpAny_loadPart_at hx ?_
  refine wpAny_pure ?_
  rw [hc]
  refine wpAny_bind (M3.at ?_)
  dsimp only
  unfold Builtin.ObjectAttr.bindTo
  refine wpAny_bind (wpAny_holding ?_)
  refine wpAny_call (exc_cget L X I ?_)
  repeat (first | wp_step)
  exact h
theorem kitx_exc (L : ExC K C) : KitX K (.ref x) (.ref C) (IsX x C) where
  ty := fun _ _ _ I => I.ty
  it := fun _ _ X _ => by
    have z0 := L.cls
    unfold clsIn at z0
    split at z0
    · rename_i c1 d1 cd1 sl1 ho
      intro A1 Q1 E1 s1 k q
      unfold isType loadHead
      exact wpAny_bind (wpAny_loadPart (k _ _ (X _ _ ho)) (wpAny_pure q))
    · cases z0
  ne := fun h tp dd its n sl X htp => by
    have z0 := L.cls
    refine Bool.eq_false_iff.mpr fun q => ?_
    have e : C = tp := Value.ref.inj (beq_iff_eq.mp q)
    subst e
    unfold clsIn at z0
    split at z0
    · rename_i c1 d1 cd1 sl1 ho
      have z := (X _ _ ho).symm.trans htp
      cases z
    · cases z0
  ca := fun X I k => exc_class L X I k
end
end L2
set_option Elab.async false
set_option linter.all false
set_option maxRecDepth 100000
set_option maxHeartbeats 4000000
namespace L2
open PySem PySem.Spec PyProof.Rows PySem.W
theorem ObjOk.has {P : Program} {w : World} {H : Hp} {h : Heap} {a : Addr} {o : HO} (x : ObjOk P w H h a o) : ∃ ob, h.get? a = some ob := by
  induction o with
  | lst xs => obtain ⟨_, _, _, _, e⟩ := x; exact ⟨_, e⟩
  | tup xs => obtain ⟨_, _, _, _, e⟩ := x; exact ⟨_, e⟩
  | dK kvs => obtain ⟨_, _, _, _, _, _, _, e, _⟩ := x; exact ⟨_, e⟩
  | dT kvs => obtain ⟨_, _, _, _, _, _, _, e, _⟩ := x; exact ⟨_, e⟩
  | set S n => obtain ⟨_, _, _, _, e, _⟩ := x; exact ⟨_, e⟩
  | ins C dx fs => obtain ⟨_, _, _, e, _⟩ := x; exact ⟨_, e⟩
  | own y => obtain ⟨_, e⟩ := x; exact ⟨_, e⟩
  | xd fs => obtain ⟨_, ⟨_, _, _, e, _⟩, _⟩ := x; exact ⟨_, e⟩
  | rng lo hi => obtain ⟨_, _, _, e⟩ := x; exact ⟨_, e⟩
  | frz ob u ih => obtain ⟨e, _⟩ := x; exact ⟨_, e⟩
  | tbl ps => exact ⟨_, x⟩
  | met f y => exact ⟨_, x⟩
  | ext φ => obtain ⟨_, ⟨o, e⟩, _⟩ := x; exact ⟨_, e⟩

noncomputable def CXF (P : Program) (w : World) : CXT := fun outer H s E v s' => ∃ (e C : Addr) (a0 : Value) (B : Heap) (H' : Hp), v = .ref e ∧ s'.os = s.os ∧ AllBare s'.gens ∧ Un (frs outer) [] H H' s.heap s'.heap ∧ HOk P w H' s'.heap ∧
  Heap.FlyingW B outer e (.ref C) a0 s'.heap ∧ (∀ b u, H' b = some u → ∃ o, B.get? b = some o) ∧ (∀ b o, s.heap.get? b = some o → b ∉ frs outer → ∃ o', B.get? b = some o') ∧ E (.ref C) none H'

section
variable {X : Cx} {pins : List (Addr × Obj)} {σ : St} {H H1 : Hp} {s s1 : Shared} {B h' : Heap}
theorem hok_fly {P : Program} {w : World} {h : Heap} (ok : HOk P w H h) (bs : B.StaysIn h) (st : B.StaysIn h') (trk : ∀ b u, H b = some u → ∃ o, B.get? b = some o) : HOk P w H h' := fun a u e =>
  (ok a u e).stay (fun b v hb q => by
    have : ∃ o, B.get? b = some o := by
      rcases hb with z | z
      · rw [z]; exact trk a u e
      · exact trk b _ z
    obtain ⟨o, eo⟩ := this
    have z := bs b o eo
    rw [q] at z
    cases z
    exact st b v eo) (fun _ q => q) fun _ _ q => q
theorem frs_of (J : Inv X pins σ H s) {b : Addr} (h1 : b ≠ X.env.locals) (h2 : b ∉ X.fs) : b ∉ frs X.stack := fun z => (List.mem_cons.mp (J.stkSub b z)).elim h1 h2
theorem fs_stack (J : Inv X pins σ H s) {b : Addr} (h : b ∈ X.fs) : b ∈ frs X.stack := by
  rcases J.ok.stk with e | ⟨e, hf⟩
  · rw [e]; exact h
  · rw [e]
    unfold frs
    rw [List.filterMap_cons, hf]
    exact List.mem_cons_of_mem _ h
theorem Inv.fly {t' : Nat} (I1 : Inv X pins σ H1 s1) (J : Inv X pins σ H s) (bs : B.StaysIn s.heap) (st : B.StaysIn h') (cov : ∀ b o, s1.heap.get? b = some o → b ∉ frs X.stack → ∃ o', B.get? b = some o')
    (trk : ∀ b u, H b = some u → ∃ o, B.get? b = some o) (up : ∀ b, b ∈ frs X.stack → ∀ o, s.heap.get? b = some o → (∀ vs, o.data ≠ .fields vs) → ∃ sl, h'.get? b = some { o with slots := sl }) :
    Inv X pins σ H { s with heap := h', toks := t' } := by
  have key : ∀ b o o1, s1.heap.get? b = some o1 → s.heap.get? b = some o → b ∉ frs X.stack → h'.get? b = some o := fun b o o1 e1 e nf => by
    obtain ⟨o', eo⟩ := cov b o1 e1 nf
    have z := bs b o' eo
    rw [e] at z
    cases z
    exact st b o eo
  have any : ∀ b o o1, s1.heap.get? b = some o1 → s.heap.get? b = some o → (∀ vs, o.data ≠ .fields vs) → ∃ sl, h'.get? b = some { o with slots := sl } := fun b o o1 e1 e nd => by
    by_cases hb : b ∈ frs X.stack
    · exact up b hb o e nd
    · exact ⟨o.slots, key b o o1 e1 e hb⟩
  have neL : ∀ b o, X.s₀.heap.get? b = some o → b ≠ X.env.locals := fun b o e => Nat.ne_of_lt (Nat.lt_of_lt_of_le (Heap.lt_size e) J.ok.above)
  have cellK : ∀ x c, X.env.cells.lookup x = some c → ∀ v, s.heap.IsCell c v → h'.IsCell c v := fun x c e v ⟨o, ho, hd⟩ => by
    obtain ⟨v1, o1, e1, _⟩ := I1.cell x c e
    obtain ⟨sl, q⟩ := any c o o1 e1 ho fun vs z => by rw [hd] at z; cases z
    exact ⟨_, q, hd⟩
  refine ⟨J.ok, J.os, J.bare, ⟨fun b o e n hb hx => ?_, fun b o e n hb hx => ?_, J.base.free, fun b o e hx => ?_, J.base.tups, J.base.frzs, J.base.tbls⟩, ?_, fun x c e => ?_, J.free, J.freeC, fun p hp => ?_, hok_fly J.hok bs st trk, J.len⟩
  · exact key b o o (I1.base.keep b o e n hb hx) (J.base.keep b o e n hb hx) (frs_of J (neL b o e) hb)
  · obtain ⟨sl, e1⟩ := J.base.slot b o e n hb hx
    obtain ⟨_, o2, e2, d2⟩ := J.ok.funs.mem hb
    rw [e] at e2
    cases e2
    obtain ⟨sl', e3⟩ := up b (fs_stack J hb) _ e1 d2
    exact ⟨sl', e3⟩
  · obtain ⟨o1, e1⟩ := I1.base.there b o e hx
    obtain ⟨o2, e2⟩ := J.base.there b o e hx
    by_cases hb : b ∈ frs X.stack
    · obtain ⟨_, o3, e3, d3⟩ := J.stack.mem hb
      obtain ⟨sl, e4⟩ := up b hb o3 e3 d3
      exact ⟨_, e4⟩
    · exact ⟨o2, key b o2 o1 e1 e2 hb⟩
  · obtain ⟨m, ⟨o, es, ep, ho, hd, r⟩, hl⟩ := J.loc
    obtain ⟨m1, ⟨o1, _, _, e1, _⟩, _⟩ := I1.loc
    obtain ⟨sl, q⟩ := any _ o o1 e1 ho fun vs z => by rw [hd] at z; cases z
    refine ⟨m, ⟨_, es, ep, q, hd, r⟩, fun i x v e1 e2 e3 => ?_⟩
    obtain ⟨u, r, l⟩ := hl i x v e1 e2 e3
    refine ⟨u, r, ?_⟩
    rcases l with l | ⟨k, c, e, z⟩
    · exact .inl l
    · exact .inr ⟨k, c, e, cellK x c e _ z⟩
  · obtain ⟨v, z⟩ := J.cell x c e
    exact ⟨v, cellK x c e v z⟩
  · obtain ⟨e, n, ne, nf, d⟩ := J.pin p hp
    obtain ⟨e1, _⟩ := I1.pin p hp
    exact ⟨key p.1 p.2 p.2 e1 e (frs_of J ne nf), n, ne, nf, d⟩
theorem fly_out {E : XK} {e C : Addr} {a0 : Value} (J : Inv X pins σ H s) (hex : X.ex = []) (bs : B.StaysIn s.heap) (st : B.StaysIn h') (cov : ∀ b o, X.s₀.heap.get? b = some o → b ∉ X.fs → ∃ o', B.get? b = some o')
    (trk : ∀ b u, H b = some u → ∃ o, B.get? b = some o) (up : ∀ b, b ∈ X.fs → ∀ o, s.heap.get? b = some o → (∀ vs, o.data ≠ .fields vs) → ∃ sl, h'.get? b = some { o with slots := sl })
    (fl : Heap.FlyingW B X.outer e (.ref C) a0 h') (q : E (.ref C) none H) : CXF X.prog X.w X.outer X.H₀ X.s₀ E (.ref e) { s with heap := h' } := by
  have nx : ∀ b, b ∉ X.ex := fun b z => by rw [hex] at z; cases z
  refine ⟨e, C, a0, B, H, rfl, J.os, J.bare, ⟨fun b o eb n hb _ => ?_, fun b o eb n hb _ => ?_, fun b o eb n _ => J.base.free b o eb n (nx b), fun b o eb _ => ?_, J.base.tups, J.base.frzs, J.base.tbls⟩, hok_fly J.hok bs st trk, fl, trk, cov, q⟩
  · obtain ⟨o', eo⟩ := cov b o eb hb
    have z := bs b o' eo
    rw [J.base.keep b o eb n hb (nx b)] at z
    cases z
    exact st b o eo
  · obtain ⟨sl, e1⟩ := J.base.slot b o eb n hb (nx b)
    obtain ⟨_, o2, e2, d2⟩ := J.ok.funs.mem hb
    rw [eb] at e2
    cases e2
    obtain ⟨sl', e3⟩ := up b hb _ e1 d2
    exact ⟨sl', e3⟩
  · by_cases hb : b ∈ X.fs
    · obtain ⟨o2, e2⟩ := J.base.there b o eb (nx b)
      obtain ⟨_, o3, e3, d3⟩ := J.funs.mem hb
      obtain ⟨sl, e4⟩ := up b hb o3 e3 d3
      exact ⟨_, e4⟩
    · obtain ⟨o', eo⟩ := cov b o eb hb
      exact ⟨o', st b o' eo⟩
end
end L2
set_option Elab.async false
set_option linter.all false
set_option maxRecDepth 100000
set_option maxHeartbeats 4000000
namespace L2
open PySem PySem.Spec PyProof.Rows PySem.W
structure RaC (K : PySem.W.Frag) (C : Addr) : Prop where
  ex : excIn K C [.type "ValueError", .type "Exception", .type "BaseException", .type "object"] "ValueError.__new__" = true
theorem RaC.obj {K : PySem.W.Frag} {C : Addr} {h : Heap} (R : RaC K C) (X : K.In h) : ∃ bm N nm q bs hdct sn sub ab col dd k0 k1 k2 k3 k5 mN, h.get? C = some (excClassObj nm q C N bs bm hdct sn sub ab col dd k0 k1 k2 k3 k5 "ValueError.__new__") ∧ h.Ns N mN ∧ mN "__init__" = none ∧
    OwnTail h [.type "ValueError", .type "Exception", .type "BaseException", .type "object"] bm := by
  have z := R.ex
  unfold excIn at z
  split at z
  · rename_i dd cd sl ho
    split at z
    · rename_i C1 bm k0 k1 k2 k3 n k5 hm hs
      rw [Bool.and_eq_true, Bool.and_eq_true, Bool.and_eq_true, Bool.and_eq_true, Bool.and_eq_true] at z
      obtain ⟨⟨⟨⟨⟨z1, z2⟩, z3⟩, z4⟩, z5⟩, z6⟩ := z
      have y1 := beq_iff_eq.mp z1
      have y2 := beq_iff_eq.mp z2
      have y6 := beq_iff_eq.mp z6
      subst y1 y2
      obtain ⟨nm, bs, mro, ns, qn, hd, sn, sub, ab, col, del⟩ := cd
      have y3 : del = false := by simpa using z3
      have ym : mro = .ref C1 :: bm := hm
      subst ym y3
      have hsl : sl = #[k0, k1, k2, k3, some (.builtin "ValueError.__new__"), k5] := by
        rw [← hs]
      subst hsl
      exact ⟨bm, ns, nm, qn, bs, hd, sn, sub, ab, col, dd, k0, k1, k2, k3, k5, _, X _ _ ho, .of_isNs (isNs_of_in X z5), nsMap_none_of_in X z5 y6, tail_of_in X z4⟩
    · cases z
  · cases z

section
variable {P : Program} {w : World} {K : PySem.W.Frag} {mg : Str → Option Value} {base : Heap} {N : List Str} {qual : Str} {scope : Scope} {f : Addr} {cdv : Value} {A : Around} {outer : List Env} {s0 : Shared} {H0 : Hp} {E : XK}
noncomputable def tRaise (C : Addr) (E : XK) (t : TA) : TS := fun _ σ H => t σ H fun vs H1 => vs.length ≤ sizeLine ∧ E (.ref C) none H1
theorem ps_raise {x : Str} {C : Addr} {e : Expr} {es : List Expr} {t : TA} {np cpos pos : Pos} (R : RaC K C) (hm : mg x = some (.ref C)) (hg : Gl (cxOf (CXF P w) P w K mg base N qual scope f cdv A outer s0 H0 E) x)
    (ha : PA (cxOf (CXF P w) P w K mg base N qual scope f cdv A outer s0 H0 E).nox (e :: es) t) (hdb : (x == ("__debug__" : Str)) = false := by decide)
    (he : starEach (e :: es) (cxOf (CXF P w) P w K mg base N qual scope f cdv A outer s0 H0 E).env = (false, eval e (cxOf (CXF P w) P w K mg base N qual scope f cdv A outer s0 H0 E).env) :: starEach es (cxOf (CXF P w) P w K mg base N qual scope f cdv A outer s0 H0 E).env := by rfl)
    (hpl : (backTo cpos (starEach es (cxOf (CXF P w) P w K mg base N qual scope f cdv A outer s0 H0 E).env)).any (·.1) = false := by rfl) :
    PS (cxOf (CXF P w) P w K mg base N qual scope f cdv A outer s0 H0 E) (.Raise (some (.Call (.Name x np) (e :: es) [] cpos)) none pos) (tRaise C E t) := by
  intro pins s σ H D I h
  obtain ⟨bm, Nn, nm, q, bs, hdct, sn, sub, ab, col, dd, k0, k1, k2, k3, k5, mN, hC, hNs, hni, T⟩ := R.obj I.ok.mod.kin
  refine wpAny_Raise_call_subT (C := C) (nm := nm) (q := q) (N := Nn) (bs := bs) (bm := bm) (hdct := hdct) (sn := sn) (sub := sub) (ab := ab) (col := col) (dd := dd) (k0 := k0) (k1 := k1) (k2 := k2) (k3 := k3) (k5 := k5) PySem.F.excBase_ValueError (mN := mN) (T.hasType PySem.F.excBase_ValueError.hasBase) (I.ok.hd rfl) (by rw [he]; exact (Bool.or_eq_false_iff.mpr ⟨rfl, hpl⟩)) hni (ld_glob I hg hm ⟨rfl, ?_⟩ hdb)
  have hA := ha cpos pins s σ H _ (I.wish _) h
  have he' : starEach (e :: es) (envOfC qual scope s0.heap.objs.size f cdv) = (false, eval e (envOfC qual scope s0.heap.objs.size f cdv)) :: starEach es (envOfC qual scope s0.heap.objs.size f cdv) := he
  show wpAny _ _ (evalArgs _ true (backTo cpos (starEach (e :: es) (envOfC qual scope s0.heap.objs.size f cdv))) []) _ _ _
  have hA : wpAny (model P w) _ (spliced (backTo cpos (starEach (e :: es) (envOfC qual scope s0.heap.objs.size f cdv)))) _ _ _ := hA
  rw [he'] at hA ⊢
  refine Calls.evalArgs_plain (wpAny_mono hA (fun vs s2 ⟨xs, H2, I2, rv, len, q2⟩ => ?_) fun _ _ z => False.elim z)
  have I2 := I2.unwish
  refine ⟨rfl, by rw [← rv.length]; exact len, I2.bk _ _ hC, hNs.keeps I2.bk, T.keeps I2.bk, fun h' e' hx => ?_⟩
  have hin : ∀ env ∈ (envOfC qual scope s0.heap.objs.size f cdv :: outer), ∀ b, env.frame = some b → b ∈ frs (envOfC qual scope s0.heap.objs.size f cdv :: outer) := fun env hen b hb => List.mem_filterMap.mpr ⟨env, hen, hb⟩
  show wpAny (model P w) (A.deeper (envOfC qual scope s0.heap.objs.size f cdv)) (leaving (envOfC qual scope s0.heap.objs.size f cdv) (.ref e')) _ _ _
  refine wpAny_leaves_madeW (base := hideAll s2.heap (frs (envOfC qual scope s0.heap.objs.size f cdv :: outer))) (h := s2.heap) (outer := outer) I2.ok.frames rfl (fun b o z => of_hideAll _ z) (funFrames_hide I2.stack hin) hx fun h3 t x1 x2 x3 x4 => ?_
  have nin : ∀ b o, s0.heap.get? b = some o → b ∉ frs outer → b ∉ frs (envOfC qual scope s0.heap.objs.size f cdv :: outer) := fun b o eb hb => frs_of I2 (Nat.ne_of_lt (Nat.lt_of_lt_of_le (Heap.lt_size eb) I2.ok.above)) hb
  refine fly_out (X := cxOf (CXF P w) P w K mg base N qual scope f cdv A outer s0 H0 E) (s := s2) (h' := h3) (a0 := .ref t) I2 rfl (fun b o z => of_hideAll _ z) x1.1 (fun b o eb hb => ?_) (fun b u eb => ?_) (fun b hb o eb nd => ?_) x1 q2
  · obtain ⟨o', e1⟩ := I2.base.there b o eb (by intro z; cases z)
    exact ⟨o', hideAll_get _ e1 (nin b o eb hb)⟩
  · obtain ⟨ob, e1⟩ := (I2.hok b u eb).has
    exact ⟨ob, hideAll_get _ e1 fun z => by have := I2.stkFree b z; rw [eb] at this; cases this⟩
  · exact x4 b o (hx.keeps b o eb) nd
end
end L2
set_option Elab.async false
set_option linter.all false
set_option maxRecDepth 100000
set_option maxHeartbeats 4000000
namespace L2
open PySem PySem.Spec PyProof.Rows PySem.W
structure FnR (P : Program) (w : World) (K : PySem.W.Frag) (mg : Str → Option Value) (base : Heap) (x : Str) (k : Nat) (ps : List Str) (sp : Sp) : Prop where
  ex : ∃ f fd, FnOk P w K mg base (CXF P w) k f fd ps sp ∧ Binds K fd ps [] ∧ PySem.W.keepIn K (.ref f) = true ∧ mg x = some (.ref f)
theorem FnOk.toX {P : Program} {w : World} {K : PySem.W.Frag} {mg : Str → Option Value} {base : Heap} {CX : CXT} {k : Nat} {f : Addr} {fd : FuncData} {ps : List Str} {sp : Sp} (F : FnOk P w K mg base CX0 k f fd ps sp) : FnOk P w K mg base CX k f fd ps sp :=
  ⟨F.len, fun A outer s H args us vs Q E hr e0 hb r h => codeAny_mono (F.run A outer s H args us vs Q E hr e0 hb r h) fun r s' hq => by
    cases r with
    | ok fl => cases fl <;> exact hq
    | error e => exact False.elim hq⟩
theorem FnOk.both {P : Program} {w : World} {K : PySem.W.Frag} {mg : Str → Option Value} {base : Heap} {CX : CXT} {k : Nat} {f : Addr} {fd : FuncData} {ps : List Str} {sp sp' : Sp} (F : FnOk P w K mg base CX k f fd ps sp) (G : FnOk P w K mg base CX k f fd ps sp') :
    FnOk P w K mg base CX k f fd ps (fun vs H Q E => sp vs H Q E ∨ sp' vs H Q E) :=
  ⟨fun vs H Q E h => h.elim (F.len vs H Q E) (G.len vs H Q E), fun A outer s H args us vs Q E hr e0 hb r h => h.elim (F.run A outer s H args us vs Q E hr e0 hb r) (G.run A outer s H args us vs Q E hr e0 hb r)⟩
section
variable {P : Program} {w : World} {K : PySem.W.Frag} {mg : Str → Option Value} {base : Heap}
theorem Fun.okx {x qual : Str} {st : Stmt} {f : Addr} {fd : FuncData} {N ps : List Str} {k : Nat} {sp : Sp} (F : Fun K x qual st f fd) (S : FnScope N ps (defScope st)) (len : ∀ vs H Q E, sp vs H Q E → vs.length = ps.length)
    (hbody : ∀ (cdv : Value) (A : Around) (outer : List Env) (s : Shared) (H : Hp) (vs : List V) (Q : VK) (E : XK), Room k (A.deeper (envOfC qual (defScope st) s.heap.objs.size f cdv)) → sp vs H Q E →
      ∃ t, ZSs (cxOf (CXF P w) P w K mg base N qual (defScope st) f cdv A outer s H E) (defBody st) t ∧ t { nx := fun _ H' => Q .non H', rt := Q } (start N vs) H) : FnOk P w K mg base (CXF P w) (k + 1) f fd ps sp := by
  obtain ⟨oc, od, kV, doc, pm, an, cdv, ct, osl, rfl, lk, hcd⟩ := F.ex
  refine fn_of lk hcd S len fun A outer s H vs Q E hr hsp => ?_
  obtain ⟨t, h, q⟩ := hbody cdv A outer s H vs Q E hr hsp
  exact ⟨t, h.p, q⟩
end
section
variable {P : Program} {w : World} {K : PySem.W.Frag} {mg : Str → Option Value} {base : Heap} {N : List Str} {qual : Str} {scope : Scope} {f : Addr} {cdv : Value} {A : Around} {outer : List Env} {s0 : Shared} {H0 : Hp} {E : XK}
theorem zs_raise {x : Str} {C : Addr} {e : Expr} {es : List Expr} {t : TA} {np cpos pos : Pos} (R : RaC K C) (hm : mg x = some (.ref C)) (hg : Gl (cxOf (CXF P w) P w K mg base N qual scope f cdv A outer s0 H0 E) x)
    (ha : ZA (cxOf (CXF P w) P w K mg base N qual scope f cdv A outer s0 H0 E).nox (e :: es) t) (hdb : (x == ("__debug__" : Str)) = false := by decide)
    (he : starEach (e :: es) (cxOf (CXF P w) P w K mg base N qual scope f cdv A outer s0 H0 E).env = (false, eval e (cxOf (CXF P w) P w K mg base N qual scope f cdv A outer s0 H0 E).env) :: starEach es (cxOf (CXF P w) P w K mg base N qual scope f cdv A outer s0 H0 E).env := by rfl)
    (hpl : (backTo cpos (starEach es (cxOf (CXF P w) P w K mg base N qual scope f cdv A outer s0 H0 E).env)).any (·.1) = false := by rfl) :
    ZS (cxOf (CXF P w) P w K mg base N qual scope f cdv A outer s0 H0 E) (.Raise (some (.Call (.Name x np) (e :: es) [] cpos)) none pos) (tRaise C E t) := by with_unfolding_all exact ps_raise R hm hg ha hdb he hpl
end
section
variable {X : Cx}
noncomputable abbrev TX := St → Hp → VK → XK → Prop
noncomputable def PX (X : Cx) (e : Expr) (t : TX) : Prop := ∀ (xe : Value → Shared → Prop) (pins : List (Addr × Obj)) (s : Shared) (σ : St) (H : Hp) (Q : VK) (E : XK), Inv X pins σ H s → t σ H Q E →
  (∀ H1 s1 v s2, Inv X pins σ H1 s1 → CXF X.prog X.w X.stack H1 s1 E v s2 → xe v s2) → wpAny (model X.prog X.w) X.A (eval e X.env) (EP X pins σ Q) xe s
noncomputable abbrev TXS := Ends → (St → XK) → St → Hp → Prop
noncomputable def PXS (X : Cx) (st : List Stmt) (t : TXS) : Prop := ∀ (xe : Value → Shared → Prop) (pins : List (Addr × Obj)) (s : Shared) (σ : St) (H : Hp) (D : Ends) (E : St → XK), Inv X pins σ H s → t D E σ H →
  (∀ σ1 H1 s1 v s2, Inv X pins σ1 H1 s1 → CXF X.prog X.w X.stack H1 s1 (E σ1) v s2 → xe v s2) → wpAny (model X.prog X.w) X.A (execs st X.env) (SP X pins D) xe s
noncomputable def tXfn (sp : Sp) (t : TA) : TX := fun σ H Q E => t σ H fun vs H1 => sp vs H1 Q E
theorem px_call {x : Str} {k k' : Nat} {ps : List Str} {sp : Sp} {e : Expr} {es : List Expr} {t : TA} {p pos : Pos} (F : FnR X.prog X.w X.K X.mg X.base x k ps sp) (hr : Room k' X.A) (hk : k ≤ k') (hg : Gl X x)
    (ha : PA X.nox (e :: es) t) (hdb : (x == ("__debug__" : Str)) = false := by decide) (he : starEach (e :: es) X.env = (false, eval e X.env) :: starEach es X.env := by rfl) (hpl : (backTo pos (starEach es X.env)).any (·.1) = false := by rfl) :
    PX X (.Call (.Name x p) (e :: es) [] pos) (tXfn sp t) := by
  intro xe pins s σ H Q E I h pass
  obtain ⟨f, fd, F1, b1, k1, m1⟩ := F.ex
  refine wpAny_Call_Name_kw (ld_glob I hg m1 ?_ hdb)
  refine PySem.W.callWith_K (h₀ := X.base) I.ok.mod.kin k1 (wpAny_mono (ha pos pins s σ H _ (I.wish _) h) (fun us s1 ⟨vs, H1, I1, r, q⟩ => ⟨I1.kIn, ?_⟩) fun _ _ z => False.elim z) he hpl
  have I1 := I1.unwish
  have hl : us.length = ps.length := by rw [← r.length]; exact F1.len _ _ _ _ q
  refine wpAny_call (codeAny_mono ((F1.mono hk).run X.A X.stack s1 H1 ⟨us, []⟩ us vs Q E hr I1.env0 (by have := b1 s1 us I1.kIn (by rw [List.append_nil]; exact hl); rw [List.append_nil] at this; exact this) r q) fun r s' hq => ?_)
  cases r with
  | error e => exact pass H1 s1 e s' I1 hq
  | ok fl =>
    cases fl with
    | ret u => exact I1.after hq
    | next => exact False.elim hq
    | brk => exact False.elim hq
    | cont => exact False.elim hq
noncomputable def tXset (i : Nat) (tx : TX) : TXS := fun D E σ H => tx σ H (fun v H1 => D.nx (σ.set i (some v)) H1) (E σ)
theorem pxs_set {i : Nat} {x : Str} {e : Expr} {te : TX} {pos pos' : Pos} (hN : X.N.Nodup) (hi : X.N[i]? = some x) (hx : Loc X.env.scope x) (he : PX X e te) (hs : swapsWith e (some (.Name x pos')) pos.line X.env = pure false := by rfl) (hf : X.fn x = true ∨ X.env.scope.names.lookup x = some .local := by first | exact .inl rfl | exact .inr rfl | assumption) :
    PXS X [.Assign [.Name x pos'] e pos] (tXset i te) := by
  intro xe pins s σ H D E I h pass
  refine wpAny_execs_cons (wpAny_Assign_Name (thn (he xe pins s σ H _ _ I h fun H1 s1 v s2 => pass σ H1 s1 v s2) fun v s1 ⟨y, H1, I1, r1, q1⟩ => ?_) hs)
  exact store_ok I1 hN hi hx r1 (fun s2 I2 => wpAny_execs_nil ⟨_, H1, I2, q1⟩) hf

noncomputable abbrev Cx.inx (X : Cx) (a : Addr) : Cx := { X with A := X.A.mark (some (.ref a)), calm := false, xe := fun _ _ => False }
theorem Cx.Ok.inx {X : Cx} (ok : X.Ok) (a : Addr) : (X.inx a).Ok :=
  ⟨ok.mod, ok.kind, ok.glob, ok.blt, ok.above, ok.inj, ok.has, ok.cab, (fun z => by cases z), ok.frames, ok.stk, ok.exf, ok.bs, ok.bsz, ok.noex, ok.exfs, ok.funs, ok.frf⟩
theorem Inv.inx {pins : List (Addr × Obj)} {σ : St} {H : Hp} {s : Shared} (I : Inv X pins σ H s) (a : Addr) : Inv (X.inx a) pins σ H s := ⟨I.ok.inx a, I.os, I.bare, I.base, I.loc, I.cell, I.free, I.freeC, I.pin, I.hok, I.len⟩
theorem Inv.outx {pins : List (Addr × Obj)} {σ : St} {H : Hp} {s : Shared} {a : Addr} (ok : X.Ok) (I : Inv (X.inx a) pins σ H s) : Inv X pins σ H s := ⟨ok, I.os, I.bare, I.base, I.loc, I.cell, I.free, I.freeC, I.pin, I.hok, I.len⟩
noncomputable def dropN (i : Nat) (D : Ends) : Ends := { nx := fun σ H => D.nx (σ.set i none) H, rt := D.rt, bk := fun σ H => D.bk (σ.set i none) H, ct := fun σ H => D.ct (σ.set i none) H }
noncomputable def tTry (K : PySem.W.Frag) (PC : Addr) (i : Nat) (tx : TXS) (u : TS) : TS := fun D σ H => tx D (fun σ1 c _ H1 => ∃ C, c = .ref C ∧ exmOne K (.ref C) (.ref PC) = some true ∧ ∀ a, H1 a = none → u (dropN i D) (σ1.set i (some (.ref a))) (upd H1 a (.ext (IsX a C)))) σ H
theorem Inv.drop {pins : List (Addr × Obj)} {σ : St} {H : Hp} {s : Shared} {i : Nat} {n : Str} {h' : Heap} {v : Option Value} {t' : Nat} {m : Str → Option Value} (I : Inv X pins σ H s) (hN : X.N.Nodup) (hi : X.N[i]? = some n) (hk : X.env.scope.names.lookup n = some .local)
    (hm : s.heap.Ns X.env.locals m) (hl : ∀ (i : Nat) (x : Str) (v : V), X.N[i]? = some x → σ[i]? = some (some v) → Vis X.env.scope x → ∃ u, RelV v u ∧ Look X.env s.heap m x u)
    (hn : h'.Ns X.env.locals (fun x => if x = n then v else m x)) (hs : Heap.SameBut X.env.locals s.heap h') : Inv X pins (σ.set i none) H { s with heap := h', toks := t' } := by
  have neL : ∀ b o, X.s₀.heap.get? b = some o → b ≠ X.env.locals := fun b o e => Nat.ne_of_lt (Nat.lt_of_lt_of_le (Heap.lt_size e) I.ok.above)
  refine ⟨I.ok, I.os, I.bare, ⟨fun b o e n hb hx => (hs.2 b (neL b o e)).trans (I.base.keep b o e n hb hx), fun b o e n hb hx => ?_, I.base.free, fun b o e hx => ?_, I.base.tups, I.base.frzs, I.base.tbls⟩, ⟨_, hn, fun j y v' e1 e2 e3 => ?_⟩, fun y c e => ?_, I.free, I.freeC, fun p hp => ?_, fun b u e => ?_, by rw [List.length_set]; exact I.len⟩
  · obtain ⟨sl, e1⟩ := I.base.slot b o e n hb hx
    exact ⟨sl, (hs.2 b (neL b o e)).trans e1⟩
  · obtain ⟨o', e1⟩ := I.base.there b o e hx
    exact ⟨o', (hs.2 b (neL b o e)).trans e1⟩
  · by_cases hj : j = i
    · subst hj
      by_cases hlt : j < σ.length
      · rw [List.getElem?_set_self hlt] at e2; cases e2
      · rw [List.getElem?_eq_none (by rw [List.length_set]; omega)] at e2; cases e2
    · rw [List.getElem?_set_ne (Ne.symm hj)] at e2
      obtain ⟨u', r', q⟩ := hl j y v' e1 e2 e3
      refine ⟨u', r', ?_⟩
      rcases q with ⟨k, e⟩ | ⟨k, c, e, z⟩
      · refine .inl ⟨k, ?_⟩
        have ne : y ≠ n := fun e => hj (nodup_ix hN e1 (e ▸ hi))
        show (if y = n then v else m y) = _
        rw [if_neg ne]
        exact e
      · exact .inr ⟨k, c, e, z.sameBut hs (I.cne y c e)⟩
  · obtain ⟨w', z⟩ := I.cell y c e
    exact ⟨w', z.sameBut hs (I.cne y c e)⟩
  · obtain ⟨e, n, ne, nf, d⟩ := I.pin p hp
    exact ⟨(hs.2 p.1 ne).trans e, n, ne, nf, d⟩
  · refine (I.hok b u e).stay (fun c w' hc q => (hs.2 c ?_).trans q) (fun _ q => q) fun _ _ q => q
    rintro rfl
    have fr := I.free
    rcases hc with z | z
    · rw [← z, fr] at e; cases e
    · rw [fr] at z; cases z
theorem ps_try {PC : Addr} {i : Nat} {tx : TXS} {u : TS} {n pn : Str} {body : List Stmt} {b0 : Stmt} {suite : List Stmt} {np hpos pos : Pos} (hb : PXS X body tx) (hu : ∀ a, PSs (X.inx a) (b0 :: suite) u) (hst : X.stack = X.env :: X.outer) (hfr : X.env.frame = some X.env.locals) (hN : X.N.Nodup) (hi : X.N[i]? = some n)
    (hn : X.env.scope.names.lookup n = some .local) (hg : Gl X pn) (hm : X.mg pn = some (.ref PC)) (hdb : (pn == ("__debug__" : Str)) = false := by decide) :
    PS X (.Try body [.ExceptHandler (some (.Name pn np)) (some n) (b0 :: suite) hpos] [] [] pos) (tTry X.K PC i tx u) := by
  intro pins s σ H D I h
  refine wpAny_Try_except (wpAny_mono (hb _ pins s σ H D _ I h fun σ1 H1 s1 v s2 I1 hx => ?_) (fun f s1 q => ?_) fun _ _ z => z)
  · obtain ⟨e, C, a0, B, H', rfl, os, bare, un, hok, fl, trk, cov, C', ec, mt, q⟩ := hx
    cases ec
    have J : Inv X pins σ1 H' s2 := I1.call' os un hok bare (fun b z => absurd z (by simp))
    have fr := I.ok.frames
    rw [hst] at fr fl
    have eB : B.get? e = none := fl.2.1
    have eH : H' e = none := by
      cases z : H' e with
      | none => rfl
      | some u0 =>
        obtain ⟨o, eo⟩ := trk e u0 z
        rw [eB] at eo; cases eo
    have cov' : ∀ b o, s1.heap.get? b = some o → b ∉ frs X.stack → ∃ o', B.get? b = some o' := cov
    refine wpAny_looks_onW fr hfr fl fun h4 hheld4 sm4 => ?_
    refine wpAny_landsW hheld4 fun h5 fl5 sm5 => ?_
    have J5 : Inv X pins σ1 H' { s2 with heap := h5 } := I1.fly (t' := s2.toks) J fl.1 fl5.1 cov' trk fun b hb o eo nd => by
      obtain ⟨sl, e1⟩ := sm4 b o eo nd
      obtain ⟨sl2, e2⟩ := sm5 b _ e1 nd
      exact ⟨sl2, e2⟩
    have LT : Looks (model X.prog X.w) h5 (typeOf (.ref e)) (.ref C) := by
      obtain ⟨ob, eo, oc⟩ := fl5.there
      have z : Looks (model X.prog X.w) h5 (typeOf (.ref e)) ob.cls := (Looks.ld eo).andThen .now
      rw [oc] at z
      exact z
    refine wpAny_handleBy_cons (codeAny_handlers_test (ld_glob (X := X.inx e) (J5.inx e) hg hm ((exm_one J5.kIn LT mt).here ?_) hdb)) (by intro z; cases z)
    refine codeAny_handlers_suite_as ?_
    refine lands_againW fl5 fun h6 fl6 sm6 => ?_
    have J6 : Inv X pins σ1 H' { s2 with heap := h6 } := I1.fly (s := { s2 with heap := h5 }) (t' := s2.toks) J5 fl5.1 fl6.1 cov' trk fun b hb o eo nd => sm6 b o eo nd
    have IX : IsX e C h6 := by
      obtain ⟨oe, ws, hoe, hoec, hoed, _⟩ := fl6.first
      exact ⟨oe, ws, hoe, hoec, hoed⟩
    have J7 : Inv X pins σ1 (upd H' e (.ext (IsX e C))) { s2 with heap := h6 } := by
      have nn : ∀ b u0, H' b = some u0 → b ≠ e := fun b u0 z y => by rw [y, eH] at z; cases z
      have old : ∀ b o, X.s₀.heap.get? b = some o → b ∉ X.ex → b ≠ e := fun b o z hx y => by
        obtain ⟨o1, e1⟩ := I1.base.there b o z hx
        by_cases hf : b ∈ frs X.stack
        · obtain ⟨_, o2, e2, d2⟩ := J6.stack.mem hf
          obtain ⟨oe, ws, hoe, _, hoed⟩ := IX
          rw [y] at e2
          have e2' : h6.get? e = some o2 := e2
          rw [hoe] at e2'
          cases e2'
          exact d2 _ hoed
        · obtain ⟨o3, e3⟩ := cov' b o1 e1 hf
          rw [y, eB] at e3; cases e3
      have nd0 : ∀ b o, s1.heap.get? b = some o → b ∉ frs X.stack → b ≠ e := fun b o z hf y => by
        obtain ⟨o3, e3⟩ := cov' b o z hf
        rw [y, eB] at e3; cases e3
      have dF : ∀ b, b ∈ frs X.stack → b ≠ e := fun b hf y => by
        obtain ⟨_, o2, e2, d2⟩ := J6.stack.mem hf
        obtain ⟨oe, ws, hoe, _, hoed⟩ := IX
        rw [y] at e2
        have e2' : h6.get? e = some o2 := e2
        rw [hoe] at e2'
        cases e2'
        exact d2 _ hoed
      have any : ∀ b o, s1.heap.get? b = some o → b ≠ e := fun b o z => by
        by_cases hf : b ∈ frs X.stack
        · exact dF b hf
        · exact nd0 b o z hf
      refine ⟨J6.ok, J6.os, J6.bare, ⟨J6.base.keep, J6.base.slot, fun b o z n0 hx => ?_, J6.base.there, fun b xs z => ?_, fun b o u0 z => ?_, fun b ps z => ?_⟩, J6.loc, J6.cell, ?_, fun x c z => ?_, fun p hp => ?_, fun b u0 z => ?_, J6.len⟩
      · rw [upd_ne (old b o z hx)]; exact J6.base.free b o z n0 hx
      · have y := J6.base.tups b xs z
        rw [upd_ne (nn b _ y)]; exact y
      · have y := J6.base.frzs b o u0 z
        rw [upd_ne (nn b _ y)]; exact y
      · obtain ⟨more, y⟩ := J6.base.tbls b ps z
        exact ⟨more, by rw [upd_ne (nn b _ y)]; exact y⟩
      · obtain ⟨m1, ⟨o1, _, _, e1, _⟩, _⟩ := I1.loc
        rw [upd_ne (any _ o1 e1)]; exact J6.free
      · obtain ⟨v1, o1, e1, _⟩ := I1.cell x c z
        rw [upd_ne (any c o1 e1)]; exact J6.freeC x c z
      · obtain ⟨e1, n1, ne, nf, d⟩ := J6.pin p hp
        obtain ⟨y1, _⟩ := I1.pin p hp
        exact ⟨e1, by rw [upd_ne (any p.1 p.2 y1)]; exact n1, ne, nf, d⟩
      · by_cases hbe : b = e
        · subst hbe
          rw [upd_same] at z
          cases z
          obtain ⟨oe, ws, hoe, hoec, hoed⟩ := id IX
          refine ⟨IX, ⟨oe, hoe⟩, fun h1 h2 p1 k1 => ?_⟩
          obtain ⟨o1, w1, x1, x2, x3⟩ := p1
          exact ⟨o1, w1, k1 _ x1, x2, x3⟩
        · rw [upd_ne hbe] at z
          exact (J6.hok b u0 z).stay (fun _ _ _ y => y) (fun c y => by rw [upd_ne (nn c _ y)]; exact y) fun c xs y => by rw [upd_ne (nn c _ y)]; exact y
    refine store_ok (X := X.inx e) (J7.inx e) hN hi (.inl hn) (show RelV (.ref e) (.ref e) from rfl) (fun s7 I7 => ?_) (.inr hn)
    refine wpAny_mono (hu e pins s7 _ _ (dropN i D) I7 (q e eH)) (fun f s8 q8 => ?_) fun _ _ z => False.elim z
    have fin : ∀ {σ8 : St} {H8 : Hp} {Qf : Unit → Shared → Prop}, Inv (X.inx e) pins σ8 H8 s8 → (∀ s9, Inv X pins (σ8.set i none) H8 s9 → Qf () s9) → wpAny (model X.prog X.w) X.A (do bindName X.env n .none; unbindBehindTheSuite X.env n hpos) Qf X.xe s8 := fun {σ8 H8 Qf} I8 k => by
      have I8 := I8.outx I.ok
      obtain ⟨m8, hm8, hl8⟩ := id I8.loc
      exact wpAny_nameGoes_keeps (show X.env.kindOf n = some .local from hn) hm8 (by rw [I8.ok.kind]; rfl) fun h9 v9 hn9 hs9 => k _ (I8.drop hN hi hn hm8 hl8 hn9 hs9)
    cases f with
    | next =>
      obtain ⟨σ8, H8, I8, q9⟩ := q8
      exact fin I8 fun s9 I9 => ⟨_, H8, I9, q9⟩
    | brk =>
      obtain ⟨σ8, H8, I8, q9⟩ := q8
      exact fin I8 fun s9 I9 => ⟨_, H8, I9, q9⟩
    | cont =>
      obtain ⟨σ8, H8, I8, q9⟩ := q8
      exact fin I8 fun s9 I9 => ⟨_, H8, I9, q9⟩
    | ret v8 =>
      obtain ⟨v, σ8, H8, I8, r8, q9⟩ := q8
      exact fin I8 fun s9 I9 => ⟨v, _, H8, I9, r8, q9⟩
  · cases f with
    | next => exact wpAny_execs_nil q
    | ret v => exact q
    | brk => exact q
    | cont => exact q
end
end L2
set_option Elab.async false
set_option linter.all false
set_option maxRecDepth 100000
set_option maxHeartbeats 4000000
namespace L2
open PySem PySem.Spec PyProof.Rows PySem.W
section
variable {X : Cx}
theorem zx_call {x : Str} {k k' : Nat} {ps : List Str} {sp : Sp} {e : Expr} {es : List Expr} {t : TA} {p pos : Pos} (F : FnR X.prog X.w X.K X.mg X.base x k ps sp) (hr : Room k' X.A) (hk : k ≤ k') (hg : Gl X x)
    (ha : ZA X.nox (e :: es) t) (hdb : (x == ("__debug__" : Str)) = false := by decide) (he : starEach (e :: es) X.env = (false, eval e X.env) :: starEach es X.env := by rfl) (hpl : (backTo pos (starEach es X.env)).any (·.1) = false := by rfl) :
    PX X (.Call (.Name x p) (e :: es) [] pos) (tXfn sp t) := by with_unfolding_all exact px_call F hr hk hg ha hdb he hpl
theorem zs_try {PC : Addr} {i : Nat} {tx : TXS} {u : TS} {n pn : Str} {body : List Stmt} {b0 : Stmt} {suite : List Stmt} {np hpos pos : Pos} (hb : PXS X body tx) (hu : ∀ a, ZSs (X.inx a) (b0 :: suite) u) (hst : X.stack = X.env :: X.outer) (hfr : X.env.frame = some X.env.locals) (hN : X.N.Nodup) (hi : X.N[i]? = some n)
    (hn : X.env.scope.names.lookup n = some .local) (hg : Gl X pn) (hm : X.mg pn = some (.ref PC)) (hdb : (pn == ("__debug__" : Str)) = false := by decide) :
    ZS X (.Try body [.ExceptHandler (some (.Name pn np)) (some n) (b0 :: suite) hpos] [] [] pos) (tTry X.K PC i tx u) := by with_unfolding_all exact ps_try hb (fun a => hu a) hst hfr hN hi hn hg hm hdb

noncomputable def clV : V → Option Value
  | .ref D => some (.ref D)
  | .ty n => some (.type n)
  | _ => none
noncomputable def rIsiE (K : PySem.W.Frag) : List V → Hp → VK → Prop := fun xs H Q => match xs with
  | [.ref x, c] => ∃ C b y, H x = some (.ext (IsX x C)) ∧ ExC K C ∧ clV c = some y ∧ kitOne K (.ref C) y = some b ∧ Q (.bl b) H
  | _ => False
theorem call_isiE : CallR X (.builtin "isinstance") (rIsiE X.K) := by
  intro pins s σ H xs us Q I r h
  unfold rIsiE at h
  split at h
  · rename_i x c
    obtain ⟨C, b, y, hx, L, ey, kk, q⟩ := h
    obtain ⟨u, w', rfl, r1, r2⟩ := vals2 r
    cases r1
    have e2 : w' = y := by
      cases c with
      | ref D => cases ey; exact r2
      | ty n => cases ey; exact r2
      | non => cases ey
      | bl b => cases ey
      | int i => cases ey
      | str x => cases ey
      | byt b => cases ey
      | flt b => cases ey
    subst e2
    obtain ⟨p, _, _⟩ := I.hok x _ hx
    exact kia_one (kitx_exc L) I.kIn p kk (fun z => nomatch z) fun tk => ⟨.bl _, H, I.tok tk, rfl, q⟩
  · exact h.elim
theorem zcb_isiE {p pos : Pos} {e : Expr} {es : List Expr} {t : TA} (hg : Gl X "isinstance") (hm : X.mg "isinstance" = none) (ha : ZA X (e :: es) t) (he : starEach (e :: es) X.env = (false, eval e X.env) :: starEach es X.env) (hpl : (backTo pos (starEach es X.env)).any (·.1) = false) :
    ZE X (.Call (.Name "isinstance" p) (e :: es) [] pos) (tCB (rIsiE X.K) t) := by with_unfolding_all exact pe_callB call_isiE hg hm boot_isinstance ha (by decide) (by decide) he hpl
theorem ze_cls {x : Str} {C : Addr} {pos : Pos} (hg : Gl X x) (hm : X.mg x = some (.ref C)) (hd : (x == ("__debug__" : Str)) = false := by decide) : ZE X (.Name x pos) (tC (.ref C)) := by with_unfolding_all exact pe_glob hg hm (show RelV (.ref C) (.ref C) from rfl) hd
theorem boot_ValueError : bootBuiltins "ValueError" = some (.type "ValueError") := by decide +kernel
theorem zty_ValueError {pos : Pos} (hg : Gl X "ValueError") (hm : X.mg "ValueError" = none) : ZE X (.Name "ValueError" pos) (tC (.ty "ValueError")) := by with_unfolding_all exact pe_ty hg hm boot_ValueError (by decide) (by decide)
end
noncomputable def errB (K : PySem.W.Frag) (p C : Addr) (os : List Addr) : Bool :=
  exCB K C && excIn K C [.type "ValueError", .type "Exception", .type "BaseException", .type "object"] "ValueError.__new__" && exmOne K (.ref C) (.ref p) == some true && kitOne K (.ref C) (.type "ValueError") == some true
    && kitOne K (.ref C) (.ref C) == some true && os.all fun D => kitOne K (.ref C) (.ref D) == some false
structure ErrK (K : PySem.W.Frag) (p C : Addr) (os : List Addr) : Prop where
  cls : ExC K C
  ra : RaC K C
  mt : exmOne K (.ref C) (.ref p) = some true
  vE : kitOne K (.ref C) (.type "ValueError") = some true
  me : kitOne K (.ref C) (.ref C) = some true
  ot : ∀ D ∈ os, kitOne K (.ref C) (.ref D) = some false
theorem ErrK.of {K : PySem.W.Frag} {p C : Addr} {os : List Addr} (h : errB K p C os = true) : ErrK K p C os := by
  unfold errB at h
  simp only [Bool.and_eq_true, beq_iff_eq, List.all_eq_true] at h
  obtain ⟨⟨⟨⟨⟨a, b⟩, c⟩, d⟩, e⟩, g⟩ := h
  exact ⟨.of a, ⟨b⟩, c, d, e, g⟩
end L2
set_option Elab.async false
set_option linter.all false
set_option maxRecDepth 100000
set_option maxHeartbeats 4000000
namespace L2
open PySem PySem.Spec PyProof.Rows PySem.W
section
variable {X : Cx}
theorem zss_never {sts : List Stmt} : ZSs X sts tNever := by with_unfolding_all exact pss_never
noncomputable def rBCount (K : PySem.W.Frag) : V → List V → Hp → VK → Prop := fun x vs H Q => match x, vs with
  | .ref a, [.bl k] => ∃ bs : List Bool, SqL K H a (bs.map V.bl) ∧ Q (.int (bs.count k)) H
  | _, _ => False
theorem reads_bools (hp : Heap) : ∀ {bs : List Bool} {its : List Value}, Vals (bs.map V.bl) its → ReadsAll hp its (bs.map PyData.bool) []
  | [], _, .nil => .nil
  | b :: bs, _, .cons r rs => by
    cases (show _ = Value.bool b from r)
    exact .cons (.bool b) (reads_bools hp rs)
theorem count_bools (k : Bool) : ∀ bs : List Bool, Spec.countIn (.bool k) (bs.map PyData.bool) = (bs.count k : Int)
  | [] => rfl
  | b :: bs => by
    rw [List.map_cons, Spec.countIn, count_bools k bs, List.count_cons]
    cases b <;> cases k <;> simp [Spec.same] <;> omega
theorem mt_bcount : MtM X "list.count" (rBCount X.K) := by
  intro pins s σ H x vs v us Q I rx rv h
  unfold rBCount at h
  split at h
  · rename_i a k
    obtain ⟨bs, hH, q⟩ := h
    cases rx
    obtain ⟨u, rfl, ru⟩ := rv.one
    cases (show u = Value.bool k from ru)
    obtain ⟨its, r, pl, hz⟩ := I.list hH
    refine count_list_bools pl.isList (reads_bools s.heap r) (by rw [List.all_map]; exact List.all_eq_true.mpr fun _ _ => rfl) ?_
    rw [count_bools]
    exact ⟨.int _, H, I.tok _, ⟨_, rfl⟩, q⟩
  · exact h.elim
theorem zm_bcount {o e : Expr} {es : List Expr} {to : TE} {t : TA} {apos cpos : Pos} (ho : ZE X o to) (ha : ZA X (e :: es) t) (hbase : attributeBase o "count" X.env (eval o X.env) = eval o X.env := by rfl)
    (hfew : ((backTo cpos (starEach (e :: es) X.env)).all (fun x => !x.1) && (backToKw cpos (keywordEach [] X.env)).all (fun x => x.1.isSome)
      && decide ((e :: es).length + ([] : List Keyword).length + (if ([] : List Keyword).isEmpty then 0 else 1) < 30)) = true := by rfl)
    (hline : (apos.endLine == cpos.line) = true := by rfl) (hs : starEach (e :: es) X.env = (false, eval e X.env) :: starEach es X.env := by rfl) (hplain : (backTo cpos (starEach es X.env)).any (·.1) = false := by rfl) :
    ZE X (.Call (.Attribute o "count" apos) (e :: es) [] cpos) (fun σ H Q => to σ H fun x H1 => tyV X.K "list" x H1 ∧ t σ H1 fun xs H2 => rBCount X.K x xs H2 Q) := by
  with_unfolding_all exact pe_bm PySem.F.plainAttrs_list PySem.F.slot_list_count PySem.F.type_list_count mt_bcount ho ha hbase hfew hline hs hplain
end
end L2
namespace MRow
end MRow
set_option Elab.async false
set_option linter.all false
set_option maxRecDepth 100000
set_option exponentiation.threshold 3000
set_option maxHeartbeats 4000000
namespace M27
open PySem L2 MRow
theorem size_up {a b m : Int} (hm : 1 ≤ m) : Builtin.Range.rangeSize a b m = if a < b then (b - a - 1) / m + 1 else 0 := by
  unfold Builtin.Range.rangeSize
  rw [if_pos (by omega)]
theorem small_up {a b m : Int} (hm : 1 ≤ m) (hm' : m ≤ 1000000) (ha : 0 ≤ a) (ha' : a ≤ 1000000) (hb : 0 ≤ b) (hb' : b ≤ 1000000) : Builtin.Range.small a b m = true := by
  have e := size_up (a := a) (b := b) hm
  unfold Builtin.Range.small
  rw [e]
  by_cases hab : a < b
  · rw [if_pos hab]
    have h0 : 0 ≤ (b - a - 1) / m := Int.ediv_nonneg (by omega) (by omega)
    have h1 : (b - a - 1) / m ≤ b - a - 1 := Int.ediv_le_self _ (by omega)
    simp only [Builtin.Range.rangeFitsLong, Bool.and_eq_true, Bool.or_eq_true, decide_eq_true_eq, beq_iff_eq, show m > 0 by omega, if_true]
    generalize (b - a - 1) / m = k at h0 h1
    omega
  · rw [if_neg hab]
    simp only [Builtin.Range.rangeFitsLong, Bool.and_eq_true, Bool.or_eq_true, decide_eq_true_eq, beq_iff_eq, show m > 0 by omega, if_true]
    omega
end M27
set_option Elab.async false
set_option linter.all false
set_option maxRecDepth 100000
set_option maxHeartbeats 4000000
namespace M39
noncomputable def bd (ns : List Int) (k : Nat) : List Int := (List.range k).map fun (i : Nat) => ns.getD i 0 + k - 1 - i
theorem bd_len (ns : List Int) (k : Nat) : (bd ns k).length = k := by unfold bd; rw [List.length_map, List.length_range]
noncomputable def ct (ns : List Int) (k t r : Nat) : Nat := (bd ns k).countP fun b => decide (b % (t : Int) = (r : Int))
noncomputable def rd (ns : List Int) (t : Nat) : Nat := (ns.length + t - 1) / t
noncomputable def vec (ns : List Int) (t : Nat) : List Int := (List.range t).map fun (r : Nat) => (ct ns (t * rd ns t) t r : Int) - rd ns t
theorem vec_len (ns : List Int) (t : Nat) : (vec ns t).length = t := by unfold vec; rw [List.length_map, List.length_range]
theorem rd_ge (ns : List Int) {t : Nat} (ht : 0 < t) : ns.length ≤ t * rd ns t := by
  unfold rd
  have := Nat.div_add_mod (ns.length + t - 1) t
  have h2 := Nat.mod_lt (ns.length + t - 1) ht
  omega
theorem rd_le (ns : List Int) {t : Nat} (ht : 0 < t) : t * rd ns t ≤ ns.length + t - 1 := by
  unfold rd
  have := Nat.div_add_mod (ns.length + t - 1) t
  omega
theorem cnt_one : ∀ (t c : Nat), (List.range t).countP (fun j => decide (j = c)) = if c < t then 1 else 0
  | 0, c => by simp
  | t + 1, c => by
    rw [List.range_succ, List.countP_append, cnt_one t c, List.countP_singleton]
    by_cases h : t = c
    · subst h
      rw [if_neg (Nat.lt_irrefl _), if_pos (decide_eq_true rfl), if_pos (Nat.lt_succ_self _)]
    · rw [if_neg (show ¬ decide (t = c) = true by simpa using h)]
      by_cases h2 : c < t
      · rw [if_pos h2, if_pos (by omega)]
      · rw [if_neg h2, if_neg (by omega)]
theorem ct_step {ns : List Int} {k t r : Nat} (hk : ns.length ≤ k) (hr : r < t) : ct ns (k + t) t r = ct ns k t r + 1 := by
  have hz : ((t : Int)) ≠ 0 := by omega
  unfold ct bd
  rw [List.range_add, List.map_append, List.countP_append, List.map_map, List.countP_map, List.countP_map, List.countP_map]
  have e1 : List.countP ((fun b => decide (b % (t : Int) = (r : Int))) ∘ fun (i : Nat) => ns.getD i 0 + ((k + t : Nat) : Int) - 1 - i) (List.range k) = List.countP ((fun b => decide (b % (t : Int) = (r : Int))) ∘ fun (i : Nat) => ns.getD i 0 + (k : Int) - 1 - i) (List.range k) := by
    refine List.countP_congr fun i _ => ?_
    have : ns.getD i 0 + ((k + t : Nat) : Int) - 1 - (i : Int) = (ns.getD i 0 + (k : Int) - 1 - i) + t := by omega
    show decide ((ns.getD i 0 + ((k + t : Nat) : Int) - 1 - (i : Int)) % (t : Int) = (r : Int)) = true ↔ decide ((ns.getD i 0 + (k : Int) - 1 - (i : Int)) % (t : Int) = (r : Int)) = true
    rw [decide_eq_true_iff, decide_eq_true_iff, this, Int.add_emod_right]
  have e2 : List.countP ((fun b => decide (b % (t : Int) = (r : Int))) ∘ ((fun (i : Nat) => ns.getD i 0 + ((k + t : Nat) : Int) - 1 - i) ∘ fun x => k + x)) (List.range t) = 1 := by
    have h := cnt_one t (t - 1 - r)
    rw [if_pos (by omega)] at h
    rw [← h]
    refine List.countP_congr fun j hj => ?_
    have hj' := List.mem_range.mp hj
    show decide ((ns.getD (k + j) 0 + ((k + t : Nat) : Int) - 1 - ((k + j : Nat) : Int)) % (t : Int) = (r : Int)) = true ↔ decide (j = t - 1 - r) = true
    rw [decide_eq_true_iff, decide_eq_true_iff]
    have g : ns.getD (k + j) 0 = 0 := by
      rw [List.getD_eq_getElem?_getD, List.getElem?_eq_none (by omega)]
      rfl
    rw [g]
    have : (0 : Int) + ((k + t : Nat) : Int) - 1 - ((k + j : Nat) : Int) = ((t - 1 - j : Nat) : Int) := by omega
    rw [this]
    have hm : ((t - 1 - j : Nat) : Int) % (t : Int) = ((t - 1 - j : Nat) : Int) := Int.emod_eq_of_lt (by omega) (by omega)
    rw [hm]
    omega
  rw [e1, e2]
theorem ct_more {ns : List Int} {t r : Nat} (hr : r < t) : ∀ m : Nat, ct ns (t * (rd ns t + m)) t r = ct ns (t * rd ns t) t r + m
  | 0 => rfl
  | m + 1 => by
    have e : t * (rd ns t + (m + 1)) = t * (rd ns t + m) + t := by rw [← Nat.add_assoc, Nat.mul_add, Nat.mul_one]
    have := rd_ge ns (t := t) (by omega)
    rw [e, ct_step (by rw [Nat.mul_add]; omega) hr, ct_more hr m]
    rfl
theorem vec_more (ns : List Int) (t m : Nat) : ((List.range t).map fun (r : Nat) => (ct ns (t * (rd ns t + m)) t r : Int) - ((rd ns t + m : Nat) : Int)) = vec ns t := by
  unfold vec
  refine List.map_congr_left fun r hr => ?_
  rw [ct_more (List.mem_range.mp hr) m]
  omega
theorem sum_map_add (f g : Nat → Int) : ∀ l : List Nat, (l.map fun r => f r + g r).sum = (l.map f).sum + (l.map g).sum
  | [] => by simp
  | x :: l => by simp only [List.map_cons, List.sum_cons, sum_map_add f g l]; omega
theorem sum_one (t : Nat) (c : Int) (h0 : 0 ≤ c) (h1 : c < t) : ((List.range t).map fun (r : Nat) => if c = (r : Int) then (1 : Int) else 0).sum = 1 := by
  have key : ∀ n : Nat, ((List.range n).map fun (r : Nat) => if c = (r : Int) then (1 : Int) else 0).sum = if c < n then 1 else 0 := by
    intro n
    induction n with
    | zero => simp; omega
    | succ n ih =>
      rw [List.range_succ, List.map_append, List.sum_append, ih]
      simp only [List.map_cons, List.map_nil, List.sum_cons, List.sum_nil]
      by_cases h : c = (n : Int)
      · rw [if_neg (by omega), if_pos h, if_pos (by omega)]; rfl
      · rw [if_neg h]
        by_cases h2 : c < n
        · rw [if_pos h2, if_pos (by omega)]; rfl
        · rw [if_neg h2, if_neg (by omega)]; rfl
  rw [key, if_pos h1]
theorem sum_cnt (t : Nat) (ht : 0 < t) : ∀ l : List Int, ((List.range t).map fun (r : Nat) => ((l.countP fun b => decide (b % (t : Int) = (r : Int)) : Nat) : Int)).sum = l.length
  | [] => by
    have : ((List.range t).map fun (r : Nat) => (((([] : List Int).countP fun b => decide (b % (t : Int) = (r : Int))) : Nat) : Int)) = (List.range t).map fun _ => (0 : Int) := List.map_congr_left fun _ _ => rfl
    rw [this]
    have : ∀ l : List Nat, (l.map fun _ => (0 : Int)).sum = 0 := by
      intro l
      induction l with
      | nil => rfl
      | cons x l ih => rw [List.map_cons, List.sum_cons, ih]; rfl
    rw [this]; rfl
  | x :: l => by
    have e : ((List.range t).map fun (r : Nat) => ((((x :: l).countP fun b => decide (b % (t : Int) = (r : Int))) : Nat) : Int)) = (List.range t).map fun (r : Nat) => ((l.countP fun b => decide (b % (t : Int) = (r : Int)) : Nat) : Int) + (if x % (t : Int) = (r : Int) then (1 : Int) else 0) := by
      refine List.map_congr_left fun r _ => ?_
      rw [List.countP_cons]
      by_cases h : x % (t : Int) = (r : Int)
      · rw [if_pos h, if_pos (decide_eq_true h)]; omega
      · rw [if_neg h, if_neg (by simpa using h)]; omega
    rw [e, sum_map_add, sum_cnt t ht l, sum_one t _ (Int.emod_nonneg _ (by omega)) (Int.emod_lt_of_pos _ (by omega)), List.length_cons]
    omega
theorem vec_sum (ns : List Int) {t : Nat} (ht : 0 < t) : (vec ns t).sum = 0 := by
  have h := sum_cnt t ht (bd ns (t * rd ns t))
  rw [bd_len] at h
  have e : vec ns t = (List.range t).map fun (r : Nat) => ((bd ns (t * rd ns t)).countP (fun b => decide (b % (t : Int) = (r : Int))) : Int) + (-(rd ns t : Int)) := by
    unfold vec ct
    refine List.map_congr_left fun r _ => by omega
  have c : ∀ (z : Int) (l : List Nat), (l.map fun _ => z).sum = l.length * z := by
    intro z l
    induction l with
    | nil => simp
    | cons x l ih => rw [List.map_cons, List.sum_cons, ih, List.length_cons, Int.natCast_add, Int.add_mul]; simp; omega
  rw [e, sum_map_add (fun r => ((bd ns (t * rd ns t)).countP (fun b => decide (b % (t : Int) = (r : Int))) : Int)) (fun _ => -(rd ns t : Int)), h, c, List.length_range, Int.mul_neg, Int.natCast_mul]
  omega
end M39
set_option Elab.async false
set_option linter.all false
set_option maxRecDepth 100000
set_option maxHeartbeats 4000000
namespace M40
open M39
end M40
set_option Elab.async false
set_option linter.all false
set_option maxRecDepth 100000
set_option maxHeartbeats 4000000
namespace M43
open M39 M40
noncomputable def sq (t : Nat) (n : Nat → Int) : Int := ((List.range t).map fun (r : Nat) => n r * n r).sum
noncomputable def ro (t : Nat) (n : Nat → Int) : Int := ((List.range t).map fun (r : Nat) => (r : Int) * n r).sum
end M43
set_option Elab.async false
set_option linter.all false
set_option maxRecDepth 100000
set_option maxHeartbeats 4000000
namespace M48
open M39 M43
noncomputable def r5 : List (List Int) := [[4], [2, 2], [1, 1, 1, 1], [2, 1, 1], [3, 1]]
noncomputable def r7 : List (List Int) := [[5], [3, 1, 1], [1, 1, 1, 1, 1], [3, 2], [2, 1, 1, 1], [4, 1], [2, 2, 1]]
noncomputable def r11 : List (List Int) := [[6], [2, 2, 2], [3, 1, 1, 1], [4, 2], [2, 1, 1, 1, 1], [3, 2, 1], [5, 1], [2, 2, 1, 1], [4, 1, 1], [3, 3], [1, 1, 1, 1, 1, 1]]
noncomputable def RD : List (Int × List (List Int)) := [(5, r5), (7, r7), (11, r11)]
noncomputable def rnd (t : Nat) : List (List Int) := if t = 5 then r5 else if t = 7 then r7 else r11
noncomputable def cw (t : Nat) : Int := if t = 5 then 4 else if t = 7 then 5 else 6
noncomputable def T3 (t : Nat) : Prop := t = 5 ∨ t = 7 ∨ t = 11
theorem rd_look {t : Nat} (h : T3 t) : RD.lookup (t : Int) = some (rnd t) := by rcases h with rfl | rfl | rfl <;> rfl
noncomputable def vks (t : Nat) : List (List Int) := (rnd t).map fun ns => vec ns t
noncomputable def vk (t k r : Nat) : Int := ((vks t).getD k []).getD r 0
noncomputable def dt (t : Nat) (f : Nat → Int) (i r : Nat) : Int := ((List.range i).map fun (k : Nat) => f k * vk t k r).sum
noncomputable def vby (t : Nat) (f : Nat → Int) : List Int := (List.range t).map fun (r : Nat) => dt t f t r
theorem vby_len (t : Nat) (f : Nat → Int) : (vby t f).length = t := by unfold vby; simp
theorem rnd_len {t : Nat} (h : T3 t) : (rnd t).length = t := by rcases h with rfl | rfl | rfl <;> rfl
theorem vks_len {t : Nat} (h : T3 t) : (vks t).length = t := by unfold vks; rw [List.length_map, rnd_len h]
theorem rnd_ok {t : Nat} (h : T3 t) : ∀ ns ∈ rnd t, 0 < ns.length ∧ ns.length < t := by rcases h with rfl | rfl | rfl <;> decide
theorem vk_lim {t : Nat} (h : T3 t) : ∀ vs ∈ vks t, ∀ x ∈ vs, -20 ≤ x ∧ x ≤ 20 := by rcases h with rfl | rfl | rfl <;> decide +kernel
end M48
set_option Elab.async false
set_option linter.all false
set_option maxRecDepth 100000
set_option maxHeartbeats 4000000
namespace M47
open M39 M43 M48
noncomputable def S (t : Nat) (g : Nat → Int) : Int := ((List.range t).map g).sum
theorem S_zero (g : Nat → Int) : S 0 g = 0 := rfl
theorem S_succ (t : Nat) (g : Nat → Int) : S (t + 1) g = S t g + g t := by unfold S; rw [List.range_succ, List.map_append, List.sum_append]; simp
theorem S_congr {t : Nat} {g k : Nat → Int} (h : ∀ i, i < t → g i = k i) : S t g = S t k := by
  unfold S
  congr 1
  exact List.map_congr_left fun i hi => h i (List.mem_range.mp hi)
theorem S_add (g k : Nat → Int) : ∀ t, S t (fun i => g i + k i) = S t g + S t k
  | 0 => rfl
  | t + 1 => by rw [S_succ, S_succ, S_succ, S_add g k t]; lia
theorem S_mul (c : Int) (g : Nat → Int) : ∀ t, S t (fun i => c * g i) = c * S t g
  | 0 => by rw [S_zero, S_zero, Int.mul_zero]
  | t + 1 => by rw [S_succ, S_succ, S_mul c g t, Int.mul_add]
theorem S_nil : ∀ t, S t (fun _ => 0) = 0
  | 0 => rfl
  | t + 1 => by rw [S_succ, S_nil t]; rfl
theorem S_swap (F : Nat → Nat → Int) (m : Nat) : ∀ t, S t (fun i => S m fun j => F i j) = S m fun j => S t fun i => F i j
  | 0 => by rw [S_zero, S_congr (g := fun j => S 0 fun i => F i j) (k := fun _ => 0) (fun _ _ => rfl), S_nil]
  | t + 1 => by
    rw [S_succ, S_swap F m t, ← S_add]
    exact S_congr fun j _ => (S_succ t fun i => F i j).symm
noncomputable def del (a k : Nat) : Int := if k = a then 1 else 0
theorem S_del (f : Nat → Int) (a : Nat) : ∀ t, S t (fun k => f k * del a k) = if a < t then f a else 0
  | 0 => rfl
  | t + 1 => by
    rw [S_succ, S_del f a t]
    unfold del
    by_cases h : t = a
    · subst h
      rw [if_pos rfl, if_neg (Nat.lt_irrefl _), if_pos (Nat.lt_succ_self _)]
      lia
    · rw [if_neg h, Int.mul_zero, Int.add_zero]
      by_cases h2 : a < t
      · rw [if_pos h2, if_pos (by lia)]
      · rw [if_neg h2, if_neg (by lia)]
theorem dt_S (t : Nat) (f : Nat → Int) (r : Nat) : dt t f t r = S t fun k => f k * vk t k r := rfl
theorem S_told (t : Nat) (f : Nat → Int) (c : Nat → Int) : S t (fun r => c r * dt t f t r) = S t fun k => f k * S t fun r => c r * vk t k r := by
  have e : ∀ r, r < t → c r * dt t f t r = S t fun k => f k * (c r * vk t k r) := fun r _ => by
    rw [dt_S, ← S_mul]
    exact S_congr fun k _ => by rw [Int.mul_left_comm]
  rw [S_congr e, S_swap]
  exact S_congr fun k _ => S_mul (f k) (fun r => c r * vk t k r) t
noncomputable def pv (t : Nat) (n : Nat → Int) (i m : Nat) : Int := ((List.range m).map fun (j : Nat) => n j * vk t i j).sum
noncomputable def pl (n : Nat → Int) (m : Nat) : Int := ((List.range m).map fun (j : Nat) => (j : Int) * n j).sum
noncomputable def bend (t : Nat) (n : Nat → Int) (i : Nat) : Int := pv t n i t + (pl n t + pl (vk t i) t + 2 * ((t : Int) - cw t)) / (t : Int)
noncomputable def gq (t k i : Nat) : Int := (pl (vk t k) t + pl (vk t i) t + 2 * ((t : Int) - cw t)) / (t : Int)
theorem tab_q {t : Nat} (h3 : T3 t) : ∀ k, k < t → ∀ i, i < t → pl (vk t k) t + pl (vk t i) t + 2 * ((t : Int) - cw t) = (t : Int) * gq t k i := by rcases h3 with rfl | rfl | rfl <;> decide +kernel
theorem tab_g {t : Nat} (h3 : T3 t) : ∀ k, k < t → ∀ i, i < t → (S t fun r => vk t i r * vk t k r) + gq t k i = 2 * del i k - del ((i + t - 1) % t) k - del ((i + 1) % t) k := by rcases h3 with rfl | rfl | rfl <;> decide +kernel
theorem tab_z {t : Nat} (h3 : T3 t) : ∀ k, k < t → (S t fun r => 1 * vk t k r) = 0 := by rcases h3 with rfl | rfl | rfl <;> decide +kernel
theorem tab_w {t : Nat} (h3 : T3 t) : ∀ k, k < t → pl (vk t k) t = cw t + (t : Int) * ((pl (vk t k) t - cw t) / (t : Int)) := by rcases h3 with rfl | rfl | rfl <;> decide +kernel
theorem pv_told (t : Nat) (f : Nat → Int) (i : Nat) : pv t (dt t f t) i t = S t fun k => f k * S t fun r => vk t i r * vk t k r := by
  rw [← S_told]
  exact S_congr fun r _ => Int.mul_comm _ _
theorem pl_told (t : Nat) (f : Nat → Int) : pl (dt t f t) t = S t fun k => f k * pl (vk t k) t := S_told t f fun r => (r : Int)
theorem bend_is {t : Nat} (h3 : T3 t) {f : Nat → Int} (h : ((List.range t).map f).sum = 1) : ∀ i, i < t → bend t (dt t f t) i = 2 * f i - f ((i + t - 1) % t) - f ((i + 1) % t) := by
  intro i hi
  have h : S t f = 1 := h
  have t0 : 0 < t := by lia
  have e1 : pl (dt t f t) t + pl (vk t i) t + 2 * ((t : Int) - cw t) = (t : Int) * S t fun k => f k * gq t k i := by
    have a : pl (vk t i) t + 2 * ((t : Int) - cw t) = S t fun k => (pl (vk t i) t + 2 * ((t : Int) - cw t)) * f k := by rw [S_mul, h, Int.mul_one]
    rw [Int.add_assoc, a, pl_told, ← S_add, ← S_mul]
    refine S_congr fun k hk => ?_
    have q := tab_q h3 k hk i hi
    rw [Int.mul_left_comm, ← q]
    grind
  unfold bend
  rw [e1, Int.mul_ediv_cancel_left _ (by lia), pv_told, ← S_add]
  have e2 : ∀ k, k < t → f k * (S t fun r => vk t i r * vk t k r) + f k * gq t k i = 2 * (f k * del i k) + (-1 * (f k * del ((i + t - 1) % t) k) + -1 * (f k * del ((i + 1) % t) k)) := fun k hk => by
    rw [← Int.mul_add, tab_g h3 k hk i hi]
    grind
  rw [S_congr e2, S_add, S_add, S_mul, S_mul, S_mul, S_del, S_del, S_del, if_pos hi, if_pos (Nat.mod_lt _ t0), if_pos (Nat.mod_lt _ t0)]
  lia
theorem vby_zero {t : Nat} (h3 : T3 t) (f : Nat → Int) : (vby t f).sum = 0 := by
  have e : (vby t f).sum = S t fun r => 1 * dt t f t r := by
    unfold vby S
    congr 1
    exact List.map_congr_left fun r _ => (Int.one_mul _).symm
  rw [e, S_told, S_congr (k := fun _ => 0) (fun k hk => by rw [tab_z h3 k hk, Int.mul_zero]), S_nil]
theorem ro_told {t : Nat} (h3 : T3 t) {f : Nat → Int} (h : ((List.range t).map f).sum = 1) : ro t (dt t f t) % (t : Int) = cw t := by
  have h : S t f = 1 := h
  have e0 : ro t (dt t f t) = pl (dt t f t) t := rfl
  have e : pl (dt t f t) t = cw t + (t : Int) * S t fun k => f k * ((pl (vk t k) t - cw t) / (t : Int)) := by
    have a : (S t fun k => cw t * f k) = cw t := by rw [S_mul, h, Int.mul_one]
    have b : S t (fun k => f k * pl (vk t k) t) = S t fun k => cw t * f k + (t : Int) * (f k * ((pl (vk t k) t - cw t) / (t : Int))) := by
      refine S_congr fun k hk => ?_
      have q := tab_w h3 k hk
      have q2 : f k * pl (vk t k) t = f k * (cw t + (t : Int) * ((pl (vk t k) t - cw t) / (t : Int))) := congrArg (fun z => f k * z) q
      rw [q2]
      generalize (pl (vk t k) t - cw t) / (t : Int) = z
      grind
    rw [pl_told, b, S_add, a, S_mul]
  rw [e0, e, Int.add_mul_emod_self_left]
  rcases h3 with rfl | rfl | rfl <;> rfl
theorem S_lim {f v : Nat → Int} {B : Int} (hB : 0 ≤ B) : ∀ t : Nat, (∀ k, k < t → -B ≤ f k ∧ f k ≤ B) → (∀ k, k < t → -20 ≤ v k ∧ v k ≤ 20) → -((t : Int) * (20 * B)) ≤ S t (fun k => f k * v k) ∧ S t (fun k => f k * v k) ≤ (t : Int) * (20 * B)
  | 0, _, _ => by rw [S_zero]; lia
  | t + 1, h1, h2 => by
    have ih := S_lim hB t (fun k hk => h1 k (by lia)) fun k hk => h2 k (by lia)
    have a := h1 t (by lia)
    have b := h2 t (by lia)
    have c : -(20 * B) ≤ f t * v t ∧ f t * v t ≤ 20 * B := by
      have p1 := Int.mul_nonneg (show 0 ≤ B - f t by lia) (show 0 ≤ 20 - v t by lia)
      have p2 := Int.mul_nonneg (show 0 ≤ B - f t by lia) (show 0 ≤ 20 + v t by lia)
      have p3 := Int.mul_nonneg (show 0 ≤ B + f t by lia) (show 0 ≤ 20 - v t by lia)
      have p4 := Int.mul_nonneg (show 0 ≤ B + f t by lia) (show 0 ≤ 20 + v t by lia)
      constructor <;> grind
    rw [S_succ, Int.natCast_add, Int.add_mul]
    lia
noncomputable def ctab (t k j : Nat) : Int := ((if t = 5 then ([[1, 1, 0, 0, -1], [-1, -1, 0, 0, 0], [-3, -4, 1, 2, 3], [2, 2, -1, -1, -1], [2, 2, 0, -1, -1]] : List (List Int)) else if t = 7 then [[1, 1, 0, 0, 0, 0, -1], [-1, -2, 1, 1, 1, 2, 2], [-4, -6, 1, 2, 3, 4, 5], [-3, -4, 1, 1, 2, 2, 3], [3, 4, -1, -2, -2, -3, -3], [3, 4, -1, -1, -2, -3, -3], [2, 3, -1, -1, -2, -2, -3]] else [[0, -1, 0, 0, 0, 1, 1, 1, 1, 1, 1], [-1, -2, 0, 0, 0, 1, 1, 1, 1, 1, 2], [-2, -4, 1, 1, 1, 2, 2, 2, 3, 3, 4], [-4, -7, 1, 2, 2, 3, 3, 4, 5, 5, 6], [0, 0, 0, 0, 0, 0, -1, 0, 0, 0, 0], [-3, -5, 1, 1, 2, 2, 2, 3, 3, 4, 4], [0, 0, 0, 0, 1, 0, 0, 0, 0, 0, 0], [2, 4, -1, -1, -1, -2, -2, -3, -3, -3, -4], [4, 7, -1, -1, -2, -3, -3, -4, -5, -5, -6], [5, 9, -1, -2, -3, -4, -4, -5, -6, -7, -8], [0, -1, 0, 0, 0, 0, 1, 1, 1, 1, 1]]).getD k []).getD j 0
noncomputable def dm (t r j : Nat) : Int := if r = 0 then (if j = 0 then -cw t else if j = 1 then -(t : Int) else (j : Int) - 1) else if r = 1 then (if j = 0 then cw t else if j = 1 then (t : Int) else -(j : Int)) else del r j
theorem tab_s {t : Nat} (h3 : T3 t) : ∀ j, j < t → (S t fun k => ctab t k j) = del 0 j := by rcases h3 with rfl | rfl | rfl <;> decide +kernel
theorem tab_d {t : Nat} (h3 : T3 t) : ∀ r, r < t → ∀ j, j < t → (S t fun k => vk t k r * ctab t k j) = dm t r j := by rcases h3 with rfl | rfl | rfl <;> decide +kernel
noncomputable def par (n : Nat → Int) (k : Int) (j : Nat) : Int := if j = 0 then 1 else if j = 1 then k else n j
theorem ex_frame {t : Nat} (h3 : T3 t) {n : Nat → Int} (h0 : ((List.range t).map n).sum = 0) (h1 : ro t n % (t : Int) = cw t) : ∃ f : Nat → Int, ((List.range t).map f).sum = 1 ∧ ∀ r, r < t → dt t f t r = n r := by
  have h0 : S t n = 0 := h0
  have t5 : 5 ≤ t := by rcases h3 with rfl | rfl | rfl <;> decide
  have hr : ro t n = S t fun j => (j : Int) * n j := rfl
  generalize hk : ro t n / (t : Int) = k
  have hro : ro t n = cw t + (t : Int) * k := by
    have := Int.mul_ediv_add_emod (ro t n) (t : Int)
    rw [hk, h1] at this
    lia
  refine ⟨fun i => S t fun j => ctab t i j * par n k j, ?_, fun r hrt => ?_⟩
  · show S t (fun i => S t fun j => ctab t i j * par n k j) = 1
    rw [S_swap]
    have e : ∀ j, j < t → (S t fun i => ctab t i j * par n k j) = par n k j * del 0 j := fun j hj => by
      rw [← tab_s h3 j hj, ← S_mul]
      exact S_congr fun i _ => Int.mul_comm _ _
    rw [S_congr e, S_del, if_pos (by lia)]
    rfl
  · have e : dt t (fun i => S t fun j => ctab t i j * par n k j) t r = S t fun j => par n k j * dm t r j := by
      rw [dt_S]
      have a : ∀ i, i < t → (S t fun j => ctab t i j * par n k j) * vk t i r = S t fun j => par n k j * (vk t i r * ctab t i j) := fun i _ => by
        rw [Int.mul_comm, ← S_mul]
        exact S_congr fun j _ => by grind
      rw [S_congr a, S_swap]
      refine S_congr fun j hj => ?_
      rw [S_mul, tab_d h3 r hrt j hj]
    rw [e]
    have d1 : ∀ g : Nat → Int, S t (fun j => g j * del 1 j) = g 1 := fun g => by rw [S_del, if_pos (by lia)]
    have d0 : ∀ g : Nat → Int, S t (fun j => g j * del 0 j) = g 0 := fun g => by rw [S_del, if_pos (by lia)]
    by_cases r0 : r = 0
    · subst r0
      have a : ∀ j, j < t → par n k j * dm t 0 j = ((j : Int) * n j + -1 * n j) + (((-cw t + n 0) * del 0 j) + ((-(t : Int) * k) * del 1 j)) := fun j _ => by
        unfold par dm del
        by_cases j0 : j = 0
        · subst j0; simp; lia
        · by_cases j1 : j = 1
          · subst j1; simp; grind
          · simp [j0, j1]; grind
      rw [S_congr a, S_add, S_add, S_add, S_mul, d0 fun _ => -cw t + n 0, d1 fun _ => -(t : Int) * k, ← hr, h0, hro]
      grind
    · by_cases r1 : r = 1
      · subst r1
        have a : ∀ j, j < t → par n k j * dm t 1 j = -1 * ((j : Int) * n j) + ((cw t * del 0 j) + (((t : Int) * k + n 1) * del 1 j)) := fun j _ => by
          unfold par dm del
          by_cases j0 : j = 0
          · subst j0; simp
          · by_cases j1 : j = 1
            · subst j1; simp; grind
            · simp [j0, j1]; grind
        rw [S_congr a, S_add, S_add, S_mul, d0 fun _ => cw t, d1 fun _ => (t : Int) * k + n 1, ← hr, hro]
        lia
      · have a : ∀ j, j < t → par n k j * dm t r j = n j * del r j := fun j _ => by
          unfold dm
          rw [if_neg r0, if_neg r1]
          unfold par del
          by_cases jr : j = r
          · subst jr; simp [r0, r1]
          · simp [jr]
        rw [S_congr a, S_del, if_pos hrt]
end M47
set_option Elab.async false
set_option linter.all false
set_option maxRecDepth 100000
set_option maxHeartbeats 4000000
namespace M47
open M39 M43 M48
noncomputable def ups (rs : List Int) (m : Nat) : List Int := (List.range m).map fun (j : Nat) => (rs.take j).sum
noncomputable def br (rs : List Int) (total : Int) : List Int := (ups rs (rs.length + 1)).map fun x => (total - (ups rs (rs.length + 1)).sum) / ((rs.length + 1 : Nat) : Int) + x
theorem ups_len (rs : List Int) (m : Nat) : (ups rs m).length = m := by unfold ups; simp
theorem ups_succ (rs : List Int) (m : Nat) : ups rs (m + 1) = ups rs m ++ [(rs.take m).sum] := by unfold ups; rw [List.range_succ, List.map_append]; rfl
theorem take_up {rs : List Int} {i : Nat} (h : i < rs.length) : (rs.take (i + 1)).sum = (rs.take i).sum + rs[i] := by
  rw [List.take_succ, List.getElem?_eq_getElem h, List.sum_append]
  simp
theorem diff_sum (d : Nat → Int) : ∀ m, ((List.range m).map fun (j : Nat) => d (j + 1) - d j).sum = d m - d 0
  | 0 => by simp
  | m + 1 => by
    rw [List.range_succ, List.map_append, List.sum_append, diff_sum d m]
    simp only [List.map_cons, List.map_nil, List.sum_cons, List.sum_nil]
    lia
theorem ups_diff (d : Nat → Int) (m : Nat) : ups ((List.range m).map fun (j : Nat) => d (j + 1) - d j) (m + 1) = (List.range (m + 1)).map fun (j : Nat) => d j - d 0 := by
  unfold ups
  refine List.map_congr_left fun j hj => ?_
  have hj : j ≤ m := by have := List.mem_range.mp hj; lia
  rw [← List.map_take, List.take_range, Nat.min_eq_left hj, diff_sum]
theorem less_sum (d : Nat → Int) (c : Int) : ∀ m : Nat, ((List.range m).map fun (j : Nat) => d j - c).sum = ((List.range m).map d).sum - (m : Int) * c
  | 0 => by simp
  | m + 1 => by
    rw [List.range_succ, List.map_append, List.sum_append, less_sum d c m, List.map_append, List.sum_append]
    simp only [List.map_cons, List.map_nil, List.sum_cons, List.sum_nil]
    rw [Int.natCast_add, Int.add_mul]
    lia
theorem br_of (d : Nat → Int) (m : Nat) (total : Int) (h : total = ((List.range (m + 1)).map d).sum) : br ((List.range m).map fun (j : Nat) => d (j + 1) - d j) total = (List.range (m + 1)).map d := by
  have hl : ((List.range m).map fun (j : Nat) => d (j + 1) - d j).length = m := by simp
  unfold br
  rw [hl, ups_diff, less_sum, h, List.map_map]
  have e : ((List.range (m + 1)).map d).sum - (((List.range (m + 1)).map d).sum - ((m + 1 : Nat) : Int) * d 0) = ((m + 1 : Nat) : Int) * d 0 := by lia
  rw [e, Int.mul_ediv_cancel_left _ (by lia)]
  refine List.map_congr_left fun j _ => ?_
  show d 0 + (d j - d 0) = d j
  lia
noncomputable def bds (t : Nat) (n : Nat → Int) : List Int := (List.range t).map (bend t n)
noncomputable def rss (t : Nat) (n : Nat → Int) : List Int := br (((bds t n).drop 1).map fun b => -b) 0
noncomputable def frm (t : Nat) (n : Nat → Int) : List Int := br ((rss t n).take (t - 1)) 1
theorem drop_range (t : Nat) (g : Nat → Int) : ((List.range (t + 1)).map g).drop 1 = (List.range t).map fun (j : Nat) => g (j + 1) := by
  rw [List.range_succ_eq_map, List.map_cons, List.drop_one, List.tail_cons, List.map_map]
  rfl
theorem cyc_sum (f : Nat → Int) (m : Nat) : ((List.range (m + 1)).map fun (j : Nat) => f ((j + 1) % (m + 1)) - f j).sum = 0 := by
  have e : ((List.range (m + 1)).map fun (j : Nat) => f ((j + 1) % (m + 1)) - f j) = ((List.range m).map fun (j : Nat) => f (j + 1) - f j) ++ [f 0 - f m] := by
    rw [List.range_succ, List.map_append]
    congr 1
    · refine List.map_congr_left fun j hj => ?_
      have := List.mem_range.mp hj
      rw [Nat.mod_eq_of_lt (by lia)]
    · simp
  rw [e, List.sum_append, diff_sum]
  simp only [List.sum_cons, List.sum_nil]
  lia
theorem rss_is {t : Nat} (h3 : T3 t) {f : Nat → Int} (h : ((List.range t).map f).sum = 1) : rss t (dt t f t) = (List.range t).map fun (j : Nat) => f ((j + 1) % t) - f j := by
  have t1 : 1 < t := by rcases h3 with rfl | rfl | rfl <;> decide
  obtain ⟨m, rfl⟩ : ∃ m, t = m + 1 := ⟨t - 1, by lia⟩
  unfold rss bds
  rw [drop_range, List.map_map]
  have e : ((List.range m).map ((fun b => -b) ∘ fun (j : Nat) => bend (m + 1) (dt (m + 1) f (m + 1)) (j + 1))) = (List.range m).map fun (j : Nat) => (fun (j : Nat) => f ((j + 1) % (m + 1)) - f j) (j + 1) - (fun (j : Nat) => f ((j + 1) % (m + 1)) - f j) j := by
    refine List.map_congr_left fun j hj => ?_
    have hj := List.mem_range.mp hj
    show -(bend (m + 1) (dt (m + 1) f (m + 1)) (j + 1)) = f ((j + 1 + 1) % (m + 1)) - f (j + 1) - (f ((j + 1) % (m + 1)) - f j)
    rw [bend_is h3 h (j + 1) (by lia)]
    have e1 : (j + 1 + (m + 1) - 1) % (m + 1) = j := by
      rw [show j + 1 + (m + 1) - 1 = j + (m + 1) by lia, Nat.add_mod_right]
      exact Nat.mod_eq_of_lt (by lia)
    have e2 : (j + 1) % (m + 1) = j + 1 := Nat.mod_eq_of_lt (by lia)
    rw [e1, e2]
    lia
  rw [e]
  exact br_of (fun (j : Nat) => f ((j + 1) % (m + 1)) - f j) m 0 (cyc_sum f m).symm
theorem frm_is {t : Nat} (h3 : T3 t) {f : Nat → Int} (h : ((List.range t).map f).sum = 1) : frm t (dt t f t) = (List.range t).map f := by
  have t1 : 1 < t := by rcases h3 with rfl | rfl | rfl <;> decide
  obtain ⟨m, rfl⟩ : ∃ m, t = m + 1 := ⟨t - 1, by lia⟩
  unfold frm
  rw [rss_is h3 h, ← List.map_take, List.take_range, Nat.add_sub_cancel, Nat.min_eq_left (by lia)]
  have e : ((List.range m).map fun (j : Nat) => f ((j + 1) % (m + 1)) - f j) = (List.range m).map fun (j : Nat) => f (j + 1) - f j := by
    refine List.map_congr_left fun j hj => ?_
    have := List.mem_range.mp hj
    rw [Nat.mod_eq_of_lt (by lia)]
  rw [e]
  exact br_of f m 1 h.symm
theorem sq_even (n : Nat → Int) : ∀ t : Nat, (sq t n - ((List.range t).map n).sum) % 2 = 0
  | 0 => rfl
  | t + 1 => by
    have ih := sq_even n t
    have e : sq (t + 1) n = sq t n + n t * n t := by unfold sq; rw [List.range_succ, List.map_append, List.sum_append]; simp
    rw [e, List.range_succ, List.map_append, List.sum_append]
    simp only [List.map_cons, List.map_nil, List.sum_cons, List.sum_nil]
    have h2 : (n t * n t - n t) % 2 = 0 := by
      have : n t * n t - n t = n t * (n t - 1) := by rw [Int.mul_sub, Int.mul_one]
      rw [this, Int.mul_emod]
      have hc : n t % 2 = 0 ∨ n t % 2 = 1 := by lia
      rcases hc with hc | hc
      · rw [hc]; simp
      · have : (n t - 1) % 2 = 0 := by lia
        rw [this]; simp
    lia
theorem size_ro {t : Nat} {n : Nat → Int} (h0 : ((List.range t).map n).sum = 0) : ((t : Int) * sq t n / 2 + ro t n) % (t : Int) = ro t n % (t : Int) := by
  have h := sq_even n t
  rw [h0] at h
  obtain ⟨k, hk⟩ : ∃ k, sq t n = 2 * k := ⟨sq t n / 2, by lia⟩
  rw [hk]
  have e : (t : Int) * (2 * k) / 2 = (t : Int) * k := by
    rw [show (t : Int) * (2 * k) = 2 * ((t : Int) * k) by grind]
    exact Int.mul_ediv_cancel_left _ (by decide)
  rw [e, Int.add_comm, Int.add_mul_emod_self_left]
end M47
set_option Elab.async false
set_option linter.all false
set_option maxRecDepth 100000
set_option maxHeartbeats 4000000
namespace K47
open PySem L2
noncomputable def top (i : Nat) : Stmt := PySem.Challenge.pw_partrests_k47_frames_found.main.body.getD i (.Pass ⟨0, 0, 0, 0⟩)
noncomputable def Hand (H : Hp) (a : Addr) (n : Nat) : Prop := ∃ g s c : Int, H a = some (.lst [.int g, .int s, .int c]) ∧ 0 ≤ g ∧ 0 ≤ s ∧ s < 2305843009213693951 ∧ 0 ≤ c ∧ c ≤ n
noncomputable def Step (a : Addr) (n : Nat) (H H' : Hp) : Prop := (∀ b o, b ≠ a → H b = some o → H' b = some o) ∧ Hand H' a n
theorem Hand.mono {H : Hp} {a : Addr} {n m : Nat} (h : Hand H a n) (k : n ≤ m) : Hand H a m := let ⟨g, s, c, e, h1, h2, h3, h4, h5⟩ := h; ⟨g, s, c, e, h1, h2, h3, h4, by omega⟩
theorem Hand.same {H H' : Hp} {a : Addr} {n : Nat} (h : Hand H a n) (y : Same H H') : Hand H' a n := let ⟨g, s, c, e, r⟩ := h; ⟨g, s, c, y _ _ e, r⟩
theorem Hand.at {H : Hp} {a : Addr} {n : Nat} (h : Hand H a n) : ∃ xs, H a = some (.lst xs) := let ⟨_, _, _, e, _⟩ := h; ⟨_, e⟩
theorem Hand.ne {H : Hp} {a b : Addr} {n : Nat} (h : Hand H a n) (hb : H b = none) : b ≠ a := fun z => by
  obtain ⟨xs, e⟩ := h.at
  rw [z, e] at hb
  cases hb
theorem Step.trans {a : Addr} {n m : Nat} {H H1 H2 : Hp} (x : Step a n H H1) (y : Step a m H1 H2) : Step a m H H2 := ⟨fun b o k e => y.1 b o k (x.1 b o k e), y.2⟩
theorem Step.same {a : Addr} {n : Nat} {H H1 H2 : Hp} (x : Step a n H H1) (y : Same H1 H2) : Step a n H H2 := ⟨fun b o k e => y b o (x.1 b o k e), x.2.same y⟩
theorem Step.refl {a : Addr} {n : Nat} {H : Hp} (h : Hand H a n) : Step a n H H := ⟨fun _ _ _ e => e, h⟩
theorem Step.mono {a : Addr} {n m : Nat} {H H' : Hp} (x : Step a n H H') (k : n ≤ m) : Step a m H H' := ⟨x.1, x.2.mono k⟩
theorem atI_of {xs : List V} {k : Int} {j : Nat} {v : V} (h : k = (j : Int)) (hx : xs[j]? = some v) : atI xs k = some v := by subst h; exact atI_nat hx
theorem getI {ns : List Int} {j : Nat} (h : j < ns.length) : (ns.map V.int)[j]? = some (.int ns[j]) := by rw [List.getElem?_map, List.getElem?_eq_getElem h]; rfl
theorem rep_flat (n : Nat) (x : Int) : (List.replicate n [V.int x]).flatten = (List.replicate n x).map V.int := by
  induction n with
  | zero => rfl
  | succ n ih => rw [List.replicate_succ, List.flatten_cons, ih, List.replicate_succ, List.map_cons]; rfl
theorem le_line {n : Nat} (h : n ≤ 1000) : n ≤ sizeLine := Nat.le_of_lt (small1000 h)
theorem mulR {a b : Int} (h1 : -(2 ^ 64) < b) (h2 : b < 2 ^ 64) : IntMulOk a b := IntMulOk.of_right (intBits_le_64 h1 h2)
theorem mulL {a b : Int} (h1 : -(2 ^ 64) < a) (h2 : a < 2 ^ 64) : IntMulOk a b := IntMulOk.of_left (intBits_le_64 h1 h2)
section
variable {P : Program} {w : World} {K : PySem.W.Frag} {mg : Str → Option Value} {base : Heap} {f : Addr} {fd : FuncData}
theorem sc_take : FnScope ["_law_state", "_law_many", "_law_digit", "_law_mixed"] ["_law_state", "_law_many"] (defScope (top 27)) := ⟨rfl, rfl, rfl, by decide +kernel, rfl, by decide +kernel, by decide +kernel⟩
noncomputable def sp_take : Sp := fun vs H Q _ => ∃ (a : Addr) (m : Int) (n : Nat), vs = [.ref a, .int m] ∧ Hand H a n ∧ n < 1000000000 ∧ 0 < m ∧ m < 1152921504606846976 ∧ ∀ r H', 0 ≤ r → r < m → Step a (n + 1) H H' → Q (.int r) H'
theorem ok_take (F : Fun K "_law_take" "_law_take" (top 27) f fd) : FnOk P w K mg base CX0 1 f fd ["_law_state", "_law_many"] sp_take := by
  refine F.okz sc_take (fun vs H Q E h => ?_) (fun cdv A outer s H vs Q E hr h => ?_)
  · obtain ⟨a, m, n, rfl, _⟩ := h; rfl
  obtain ⟨a, m, n, rfl, ⟨g, z, c, hl, g0, z0, z1, c0, c1⟩, n1, m0, m1, q⟩ := h
  have nd := sc_take.nd
  refine ⟨_, (zss_cons (zs_if (zt_cmpP op_gtP (ze_ix ix_P (zn 0) ze_int (fun _ _ => rfl)) ze_int (nomark _)) (zss_cons (zs_set (i := 2) nd rfl (Or.inl rfl) (ze_op op_modP (ze_ix ix_P (zn 0) ze_int (fun _ _ => rfl)) (zn 1)))
      (zss_cons (zs_asg (ze_op op_fdivB (ze_ix ix_P (zn 0) ze_int (fun _ _ => rfl)) (zn 1)) (zg_sub (zn 0) ze_int set_list))
      (zss_one (zs_ret (zn 2))))) zss_nil)
      (zss_cons (zs_asg (ze_op op_addP (ze_ix ix_P (zn 0) ze_int (fun _ _ => rfl)) ze_int) (zg_sub (zn 0) ze_int set_list))
      (zss_cons (zs_set (i := 3) nd rfl (Or.inl rfl) (ze_op op_modP (ze_op op_mulQ (ze_op op_addP (ze_op op_addP (ze_ix ix_P (zn 0) ze_int (fun _ _ => rfl)) (ze_op op_mulQ (ze_op op_mulQ ze_int (ze_ix ix_P (zn 0) ze_int (fun _ _ => rfl))) (ze_ix ix_P (zn 0) ze_int (fun _ _ => rfl)))) ze_int) ze_int) ze_int))
      (zss_cons (zs_set (i := 3) nd rfl (Or.inl rfl) (ze_op op_modP (ze_op op_mulQ (zn 3) (ze_op op_addP (ze_op op_modP (zn 3) ze_int) (ze_op op_mulQ ze_int (ze_ix ix_P (zn 0) ze_int (fun _ _ => rfl))))) ze_int))
      (zss_one (zs_ret (ze_op op_modP (ze_op op_addP (ze_op op_fdivB (zn 3) ze_int) (ze_op op_fdivB (zn 3) ze_int)) (zn 1)))))))), ?_⟩
  refine ⟨_, .inl (SqL.of hl), .int g, rfl, ?_⟩
  refine iteD (fun hg => ?_) (fun hg => ?_)
  · refine ⟨_, .inl (SqL.of hl), .int g, rfl, m0, ?_⟩
    refine ⟨_, .inl (SqL.of hl), .int g, rfl, ⟨m0, m1⟩, ?_⟩
    refine ⟨a, _, _, _, rfl, rfl, hl, rfl, ?_⟩
    refine q _ _ (Int.emod_nonneg _ (by omega)) (Int.emod_lt_of_pos _ m0) ⟨fun b o n e => ?_, g / m, z, c, upd_same, Int.ediv_nonneg g0 (by omega), z0, z1, c0, by omega⟩
    rw [upd_ne n]; exact e
  · refine ⟨_, .inl (SqL.of hl), .int c, rfl, ?_⟩
    refine ⟨a, _, _, _, rfl, rfl, hl, rfl, ?_⟩
    refine ⟨_, .inl (SqL.of upd_same), .int z, rfl, ?_⟩
    refine ⟨_, .inl (SqL.of upd_same), .int (c + 1), rfl, mulL (by decide) (by decide), ?_⟩
    refine ⟨_, .inl (SqL.of upd_same), .int (c + 1), rfl, mulR (by omega) (by omega), mulR (by decide) (by decide), (show (0 : Int) < 2305843009213693921 by decide), ?_⟩
    generalize hb1 : (z + 65537 * (c + 1) * (c + 1) + 11) * 48271 % 2305843009213693921 = b1
    have e1 : 0 ≤ b1 := by rw [← hb1]; exact Int.emod_nonneg _ (by decide)
    have e2 : b1 < 2305843009213693921 := by rw [← hb1]; exact Int.emod_lt_of_pos _ (by decide)
    refine ⟨(show (0 : Int) < 1000003 by decide), ?_⟩
    refine ⟨_, .inl (SqL.of upd_same), .int (c + 1), rfl, mulL (by decide) (by decide), mulL (by omega) (by omega), (show (0 : Int) < 2305843009213693907 by decide), ?_⟩
    refine ⟨⟨by decide, by decide⟩, ⟨by decide, by decide⟩, m0, ?_⟩
    refine q _ _ (Int.emod_nonneg _ (by omega)) (Int.emod_lt_of_pos _ m0) ⟨fun b o n e => ?_, g, z, c + 1, upd_same, g0, z0, z1, by omega, by omega⟩
    rw [upd_ne n]; exact e
theorem sc_hand : FnScope ["_law_script", "_law_state", "_law_far", "_law_cell", "_law_k", "_law_one"] ["_law_script"] (defScope (top 26)) := ⟨rfl, rfl, rfl, by decide +kernel, rfl, by decide +kernel, by decide +kernel⟩
noncomputable def sp_hand (K : PySem.W.Frag) : Sp := fun vs H Q _ => ∃ (a : Addr) (ns : List Int), vs = [.ref a] ∧ SqL K H a (ns.map V.int) ∧ ns.length ≤ 63 ∧ ∀ p H', H p = none → Same H H' → Hand H' p 0 → Q (.ref p) H'
theorem cut_ints (ns : List Int) (k : Int) : ∃ ms : List Int, cutV (ns.map V.int) none (some k) = ms.map V.int ∧ ms.length ≤ ns.length := by
  refine ⟨(ns.drop (HT.sIx (ns.map V.int).length 0 none)).take (HT.sIx (ns.map V.int).length (ns.map V.int).length (some k) - HT.sIx (ns.map V.int).length 0 none), ?_, ?_⟩
  · unfold cutV
    rw [List.map_take, List.map_drop]
  · rw [List.length_take, List.length_drop]
    omega
theorem far_bits (j : Nat) (h : j ≤ 63) : Builtin.Int.intBits (((10 : Int) ^ Int.toNat 60) ^ j) ≤ 2 ^ 20 := by
  have h1 : Builtin.Int.intBits ((10 : Int) ^ Int.toNat 60) ≤ 200 := by decide +kernel
  have h2 := intBits_pow_le h1 j
  refine Nat.le_trans h2 ?_
  have : 200 * j + 1 ≤ 200 * 63 + 1 := by omega
  exact Nat.le_trans this (by decide)
theorem mod_bits (x : Int) : Builtin.Int.intBits (x % (10 : Int) ^ Int.toNat 60) ≤ 2 ^ 20 := by
  refine Nat.le_trans (intBits_le_iff (m := 200).mpr ?_) (by decide)
  have h0 : 0 ≤ x % (10 : Int) ^ Int.toNat 60 := Int.emod_nonneg _ (by decide)
  have h1 : x % (10 : Int) ^ Int.toNat 60 < (10 : Int) ^ Int.toNat 60 := Int.emod_lt_of_pos _ (by decide)
  have h2 : (10 : Int) ^ Int.toNat 60 ≤ ((2 ^ 200 : Nat) : Int) := by decide
  omega
theorem ten_bits : Builtin.Int.intBits ((10 : Int) ^ Int.toNat 60) ≤ 2 ^ 20 := by decide +kernel
noncomputable def St (H0 H : Hp) (p : Addr) : Prop := Same H0 H ∧ Hand H p 0
theorem ok_hand (F : Fun K "_law_hand" "_law_hand" (top 26) f fd) (m_abs : mg "abs" = none) (m_enumerate : mg "enumerate" = none) (m_len : mg "len" = none) : FnOk P w K mg base CX0 1 f fd ["_law_script"] (sp_hand K) := by
  refine F.okz sc_hand (fun vs H Q E h => ?_) (fun cdv A outer s H vs Q E hr h => ?_)
  · obtain ⟨a, ns, rfl, _⟩ := h; rfl
  obtain ⟨a, ns, rfl, hS, hl, q⟩ := h
  have nd := sc_hand.nd
  have hu := hr.units
  have rest : ∃ t, ZSs (cxOf CX0 P w K mg base ["_law_script", "_law_state", "_law_far", "_law_cell", "_law_k", "_law_one"] "_law_hand" (defScope (top 26)) f cdv A outer s H E).nox ((defBody (top 26)).drop 2) t ∧
      ∀ (H1 : Hp) (p : Addr) (s2 s3 : Option V), H p = none → St H H1 p → t { nx := fun _ H' => Q .non H', rt := Q } [some (.ref a), some (.ref p), s2, s3, none, none] H1 := by
    refine ⟨_, (zss_cons (zs_for PassesOwn.never rfl (zi_enumK rfl m_enumerate (za_cons (ze_slice sl_P (zn 0) zo_none (zo_some ze_int)) za_nil)) (zg_tup rfl (zgs_cons (zg_name (i := 4) nd rfl (Or.inl rfl)) (zgs_cons (zg_name (i := 3) nd rfl (Or.inl rfl)) zgs_nil))) (zss_cons (zs_set (i := 5) nd rfl (Or.inl rfl) (ze_op op_addP (ze_op op_addP (ze_op op_modP (zn 3) ze_int) (ze_op op_mulQ ze_int (zn 4))) ze_int))
      (zss_one (zs_asg (ze_op op_modP (ze_op op_addP (ze_op op_mulQ (ze_ix ix_P (zn 1) ze_int (fun _ _ => rfl)) ze_int) (zn 5)) ze_int) (zg_sub (zn 1) ze_int set_list)))))
      (zss_one (zs_ret (zn 1)))), ?_⟩
    intro H1 p s2 s3 hp st1
    obtain ⟨ms, em, lm⟩ := cut_ints ns 63
    refine ⟨_, rfl, a, rfl, .inr ⟨_, SqL.same st1.1 hS, fun d hd => ?_⟩⟩
    rw [em]
    have yd := Same.new hd (.lst (ms.map V.int))
    have dp : p ≠ d := fun z => by obtain ⟨xs, e⟩ := st1.2.at; rw [z, hd] at e; cases e
    have dH : H d = none := by
      cases e : H d with
      | none => rfl
      | some o => have := st1.1 d o e; rw [hd] at this; cases this
    refine ⟨false, _, SqK.lst upd_same, for_enumK (xs := ms.map V.int) (fun i σ H' => St H H' p ∧ H' d = some (.lst (ms.map V.int)) ∧ ∃ x2 x3 x4 x5, σ = [some (.ref a), some (.ref p), x2, x3, x4, x5]) ⟨⟨st1.1.trans yd, st1.2.same yd⟩, upd_same, _, _, _, _, rfl⟩ ?_ ?_ ?_⟩
    · rintro i σ H' _ ⟨_, e, _⟩
      exact SqK.lst e
    · rintro i x σ H' pr hx ⟨⟨y, ⟨g, z, c, hl', g0, z0, z1, c0, c1⟩⟩, hd', x2, x3, x4, x5, rfl⟩ hpr
      have hi : i < ms.length := by
        have := (List.getElem?_eq_some_iff.mp hx).1
        rw [List.length_map] at this
        exact this
      have ex : x = .int ms[i] := by rw [getI hi] at hx; exact (Option.some.inj hx).symm
      subst ex
      have yr := Same.new hpr (.tup [.int i, .int ms[i]])
      refine ⟨pr, _, rfl, SqT.of upd_same, rfl, _, _, rfl, _, _, rfl, rfl, ?_⟩
      have hp' := yr _ _ hl'
      have e1 : 0 ≤ ms[i] % 2305843009213693951 := Int.emod_nonneg _ (by decide)
      have e2 : ms[i] % 2305843009213693951 < 2305843009213693951 := Int.emod_lt_of_pos _ (by decide)
      refine ⟨(show (0 : Int) < 2305843009213693951 by decide), mulL (by decide) (by decide), ?_⟩
      refine ⟨_, .inl (SqL.of hp'), .int z, rfl, mulR (by decide) (by decide), (show (0 : Int) < 2305843009213693951 by decide), ?_⟩
      refine ⟨p, _, _, _, rfl, rfl, hp', rfl, ?_⟩
      have e5 : 0 ≤ (z * 48271 + (ms[i] % 2305843009213693951 + 7919 * (i : Int) + 3)) % 2305843009213693951 := Int.emod_nonneg _ (by decide)
      have e6 : (z * 48271 + (ms[i] % 2305843009213693951 + 7919 * (i : Int) + 3)) % 2305843009213693951 < 2305843009213693951 := Int.emod_lt_of_pos _ (by decide)
      refine ⟨⟨Same.updN (y.trans yr) hp, ⟨g, _, c, upd_same, g0, e5, e6, c0, c1⟩⟩, ?_, _, _, _, _, rfl⟩
      rw [upd_ne (Ne.symm dp)]
      exact yr _ _ hd'
    · rintro σ H' ⟨⟨y, hh⟩, _, x2, x3, x4, x5, rfl⟩
      exact q p H' hp y hh
  obtain ⟨t2, ht2, rest⟩ := rest
  refine ⟨_, (zss_cons (zs_set (i := 1) nd rfl (Or.inl rfl) (ze_lst (za_cons ze_int (za_cons ze_int (za_cons ze_int za_nil)))))
      (zss_cons (zs_if (ZW.zt (zw_and (zt_cmpP op_gtP (zcb_len rfl m_len (za_cons (zn 0) za_nil) rfl rfl) ze_int (nomark _)) (zw_and1 (zt_cmpP op_geP (ze_ix ix_P (zn 0) ze_int (fun _ _ => rfl)) (ze_op op_powP ze_int ze_int) (nomark _))))) (zss_cons (zs_set (i := 2) nd rfl (Or.inl rfl) ze_int)
      (zss_one (zs_for PassesOwn.never rfl (zi_list (ze_slice sl_P (zn 0) zo_none (zo_some ze_int))) (zg_name (i := 3) nd rfl (Or.inl rfl)) (zss_cons (zs_asg (ze_op op_addP (ze_ix ix_P (zn 1) ze_int (fun _ _ => rfl)) (ze_op op_mulQ (ze_op op_modP (zcb_abs rfl m_abs (za_cons (zn 3) za_nil) rfl rfl) (ze_op op_powP ze_int ze_int)) (zn 2))) (zg_sub (zn 1) ze_int set_list))
      (zss_one (zs_set (i := 2) nd rfl (Or.inl rfl) (ze_op op_mulQ (zn 2) (ze_op op_powP ze_int ze_int)))))))) zss_nil)
      ht2)), ?_⟩
  refine ⟨by show 3 ≤ sizeLine; decide, fun p hp => ?_⟩
  have y0 := Same.new hp (.lst [V.int 0, .int 0, .int 0])
  have st0' : St H (upd H p (.lst [V.int 0, .int 0, .int 0])) p := ⟨y0, 0, 0, 0, upd_same, by decide, by decide, by decide, by decide, by decide⟩
  refine ⟨_, .inl (SqL.same y0 hS), ?_⟩
  refine iteD (fun c => ?_) (fun c => ?_)
  · rw [List.length_map] at c
    have hj : 0 < ns.length := by omega
    refine ⟨_, .inl (SqL.same y0 hS), .int ns[0], atI_of (j := 0) rfl (getI hj), ⟨by decide, by decide, by decide⟩, ?_⟩
    refine iteD (fun c2 => ?_) (fun c2 => ?_)
    · obtain ⟨ms, em, lm⟩ := cut_ints ns 63
      refine ⟨_, rfl, a, rfl, .inr ⟨_, SqL.same y0 hS, fun d hd => ?_⟩⟩
      rw [em]
      have yd := Same.new hd (.lst (ms.map V.int))
      have dp : p ≠ d := fun z => by rw [← z, upd_same] at hd; cases hd
      refine ⟨d, rfl, ⟨_, SqL.of upd_same⟩, for_list (xs := ms.map V.int) (fun i σ H' => St H H' p ∧ H' d = some (.lst (ms.map V.int)) ∧ ∃ x3, σ = [some (.ref a), some (.ref p), some (.int (((10 : Int) ^ Int.toNat 60) ^ i)), x3, none, none]) ⟨⟨st0'.1.trans yd, st0'.2.same yd⟩, upd_same, _, rfl⟩ ?_ ?_ ?_⟩
      · rintro i σ H' _ ⟨_, e, _⟩
        exact SqL.of e
      · rintro i x σ H' hx ⟨⟨y, ⟨g, z, c, hl', g0, z0, z1, c0, c1⟩⟩, hd', x3, rfl⟩
        have hi : i < ms.length := by
          have := (List.getElem?_eq_some_iff.mp hx).1
          rw [List.length_map] at this
          exact this
        have ex : x = .int ms[i] := by rw [getI hi] at hx; exact (Option.some.inj hx).symm
        subst ex
        refine ⟨_, .inl (SqL.of hl'), .int g, rfl, ⟨by decide, by decide, by decide⟩, (show (0 : Int) < 10 ^ Int.toNat 60 by decide), IntMulOk.of_bits (mod_bits _) (far_bits i (by omega)), ?_⟩
        refine ⟨p, _, _, _, rfl, rfl, hl', rfl, ?_⟩
        refine ⟨⟨by decide, by decide, by decide⟩, IntMulOk.of_bits (far_bits i (by omega)) ten_bits, ?_⟩
        refine ⟨⟨Same.updN y hp, ⟨_, z, c, upd_same, ?_, z0, z1, c0, c1⟩⟩, ?_, some (.int ms[i]), ?_⟩
        · have h0 : 0 ≤ (if ms[i] < 0 then -ms[i] else ms[i]) % (10 : Int) ^ Int.toNat 60 := Int.emod_nonneg _ (by decide)
          have h1 : 0 ≤ ((10 : Int) ^ Int.toNat 60) ^ i := Int.pow_nonneg (by decide)
          have := Int.mul_nonneg h0 h1
          omega
        · rw [upd_ne (Ne.symm dp)]
          exact hd'
        · rw [Int.pow_succ]
          rfl
      · rintro σ H' ⟨st, _, x3, rfl⟩
        exact rest H' p _ _ hp st
    · exact rest _ p _ _ hp st0'
  · exact rest _ p _ _ hp st0'
end
end K47
set_option Elab.async false
set_option linter.all false
set_option maxRecDepth 100000
set_option maxHeartbeats 4000000
namespace K47
open PySem L2
noncomputable def Nice : Nat → PyData → Prop
  | 0, d => ∃ i, d = .int i
  | n + 1, d => (∃ i, d = .int i) ∨ ∃ c ds, d = seqD c ds ∧ ds.length ≤ 1000 ∧ ∀ e ∈ ds, Nice n e
section
variable {P : Program} {w : World} {K : PySem.W.Frag} {mg : Str → Option Value} {base : Heap} {f : Addr} {fd : FuncData}
noncomputable def sp_sm : Nat → Sp
  | 0 => fun _ _ _ _ => False
  | n + 1 => fun vs H Q _ => ∃ x y d, vs = [x, y] ∧ DatV H x d ∧ DatV H y d ∧ Nice n d ∧ ∀ H', Same H H' → Q (.bl true) H'
theorem sc_same : FnScope ["_law_found", "_law_due"] ["_law_found", "_law_due"] (defScope (top 31)) := ⟨rfl, rfl, rfl, by decide +kernel, rfl, by decide +kernel, by decide +kernel⟩
theorem ok_sm (F : Fun K "_law_same" "_law_same" (top 31) f fd) (m_all : mg "all" = none) (m_bool : mg "bool" = none) (m_int : mg "int" = none) (m_isinstance : mg "isinstance" = none) (m_len : mg "len" = none) (m_list : mg "list" = none) (m_str : mg "str" = none) (m_tuple : mg "tuple" = none) (m_zip : mg "zip" = none) (b : Binds K fd ["_law_found", "_law_due"] []) (kp : PySem.W.keepIn K (.ref f) = true) (m : mg "_law_same" = some (.ref f)) : ∀ n, FnOk P w K mg base CX0 n f fd ["_law_found", "_law_due"] (sp_sm n)
  | 0 => ⟨fun _ _ _ _ h => h.elim, fun _ _ _ _ _ _ _ _ _ _ _ _ _ h => h.elim⟩
  | n + 1 => by
    have F_law_same : FnA P w K mg base "_law_same" n ["_law_found", "_law_due"] (sp_sm n) := ⟨⟨f, fd, ok_sm F m_all m_bool m_int m_isinstance m_len m_list m_str m_tuple m_zip b kp m n, b, kp, m⟩⟩
    refine F.okz sc_same (fun vs H Q E h => ?_) (fun cdv A outer s H vs Q E hr h => ?_)
    · obtain ⟨x, y, d, rfl, _⟩ := h; rfl
    obtain ⟨x, y, d, rfl, hx, hy, hn, q⟩ := h
    have nd := sc_same.nd
    have hu := hr.units
    refine ⟨_, (zss_cons (zs_if (zt_valP (zcb_isiT rfl m_isinstance (za_cons (zn 1) (za_cons (ze_tup (za_cons (zty_tuple rfl m_tuple) (za_cons (zty_list rfl m_list) za_nil))) za_nil)) rfl rfl)) (zss_cons (zs_if (ZW.zt (zw_or (zt_cmpP (op_neD hu) (zcb_isinstance rfl m_isinstance (za_cons (zn 0) (za_cons (zty_tuple rfl m_tuple) za_nil)) rfl rfl) (zcb_isinstance rfl m_isinstance (za_cons (zn 1) (za_cons (zty_tuple rfl m_tuple) za_nil)) rfl rfl) (nomark _)) (zw_or1 (zt_cmpP (op_neD hu) (zcb_isinstance rfl m_isinstance (za_cons (zn 0) (za_cons (zty_list rfl m_list) za_nil)) rfl rfl) (zcb_isinstance rfl m_isinstance (za_cons (zn 1) (za_cons (zty_list rfl m_list) za_nil)) rfl rfl) (nomark _))))) (zss_one (zs_ret ze_bl)) zss_nil)
      (zss_one (zs_ret (ze_andP (ze_cmpR (op_eqD hu) (zcb_len rfl m_len (za_cons (zn 0) za_nil) rfl rfl) (zcb_len rfl m_len (za_cons (zn 1) za_nil) rfl rfl) (nomark _)) (ze_one (zcb_all rfl rfl m_all (za_cons (ze_comp ["_law_one", "_law_other"] [] rfl ⟨rfl, by decide +kernel, by decide +kernel, rfl, rfl⟩ (zi_zip rfl m_zip (za_cons (zn 0) (za_cons (zn 1) za_nil))) kpg_two (fun _ _ _ _ => zg_tup rfl (zgs_cons (zg_name (i := 0) (show List.Nodup (["_law_one", "_law_other"] : List Str) by decide +kernel) rfl (Or.inl rfl)) (zgs_cons (zg_name (i := 1) (show List.Nodup (["_law_one", "_law_other"] : List Str) by decide +kernel) rfl (Or.inl rfl)) zgs_nil))) (fun _ _ _ _ => zif_nil) (fun _ _ _ _ => (ze_fn F_law_same hr (Nat.le_refl _) rfl (za_cons (zn 0) (za_cons (zn 1) za_nil))))) za_nil) rfl rfl)))))) zss_nil)
      (zss_cons (zs_if (zt_cmpP op_isP (zn 1) ze_non (nomark _)) (zss_one (zs_ret (ze_cmpR op_isP (zn 0) ze_non (nomark _)))) zss_nil)
      (zss_cons (zs_if (ZW.zt (zw_or (zt_cmpP (op_neD hu) (zcb_isinstance rfl m_isinstance (za_cons (zn 0) (za_cons (zty_bool rfl m_bool) za_nil)) rfl rfl) (zcb_isinstance rfl m_isinstance (za_cons (zn 1) (za_cons (zty_bool rfl m_bool) za_nil)) rfl rfl) (nomark _)) (zw_or1 (zt_cmpP (op_neD hu) (zcb_isinstance rfl m_isinstance (za_cons (zn 0) (za_cons (zty_str rfl m_str) za_nil)) rfl rfl) (zcb_isinstance rfl m_isinstance (za_cons (zn 1) (za_cons (zty_str rfl m_str) za_nil)) rfl rfl) (nomark _))))) (zss_one (zs_ret ze_bl)) zss_nil)
      (zss_one (zs_ret (ze_andP (zcb_isiT rfl m_isinstance (za_cons (zn 0) (za_cons (ze_tup (za_cons (zty_int rfl m_int) (za_cons (zty_str rfl m_str) za_nil))) za_nil)) rfl rfl) (ze_one (ze_cmpR (op_eqD hu) (zn 0) (zn 1) (nomark _))))))))), ?_⟩
    refine ⟨by show 2 ≤ sizeLine; decide, fun d1 hd1 => ?_⟩
    have y1 := Same.new hd1 (.tup [V.ty "tuple", .ty "list"])
    have leaf : ∀ i, d = .int i → x = .int i ∧ y = .int i := fun i e => by
      subst e
      cases hx
      cases hy
      exact ⟨rfl, rfl⟩
    by_cases hi : ∃ i, d = .int i
    · obtain ⟨i, hi⟩ := hi
      obtain ⟨rfl, rfl⟩ := leaf i hi
      refine ⟨"int", "tuple", "list", rfl, upd_same, rfl, rfl, ?_⟩
      refine iteB (fun c => absurd c (by decide)) (fun _ => ?_)
      refine ⟨"int", rfl, rfl, "int", rfl, rfl, ?_⟩
      refine ⟨"int", rfl, rfl, "int", rfl, rfl, ?_⟩
      refine ⟨by show 2 ≤ sizeLine; decide, fun d2 hd2 => ?_⟩
      refine ⟨"int", "int", "str", rfl, upd_same, rfl, rfl, ?_⟩
      refine iteB (fun _ => ?_) (fun c => absurd c (by decide))
      show Q (.bl (decide (V.int i = V.int i))) _
      rw [decide_eq_true rfl]
      exact q _ (y1.trans (Same.new hd2 _))
    · have hs : ∃ n' c ds, n = n' + 1 ∧ d = seqD c ds ∧ ds.length ≤ 1000 ∧ ∀ e ∈ ds, Nice n' e := by
        cases n with
        | zero => exact absurd hn hi
        | succ n' =>
          rcases hn with h | ⟨c, ds, h⟩
          · exact absurd h hi
          · exact ⟨n', c, ds, rfl, h⟩
      obtain ⟨n', c, ds, rfl, rfl, hl, hds⟩ := hs
      obtain ⟨ax, xs, rfl, kx, rx⟩ := seq_of hx
      obtain ⟨ay, ys, rfl, ky, ry⟩ := seq_of hy
      have lx := rx.len
      have ly := ry.len
      refine ⟨seqT c, "tuple", "list", (ky.same y1).ty, upd_same, rfl, rfl, ?_⟩
      refine iteB (fun _ => ?_) (fun e => absurd e (by cases c <;> decide))
      refine ⟨seqT c, (kx.same y1).ty, rfl, seqT c, (ky.same y1).ty, rfl, ?_⟩
      refine iteB (fun e => absurd e (by cases c <;> decide)) (fun _ => ?_)
      refine ⟨seqT c, (kx.same y1).ty, rfl, seqT c, (ky.same y1).ty, rfl, ?_⟩
      refine iteB (fun e => absurd e (by cases c <;> decide)) (fun _ => ?_)
      refine ⟨xs, (kx.same y1).len, ys, (ky.same y1).len, ?_⟩
      rw [lx, ly]
      refine iteB (fun _ => ?_) (fun e => absurd e (by simp))
      refine ⟨c, c, xs, ys, kx.same y1, ky.same y1, ?_⟩
      refine cmp_zip (xs := xs) (ys := ys) (fun j zs H' => Same H H' ∧ zs = (List.replicate j true).map V.bl) ⟨y1, rfl⟩ ?_ ?_ ?_ ?_
      · rintro j zs H' _ ⟨y', _⟩
        exact ⟨kx.same y', ky.same y'⟩
      · rintro j zs H' hj ⟨_, rfl⟩
        rw [List.length_map, List.length_replicate]
        exact small1000 (by omega)
      · rintro j u v zs H' p hu' hv' ⟨y', rfl⟩ hp
        have yp := Same.new hp (.tup [u, v])
        refine ⟨p, _, rfl, SqT.of upd_same, rfl, _, _, rfl, _, _, rfl, rfl, ?_⟩
        obtain ⟨d1', e1, g1⟩ := rx.get hu'
        obtain ⟨d2', e2, g2⟩ := ry.get hv'
        rw [e1] at e2
        cases e2
        refine ⟨u, v, d1', rfl, (g1.same y').same yp, (g2.same y').same yp, hds _ (List.mem_of_getElem? e1), fun H3 y3 => ?_⟩
        exact ⟨(y'.trans yp).trans y3, rep_snoc j⟩
      · rintro zs H' ⟨y', rfl⟩ D hD
        refine ⟨_, SqL.of upd_same, ?_⟩
        rw [rep_all]
        exact q _ (y'.trans (Same.new hD _))
theorem ok_same (n : Nat) (F : Fun K "_law_same" "_law_same" (top 31) f fd) (m_all : mg "all" = none) (m_bool : mg "bool" = none) (m_int : mg "int" = none) (m_isinstance : mg "isinstance" = none) (m_len : mg "len" = none) (m_list : mg "list" = none) (m_str : mg "str" = none) (m_tuple : mg "tuple" = none) (m_zip : mg "zip" = none) (b : Binds K fd ["_law_found", "_law_due"] []) (kp : PySem.W.keepIn K (.ref f) = true) (m : mg "_law_same" = some (.ref f)) : FnOk P w K mg base CX0 n f fd ["_law_found", "_law_due"] (sp_sm n) := ok_sm F m_all m_bool m_int m_isinstance m_len m_list m_str m_tuple m_zip b kp m n
end
end K47
set_option Elab.async false
set_option linter.all false
set_option maxRecDepth 100000
set_option maxHeartbeats 4000000
namespace K47
open PySem L2
theorem Step.updN {a D : Addr} {n : Nat} {H H1 : Hp} {o : HO} (x : Step a n H H1) (k : D ≠ a) (e : H D = none) : Step a n H (upd H1 D o) := by
  refine ⟨fun b u nb eb => ?_, ?_⟩
  · rw [upd_ne (ne_of_none eb e)]
    exact x.1 b u nb eb
  · obtain ⟨g, s, c, e2, r⟩ := x.2
    exact ⟨g, s, c, by rw [upd_ne (Ne.symm k)]; exact e2, r⟩
theorem Step.lst {a b : Addr} {n : Nat} {H H1 : Hp} {xs : List V} (x : Step a n H H1) (k : b ≠ a) (e : H b = some (.lst xs)) : H1 b = some (.lst xs) := x.1 b _ k e
theorem Step.none {a b : Addr} {n : Nat} {H H1 : Hp} (x : Step a n H H1) (k : b ≠ a) (e : H1 b = none) : H b = none := by
  cases q : H b with
  | none => rfl
  | some o => have := x.1 b o k q; rw [e] at this; cases this
theorem sum_ge_len : ∀ {ns : List Int}, (∀ n ∈ ns, (1 : Int) ≤ n) → (ns.length : Int) ≤ ns.sum
  | [], _ => by simp
  | x :: r, h => by
    have := sum_ge_len (ns := r) fun n hn => h n (List.mem_cons_of_mem _ hn)
    have := h x List.mem_cons_self
    rw [List.length_cons, List.sum_cons]
    omega
theorem perm_sum {a b : List Int} (h : a.Perm b) : a.sum = b.sum := by
  induction h with
  | nil => rfl
  | cons x _ ih => rw [List.sum_cons, List.sum_cons, ih]
  | swap x y l => simp only [List.sum_cons]; omega
  | trans _ _ i1 i2 => exact i1.trans i2
section
variable {P : Program} {w : World} {K : PySem.W.Frag} {mg : Str → Option Value} {base : Heap} {f : Addr} {fd : FuncData}
theorem pick6 {k : Int} (h0 : 0 ≤ k) (h1 : k < 6) (l : Int) : ∃ m : Int, atI [V.int l, .int 3, .int 6, .int 12, .int l, .int l] k = some (.int m) := by
  have : k = 0 ∨ k = 1 ∨ k = 2 ∨ k = 3 ∨ k = 4 ∨ k = 5 := by omega
  rcases this with rfl | rfl | rfl | rfl | rfl | rfl <;> exact ⟨_, rfl⟩
theorem prt_len : ∀ {ns : List Int}, (∀ n ∈ ns, (1 : Int) ≤ n) → (ns.length : Int) ≤ ns.sum
  | [], _ => by simp
  | n :: ns, h => by
    have h1 := h n List.mem_cons_self
    have h2 := prt_len (ns := ns) fun m hm => h m (List.mem_cons_of_mem _ hm)
    rw [List.length_cons, List.sum_cons]
    omega
noncomputable def Prt (ns : List Int) : Prop := (∀ n ∈ ns, (1 : Int) ≤ n) ∧ ns.Pairwise (· ≥ ·)
theorem sc_parting : FnScope ["_law_state", "_law_most", "_law_left", "_law_way", "_law_top", "_law_found", "_law_part"] ["_law_state", "_law_most"] (defScope (top 28)) := ⟨rfl, rfl, rfl, by decide +kernel, rfl, by decide +kernel, by decide +kernel⟩
noncomputable def sp_parting : Sp := fun vs H Q _ => ∃ (a : Addr) (most : Int) (n : Nat), vs = [.ref a, .int most] ∧ Hand H a n ∧ n < 900000000 ∧ 0 ≤ most ∧ most ≤ 60 ∧
  ∀ r H' (ns : List Int), Step a (n + 400) H H' → H' r = some (.tup (ns.map V.int)) → Prt ns → ns.sum ≤ most → Q (.ref r) H'
theorem ok_parting (F : Fun K "_law_parting" "_law_parting" (top 28) f fd) (m_int : mg "int" = none) (m_min : mg "min" = none) (m_sorted : mg "sorted" = none) (m_tuple : mg "tuple" = none) (F_law_take : FnA P w K mg base "_law_take" 1 ["_law_state", "_law_many"] sp_take) : FnOk P w K mg base CX0 2 f fd ["_law_state", "_law_most"] sp_parting := by
  refine F.okz sc_parting (fun vs H Q E h => ?_) (fun cdv A outer s H vs Q E hr h => ?_)
  · obtain ⟨a, most, n, rfl, _⟩ := h; rfl
  obtain ⟨a, most, n, rfl, hh, hn, f0, f1, q⟩ := h
  have nd := sc_parting.nd
  have hu := hr.units
  have rest : ∃ t, ZSs (cxOf CX0 P w K mg base ["_law_state", "_law_most", "_law_left", "_law_way", "_law_top", "_law_found", "_law_part"] "_law_parting" (defScope (top 28)) f cdv A outer s H E).nox ((forBody ((defBody (top 28)).getD 3 (.Pass ⟨0, 0, 0, 0⟩))).drop 2) t ∧
      ∀ (De : Ends) (H5 : Hp) (D : Addr) (lf way tp part left : Int) (ns : List Int), Step a (n + 3 + (left - lf).toNat) H H5 → H D = none → D ≠ a → H5 D = some (.lst (ns.map V.int)) → 1 ≤ part → part ≤ lf → lf ≤ left → (∀ x ∈ ns, (1 : Int) ≤ x) → ns.sum + lf ≤ most →
        (∀ (H' : Hp) (lf' tp' : Int) (ms : List Int), Step a (n + 2 + (left - lf').toNat) H H' → H' D = some (.lst (ms.map V.int)) → 0 ≤ lf' → lf' < lf → (∀ x ∈ ms, (1 : Int) ≤ x) → ms.sum + lf' ≤ most → De.nx [some (.ref a), some (.int most), some (.int lf'), some (.int way), some (.int tp'), some (.ref D), some (.int part)] H') →
        t De [some (.ref a), some (.int most), some (.int lf), some (.int way), some (.int tp), some (.ref D), some (.int part)] H5 := by
    refine ⟨_, (zss_cons (zs_expr (zm_append (zn 5) (za_cons (zn 6) za_nil)))
      (zss_cons (zs_set (i := 2) nd rfl (Or.inl rfl) (ze_op op_subP (zn 2) (zn 6)))
      (zss_one (zs_set (i := 4) nd rfl (Or.inl rfl) (ze_op op_subP (zn 6) (zcb_int rfl m_int (za_cons (ze_cmpR (op_eqD hu) (zn 3) ze_int (nomark _)) za_nil) rfl rfl)))))), ?_⟩
    intro De H5 D lf way tp part left ns st Dnone Dne hD p1 p2 ll h1 hsum fin
    have hlen := sum_ge_len h1
    refine ⟨tyL hD, _, hD, by rw [List.length_map]; exact small1000 (by omega), ?_⟩
    have st6 : Step a (n + 3 + (left - lf).toNat) H (upd H5 D (.lst (ns.map V.int ++ [.int part]))) := st.updN Dne Dnone
    have hD6 : (upd H5 D (.lst (ns.map V.int ++ [.int part]))) D = some (.lst ((ns ++ [part]).map V.int)) := by rw [upd_same, List.map_append]; rfl
    generalize upd H5 D (.lst (ns.map V.int ++ [.int part])) = H6 at st6 hD6
    refine fin H6 (lf - part) _ (ns ++ [part]) (st6.mono (by omega)) hD6 (by omega) (by omega) (fun x hx => ?_) ?_
    · rcases List.mem_append.mp hx with hx | hx
      · exact h1 x hx
      · have : x = part := by simpa using hx
        omega
    · rw [List.sum_append, List.sum_cons, List.sum_nil]
      omega
  obtain ⟨t2, ht2, rest⟩ := rest
  refine ⟨_, (zss_cons (zs_par (i := 2) (j := 3) rfl nd rfl rfl (by decide) rfl rfl (za_cons (ze_fn F_law_take hr (by decide) rfl (za_cons (zn 0) (za_cons (ze_op op_addP (zn 1) ze_int) za_nil))) (za_cons (ze_fn F_law_take hr (by decide) rfl (za_cons (zn 0) (za_cons ze_int za_nil))) za_nil)) rfl)
      (zss_cons (zs_set (i := 4) nd rfl (Or.inl rfl) (ze_ix ix_P (ze_lst (za_cons (zn 2) (za_cons ze_int (za_cons ze_int (za_cons ze_int (za_cons (zn 2) (za_cons (zn 2) za_nil))))))) (zn 3) (fun _ _ => rfl)))
      (zss_cons (zs_set (i := 5) nd rfl (Or.inl rfl) (ze_lst za_nil))
      (zss_cons (zs_while PassesOwn.never (ZW.zt (zw_and (zt_cmpP op_gtP (zn 2) ze_int (nomark _)) (zw_and1 (zt_cmpP op_gtP (zn 4) ze_int (nomark _))))) (zss_cons (zs_set (i := 6) nd rfl (Or.inl rfl) (zcb_min rfl rfl m_min (za_cons (zn 4) (za_cons (zn 2) za_nil)) rfl rfl))
      (zss_cons (zs_if (ZW.zt (zw_or (zt_cmpP (op_neD hu) (zn 3) ze_int (nomark _)) (zw_or1 (zt_cmpP (op_eqD hu) (zn 5) (ze_lst za_nil) (nomark _))))) (zss_one (zs_set (i := 6) nd rfl (Or.inl rfl) (ze_op op_addP ze_int (ze_fn F_law_take hr (by decide) rfl (za_cons (zn 0) (za_cons (zn 6) za_nil)))))) zss_nil)
      ht2)))
      (zss_one (zs_ret (zcb_tuple rfl m_tuple (za_cons (zcb_sortQ rfl m_sorted (za_cons (zn 5) za_nil) rfl) za_nil) rfl rfl))))))), ?_⟩
  refine ⟨a, most + 1, n, rfl, hh, by omega, by omega, by omega, fun left H1 l0 l1 s1 => ?_⟩
  refine ⟨a, 6, n + 1, rfl, s1.2, by omega, by decide, by decide, fun way H2 w0 w1 s2 => ?_⟩
  have st2 := s1.trans s2
  refine ⟨_, _, rfl, ?_⟩
  refine ⟨by show 6 ≤ sizeLine; decide, fun d1 hd1 => ?_⟩
  have yd := Same.new hd1 (.lst [V.int left, .int 3, .int 6, .int 12, .int left, .int left])
  obtain ⟨tp, etp⟩ := pick6 w0 w1 left
  refine ⟨_, .inl (SqL.of upd_same), .int tp, etp, ?_⟩
  have st3 := st2.same yd
  generalize upd H2 d1 (.lst [V.int left, .int 3, .int 6, .int 12, .int left, .int left]) = H3 at st3
  refine ⟨Nat.zero_le _, fun D hD => ?_⟩
  have Dne : D ≠ a := st3.2.ne hD
  have Dnone : H D = none := st3.none Dne hD
  have st4 : Step a (n + 2) H (upd H3 D (.lst [])) := st3.same (Same.new hD _)
  have hD4 : (upd H3 D (.lst [])) D = some (.lst (([] : List Int).map V.int)) := upd_same
  generalize upd H3 D (.lst []) = H4 at st4 hD4
  refine while_by2 (fun m σ H' => ∃ (lf tp : Int) (ns : List Int) (p6 : Option V), Step a (n + 2 + (left - lf).toNat) H H' ∧ H' D = some (.lst (ns.map V.int)) ∧ σ = [some (.ref a), some (.int most), some (.int lf), some (.int way), some (.int tp), some (.ref D), p6] ∧ m = lf.toNat ∧ 0 ≤ lf ∧ lf ≤ left ∧ (∀ x ∈ ns, (1 : Int) ≤ x) ∧ ns.sum + lf ≤ most)
    left.toNat ⟨left, tp, [], none, st4.mono (by omega), hD4, rfl, rfl, l0, Int.le_refl _, by simp, by simp; omega⟩ ?_
  rintro m σ H' ⟨lf, tp, ns, p6, st, hDn, rfl, rfl, lf0, lfl, h1, hsum⟩
  have hlen := sum_ge_len h1
  have done : ∃ (nn : List Int), SqL K H' D (nn.map V.int) ∧ nn.length < 64 ∧ ∀ l ns', H' l = none → List.Perm ns' nn → PyProof.Rows.Ordered true ns' → rTupP K [.ref l] (upd H' l (.lst (ns'.map V.int))) Q := by
    refine ⟨ns, SqL.of hDn, by have := prt_len h1; omega, fun l ns' hl perm ord => ?_⟩
    refine ⟨_, .inl (SqL.of upd_same), fun r H9 y9 hr9 => ?_⟩
    refine q r H9 ns' (((st.mono (by omega)).same (Same.new hl _)).same y9) hr9 ⟨fun x hx => h1 x (perm.mem_iff.mp hx), ord⟩ ?_
    have : ns'.sum = ns.sum := perm_sum perm
    omega
  refine iteD (fun c => ?_) (fun c => ?_)
  · refine iteD (fun c2 => ?_) (fun c2 => ?_)
    · refine ⟨fun σ' H' => ∃ (lf' tp : Int) (ns : List Int) (p6 : Option V), Step a (n + 2 + (left - lf').toNat) H H' ∧ H' D = some (.lst (ns.map V.int)) ∧ σ' = [some (.ref a), some (.int most), some (.int lf'), some (.int way), some (.int tp), some (.ref D), p6] ∧ lf' < lf ∧ 0 ≤ lf' ∧ lf' ≤ left ∧ (∀ x ∈ ns, (1 : Int) ≤ x) ∧ ns.sum + lf' ≤ most, ?_, ?_⟩
      · rintro σ' H' ⟨lf', tp, ns, p6, st, hDn, rfl, hlt, r⟩
        exact ⟨lf'.toNat, by omega, lf', tp, ns, p6, st, hDn, rfl, rfl, r⟩
      have hm : 1 ≤ (if lf < tp then lf else tp) ∧ (if lf < tp then lf else tp) ≤ lf := by split <;> omega
      have go : ∀ (H7 : Hp) (part : Int), Step a (n + 3 + (left - lf).toNat) H H7 → H7 D = some (.lst (ns.map V.int)) → 1 ≤ part → part ≤ lf → ∀ (De : Ends), De.nx = (fun σ' H' => ∃ (lf' tp : Int) (ns : List Int) (p6 : Option V), Step a (n + 2 + (left - lf').toNat) H H' ∧ H' D = some (.lst (ns.map V.int)) ∧ σ' = [some (.ref a), some (.int most), some (.int lf'), some (.int way), some (.int tp), some (.ref D), p6] ∧ lf' < lf ∧ 0 ≤ lf' ∧ lf' ≤ left ∧ (∀ x ∈ ns, (1 : Int) ≤ x) ∧ ns.sum + lf' ≤ most) →
          t2 De [some (.ref a), some (.int most), some (.int lf), some (.int way), some (.int tp), some (.ref D), some (.int part)] H7 := fun H7 part st7 hD7 q1 q2 De hDe =>
        rest De H7 D lf way tp part left ns st7 Dnone Dne hD7 q1 q2 lfl h1 hsum fun H8 lf' tp' ms st8 hD8 l0 l1 h8 hs8 => by
          rw [hDe]
          exact ⟨lf', tp', ms, _, st8, hD8, rfl, l1, l0, by omega, h8, hs8⟩
      have draw : ∀ (H6 : Hp), Same H' H6 → ∃ (a' : Addr) (m : Int) (k : Nat), [V.ref a, V.int (if lf < tp then lf else tp)] = [.ref a', .int m] ∧ Hand H6 a' k ∧ k < 1000000000 ∧ 0 < m ∧ m < 1152921504606846976 ∧ ∀ r H7, 0 ≤ r → r < m → Step a' (k + 1) H6 H7 → Step a (n + 3 + (left - lf).toNat) H H7 ∧ H7 D = some (.lst (ns.map V.int)) ∧ 1 ≤ 1 + r ∧ 1 + r ≤ lf := fun H6 y6 =>
        ⟨a, _, _, rfl, (st.same y6).2, by omega, by omega, by omega, fun r H7 r0 r1 s7 => ⟨((st.same y6).trans s7).mono (by omega), s7.lst Dne (y6 _ _ hDn), by omega, by omega⟩⟩
      by_cases h5 : way = 5
      · subst h5
        refine ⟨Nat.zero_le _, fun d5 hd5 => ?_⟩
        have y5 := Same.new hd5 (.lst [])
        refine ⟨_, _, .lst (y5 _ _ hDn) (DatAll.ints ns), .lst (xs := []) upd_same .nil, shaped_list_ints _, shaped_list_ints [], ?_⟩
        refine iteB (fun _ => ?_) (fun _ => ?_)
        · obtain ⟨a', m', k', e', h1', h2', h3', h4', h5'⟩ := draw _ y5
          refine ⟨a', m', k', e', h1', h2', h3', h4', fun r H7 r0 r1 s7 => ?_⟩
          obtain ⟨z1, z2, z3, z4⟩ := h5' r H7 r0 r1 s7
          exact go H7 (1 + r) z1 z2 z3 z4 _ rfl
        · exact go _ _ ((st.mono (by omega)).same y5) (y5 _ _ hDn) hm.1 hm.2 _ rfl
      · refine iteB (fun _ => ?_) (fun c3 => ?_)
        · obtain ⟨a', m', k', e', h1', h2', h3', h4', h5'⟩ := draw _ (Same.refl _)
          refine ⟨a', m', k', e', h1', h2', h3', h4', fun r H7 r0 r1 s7 => ?_⟩
          obtain ⟨z1, z2, z3, z4⟩ := h5' r H7 r0 r1 s7
          exact go H7 (1 + r) z1 z2 z3 z4 _ rfl
        · exfalso
          have : decide (V.int way = V.int 5) = true := by simpa using c3
          exact h5 (V.int.inj (of_decide_eq_true this))
    · exact done
  · exact done
end
end K47
set_option Elab.async false
set_option linter.all false
set_option maxRecDepth 100000
set_option maxHeartbeats 4000000
namespace K47
open PySem L2 M39 M40 M43
structure Lls (H : Hp) (rs : List Addr) (lss : List (List Int)) : Prop where
  len : rs.length = lss.length
  at_ : ∀ (i : Nat) (h1 : i < rs.length) (h2 : i < lss.length), H rs[i] = some (.lst (lss[i].map V.int))
  nd : rs.Nodup
theorem Lls.same {H H' : Hp} {rs : List Addr} {lss : List (List Int)} (x : Lls H rs lss) (y : Same H H') : Lls H' rs lss := ⟨x.len, fun i h1 h2 => y _ _ (x.at_ i h1 h2), x.nd⟩
theorem Lls.set {H : Hp} {rs : List Addr} {lss : List (List Int)} {i : Nat} {ls : List Int} (x : Lls H rs lss) (h1 : i < rs.length) : Lls (upd H rs[i] (.lst (ls.map V.int))) rs (lss.set i ls) := by
  refine ⟨by rw [List.length_set]; exact x.len, fun j h2 h3 => ?_, x.nd⟩
  rw [List.length_set] at h3
  by_cases e : i = j
  · subst e
    rw [upd_same, List.getElem_set_self]
  · have ne : rs[j] ≠ rs[i] := fun z => e ((List.getElem_inj x.nd).mp z).symm
    rw [upd_ne ne, List.getElem_set_ne e]
    exact x.at_ j h2 h3
theorem Lls.mem {H : Hp} {rs : List Addr} {lss : List (List Int)} (x : Lls H rs lss) {r : Addr} (h : r ∈ rs) : ∃ xs, H r = some (.lst xs) := by
  obtain ⟨i, hi, rfl⟩ := List.mem_iff_getElem.mp h
  exact ⟨_, x.at_ i hi (by rw [← x.len]; exact hi)⟩
noncomputable def But (rs : List Addr) (H H' : Hp) : Prop := ∀ b o, b ∉ rs → H b = some o → H' b = some o
theorem But.upd {rs : List Addr} {H H1 : Hp} {r : Addr} {o : HO} (x : But rs H H1) (h : r ∈ rs) : But rs H (upd H1 r o) := fun b u nb e => by
  rw [upd_ne (show b ≠ r from fun z => nb (by rw [z]; exact h))]
  exact x b u nb e
section
variable {P : Program} {w : World} {K : PySem.W.Frag} {mg : Str → Option Value} {base : Heap} {f : Addr} {fd : FuncData}
theorem sc_beads_of : FnScope ["parting", "many", "parts"] ["parting", "many"] (defScope (top 12)) := ⟨rfl, rfl, rfl, by decide +kernel, rfl, by decide +kernel, by decide +kernel⟩
noncomputable def sp_beads_of (K : PySem.W.Frag) : Sp := fun vs H Q _ => ∃ (a : Addr) (ns : List Int) (k : Nat), vs = [.ref a, .int k] ∧ KTu K a (ns.map V.int) ∧ 0 < ns.length ∧ ns.length < k ∧ k ≤ 900 ∧ ∀ p H', H p = none → Same H H' → H' p = some (.lst ((bd ns k).map V.int)) → Q (.ref p) H'
theorem part_at {ns : List Int} {k i : Nat} (hk : ns.length ≤ k) (hi : i < k) : (ns.map V.int ++ (List.replicate (k - ns.length) (0 : Int)).map V.int)[i]? = some (.int (ns.getD i 0)) := by
  rw [← List.map_append, List.getElem?_map]
  by_cases h : i < ns.length
  · rw [List.getElem?_append_left h, List.getElem?_eq_getElem h, List.getD_eq_getElem?_getD, List.getElem?_eq_getElem h]; rfl
  · rw [List.getElem?_append_right (by lia), List.getElem?_replicate, if_pos (by lia), List.getD_eq_getElem?_getD, List.getElem?_eq_none (by lia)]; rfl
noncomputable def bdTo (ns : List Int) (k m : Nat) : List Int := (List.range m).map fun (i : Nat) => ns.getD i 0 + k - 1 - i
theorem bdTo_succ (ns : List Int) (k m : Nat) : bdTo ns k (m + 1) = bdTo ns k m ++ [ns.getD m 0 + k - 1 - m] := by unfold bdTo; rw [List.range_succ, List.map_append]; rfl
theorem bdTo_len (ns : List Int) (k m : Nat) : (bdTo ns k m).length = m := by unfold bdTo; rw [List.length_map, List.length_range]
theorem ok_beads_of (F : Fun K "beads_of" "beads_of" (top 12) f fd) (m_enumerate : mg "enumerate" = none) (m_len : mg "len" = none) : FnOk P w K mg base CX0 1 f fd ["parting", "many"] (sp_beads_of K) := by
  refine F.okz sc_beads_of (fun vs H Q E h => ?_) (fun cdv A outer s H vs Q E hr h => ?_)
  · obtain ⟨a, ns, k, rfl, _⟩ := h; rfl
  obtain ⟨a, ns, k, rfl, ha, hn0, hk1, hk9, q⟩ := h
  have hk := Nat.le_of_lt hk1
  have nd := sc_beads_of.nd
  have hu := hr.units
  refine ⟨_, (zss_cons (zs_set (i := 2) nd rfl (Or.inl rfl) (ze_op op_addK (zn 0) (ze_op op_mulQ (ze_tup (za_cons ze_int za_nil)) (ze_op op_subP (zn 1) (zcb_lenK rfl m_len (za_cons (zn 0) za_nil) rfl rfl)))))
      (zss_one (zs_ret (ze_comp ["at", "part"] [("many", 1)] rfl ⟨rfl, by decide +kernel, by decide +kernel, rfl, rfl⟩ (zi_enumK rfl m_enumerate (za_cons (zn 2) za_nil)) kpg_two (fun _ _ _ _ => zg_tup rfl (zgs_cons (zg_name (i := 0) (show List.Nodup (["at", "part", "many"] : List Str) by decide +kernel) rfl (Or.inl rfl)) (zgs_cons (zg_name (i := 1) (show List.Nodup (["at", "part", "many"] : List Str) by decide +kernel) rfl (Or.inl rfl)) zgs_nil))) (fun _ _ _ _ => zif_nil) (fun _ _ _ _ => (ze_op op_subP (ze_op op_subP (ze_op op_addP (zn 1) (zn 2)) ze_int) (zn 0))))))), ?_⟩
  refine ⟨by show 1 ≤ sizeLine; decide, fun d hd => ?_⟩
  have yd := Same.new hd (.tup [V.int 0])
  refine ⟨_, .inr (ha.sq _), ?_⟩
  rw [List.length_map]
  have ek : ((k : Int) - (ns.length : Int)).toNat = k - ns.length := by lia
  refine ⟨⟨by lia, by lia⟩, .inr ⟨_, upd_same, le_line (by rw [ek]; show 1 * (k - ns.length) ≤ 1000; lia), fun r H1 y1 hr1 => ?_⟩⟩
  rw [rep_flat, ek] at hr1
  refine ⟨_, _, ha.sq _, SqT.of hr1, fun z => ?_, fun z => ?_, le_line (by rw [List.length_map, List.length_map, List.length_replicate]; lia), fun r2 hr2n => ?_⟩
  · have h2 := congrArg List.length z
    rw [List.length_map] at h2
    have h3 : ns.length = 0 := h2
    lia
  · have h2 := congrArg List.length z
    rw [List.length_map, List.length_replicate] at h2
    have h3 : k - ns.length = 0 := h2
    lia
  have y2 := Same.new hr2n (.tup (ns.map V.int ++ (List.replicate (k - ns.length) (0 : Int)).map V.int))
  have hr2 : upd H1 r2 (.tup (ns.map V.int ++ (List.replicate (k - ns.length) (0 : Int)).map V.int)) r2 = some (.tup (ns.map V.int ++ (List.replicate (k - ns.length) (0 : Int)).map V.int)) := upd_same
  generalize upd H1 r2 (.tup (ns.map V.int ++ (List.replicate (k - ns.length) (0 : Int)).map V.int)) = H2 at y2 hr2
  have hlen : (ns.map V.int ++ (List.replicate (k - ns.length) (0 : Int)).map V.int).length = k := by rw [List.length_append, List.length_map, List.length_map, List.length_replicate]; lia
  have yy := (yd.trans y1).trans y2
  refine ⟨true, _, SqK.tup hr2, cmp_enumK (xs := ns.map V.int ++ (List.replicate (k - ns.length) (0 : Int)).map V.int) (fun i zs H' => Same H2 H' ∧ zs = (bdTo ns k i).map V.int) ⟨Same.refl _, rfl⟩ ?_ ?_ ?_ ?_⟩
  · rintro i zs H' _ ⟨y, _⟩
    exact SqK.tup (y _ _ hr2)
  · rintro i zs H' hi ⟨_, rfl⟩
    rw [List.length_map, bdTo_len]
    exact small1000 (by lia)
  · rintro i x zs H' p hx ⟨y, rfl⟩ hp
    have hi : i < k := by rw [← hlen]; exact (List.getElem?_eq_some_iff.mp hx).1
    have ex : x = .int (ns.getD i 0) := by rw [part_at hk hi] at hx; exact (Option.some.inj hx).symm
    subst ex
    refine ⟨p, _, rfl, SqT.of upd_same, rfl, _, _, rfl, _, _, rfl, rfl, ?_⟩
    refine ⟨y.trans (Same.new hp _), ?_⟩
    rw [bdTo_succ, List.map_append]
    rfl
  · rintro zs H' ⟨y, rfl⟩ D hD
    rw [hlen]
    refine q D _ ?_ ((yy.trans y).trans (Same.new hD _)) upd_same
    cases e : H D with
    | none => rfl
    | some o => have := (yy.trans y) D o e; rw [hD] at this; cases this
theorem sc_rounds_of : FnScope ["parting", "t"] ["parting", "t"] (defScope (top 13)) := ⟨rfl, rfl, rfl, by decide +kernel, rfl, by decide +kernel, by decide +kernel⟩
noncomputable def sp_rounds_of (K : PySem.W.Frag) : Sp := fun vs H Q _ => ∃ (a : Addr) (ns : List Int) (t : Nat), vs = [.ref a, .int t] ∧ KTu K a (ns.map V.int) ∧ 0 < t ∧ t ≤ 100 ∧ Q (.int (rd ns t)) H
theorem rd_int (ns : List Int) {t : Nat} (ht : 0 < t) : ((ns.length : Int) + (t : Int) - 1) / (t : Int) = (rd ns t : Int) := by
  unfold rd
  rw [Int.natCast_ediv]
  congr 1
  lia
theorem ok_rounds_of (F : Fun K "rounds_of" "rounds_of" (top 13) f fd) (m_len : mg "len" = none) : FnOk P w K mg base CX0 1 f fd ["parting", "t"] (sp_rounds_of K) := by
  refine F.okz sc_rounds_of (fun vs H Q E h => ?_) (fun cdv A outer s H vs Q E hr h => ?_)
  · obtain ⟨a, ns, t, rfl, _⟩ := h; rfl
  obtain ⟨a, ns, t, rfl, ha, ht, ht1, q⟩ := h
  have nd := sc_rounds_of.nd
  refine ⟨_, (zss_one (zs_ret (ze_op op_fdivP (ze_op op_subP (ze_op op_addK (zcb_lenK rfl m_len (za_cons (zn 0) za_nil) rfl rfl) (zn 1)) ze_int) (zn 1)))), ?_⟩
  refine ⟨_, .inr (ha.sq _), ⟨by lia, by lia⟩, ?_⟩
  rw [List.length_map]
  show Q (.int (((ns.length : Int) + (t : Int) - 1) / (t : Int))) H
  rw [rd_int ns ht]
  exact q
noncomputable def rn (bs : List Int) (t r : Nat) : List Int := (bs.filter fun b => decide (b % (t : Int) = (r : Int))).map fun b => b / (t : Int)
noncomputable def rns (bs : List Int) (t : Nat) : List (List Int) := (List.range t).map fun r => rn bs t r
theorem rns_len (bs : List Int) (t : Nat) : (rns bs t).length = t := by unfold rns; rw [List.length_map, List.length_range]
theorem rns_at (bs : List Int) {t i : Nat} (h : i < (rns bs t).length) : (rns bs t)[i] = rn bs t i := by simp [rns]
theorem rns_snoc (bs : List Int) (b : Int) {t : Nat} (ht : 0 < t) : rns (bs ++ [b]) t = (rns bs t).set (b % (t : Int)).toNat (rn bs t (b % (t : Int)).toNat ++ [b / (t : Int)]) := by
  have h0 : 0 ≤ b % (t : Int) := Int.emod_nonneg _ (by lia)
  have h1 : b % (t : Int) < t := Int.emod_lt_of_pos _ (by lia)
  refine List.ext_getElem (by rw [List.length_set, rns_len, rns_len]) fun i hi1 hi2 => ?_
  rw [rns_at, List.getElem_set]
  have e : rn (bs ++ [b]) t i = if (b % (t : Int)).toNat = i then rn bs t i ++ [b / (t : Int)] else rn bs t i := by
    unfold rn
    rw [List.filter_append, List.map_append, List.filter_cons]
    by_cases h : (b % (t : Int)).toNat = i
    · rw [if_pos h, if_pos (decide_eq_true (by lia))]; rfl
    · rw [if_neg h, if_neg (by simp; lia)]; simp
  rw [e]
  by_cases h : (b % (t : Int)).toNat = i
  · rw [if_pos h, if_pos h, h]
  · rw [if_neg h, if_neg h, rns_at]
theorem sc_runs_of : FnScope ["parting", "t", "rounds", "runs", "bead"] ["parting", "t", "rounds"] (defScope (top 14)) := ⟨rfl, rfl, rfl, by decide +kernel, rfl, by decide +kernel, by decide +kernel⟩
noncomputable def sp_runs_of (K : PySem.W.Frag) : Sp := fun vs H Q _ => ∃ (a : Addr) (ns : List Int) (t k : Nat), vs = [.ref a, .int t, .int k] ∧ KTu K a (ns.map V.int) ∧ 0 < ns.length ∧ 0 < t ∧ t ≤ 100 ∧ ns.length < t * k ∧ t * k ≤ 900 ∧ ∀ p rs H', Same H H' → H' p = some (.lst (rs.map V.ref)) → Lls H' rs (rns (bd ns (t * k)) t) → Q (.ref p) H'
theorem ok_runs_of (F : Fun K "runs_of" "runs_of" (top 14) f fd) (m_range : mg "range" = none) (F_beads_of : FnA P w K mg base "beads_of" 1 ["parting", "many"] (sp_beads_of K)) : FnOk P w K mg base CX0 2 f fd ["parting", "t", "rounds"] (sp_runs_of K) := by
  refine F.okz sc_runs_of (fun vs H Q E h => ?_) (fun cdv A outer s H vs Q E hr h => ?_)
  · obtain ⟨a, ns, t, k, rfl, _⟩ := h; rfl
  obtain ⟨a, ns, t, k, rfl, ha, hn0, ht, ht1, hk, hk9, q⟩ := h
  have nd := sc_runs_of.nd
  have hu := hr.units
  refine ⟨_, (zss_cons (zs_setcomp (i := 3) ["rest"] [] rfl nd rfl (Or.inl rfl) ⟨rfl, by decide +kernel, by decide +kernel, rfl, rfl⟩ (zi_range1 rfl m_range (za_cons (zn 1) za_nil)) kpg_name (fun _ _ _ _ => zg_name (i := 0) (show List.Nodup (["rest"] : List Str) by decide +kernel) rfl (Or.inl rfl)) (fun _ _ _ _ => zif_nil) (fun _ _ _ _ => (ze_lst za_nil)))
      (zss_cons (zs_for PassesOwn.never rfl (zi_list (ze_fn F_beads_of hr (by decide) rfl (za_cons (zn 0) (za_cons (ze_op op_mulQ (zn 1) (zn 2)) za_nil)))) (zg_name (i := 4) nd rfl (Or.inl rfl)) (zss_one (zs_expr (zm_append (ze_ix ix_P (zn 3) (ze_op op_modP (zn 4) (zn 1)) (fun _ _ => rfl)) (za_cons (ze_op op_fdivP (zn 4) (zn 1)) za_nil)))))
      (zss_one (zs_ret (zn 3))))), ?_⟩
  refine ⟨t, rfl, by lia, by lia, cmp_range (fun i zs H' => Same H H' ∧ ∃ rs : List Addr, zs = rs.map V.ref ∧ rs.length = i ∧ rs.Nodup ∧ ∀ r ∈ rs, H r = none ∧ H' r = some (.lst [])) ⟨Same.refl H, [], rfl, rfl, List.nodup_nil, by simp⟩ ?_ ?_⟩
  · rintro i zs H' hi ⟨y, rs, rfl, hl, hnd, hrs⟩
    refine ⟨by rw [List.length_map]; exact small1000 (by lia), ?_⟩
    refine ⟨Nat.zero_le _, fun d hd => ?_⟩
    have dr : d ∉ rs := fun z => by have := (hrs d z).2; rw [hd] at this; cases this
    refine ⟨y.trans (Same.new hd _), rs ++ [d], by rw [List.map_append]; rfl, by rw [List.length_append, hl]; rfl, ?_, fun r hr' => ?_⟩
    · rw [List.nodup_append]
      refine ⟨hnd, by simp, fun x hx z hz => ?_⟩
      have : z = d := by simpa using hz
      subst this
      exact fun e => dr (e ▸ hx)
    · rcases List.mem_append.mp hr' with hr' | hr'
      · refine ⟨(hrs r hr').1, ?_⟩
        rw [upd_ne (show r ≠ d from fun z => dr (by rw [← z]; exact hr'))]
        exact (hrs r hr').2
      · have : r = d := by simpa using hr'
        subst this
        refine ⟨?_, upd_same⟩
        cases e : H r with
        | none => rfl
        | some o => have := y r o e; rw [hd] at this; cases this
  · rintro zs H' ⟨y, rs, rfl, hl, hnd, hrs⟩ L hL
    have eT : ((t : Int)).toNat = t := by lia
    rw [eT] at hl
    have yL := Same.new hL (.lst (rs.map V.ref))
    have hLn : L ∉ rs := fun z => by have := (hrs L z).2; rw [hL] at this; cases this
    have lls0 : Lls (upd H' L (.lst (rs.map V.ref))) rs (rns [] t) := by
      refine ⟨by rw [hl, rns_len], fun i h1 h2 => ?_, hnd⟩
      rw [rns_at]
      exact yL _ _ (hrs _ (List.getElem_mem h1)).2
    have hLL : upd H' L (.lst (rs.map V.ref)) L = some (.lst (rs.map V.ref)) := upd_same
    have y0 := y.trans yL
    generalize upd H' L (.lst (rs.map V.ref)) = H1 at lls0 hLL y0
    refine ⟨IntMulOk.of_right (intBits_le_64 (by lia) ?_), ?_⟩
    · have : k ≤ t * k := Nat.le_mul_of_pos_left k ht
      lia
    refine ⟨a, ns, t * k, by rw [Int.natCast_mul], ha, hn0, hk, hk9, fun B H2 hB y2 hBl => ?_⟩
    have lls2 := lls0.same y2
    have hL2 := y2 _ _ hLL
    have BL : B ≠ L := fun z => by rw [z, hLL] at hB; cases hB
    have Brs : B ∉ rs := fun z => by obtain ⟨xs, e⟩ := lls0.mem z; rw [hB] at e; cases e
    have bl : (bd ns (t * k)).length ≤ 900 := by rw [bd_len]; exact hk9
    generalize bd ns (t * k) = bs at hBl q bl
    have key : ∀ r ∈ rs, H r = none := fun r hr' => (hrs r hr').1
    refine ⟨B, rfl, ⟨_, SqL.of hBl⟩, for_list (xs := bs.map V.int) (fun i σ H' => But rs H2 H' ∧ Lls H' rs (rns (bs.take i) t) ∧ ∃ x4, σ = [some (.ref a), some (.int t), some (.int k), some (.ref L), x4]) ⟨fun _ _ _ e => e, lls2, _, rfl⟩ ?_ ?_ ?_⟩
    · rintro i σ H' _ ⟨bt, _⟩
      exact SqL.of (bt _ _ Brs hBl)
    · rintro i x σ H' hx ⟨bt, ll, x4, rfl⟩
      have hi : i < bs.length := by
        have := (List.getElem?_eq_some_iff.mp hx).1
        rw [List.length_map] at this
        exact this
      have ex : x = .int bs[i] := by rw [getI hi] at hx; exact (Option.some.inj hx).symm
      subst ex
      have h0 : 0 ≤ bs[i] % (t : Int) := Int.emod_nonneg _ (by lia)
      have h1 : bs[i] % (t : Int) < t := Int.emod_lt_of_pos _ (by lia)
      have hj : (bs[i] % (t : Int)).toNat < rs.length := by lia
      have hj2 : (bs[i] % (t : Int)).toNat < (rns (bs.take i) t).length := by rw [rns_len]; lia
      refine ⟨(show (0 : Int) < t by lia), ?_⟩
      refine ⟨_, .inl (SqL.of (bt _ _ hLn hL2)), .ref rs[(bs[i] % (t : Int)).toNat], atI_of (j := (bs[i] % (t : Int)).toNat) (by lia) (by rw [List.getElem?_map, List.getElem?_eq_getElem hj]; rfl), ?_⟩
      have hcell := ll.at_ _ hj hj2
      rw [rns_at] at hcell
      refine ⟨tyL hcell, ⟨by lia, by lia⟩, ?_⟩
      refine ⟨_, hcell, ?_, ?_⟩
      · rw [List.length_map]
        unfold rn
        rw [List.length_map]
        have := List.length_filter_le (fun b => decide (b % (t : Int) = ((bs[i] % (t : Int)).toNat : Int))) (bs.take i)
        rw [List.length_take] at this
        exact small1000 (by lia)
      · refine ⟨bt.upd (List.getElem_mem hj), ?_, _, rfl⟩
        have := ll.set (ls := rn (bs.take i) t (bs[i] % (t : Int)).toNat ++ [bs[i] / (t : Int)]) hj
        rw [List.take_succ, List.getElem?_eq_getElem hi]
        show Lls _ rs (rns (bs.take i ++ [bs[i]]) t)
        rw [rns_snoc _ _ ht]
        rw [List.map_append] at this
        exact this
    · rintro σ H' ⟨bt, ll, x4, rfl⟩
      rw [List.length_map, List.take_of_length_le (Nat.le_refl _)] at ll
      refine q L rs H' (fun b o e => ?_) (bt _ _ hLn hL2) ll
      refine bt b o (fun z => ?_) (y2 _ _ (y0 _ _ e))
      have := key b z
      rw [e] at this
      cases this
end
theorem rn_len (ns : List Int) (k t r : Nat) : (rn (bd ns k) t r).length = ct ns k t r := by
  unfold rn ct
  rw [List.length_map, List.countP_eq_length_filter]
section
variable {P : Program} {w : World} {K : PySem.W.Frag} {mg : Str → Option Value} {base : Heap} {f : Addr} {fd : FuncData}
theorem sc_vector : FnScope ["parting", "t", "rounds"] ["parting", "t"] (defScope (top 15)) := ⟨rfl, rfl, rfl, by decide +kernel, rfl, by decide +kernel, by decide +kernel⟩
noncomputable def sp_vector (K : PySem.W.Frag) : Sp := fun vs H Q _ => ∃ (a : Addr) (ns : List Int) (t : Nat), vs = [.ref a, .int t] ∧ KTu K a (ns.map V.int) ∧ 0 < ns.length ∧ ns.length < t ∧ 0 < t ∧ t ≤ 100 ∧ ∀ r H', Same H H' → H' r = some (.tup ((vec ns t).map V.int)) → Q (.ref r) H'
noncomputable def vecTo (ns : List Int) (t m : Nat) : List Int := (List.range m).map fun (r : Nat) => (ct ns (t * rd ns t) t r : Int) - rd ns t
theorem vecTo_succ (ns : List Int) (t m : Nat) : vecTo ns t (m + 1) = vecTo ns t m ++ [(ct ns (t * rd ns t) t m : Int) - rd ns t] := by unfold vecTo; rw [List.range_succ, List.map_append]; rfl
theorem vecTo_len (ns : List Int) (t m : Nat) : (vecTo ns t m).length = m := by unfold vecTo; rw [List.length_map, List.length_range]
theorem ok_vector (F : Fun K "vector" "vector" (top 15) f fd) (m_len : mg "len" = none) (m_tuple : mg "tuple" = none) (F_rounds_of : FnA P w K mg base "rounds_of" 1 ["parting", "t"] (sp_rounds_of K)) (F_runs_of : FnA P w K mg base "runs_of" 2 ["parting", "t", "rounds"] (sp_runs_of K)) : FnOk P w K mg base CX0 3 f fd ["parting", "t"] (sp_vector K) := by
  refine F.okz sc_vector (fun vs H Q E h => ?_) (fun cdv A outer s H vs Q E hr h => ?_)
  · obtain ⟨a, ns, t, rfl, _⟩ := h; rfl
  obtain ⟨a, ns, t, rfl, ha, hn0, hl, ht, ht1, q⟩ := h
  have nd := sc_vector.nd
  have hu := hr.units
  have r1 := rd_ge ns ht
  have r2 := rd_le ns ht
  refine ⟨_, (zss_cons (zs_set (i := 2) nd rfl (Or.inr rfl) (ze_fn F_rounds_of hr (by decide) rfl (za_cons (zn 0) (za_cons (zn 1) za_nil))))
      (zss_one (zs_ret (zcb_tuple rfl m_tuple (za_cons (ze_comp ["run"] [("rounds", 2)] rfl ⟨rfl, by decide +kernel, by decide +kernel, rfl, rfl⟩ (zi_list (ze_fn F_runs_of hr (by decide) rfl (za_cons (zn 0) (za_cons (zn 1) (za_cons (zn 2) za_nil))))) kpg_name (fun _ _ _ _ => zg_name (i := 0) (show List.Nodup (["run", "rounds"] : List Str) by decide +kernel) rfl (Or.inl rfl)) (fun _ _ _ _ => zif_nil) (fun _ _ _ _ => (ze_op op_subP (zcb_len' rfl m_len (za_cons (zn 0) za_nil) rfl rfl rfl) (zn 1)))) za_nil) rfl rfl)))), ?_⟩
  refine ⟨a, ns, t, rfl, ha, ht, ht1, ?_⟩
  have r3 : ns.length < t * rd ns t := by
    have : rd ns t = 1 := by unfold rd; exact Nat.div_eq_of_lt_le (by lia) (by lia)
    rw [this]; lia
  refine ⟨a, ns, t, rd ns t, rfl, ha, hn0, ht, ht1, r3, by lia, fun p rs H1 y1 hp ll => ?_⟩
  have hl' : rs.length = t := by rw [ll.len, rns_len]
  refine ⟨p, rfl, ⟨_, SqL.of hp⟩, cmp_list (xs := rs.map V.ref) (fun i zs H' => H' = H1 ∧ zs = (vecTo ns t i).map V.int) ⟨rfl, rfl⟩ ?_ ?_ ?_⟩
  · rintro i zs H' _ ⟨rfl, _⟩
    exact SqL.of hp
  · rintro i x zs H' hx ⟨rfl, rfl⟩
    have hi : i < rs.length := by
      have := (List.getElem?_eq_some_iff.mp hx).1
      rw [List.length_map] at this
      exact this
    have ex : x = .ref rs[i] := by rw [List.getElem?_map, List.getElem?_eq_getElem hi] at hx; exact (Option.some.inj hx).symm
    subst ex
    have hc := ll.at_ i hi (by rw [rns_len]; lia)
    rw [rns_at] at hc
    refine ⟨by rw [List.length_map, vecTo_len]; exact small1000 (by lia), ?_⟩
    refine ⟨_, .inl (SqL.of hc), ?_⟩
    refine ⟨rfl, ?_⟩
    rw [List.length_map, rn_len, vecTo_succ, List.map_append]
    rfl
  · rintro zs H' ⟨rfl, rfl⟩ D hD
    rw [List.length_map, hl']
    refine ⟨_, .inl (SqL.of upd_same), fun r H2 y2 hr2 => ?_⟩
    exact q r H2 ((y1.trans (Same.new hD _)).trans y2) hr2
theorem sc_lbeads : FnScope ["_law_parting_here", "_law_t", "_law_more", "_law_many", "_law_parts"] ["_law_parting_here", "_law_t", "_law_more"] (defScope (top 29)) := ⟨rfl, rfl, rfl, by decide +kernel, rfl, by decide +kernel, by decide +kernel⟩
noncomputable def sp_lbeads : Sp := fun vs H Q _ => ∃ (a : Addr) (ns : List Int) (t m : Nat), vs = [.ref a, .int t, .int m] ∧ H a = some (.tup (ns.map V.int)) ∧ ns.length ≤ 400 ∧ 0 < t ∧ t ≤ 20 ∧ m ≤ 20 ∧ ∀ p H', H p = none → Same H H' → H' p = some (.lst ((bd ns (t * (rd ns t + m))).map V.int)) → Q (.ref p) H'
theorem ok_lbeads (F : Fun K "_law_beads" "_law_beads" (top 29) f fd) (m_enumerate : mg "enumerate" = none) (m_len : mg "len" = none) (m_list : mg "list" = none) : FnOk P w K mg base CX0 1 f fd ["_law_parting_here", "_law_t", "_law_more"] sp_lbeads := by
  refine F.okz sc_lbeads (fun vs H Q E h => ?_) (fun cdv A outer s H vs Q E hr h => ?_)
  · obtain ⟨a, ns, t, m, rfl, _⟩ := h; rfl
  obtain ⟨a, ns, t, m, rfl, ha, hl, ht, ht1, hm, q⟩ := h
  have nd := sc_lbeads.nd
  have hu := hr.units
  have r1 := rd_ge ns ht
  have r2 := rd_le ns ht
  have tm : t * m ≤ 20 * 20 := Nat.mul_le_mul ht1 hm
  have hk : t * (rd ns t + m) = t * rd ns t + t * m := Nat.mul_add ..
  have rl : rd ns t ≤ t * rd ns t := Nat.le_mul_of_pos_left _ ht
  refine ⟨_, (zss_cons (zs_set (i := 3) nd rfl (Or.inr rfl) (ze_op op_mulQ (zn 1) (ze_op op_addP (ze_op op_fdivP (ze_op op_subP (ze_op op_addP (zcb_len rfl m_len (za_cons (zn 0) za_nil) rfl rfl) (zn 1)) ze_int) (zn 1)) (zn 2))))
      (zss_cons (zs_set (i := 4) nd rfl (Or.inl rfl) (ze_op op_addP (zcb_list rfl m_list (za_cons (zn 0) za_nil) rfl rfl) (ze_op op_mulQ (ze_lst (za_cons ze_int za_nil)) (ze_op op_subP (zn 3) (zcb_len rfl m_len (za_cons (zn 0) za_nil) rfl rfl)))))
      (zss_one (zs_ret (ze_comp ["_law_where", "_law_part"] [("_law_many", 3)] rfl ⟨rfl, by decide +kernel, by decide +kernel, rfl, rfl⟩ (zi_enumK rfl m_enumerate (za_cons (zn 4) za_nil)) kpg_two (fun _ _ _ _ => zg_tup rfl (zgs_cons (zg_name (i := 0) (show List.Nodup (["_law_where", "_law_part", "_law_many"] : List Str) by decide +kernel) rfl (Or.inl rfl)) (zgs_cons (zg_name (i := 1) (show List.Nodup (["_law_where", "_law_part", "_law_many"] : List Str) by decide +kernel) rfl (Or.inl rfl)) zgs_nil))) (fun _ _ _ _ => zif_nil) (fun _ _ _ _ => (ze_op op_subP (ze_op op_subP (ze_op op_addP (zn 1) (zn 2)) ze_int) (zn 0)))))))), ?_⟩
  refine ⟨_, .inr ha, ⟨by lia, by lia⟩, ?_⟩
  rw [List.length_map]
  have ek : (t : Int) * (((ns.length : Int) + (t : Int) - 1) / (t : Int) + (m : Int)) = ((t * (rd ns t + m) : Nat) : Int) := by rw [rd_int ns ht, Int.natCast_mul, Int.natCast_add]
  refine ⟨IntMulOk.of_left (intBits_le_64 (by lia) (by lia)), ?_⟩
  generalize hkk : t * (rd ns t + m) = k at ek q hk
  have kn : ns.length ≤ k := by lia
  have k9 : k ≤ 900 := by lia
  clear r1 r2 tm hk rl hl ht1 hm hkk
  refine ⟨_, .inr ha, fun l hl' => ?_⟩
  have yl := Same.new hl' (.lst (ns.map V.int))
  refine ⟨by show 1 ≤ sizeLine; decide, fun d hd => ?_⟩
  have yd := Same.new hd (.lst [V.int 0])
  refine ⟨_, .inr (yd _ _ (yl _ _ ha)), ?_⟩
  rw [List.length_map]
  have ekk : ((t : Int) * (((ns.length : Int) + (t : Int) - 1) / (t : Int) + (m : Int)) - (ns.length : Int)).toNat = k - ns.length := by rw [ek]; lia
  refine ⟨⟨by show -(2 ^ 63) ≤ (t : Int) * (((ns.length : Int) + (t : Int) - 1) / (t : Int) + (m : Int)) - (ns.length : Int); rw [ek]; lia, by show (t : Int) * (((ns.length : Int) + (t : Int) - 1) / (t : Int) + (m : Int)) - (ns.length : Int) < 2 ^ 63; rw [ek]; lia⟩, .inl ⟨_, upd_same, le_line (by show 1 * ((t : Int) * (((ns.length : Int) + (t : Int) - 1) / (t : Int) + (m : Int)) - (ns.length : Int)).toNat ≤ 1000; rw [ekk]; lia), fun e he => ?_⟩⟩
  have ye := Same.new he (.lst (List.replicate ((t : Int) * (((ns.length : Int) + (t : Int) - 1) / (t : Int) + (m : Int)) - (ns.length : Int)).toNat [V.int 0]).flatten)
  refine .inl ⟨_, _, ye _ _ (yd _ _ upd_same), upd_same, le_line (by rw [List.length_map]; show ns.length + (List.replicate ((t : Int) * (((ns.length : Int) + (t : Int) - 1) / (t : Int) + (m : Int)) - (ns.length : Int)).toNat [V.int 0]).flatten.length ≤ 1000; rw [rep_flat, ekk, List.length_map, List.length_replicate]; lia), fun g hg => ?_⟩
  have yg := Same.new hg (.lst (ns.map V.int ++ (List.replicate (k - ns.length) (0 : Int)).map V.int))
  have eg : (upd (upd (upd (upd H l (.lst (ns.map V.int))) d (.lst [V.int 0])) e (.lst (List.replicate ((t : Int) * (((ns.length : Int) + (t : Int) - 1) / (t : Int) + (m : Int)) - (ns.length : Int)).toNat [V.int 0]).flatten)) g (.lst (ns.map V.int ++ (List.replicate ((t : Int) * (((ns.length : Int) + (t : Int) - 1) / (t : Int) + (m : Int)) - (ns.length : Int)).toNat [V.int 0]).flatten))) = (upd (upd (upd (upd H l (.lst (ns.map V.int))) d (.lst [V.int 0])) e (.lst (List.replicate ((t : Int) * (((ns.length : Int) + (t : Int) - 1) / (t : Int) + (m : Int)) - (ns.length : Int)).toNat [V.int 0]).flatten)) g (.lst (ns.map V.int ++ (List.replicate (k - ns.length) (0 : Int)).map V.int))) := by rw [ekk, rep_flat]
  have y4 := ((yl.trans yd).trans ye).trans yg
  have hlen : (ns.map V.int ++ (List.replicate (k - ns.length) (0 : Int)).map V.int).length = k := by rw [List.length_append, List.length_map, List.length_map, List.length_replicate]; lia
  have goal : ∀ H5 : Hp, Same H H5 → H5 g = some (.lst (ns.map V.int ++ (List.replicate (k - ns.length) (0 : Int)).map V.int)) → CmpW ["_law_where", "_law_part"] [("_law_many", 3)] (gTup K 2 (gCons (gName 0) (gCons (gName 1) gNil))) tYes (tOp (rP0 fun i j => .int (i - j)) (tOp (rP0 fun i j => .int (i - j)) (tOp (rAddP K) (tV 1) (tV 2)) (tC (.int 1))) (tV 0)) [some (.ref a), some (.int t), some (.int m), some (.int k), some (.ref g)] (ItE false g) (fun ys H2 => ∀ D, H2 D = none → Q (.ref D) (upd H2 D (.lst ys))) H5 := by
    intro H5 y5 h5
    refine cmp_enumK (xs := ns.map V.int ++ (List.replicate (k - ns.length) (0 : Int)).map V.int) (fun i zs H' => Same H5 H' ∧ zs = (bdTo ns k i).map V.int) ⟨Same.refl _, rfl⟩ ?_ ?_ ?_ ?_
    · rintro i zs H' _ ⟨y, _⟩
      exact SqK.lst (y _ _ h5)
    · rintro i zs H' hi ⟨_, rfl⟩
      rw [List.length_map, bdTo_len]
      exact small1000 (by lia)
    · rintro i x zs H' p hx ⟨y, rfl⟩ hp
      have hi : i < k := by rw [← hlen]; exact (List.getElem?_eq_some_iff.mp hx).1
      have ex : x = .int (ns.getD i 0) := by rw [part_at (by lia) hi] at hx; exact (Option.some.inj hx).symm
      subst ex
      refine ⟨p, _, rfl, SqT.of upd_same, rfl, _, _, rfl, _, _, rfl, rfl, ?_⟩
      refine ⟨y.trans (Same.new hp _), ?_⟩
      rw [bdTo_succ, List.map_append]
      rfl
    · rintro zs H' ⟨y, rfl⟩ D hD
      rw [hlen]
      refine q D _ ?_ ((y5.trans y).trans (Same.new hD _)) upd_same
      cases e : H D with
      | none => rfl
      | some o => have := (y5.trans y) D o e; rw [hD] at this; cases this
  refine ⟨false, _, SqK.lst upd_same, ?_⟩
  rw [eg]
  have := goal _ y4 upd_same
  rw [← ek] at this
  exact this
end
theorem filt_snoc {as : List Int} {i : Nat} (hi : i < as.length) (p : Int → Bool) : (as.take (i + 1)).filter p = (as.take i).filter p ++ if p as[i] = true then [as[i]] else [] := by
  rw [List.take_succ, List.getElem?_eq_getElem hi, List.filter_append]
  congr 1
  show List.filter p [as[i]] = _
  rw [List.filter_cons]
  split <;> rfl
section
variable {P : Program} {w : World} {K : PySem.W.Frag} {mg : Str → Option Value} {base : Heap} {f : Addr} {fd : FuncData}
theorem sc_lvector : FnScope ["_law_parting_here", "_law_t", "_law_more", "_law_some", "_law_lots"] ["_law_parting_here", "_law_t", "_law_more"] (defScope (top 30)) := ⟨rfl, rfl, rfl, by decide +kernel, rfl, by decide +kernel, by decide +kernel⟩
noncomputable def sp_lvector : Sp := fun vs H Q _ => ∃ (a : Addr) (ns : List Int) (t m : Nat), vs = [.ref a, .int t, .int m] ∧ H a = some (.tup (ns.map V.int)) ∧ ns.length ≤ 400 ∧ 0 < t ∧ t ≤ 20 ∧ m ≤ 20 ∧ ∀ r H', Same H H' → H' r = some (.tup ((vec ns t).map V.int)) → Q (.ref r) H'
noncomputable def lvTo (ns : List Int) (t m n : Nat) : List Int := (List.range n).map fun (r : Nat) => (ct ns (t * (rd ns t + m)) t r : Int) - ((rd ns t + m : Nat) : Int)
theorem lvTo_succ (ns : List Int) (t m n : Nat) : lvTo ns t m (n + 1) = lvTo ns t m n ++ [(ct ns (t * (rd ns t + m)) t n : Int) - ((rd ns t + m : Nat) : Int)] := by unfold lvTo; rw [List.range_succ, List.map_append]; rfl
theorem lvTo_len (ns : List Int) (t m n : Nat) : (lvTo ns t m n).length = n := by unfold lvTo; rw [List.length_map, List.length_range]
theorem ok_lvector (F : Fun K "_law_vector" "_law_vector" (top 30) f fd) (m_len : mg "len" = none) (m_range : mg "range" = none) (m_tuple : mg "tuple" = none) (F_law_beads : FnA P w K mg base "_law_beads" 1 ["_law_parting_here", "_law_t", "_law_more"] sp_lbeads) : FnOk P w K mg base CX0 2 f fd ["_law_parting_here", "_law_t", "_law_more"] sp_lvector := by
  refine F.okz sc_lvector (fun vs H Q E h => ?_) (fun cdv A outer s H vs Q E hr h => ?_)
  · obtain ⟨a, ns, t, m, rfl, _⟩ := h; rfl
  obtain ⟨a, ns, t, m, rfl, ha, hl, ht, ht1, hm, q⟩ := h
  have nd := sc_lvector.nd
  have hu := hr.units
  have r1 := rd_ge ns ht
  have r2 := rd_le ns ht
  have tm : t * m ≤ 20 * 20 := Nat.mul_le_mul ht1 hm
  have hk : t * (rd ns t + m) = t * rd ns t + t * m := Nat.mul_add ..
  refine ⟨_, (zss_cons (zs_set (i := 3) nd rfl (Or.inr rfl) (ze_fn F_law_beads hr (by decide) rfl (za_cons (zn 0) (za_cons (zn 1) (za_cons (zn 2) za_nil)))))
      (zss_cons (zs_set (i := 4) nd rfl (Or.inr rfl) (ze_op op_fdivP (zcb_len rfl m_len (za_cons (zn 3) za_nil) rfl rfl) (zn 1)))
      (zss_one (zs_ret (zcb_tuple rfl m_tuple (za_cons (ze_comp1 "_law_rest" ["_law_rest"] [("_law_some", 3), ("_law_t", 1), ("_law_lots", 4)] rfl ⟨rfl, by decide +kernel, rfl, rfl, fun _ _ => rfl, fun _ => rfl, rfl⟩ (zi_range1 rfl m_range (za_cons (zn 1) za_nil)) kpg_name (fun _ _ _ _ => zg_name (i := 0) (show List.Nodup (["_law_rest", "_law_some", "_law_t", "_law_lots"] : List Str) by decide +kernel) rfl (Or.inr rfl)) (fun _ _ _ _ => zif_nil) (fun _ _ _ _ => (ze_op op_subP (zcb_len' rfl m_len (za_cons (ze_comp ["_law_bead"] [("_law_t", 2), ("_law_rest", 0)] rfl ⟨rfl, by decide +kernel, by decide +kernel, rfl, rfl⟩ (zi_list' (zn 1) rfl) kpg_name (fun _ _ _ _ => zg_name (i := 0) (show List.Nodup (["_law_bead", "_law_t", "_law_rest"] : List Str) by decide +kernel) rfl (Or.inl rfl)) (fun _ _ _ _ => (zif_one (zt_cmpP (op_eqD hu) (ze_op op_modP (zn 0) (zn 1)) (zn 2) (nomark _)))) (fun _ _ _ _ => (zn 0))) za_nil) rfl rfl rfl) (zn 3)))) za_nil) rfl rfl))))), ?_⟩
  refine ⟨a, ns, t, m, rfl, ha, hl, ht, ht1, hm, fun B H1 hB y1 hBl => ?_⟩
  refine ⟨_, .inl (SqL.of hBl), ⟨by lia, by lia⟩, ?_⟩
  have el : ((bd ns (t * (rd ns t + m))).length : Int) / (t : Int) = ((rd ns t + m : Nat) : Int) := by
    rw [bd_len, Int.natCast_mul, Int.mul_ediv_cancel_left _ (by lia)]
  have bl : (bd ns (t * (rd ns t + m))).length ≤ 900 := by rw [bd_len]; lia
  refine ⟨t, rfl, by lia, by lia, cmp_range (fun i zs H' => Same H1 H' ∧ zs = (lvTo ns t m i).map V.int) ⟨Same.refl _, rfl⟩ ?_ ?_⟩
  · rintro i zs H' hi ⟨y, rfl⟩
    refine ⟨by rw [List.length_map, lvTo_len]; exact small1000 (by lia), ?_⟩
    refine ⟨B, rfl, ⟨_, SqL.of (y _ _ hBl)⟩, cmp_list (xs := (bd ns (t * (rd ns t + m))).map V.int) (fun j ys H2 => H2 = H' ∧ ys = (((bd ns (t * (rd ns t + m))).take j).filter fun b => decide (b % (t : Int) = (i : Int))).map V.int) ⟨rfl, by rw [List.take_zero]; rfl⟩ ?_ ?_ ?_⟩
    · rintro j ys H2 _ ⟨rfl, _⟩
      exact SqL.of (y _ _ hBl)
    · rintro j x ys H2 hx ⟨rfl, rfl⟩
      have hj : j < (bd ns (t * (rd ns t + m))).length := by
        have := (List.getElem?_eq_some_iff.mp hx).1
        rw [List.length_map] at this
        exact this
      have ex : x = .int (bd ns (t * (rd ns t + m)))[j] := by rw [getI hj] at hx; exact (Option.some.inj hx).symm
      subst ex
      have hlf := List.length_filter_le (fun b => decide (b % (t : Int) = (i : Int))) ((bd ns (t * (rd ns t + m))).take j)
      rw [List.length_take] at hlf
      refine ⟨by rw [List.length_map]; exact small1000 (by lia), ?_⟩
      refine ⟨(show (0 : Int) < t by lia), ?_⟩
      refine iteD (fun c3 => ?_) (fun c3 => ?_)
      · have c4 := V.int.inj c3
        rw [Int.zero_add] at c4
        refine ⟨rfl, ?_⟩
        rw [filt_snoc hj, if_pos (decide_eq_true c4), List.map_append]
        rfl
      · refine ⟨rfl, ?_⟩
        rw [filt_snoc hj, if_neg (fun z => c3 (by rw [Int.zero_add]; exact congrArg V.int (of_decide_eq_true z))), List.append_nil]
    · rintro ys H2 ⟨rfl, rfl⟩ D hD
      rw [List.length_map, List.take_of_length_le (Nat.le_refl _)]
      refine ⟨_, .inl (SqL.of upd_same), ?_⟩
      refine ⟨y.trans (Same.new hD _), ?_⟩
      rw [lvTo_succ, List.map_append, ← el, List.length_map (as := List.filter _ _), ← List.countP_eq_length_filter]
      rfl
  · rintro zs H' ⟨y, rfl⟩ D hD
    refine ⟨_, .inl (SqL.of upd_same), fun r H2 y2 hr2 => ?_⟩
    refine q r H2 (((y1.trans y).trans (Same.new hD _)).trans y2) ?_
    rw [hr2]
    have : lvTo ns t m ((t : Int)).toNat = vec ns t := by rw [Int.toNat_natCast]; exact vec_more ns t m
    rw [this]
end
noncomputable def Bt (n : Int) : Prop := Builtin.Int.intBits n ≤ 2 ^ 10
theorem bt_of {n : Int} (h1 : -(10 ^ 61) < n) (h2 : n < 10 ^ 61) : Bt n := by
  refine Nat.le_trans (intBits_le_iff (m := 250).mpr ?_) (by decide)
  have h3 : (10 : Int) ^ 61 ≤ ((2 ^ 250 : Nat) : Int) := by decide
  lia
theorem Bt.m {a b : Int} (h1 : Bt a) (h2 : Bt b) : IntMulOk a b := IntMulOk.of_bits (Nat.le_trans h1 (by decide)) (Nat.le_trans h2 (by decide))
noncomputable def nf (ns : List Int) (r : Nat) : Int := ns.getD r 0
theorem nf_at {ns : List Int} {i : Nat} (h : i < ns.length) : nf ns i = ns[i] := by unfold nf; rw [List.getD_eq_getElem?_getD, List.getElem?_eq_getElem h]; rfl
theorem nf_list (ns : List Int) : (List.range ns.length).map (nf ns) = ns := by
  refine List.ext_getElem (by simp) fun i h1 h2 => ?_
  rw [List.getElem_map, List.getElem_range, nf_at h2]
noncomputable def sz (ns : List Int) : Int := ((ns.length : Int) * sq ns.length (nf ns)) / 2 + ro ns.length (nf ns)
theorem half_add (A B : Int) : (A + 2 * B) / 2 = A / 2 + B := by lia
section
variable {P : Program} {w : World} {K : PySem.W.Frag} {mg : Str → Option Value} {base : Heap} {f : Addr} {fd : FuncData}
theorem sc_sz : FnScope ["numbers", "squares"] ["numbers"] (defScope (top 16)) := ⟨rfl, rfl, rfl, by decide +kernel, rfl, by decide +kernel, by decide +kernel⟩
noncomputable def sp_sz : Sp := fun vs H Q _ => ∃ (a : Addr) (ns : List Int), vs = [.ref a] ∧ H a = some (.tup (ns.map V.int)) ∧ ns.length ≤ 100 ∧ (∀ n ∈ ns, Bt n) ∧ ∀ H', Same H H' → Q (.int (sz ns)) H'
noncomputable def sqTo (ns : List Int) (m : Nat) : List Int := (List.range m).map fun (r : Nat) => nf ns r * nf ns r
noncomputable def roTo (ns : List Int) (m : Nat) : List Int := (List.range m).map fun (r : Nat) => (r : Int) * nf ns r
theorem ok_sz (F : Fun K "size_of" "size_of" (top 16) f fd) (m_enumerate : mg "enumerate" = none) (m_len : mg "len" = none) (m_sum : mg "sum" = none) : FnOk P w K mg base CX0 1 f fd ["numbers"] sp_sz := by
  refine F.okz sc_sz (fun vs H Q E h => ?_) (fun cdv A outer s H vs Q E hr h => ?_)
  · obtain ⟨a, ns, rfl, _⟩ := h; rfl
  obtain ⟨a, ns, rfl, ha, hl, hb, q⟩ := h
  have nd := sc_sz.nd
  have hu := hr.units
  refine ⟨_, (zss_cons (zs_set (i := 1) nd rfl (Or.inl rfl) (zcb_sum rfl rfl m_sum (za_cons (ze_comp ["number"] [] rfl ⟨rfl, by decide +kernel, by decide +kernel, rfl, rfl⟩ (zi_tup (zn 0)) kpg_name (fun _ _ _ _ => zg_name (i := 0) (show List.Nodup (["number"] : List Str) by decide +kernel) rfl (Or.inl rfl)) (fun _ _ _ _ => zif_nil) (fun _ _ _ _ => (ze_op op_mulQ (zn 0) (zn 0)))) za_nil) rfl rfl))
      (zss_one (zs_ret (ze_op op_addP (ze_op op_fdivP (ze_op op_mulQ (zcb_len rfl m_len (za_cons (zn 0) za_nil) rfl rfl) (zn 1)) ze_int) (zcb_sum rfl rfl m_sum (za_cons (ze_comp ["rest", "number"] [] rfl ⟨rfl, by decide +kernel, by decide +kernel, rfl, rfl⟩ (zi_enumK rfl m_enumerate (za_cons (zn 0) za_nil)) kpg_two (fun _ _ _ _ => zg_tup rfl (zgs_cons (zg_name (i := 0) (show List.Nodup (["rest", "number"] : List Str) by decide +kernel) rfl (Or.inl rfl)) (zgs_cons (zg_name (i := 1) (show List.Nodup (["rest", "number"] : List Str) by decide +kernel) rfl (Or.inl rfl)) zgs_nil))) (fun _ _ _ _ => zif_nil) (fun _ _ _ _ => (ze_op op_mulQ (zn 0) (zn 1)))) za_nil) rfl rfl))))), ?_⟩
  refine ⟨a, rfl, ⟨_, SqT.of ha⟩, cmp_tup (xs := ns.map V.int) (fun i zs H' => H' = H ∧ zs = (sqTo ns i).map V.int) ⟨rfl, rfl⟩ ?_ ?_ ?_⟩
  · rintro i zs H' _ ⟨rfl, _⟩
    exact SqT.of ha
  · rintro i x zs H' hx ⟨rfl, rfl⟩
    have hi : i < ns.length := by
      have := (List.getElem?_eq_some_iff.mp hx).1
      rw [List.length_map] at this
      exact this
    have ex : x = .int ns[i] := by rw [getI hi] at hx; exact (Option.some.inj hx).symm
    subst ex
    refine ⟨by rw [List.length_map]; unfold sqTo; rw [List.length_map, List.length_range]; exact small1000 (by lia), ?_⟩
    refine ⟨(hb _ (List.getElem_mem hi)).m (hb _ (List.getElem_mem hi)), ?_⟩
    refine ⟨rfl, ?_⟩
    unfold sqTo
    rw [List.range_succ, List.map_append, List.map_append]
    show _ ++ [V.int (ns[i] * ns[i])] = _ ++ [V.int (nf ns i * nf ns i)]
    rw [nf_at hi]
  · rintro zs H' ⟨rfl, rfl⟩ D hD
    rw [List.length_map]
    have yD := Same.new hD (.lst ((sqTo ns ns.length).map V.int))
    refine ⟨_, .inl (SqL.of upd_same), ?_⟩
    have ha1 := yD _ _ ha
    generalize upd H' D (.lst ((sqTo ns ns.length).map V.int)) = H1 at ha1 yD
    refine ⟨_, .inr ha1, ?_⟩
    rw [List.length_map]
    refine ⟨mulL (by lia) (by lia), ⟨by decide, by decide⟩, ?_⟩
    refine ⟨true, _, SqK.tup ha1, cmp_enumK (xs := ns.map V.int) (fun i zs H' => Same H1 H' ∧ zs = (roTo ns i).map V.int) ⟨Same.refl _, rfl⟩ ?_ ?_ ?_ ?_⟩
    · rintro i zs H' _ ⟨y, _⟩
      exact SqK.tup (y _ _ ha1)
    · rintro i zs H' hi ⟨_, rfl⟩
      rw [List.length_map] at hi ⊢
      unfold roTo
      rw [List.length_map, List.length_range]
      exact small1000 (by lia)
    · rintro i x zs H' p hx ⟨y, rfl⟩ hp
      have hi : i < ns.length := by
        have := (List.getElem?_eq_some_iff.mp hx).1
        rw [List.length_map] at this
        exact this
      have ex : x = .int ns[i] := by rw [getI hi] at hx; exact (Option.some.inj hx).symm
      subst ex
      refine ⟨p, _, rfl, SqT.of upd_same, rfl, _, _, rfl, _, _, rfl, rfl, ?_⟩
      refine ⟨mulL (by lia) (by lia), ?_⟩
      refine ⟨y.trans (Same.new hp _), ?_⟩
      unfold roTo
      rw [List.range_succ, List.map_append, List.map_append]
      show _ ++ [V.int ((i : Int) * ns[i])] = _ ++ [V.int ((i : Int) * nf ns i)]
      rw [nf_at hi]
    · rintro zs H2 ⟨y, rfl⟩ D2 hD2
      rw [List.length_map]
      refine ⟨_, .inl (SqL.of upd_same), ?_⟩
      exact q _ ((yD.trans y).trans (Same.new hD2 _))
end
end K47
set_option Elab.async false
set_option linter.all false
set_option maxRecDepth 100000
set_option maxHeartbeats 4000000
namespace K47
open PySem L2 M39 M40 M43 M48
structure Tl (H : Hp) (qs : List Addr) (lss : List (List Int)) : Prop where
  len : qs.length = lss.length
  at_ : ∀ (i : Nat) (h1 : i < qs.length) (h2 : i < lss.length), H qs[i] = some (.tup (lss[i].map V.int))
theorem Tl.same {H H' : Hp} {qs : List Addr} {lss : List (List Int)} (x : Tl H qs lss) (y : Same H H') : Tl H' qs lss := ⟨x.len, fun i h1 h2 => y _ _ (x.at_ i h1 h2)⟩
theorem Tl.snoc {H : Hp} {qs : List Addr} {lss : List (List Int)} {q : Addr} {ls : List Int} (x : Tl H qs lss) (e : H q = some (.tup (ls.map V.int))) : Tl H (qs ++ [q]) (lss ++ [ls]) := by
  have hl := x.len
  refine ⟨by rw [List.length_append, List.length_append, hl]; rfl, fun i h1 h2 => ?_⟩
  by_cases hi : i < qs.length
  · rw [List.getElem_append_left hi, List.getElem_append_left (by lia)]
    exact x.at_ i hi (by lia)
  · have h1' : i < qs.length + 1 := by simpa using h1
    have e' : i = qs.length := by lia
    subst e'
    rw [List.getElem_append_right (Nat.le_refl _), List.getElem_append_right (by lia)]
    simpa [hl] using e
theorem vk_at {t k r : Nat} (h : k < (vks t).length) (h2 : r < (vks t)[k].length) : (vks t)[k][r] = vk t k r := by
  unfold vk
  rw [List.getD_eq_getElem?_getD, List.getD_eq_getElem?_getD, List.getElem?_eq_getElem h, Option.getD_some, List.getElem?_eq_getElem h2, Option.getD_some]
theorem vks_get {t k : Nat} (h : k < (vks t).length) (h2 : k < (rnd t).length) : (vks t)[k] = vec (rnd t)[k] t := by simp [vks]
theorem vks_row {t k : Nat} (h : k < (vks t).length) : (vks t)[k].length = t := by
  rw [vks_get h (by unfold vks at h; rwa [List.length_map] at h), vec_len]
section
variable {P : Program} {w : World} {K : PySem.W.Frag} {mg : Str → Option Value} {base : Heap} {f : Addr} {fd : FuncData}
theorem sc_vr : FnScope ["t"] ["t"] (defScope (top 20)) := ⟨rfl, rfl, rfl, by decide +kernel, rfl, by decide +kernel, by decide +kernel⟩
noncomputable def sp_vr : Sp := fun vs H Q _ => ∃ t : Nat, vs = [.int t] ∧ T3 t ∧ ∀ p rs H', H p = none → Same H H' → H' p = some (.lst (rs.map V.ref)) → Tl H' rs (vks t) → Q (.ref p) H'
theorem ok_vr (F : Fun K "vectors_of_round" "vectors_of_round" (top 20) f fd)  (g_ROUNDS : TabG K mg "ROUNDS" RD) (F_vector : FnA P w K mg base "vector" 3 ["parting", "t"] (sp_vector K)) : FnOk P w K mg base CX0 4 f fd ["t"] sp_vr := by
  refine F.okz sc_vr (fun vs H Q E h => ?_) (fun cdv A outer s H vs Q E hr h => ?_)
  · obtain ⟨t, rfl, _⟩ := h; rfl
  obtain ⟨t, rfl, h3, q⟩ := h
  have nd := sc_vr.nd
  have hu := hr.units
  have tl : 5 ≤ t ∧ t ≤ 11 := by rcases h3 with rfl | rfl | rfl <;> decide
  refine ⟨_, (zss_one (zs_ret (ze_comp ["parting"] [("t", 0)] rfl ⟨rfl, by decide +kernel, by decide +kernel, rfl, rfl⟩ (zi_tup (ze_tab rfl g_ROUNDS (zn 0) (fun _ _ => rfl))) kpg_name (fun _ _ _ _ => zg_name (i := 0) (show List.Nodup (["parting", "t"] : List Str) by decide +kernel) rfl (Or.inl rfl)) (fun _ _ _ _ => zif_nil) (fun _ _ _ _ => (ze_fn F_vector hr (by decide) rfl (za_cons (zn 0) (za_cons (zn 1) za_nil))))))), ?_⟩
  refine ⟨(t : Int), rnd t, rfl, rd_look h3, fun a hT => ?_⟩
  obtain ⟨as, ha, hlen, hrw⟩ := hT
  have rl := rnd_len h3
  refine ⟨a, rfl, ⟨_, ha.sq _⟩, cmp_tup (xs := as.map V.ref) (fun i zs H' => Same H H' ∧ i ≤ t ∧ ∃ rs : List Addr, zs = rs.map V.ref ∧ Tl H' rs ((vks t).take i)) ⟨Same.refl _, Nat.zero_le _, [], rfl, rfl, fun i h1 => absurd h1 (Nat.not_lt_zero _)⟩ ?_ ?_ ?_⟩
  · rintro i zs H' _ _
    exact ha.sq _
  · rintro i x zs H' hx ⟨y, _, rs, rfl, tls⟩
    have hi : i < as.length := by
      have := (List.getElem?_eq_some_iff.mp hx).1
      rw [List.length_map] at this
      exact this
    have ex : x = .ref as[i] := by rw [List.getElem?_map, List.getElem?_eq_getElem hi] at hx; exact (Option.some.inj hx).symm
    subst ex
    have hi2 : i < (rnd t).length := by lia
    have ln := rnd_ok h3 _ (List.getElem_mem hi2)
    have l1 := tls.len
    rw [List.length_take] at l1
    refine ⟨by rw [List.length_map]; exact small1000 (by lia), ?_⟩
    refine ⟨as[i], (rnd t)[i], t, rfl, hrw i hi hi2, ln.1, ln.2, by lia, by lia, fun r H2 y2 hr2 => ?_⟩
    refine ⟨y.trans y2, by lia, rs ++ [r], by rw [List.map_append]; rfl, ?_⟩
    have hi3 : i < (vks t).length := by rw [vks_len h3]; lia
    have e : (vks t).take (i + 1) = (vks t).take i ++ [vec (rnd t)[i] t] := by
      rw [List.take_succ, List.getElem?_eq_getElem hi3, vks_get hi3 hi2]
      rfl
    rw [e]
    exact (tls.same y2).snoc hr2
  · rintro zs H' ⟨y, _, rs, rfl, tls⟩ D hD
    rw [List.length_map, hlen, rl, List.take_of_length_le (by rw [vks_len h3]; exact Nat.le_refl _)] at tls
    have yD := Same.new hD (.lst (rs.map V.ref))
    refine q D rs _ ?_ (y.trans yD) upd_same (tls.same yD)
    cases e : H D with
    | none => rfl
    | some o => have := y D o e; rw [hD] at this; cases this
end
theorem pickF {k : Int} (h0 : 0 ≤ k) (h1 : k < 4) : ∃ m : Int, atI [V.int 10, .int 1000, .int ((10 : Int) ^ Int.toNat 18), .int ((10 : Int) ^ Int.toNat 58)] k = some (.int m) ∧ 0 < m ∧ m ≤ 10 ^ 58 := by
  have : k = 0 ∨ k = 1 ∨ k = 2 ∨ k = 3 := by lia
  rcases this with rfl | rfl | rfl | rfl
  · exact ⟨10, rfl, by decide, by decide⟩
  · exact ⟨1000, rfl, by decide, by decide⟩
  · exact ⟨_, rfl, by decide, by decide⟩
  · exact ⟨_, rfl, by decide, by decide⟩
theorem sum_lim {ws : List Int} : (∀ x ∈ ws, -(10 ^ 58) < x ∧ x < 10 ^ 58) → ws.length ≤ 12 → -(10 ^ 60) + 1 < ws.sum ∧ ws.sum < 10 ^ 60 - 1 := by
  have : ∀ {l : List Int}, (∀ x ∈ l, -(10 ^ 58) < x ∧ x < 10 ^ 58) → -((l.length : Int) * 10 ^ 58) ≤ l.sum ∧ l.sum ≤ (l.length : Int) * 10 ^ 58 := by
    intro l
    induction l with
    | nil => intro _; exact ⟨by decide, by decide⟩
    | cons y q ih =>
      intro h
      have h1 := h y List.mem_cons_self
      have h2 := ih fun n hn => h n (List.mem_cons_of_mem _ hn)
      rw [List.sum_cons, List.length_cons]
      lia
  intro h hl
  have := this h
  lia
theorem cut_take (ws : List Int) (k : Nat) : cutV (ws.map V.int) none (some (k : Int)) = (ws.take k).map V.int := by
  unfold cutV
  rw [HT.sIx_none, HT.sIx_nat, List.drop_zero, Nat.sub_zero, List.map_take]
  by_cases h : k ≤ (ws.map V.int).length
  · rw [Nat.min_eq_left h]
  · rw [Nat.min_eq_right (by lia), List.take_of_length_le (Nat.le_refl _), List.take_of_length_le (by lia)]
theorem cut_drop (ws : List Int) (k : Nat) : cutV (ws.map V.int) (some (k : Int)) none = (ws.drop k).map V.int := by
  unfold cutV
  rw [HT.sIx_none, HT.sIx_nat, List.map_drop]
  by_cases h : k ≤ (ws.map V.int).length
  · rw [Nat.min_eq_left h, List.take_of_length_le (by rw [List.length_drop]; exact Nat.le_refl _)]
  · rw [Nat.min_eq_right (by lia), List.drop_of_length_le (Nat.le_refl _), List.drop_of_length_le (by lia), List.take_nil]
noncomputable def Fr (t : Nat) (ns : List Int) : Prop := ns.length = t ∧ ns.sum = 1 ∧ ∀ x ∈ ns, -(10 ^ 60) < x ∧ x < 10 ^ 60
section
variable {P : Program} {w : World} {K : PySem.W.Frag} {mg : Str → Option Value} {base : Heap} {f : Addr} {fd : FuncData}
theorem sc_nu : FnScope ["_law_state", "_law_figures", "_law_number_here", "_law_k"] ["_law_state", "_law_figures"] (defScope (top 33)) := ⟨rfl, rfl, rfl, by decide +kernel, rfl, by decide +kernel, by decide +kernel⟩
noncomputable def sp_nu : Sp := fun vs H Q _ => ∃ (a : Addr) (fg : Int) (n : Nat), vs = [.ref a, .int fg] ∧ Hand H a n ∧ n < 900000000 ∧ 0 ≤ fg ∧ fg < 4 ∧ ∀ v H', -(10 ^ 58) < v → v < 10 ^ 58 → Step a (n + 5) H H' → Q (.int v) H'
theorem ok_nu (F : Fun K "_law_number" "_law_number" (top 33) f fd) (m_range : mg "range" = none) (F_law_take : FnA P w K mg base "_law_take" 1 ["_law_state", "_law_many"] sp_take) : FnOk P w K mg base CX0 2 f fd ["_law_state", "_law_figures"] sp_nu := by
  refine F.okz sc_nu (fun vs H Q E h => ?_) (fun cdv A outer s H vs Q E hr h => ?_)
  · obtain ⟨a, fg, n, rfl, _⟩ := h; rfl
  obtain ⟨a, fg, n, rfl, hh, hn, f0, f1, q⟩ := h
  have nd := sc_nu.nd
  have hu := hr.units
  refine ⟨_, (zss_cons (zs_set (i := 2) nd rfl (Or.inl rfl) ze_int)
      (zss_cons (zs_for PassesOwn.never rfl (zi_range1 rfl m_range (za_cons ze_int za_nil)) (zg_name (i := 3) nd rfl (Or.inl rfl)) (zss_one (zs_set (i := 2) nd rfl (Or.inl rfl) (ze_op op_addP (ze_op op_mulQ (zn 2) (ze_op op_powP ze_int ze_int)) (ze_fn F_law_take hr (by decide) rfl (za_cons (zn 0) (za_cons (ze_op op_powP ze_int ze_int) za_nil)))))))
      (zss_cons (zs_set (i := 2) nd rfl (Or.inl rfl) (ze_op op_modP (zn 2) (ze_ix ix_P (ze_lst (za_cons ze_int (za_cons ze_int (za_cons (ze_op op_powP ze_int ze_int) (za_cons (ze_op op_powP ze_int ze_int) za_nil))))) (zn 1) (fun _ _ => rfl))))
      (zss_one (zs_ret (ze_op op_mulQ (zn 2) (ze_op op_subP ze_int (ze_op op_mulQ ze_int (ze_fn F_law_take hr (by decide) rfl (za_cons (zn 0) (za_cons ze_int za_nil))))))))))), ?_⟩
  refine ⟨4, rfl, by decide, by decide, for_range (fun i σ H' => Step a (n + i) H H' ∧ ∃ (v : Int) (x3 : Option V), σ = [some (.ref a), some (.int fg), some (.int v), x3]) ⟨Step.refl hh, 0, _, rfl⟩ ?_ ?_⟩
  · rintro i σ H' hi ⟨st, v, x3, rfl⟩
    refine ⟨⟨by decide, by decide, by decide⟩, mulR (by decide) (by decide), ⟨by decide, by decide, by decide⟩, ?_⟩
    refine ⟨a, 10 ^ Int.toNat 15, n + i, rfl, st.2, by lia, by decide, by decide, fun r H2 r0 r1 st2 => ?_⟩
    exact ⟨(st.trans st2).mono (by lia), _, _, rfl⟩
  · rintro σ H' ⟨st, v, x3, rfl⟩
    refine ⟨⟨by decide, by decide, by decide⟩, ⟨by decide, by decide, by decide⟩, ?_⟩
    refine ⟨by show 4 ≤ sizeLine; decide, fun d hd => ?_⟩
    have yd := Same.new hd (.lst [V.int 10, .int 1000, .int ((10 : Int) ^ Int.toNat 18), .int ((10 : Int) ^ Int.toNat 58)])
    obtain ⟨m, em, m0, m1⟩ := pickF f0 f1
    refine ⟨_, .inl (SqL.of upd_same), .int m, em, m0, ?_⟩
    refine ⟨a, 2, n + 4, rfl, (st.same yd).2, by lia, by decide, by decide, fun b H2 b0 b1 st2 => ?_⟩
    have hv0 := Int.emod_nonneg v (show m ≠ 0 by lia)
    have hv1 := Int.emod_lt_of_pos v m0
    refine ⟨mulL (by decide) (by decide), mulR (by lia) (by lia), ?_⟩
    have hb : b = 0 ∨ b = 1 := by lia
    have key : -(10 ^ 58) < (v % m) * (1 - 2 * b) ∧ (v % m) * (1 - 2 * b) < 10 ^ 58 := by
      rcases hb with rfl | rfl
      · rw [show (1 : Int) - 2 * 0 = 1 from rfl, Int.mul_one]; lia
      · rw [show (1 : Int) - 2 * 1 = -1 from rfl, Int.mul_neg, Int.mul_one]; lia
    exact q _ H2 key.1 key.2 (((st.same yd).trans st2).mono (by lia))
theorem sc_fr : FnScope ["_law_state", "_law_t", "_law_figures", "_law_where", "_law_numbers"] ["_law_state", "_law_t"] (defScope (top 34)) := ⟨rfl, rfl, rfl, by decide +kernel, rfl, by decide +kernel, by decide +kernel⟩
noncomputable def sp_fr : Sp := fun vs H Q _ => ∃ (a : Addr) (t n : Nat), vs = [.ref a, .int t] ∧ Hand H a n ∧ n < 800000000 ∧ 0 < t ∧ t ≤ 12 ∧ ∀ r H' ns, Step a (n + 100) H H' → H' r = some (.tup (ns.map V.int)) → Fr t ns → Q (.ref r) H'
theorem ok_fr (F : Fun K "_law_frame" "_law_frame" (top 34) f fd) (m_range : mg "range" = none) (m_sum : mg "sum" = none) (m_tuple : mg "tuple" = none) (F_law_number : FnA P w K mg base "_law_number" 2 ["_law_state", "_law_figures"] sp_nu) (F_law_take : FnA P w K mg base "_law_take" 1 ["_law_state", "_law_many"] sp_take) : FnOk P w K mg base CX0 3 f fd ["_law_state", "_law_t"] sp_fr := by
  refine F.okz sc_fr (fun vs H Q E h => ?_) (fun cdv A outer s H vs Q E hr h => ?_)
  · obtain ⟨a, t, n, rfl, _⟩ := h; rfl
  obtain ⟨p, t, n, rfl, hh, hn, t0, t1, q⟩ := h
  have nd := sc_fr.nd
  have hu := hr.units
  refine ⟨_, (zss_cons (zs_asg (ze_tup (za_cons (ze_fn F_law_take hr (by decide) rfl (za_cons (zn 0) (za_cons ze_int za_nil))) (za_cons (ze_fn F_law_take hr (by decide) rfl (za_cons (zn 0) (za_cons (zn 1) za_nil))) za_nil))) (zg_tup rfl (zgs_cons (zg_name (i := 2) nd rfl (Or.inr rfl)) (zgs_cons (zg_name (i := 3) nd rfl (Or.inl rfl)) zgs_nil))))
      (zss_cons (zs_setcomp (i := 4) ["_law_k"] [("_law_state", 0), ("_law_figures", 2)] rfl nd rfl (Or.inl rfl) ⟨rfl, by decide +kernel, by decide +kernel, rfl, rfl⟩ (zi_range1 rfl m_range (za_cons (ze_op op_subP (zn 1) ze_int) za_nil)) kpg_name (fun _ _ _ _ => zg_name (i := 0) (show List.Nodup (["_law_k", "_law_state", "_law_figures"] : List Str) by decide +kernel) rfl (Or.inl rfl)) (fun _ _ _ _ => zif_nil) (fun _ _ _ _ => (ze_fn F_law_number hr (by decide) rfl (za_cons (zn 1) (za_cons (zn 2) za_nil)))))
      (zss_one (zs_ret (zcb_tuple rfl m_tuple (za_cons (ze_op op_addP (ze_op op_addP (ze_slice sl_P (zn 4) zo_none (zo_some (zn 3))) (ze_lst (za_cons (ze_op op_subP ze_int (zcb_sum rfl rfl m_sum (za_cons (zn 4) za_nil) rfl rfl)) za_nil))) (ze_slice sl_P (zn 4) (zo_some (zn 3)) zo_none)) za_nil) rfl rfl))))), ?_⟩
  refine ⟨p, 4, n, rfl, hh, by lia, by decide, by decide, fun fg H3 f0 f1 st3 => ?_⟩
  refine ⟨p, (t : Int), n + 1, rfl, st3.2, by lia, by lia, by lia, fun wh H3b w0 w1 st4b => ?_⟩
  refine ⟨by show 2 ≤ sizeLine; decide, fun d4 hd4 => ?_⟩
  have st4 := (st3.trans st4b).same (Same.new hd4 (.tup [V.int fg, .int wh]))
  have hd4' : upd H3b d4 (.tup [V.int fg, .int wh]) d4 = some (.tup [V.int fg, .int wh]) := upd_same
  refine ⟨d4, _, rfl, SqT.of hd4', rfl, _, _, rfl, _, _, rfl, rfl, ?_⟩
  generalize upd H3b d4 (.tup [V.int fg, .int wh]) = H4 at st4
  clear hd4'
  obtain ⟨k, rfl⟩ : ∃ k : Nat, wh = (k : Int) := ⟨wh.toNat, by lia⟩
  refine ⟨(t : Int) - 1, rfl, by lia, by lia, cmp_range (fun j ys H' => Step p (n + 2 + 5 * j) H4 H' ∧ ∃ ws : List Int, ys = ws.map V.int ∧ ws.length = j ∧ ∀ x ∈ ws, -(10 ^ 58) < x ∧ x < 10 ^ 58) ⟨Step.refl st4.2, [], rfl, rfl, fun x hx => (nomatch hx)⟩ ?_ ?_⟩
  · rintro j ys H5 hj ⟨st5, ws, rfl, hl5, hw⟩
    refine ⟨by rw [List.length_map]; exact small1000 (by lia), ?_⟩
    refine ⟨p, fg, _, rfl, st5.2, by lia, f0, f1, fun v H6 v0 v1 st6 => ?_⟩
    refine ⟨st5.trans (st6.mono (by lia)), ws ++ [v], by rw [List.map_append]; rfl, by rw [List.length_append, hl5]; rfl, fun x hx => ?_⟩
    rcases List.mem_append.mp hx with hx | hx
    · exact hw x hx
    · have : x = v := by simpa using hx
      subst this
      exact ⟨v0, v1⟩
  · rintro ys H5 ⟨st5, ws, rfl, hl5, hw⟩
    intro D hD
    have yD := Same.new hD (.lst (ws.map V.int))
    have hDD : upd H5 D (.lst (ws.map V.int)) D = some (.lst (ws.map V.int)) := upd_same
    generalize upd H5 D (.lst (ws.map V.int)) = H6 at yD hDD
    refine ⟨_, rfl, D, rfl, .inr ⟨_, SqL.of hDD, fun c1 hc1 => ?_⟩⟩
    rw [cut_take]
    have y1 := Same.new hc1 (.lst ((ws.take k).map V.int))
    refine ⟨ws, .inl (SqL.of (y1 _ _ hDD)), ?_⟩
    refine ⟨by show 1 ≤ sizeLine; decide, fun c2 hc2 => ?_⟩
    have y2 := Same.new hc2 (.lst [V.int (1 - ws.sum)])
    refine .inl ⟨_, _, y2 _ _ upd_same, upd_same, by rw [List.length_map, List.length_take]; exact Nat.le_of_lt (small1000 (by show _ + 1 ≤ 1000; lia)), fun c3 hc3 => ?_⟩
    have y3 := Same.new hc3 (.lst ((ws.take k).map V.int ++ [V.int (1 - ws.sum)]))
    refine ⟨_, rfl, D, rfl, .inr ⟨_, SqL.of (y3 _ _ (y2 _ _ (y1 _ _ hDD))), fun c4 hc4 => ?_⟩⟩
    rw [cut_drop]
    have y4 := Same.new hc4 (.lst ((ws.drop k).map V.int))
    refine .inl ⟨_, _, y4 _ _ upd_same, upd_same, by rw [List.length_append, List.length_map, List.length_map, List.length_take, List.length_drop]; exact Nat.le_of_lt (small1000 (by show _ + 1 + _ ≤ 1000; lia)), fun c5 hc5 => ?_⟩
    have y5 := Same.new hc5 (.lst ((ws.take k).map V.int ++ [V.int (1 - ws.sum)] ++ (ws.drop k).map V.int))
    refine ⟨_, .inl (SqL.of upd_same), fun r H7 y7 hr7 => ?_⟩
    have yy := ((((yD.trans y1).trans y2).trans y3).trans y4).trans (y5.trans y7)
    have lim := sum_lim hw (by lia)
    refine q r H7 (ws.take k ++ [1 - ws.sum] ++ ws.drop k) (((st4.trans st5).same yy).mono (by lia)) ?_ ⟨?_, ?_, fun x hx => ?_⟩
    · rw [hr7, List.map_append, List.map_append]
      rfl
    · rw [List.length_append, List.length_append, List.length_take, List.length_drop]
      show _ + 1 + _ = t
      lia
    · have : (ws.take k).sum + (ws.drop k).sum = ws.sum := by rw [← List.sum_append, List.take_append_drop]
      rw [List.sum_append, List.sum_append, List.sum_cons, List.sum_nil]
      lia
    · rcases List.mem_append.mp hx with hx | hx
      · rcases List.mem_append.mp hx with hx | hx
        · have := hw x (List.mem_of_mem_take hx)
          lia
        · have : x = 1 - ws.sum := by simpa using hx
          lia
      · have := hw x (List.mem_of_mem_drop hx)
        lia
end
noncomputable def tx (t : Nat) : List Str := if t = 5 then ["4", "22", "1111", "211", "31"] else if t = 7 then ["5", "311", "11111", "32", "2111", "41", "221"] else ["6", "222", "3111", "42", "21111", "321", "51", "2211", "411", "33", "111111"]
noncomputable def figs (z : Str) : List (Option Int) := z.cps.toList.map fun c => intText? ⟨#[c]⟩
theorem tx_ok {t : Nat} (h3 : T3 t) : (tx t).map figs = (rnd t).map fun ns => ns.map some := by rcases h3 with rfl | rfl | rfl <;> decide +kernel
theorem tx_at {t i : Nat} (h3 : T3 t) (h1 : i < (tx t).length) (h2 : i < (rnd t).length) : figs (tx t)[i] = (rnd t)[i].map some := by
  have := tx_ok h3
  have e := congrArg (fun l => l[i]?) this
  simp only [List.getElem?_map, List.getElem?_eq_getElem h1, List.getElem?_eq_getElem h2, Option.map_some] at e
  exact Option.some.inj e
theorem tx_len {t : Nat} (h3 : T3 t) : (tx t).length = t := by rcases h3 with rfl | rfl | rfl <;> rfl
section
variable {P : Program} {w : World} {K : PySem.W.Frag} {mg : Str → Option Value} {base : Heap} {f : Addr} {fd : FuncData}
theorem sc_rd : FnScope ["_law_t", "_law_some"] ["_law_t"] (defScope (top 32)) := ⟨rfl, rfl, rfl, by decide +kernel, rfl, by decide +kernel, by decide +kernel⟩
noncomputable def sp_rd : Sp := fun vs H Q _ => ∃ t : Nat, vs = [.int t] ∧ T3 t ∧ ∀ p rs H', H p = none → Same H H' → H' p = some (.lst (rs.map V.ref)) → Tl H' rs (rnd t) → Q (.ref p) H'
theorem ok_rd (F : Fun K "_law_round" "_law_round" (top 32) f fd) (m_int : mg "int" = none) (m_tuple : mg "tuple" = none) : FnOk P w K mg base CX0 1 f fd ["_law_t"] sp_rd := by
  refine F.okz sc_rd (fun vs H Q E h => ?_) (fun cdv A outer s H vs Q E hr h => ?_)
  · obtain ⟨t, rfl, _⟩ := h; rfl
  obtain ⟨t, rfl, h3, q⟩ := h
  have nd := sc_rd.nd
  have hu := hr.units
  have hu1 := hu_of hr
  have tl : 5 ≤ t ∧ t ≤ 11 := by rcases h3 with rfl | rfl | rfl <;> decide
  refine ⟨_, (zss_cons (zs_set (i := 1) nd rfl (Or.inl rfl) (ze_disp (zps_cons ze_int (ze_lst (za_cons ze_str (za_cons ze_str (za_cons ze_str (za_cons ze_str (za_cons ze_str za_nil)))))) (zps_cons ze_int (ze_lst (za_cons ze_str (za_cons ze_str (za_cons ze_str (za_cons ze_str (za_cons ze_str (za_cons ze_str (za_cons ze_str za_nil)))))))) zps_nil)) rfl rfl (by decide) (by decide)))
      (zss_cons (zs_dput hu1 (zn 1) ze_int (ze_lst (za_cons ze_str (za_cons ze_str (za_cons ze_str (za_cons ze_str (za_cons ze_str (za_cons ze_str (za_cons ze_str (za_cons ze_str (za_cons ze_str (za_cons ze_str (za_cons ze_str za_nil)))))))))))) rfl)
      (zss_one (zs_ret (ze_comp ["_law_one"] [] rfl ⟨rfl, by decide +kernel, by decide +kernel, rfl, rfl⟩ (zi_list (ze_dget hu1 (zn 1) (zn 0) (fun _ _ => rfl))) kpg_name (fun _ _ _ _ => zg_name (i := 0) (show List.Nodup (["_law_one"] : List Str) by decide +kernel) rfl (Or.inl rfl)) (fun _ _ _ _ => zif_nil) (fun _ _ _ _ => (zcb_tuple' rfl m_tuple (za_cons (ze_comp ["_law_part"] [] rfl ⟨rfl, by decide +kernel, by decide +kernel, rfl, rfl⟩ (zi_str (zn 0)) kpg_name (fun _ _ _ _ => zg_name (i := 0) (show List.Nodup (["_law_part"] : List Str) by decide +kernel) rfl (Or.inl rfl)) (fun _ _ _ _ => zif_nil) (fun _ _ _ _ => (zcb_intT rfl m_int (za_cons (zn 0) za_nil) rfl rfl))) za_nil) rfl rfl rfl))))))), ?_⟩
  refine fun d hd => ?_
  have y1 := Same.new hd (.dK [])
  refine ⟨by show 5 ≤ sizeLine; decide, fun l5 hl5 => ?_⟩
  rw [show [V.str "4", V.str "22", V.str "1111", V.str "211", V.str "31"] = (tx 5).map V.str from rfl]
  have y2 := Same.new hl5 (.lst ((tx 5).map V.str))
  refine ⟨by show 7 ≤ sizeLine; decide, fun l7 hl7 => ?_⟩
  rw [show [V.str "5", V.str "311", V.str "11111", V.str "32", V.str "2111", V.str "41", V.str "221"] = (tx 7).map V.str from rfl]
  have y3 := Same.new hl7 (.lst ((tx 7).map V.str))
  refine ⟨y3 _ _ (y2 _ _ upd_same), [(.inl 5, .ref l5), (.inl 7, .ref l7)], rfl, (by show 2 ≤ 15; decide), ?_⟩
  have n5 : l5 ≠ d := fun z => by rw [z, upd_same] at hl5; cases hl5
  have n7 : l7 ≠ d := fun z => by have := y2 _ _ (upd_same (H := H) (a := d) (o := .dK [])); rw [z, this] at hl7; cases hl7
  have h5 : upd (upd (upd (upd H d (.dK [])) l5 (.lst ((tx 5).map V.str))) l7 (.lst ((tx 7).map V.str))) d (.dK (mergeK [] [(.inl 5, .ref l5), (.inl 7, .ref l7)])) l5 = some (.lst ((tx 5).map V.str)) := by rw [upd_ne n5]; exact y3 _ _ upd_same
  have h7 : upd (upd (upd (upd H d (.dK [])) l5 (.lst ((tx 5).map V.str))) l7 (.lst ((tx 7).map V.str))) d (.dK (mergeK [] [(.inl 5, .ref l5), (.inl 7, .ref l7)])) l7 = some (.lst ((tx 7).map V.str)) := by rw [upd_ne n7]; exact upd_same
  have hdd : upd (upd (upd (upd H d (.dK [])) l5 (.lst ((tx 5).map V.str))) l7 (.lst ((tx 7).map V.str))) d (.dK (mergeK [] [(.inl 5, .ref l5), (.inl 7, .ref l7)])) d = some (.dK (mergeK [] [(.inl 5, .ref l5), (.inl 7, .ref l7)])) := upd_same
  have hS : Same H (upd (upd (upd (upd H d (.dK [])) l5 (.lst ((tx 5).map V.str))) l7 (.lst ((tx 7).map V.str))) d (.dK (mergeK [] [(.inl 5, .ref l5), (.inl 7, .ref l7)]))) := fun b o e => by
    rw [upd_ne (fun z => by rw [z, hd] at e; cases e)]
    exact y3 _ _ (y2 _ _ (y1 _ _ e))
  generalize upd (upd (upd (upd H d (.dK [])) l5 (.lst ((tx 5).map V.str))) l7 (.lst ((tx 7).map V.str))) d (.dK (mergeK [] [(.inl 5, .ref l5), (.inl 7, .ref l7)])) = H1 at h5 h7 hdd hS
  refine ⟨by show 11 ≤ sizeLine; decide, fun l11 hl11 => ?_⟩
  rw [show [V.str "6", V.str "222", V.str "3111", V.str "42", V.str "21111", V.str "321", V.str "51", V.str "2211", V.str "411", V.str "33", V.str "111111"] = (tx 11).map V.str from rfl]
  have y4 := Same.new hl11 (.lst ((tx 11).map V.str))
  refine ⟨d, _, rfl, DPut.k (k := .inl 11) (y4 _ _ hdd) (small1000 (by show 2 ≤ 1000; decide)), ?_⟩
  have n11 : l11 ≠ d := fun z => by rw [z, hdd] at hl11; cases hl11
  obtain ⟨l, hv, hlt⟩ : ∃ l, valV (putK (mergeK [] [(.inl 5, .ref l5), (.inl 7, .ref l7)]) (.inl 11) (.ref l11)) (.inl (t : Int)) = some (.ref l) ∧ upd (upd H1 l11 (.lst ((tx 11).map V.str))) d (.dK (putK (mergeK [] [(.inl 5, .ref l5), (.inl 7, .ref l7)]) (.inl 11) (.ref l11))) l = some (.lst ((tx t).map V.str)) := by
    rcases h3 with rfl | rfl | rfl
    · exact ⟨l5, rfl, by rw [upd_ne n5]; exact y4 _ _ h5⟩
    · exact ⟨l7, rfl, by rw [upd_ne n7]; exact y4 _ _ h7⟩
    · exact ⟨l11, rfl, by rw [upd_ne n11]; exact upd_same⟩
  have hS2 : Same H (upd (upd H1 l11 (.lst ((tx 11).map V.str))) d (.dK (putK (mergeK [] [(.inl 5, .ref l5), (.inl 7, .ref l7)]) (.inl 11) (.ref l11)))) := fun b o e => by
    rw [upd_ne (fun z => by rw [z, hd] at e; cases e)]
    exact y4 _ _ (hS _ _ e)
  refine ⟨d, _, rfl, .inl ⟨_, .inl (t : Int), .inl upd_same, rfl, hv.symm⟩, ?_⟩
  generalize upd (upd H1 l11 (.lst ((tx 11).map V.str))) d (.dK (putK (mergeK [] [(.inl 5, .ref l5), (.inl 7, .ref l7)]) (.inl 11) (.ref l11))) = H2 at hlt hS2
  have rl := rnd_len h3
  have xl := tx_len h3
  refine ⟨l, rfl, ⟨_, SqL.of hlt⟩, cmp_list (xs := (tx t).map V.str) (fun i zs H' => Same H2 H' ∧ i ≤ t ∧ ∃ rs : List Addr, zs = rs.map V.ref ∧ Tl H' rs ((rnd t).take i)) ⟨Same.refl _, Nat.zero_le _, [], rfl, rfl, fun i h1 => absurd h1 (Nat.not_lt_zero _)⟩ ?_ ?_ ?_⟩
  · rintro i zs H' _ ⟨y, _⟩
    exact SqL.of (y _ _ hlt)
  · rintro i x zs H' hx ⟨y, _, rs, rfl, tls⟩
    have hi : i < (tx t).length := by
      have := (List.getElem?_eq_some_iff.mp hx).1
      rwa [List.length_map] at this
    have ex : x = .str (tx t)[i] := by rw [List.getElem?_map, List.getElem?_eq_getElem hi] at hx; exact (Option.some.inj hx).symm
    subst ex
    have hi2 : i < (rnd t).length := by lia
    have fg := tx_at h3 hi hi2
    have ln := rnd_ok h3 _ (List.getElem_mem hi2)
    have l1 := tls.len
    rw [List.length_take] at l1
    generalize hz : (tx t)[i] = z at fg
    have zl : z.cps.size = (rnd t)[i].length := by
      have := congrArg List.length fg
      unfold figs at this
      rw [List.length_map, List.length_map, Array.length_toList] at this
      exact this
    refine ⟨by rw [List.length_map]; exact small1000 (by lia), ?_⟩
    refine cmp_str (z := z) (fun j ys H'' => H'' = H' ∧ ys = ((rnd t)[i].take j).map V.int) ⟨rfl, rfl⟩ ?_ ?_
    · rintro j c ys H'' hc ⟨rfl, rfl⟩
      have hj : j < (rnd t)[i].length := by
        rw [← zl]
        exact (Array.getElem?_eq_some_iff.mp hc).1
      have fj : intText? ⟨#[c]⟩ = some (rnd t)[i][j] := by
        have e := congrArg (fun l => l[j]?) fg
        unfold figs at e
        simp only [List.getElem?_map, List.getElem?_eq_getElem hj, Array.getElem?_toList, hc, Option.map_some] at e
        exact Option.some.inj e
      refine ⟨by rw [List.length_map, List.length_take]; exact small1000 (by lia), ?_⟩
      refine ⟨_, fj, by show 1 ≤ 640; decide, ?_⟩
      refine ⟨rfl, ?_⟩
      rw [List.take_succ, List.getElem?_eq_getElem hj, List.map_append]
      rfl
    · rintro ys H'' ⟨rfl, rfl⟩ D hD
      rw [zl, List.take_of_length_le (Nat.le_refl _)]
      have yD := Same.new hD (.lst ((rnd t)[i].map V.int))
      refine ⟨_, .inl (SqL.of upd_same), fun r H4 y4 hr4 => ?_⟩
      refine ⟨(y.trans yD).trans y4, by lia, rs ++ [r], by rw [List.map_append]; rfl, ?_⟩
      rw [List.take_succ, List.getElem?_eq_getElem hi2]
      exact (tls.same (yD.trans y4)).snoc hr4
  · rintro zs H' ⟨y, _, rs, rfl, tls⟩ D hD
    rw [List.length_map, xl, List.take_of_length_le (by lia)] at tls
    have yD := Same.new hD (.lst (rs.map V.ref))
    refine q D rs _ ?_ ((hS2.trans y).trans yD) upd_same (tls.same yD)
    cases e : H D with
    | none => rfl
    | some o => have := (hS2.trans y) D o e; rw [hD] at this; cases this
end
end K47
set_option Elab.async false
set_option linter.all false
set_option maxRecDepth 100000
set_option maxHeartbeats 4000000
namespace K47
open PySem L2 M39 M40 M43 M48
theorem nice3 {ns : List Int} (h : ns.length ≤ 1000) : Nice 3 (.tuple (ns.map PyData.int)) := .inr ⟨true, _, rfl, by rw [List.length_map]; exact h, fun e he => by
  obtain ⟨i, _, rfl⟩ := List.mem_map.mp he
  exact .inl ⟨i, rfl⟩⟩
theorem fresh_back {H H' : Hp} {p : Addr} (y : Same H H') (h : H' p = none) : H p = none := by
  cases e : H p with
  | none => rfl
  | some o =>
    have := y _ _ e
    rw [h] at this
    cases this
theorem pickT {k : Int} (h0 : 0 ≤ k) (h1 : k < 3) : ∃ t : Nat, atI [V.int 5, .int 7, .int 11] k = some (.int t) ∧ T3 t := by
  have : k = 0 ∨ k = 1 ∨ k = 2 := by lia
  rcases this with rfl | rfl | rfl
  · exact ⟨5, rfl, .inl rfl⟩
  · exact ⟨7, rfl, .inr (.inl rfl)⟩
  · exact ⟨11, rfl, .inr (.inr rfl)⟩
noncomputable def dtTo (t : Nat) (ns : List Int) (r m : Nat) : List Int := (List.range m).map fun (k : Nat) => nf ns k * vk t k r
theorem dtTo_succ (t : Nat) (ns : List Int) (r m : Nat) : dtTo t ns r (m + 1) = dtTo t ns r m ++ [nf ns m * vk t m r] := by unfold dtTo; rw [List.range_succ, List.map_append]; rfl
theorem dtTo_len (t : Nat) (ns : List Int) (r m : Nat) : (dtTo t ns r m).length = m := by unfold dtTo; simp
noncomputable def vbTo (t : Nat) (ns : List Int) (m : Nat) : List Int := (List.range m).map fun (r : Nat) => dt t (nf ns) t r
theorem vbTo_succ (t : Nat) (ns : List Int) (m : Nat) : vbTo t ns (m + 1) = vbTo t ns m ++ [dt t (nf ns) t m] := by unfold vbTo; rw [List.range_succ, List.map_append]; rfl
theorem vbTo_len (t : Nat) (ns : List Int) (m : Nat) : (vbTo t ns m).length = m := by unfold vbTo; simp
section
variable {P : Program} {w : World} {K : PySem.W.Frag} {mg : Str → Option Value} {base : Heap} {f : Addr} {fd : FuncData}
theorem sc_to : FnScope ["_law_t", "_law_frame_here", "_law_points"] ["_law_t", "_law_frame_here"] (defScope (top 35)) := ⟨rfl, rfl, rfl, by decide +kernel, rfl, by decide +kernel, by decide +kernel⟩
noncomputable def sp_to : Sp := fun vs H Q _ => ∃ (c : Bool) (a : Addr) (ns : List Int) (t : Nat), vs = [.int t, .ref a] ∧ SqK H c a (ns.map V.int) ∧ T3 t ∧ ns.length = t ∧ ∀ r H', Same H H' → H' r = some (.tup ((vby t (nf ns)).map V.int)) → Q (.ref r) H'
theorem ok_to (F : Fun K "_law_told" "_law_told" (top 35) f fd) (m_range : mg "range" = none) (m_sum : mg "sum" = none) (m_tuple : mg "tuple" = none) (m_zip : mg "zip" = none) (F_law_round : FnA P w K mg base "_law_round" 1 ["_law_t"] sp_rd) (F_law_vector : FnA P w K mg base "_law_vector" 2 ["_law_parting_here", "_law_t", "_law_more"] sp_lvector) : FnOk P w K mg base CX0 3 f fd ["_law_t", "_law_frame_here"] sp_to := by
  refine F.okz sc_to (fun vs H Q E h => ?_) (fun cdv A outer s H vs Q E hr h => ?_)
  · obtain ⟨c, a, ns, t, rfl, _⟩ := h; rfl
  obtain ⟨c, a, ns, t, rfl, ha, h3, hl, q⟩ := h
  have nd := sc_to.nd
  have hu := hr.units
  have tl : 5 ≤ t ∧ t ≤ 11 := by rcases h3 with rfl | rfl | rfl <;> decide
  have rl := rnd_len h3
  have vl := vks_len h3
  refine ⟨_, (zss_cons (zs_set (i := 2) nd rfl (Or.inr rfl) (ze_comp ["_law_one"] [("_law_t", 0)] rfl ⟨rfl, by decide +kernel, by decide +kernel, rfl, rfl⟩ (zi_list (ze_fn F_law_round hr (by decide) rfl (za_cons (zn 0) za_nil))) kpg_name (fun _ _ _ _ => zg_name (i := 0) (show List.Nodup (["_law_one", "_law_t"] : List Str) by decide +kernel) rfl (Or.inl rfl)) (fun _ _ _ _ => zif_nil) (fun _ _ _ _ => (ze_fn F_law_vector hr (by decide) rfl (za_cons (zn 0) (za_cons (zn 1) (za_cons ze_int za_nil)))))))
      (zss_one (zs_ret (zcb_tuple rfl m_tuple (za_cons (ze_comp1 "_law_rest" ["_law_rest"] [("_law_frame_here", 1), ("_law_points", 2)] rfl ⟨rfl, by decide +kernel, rfl, rfl, fun _ _ => rfl, fun _ => rfl, rfl⟩ (zi_range1 rfl m_range (za_cons (zn 0) za_nil)) kpg_name (fun _ _ _ _ => zg_name (i := 0) (show List.Nodup (["_law_rest", "_law_frame_here", "_law_points"] : List Str) by decide +kernel) rfl (Or.inr rfl)) (fun _ _ _ _ => zif_nil) (fun _ _ _ _ => (zcb_sum' rfl rfl m_sum (za_cons (ze_comp ["_law_many", "_law_point"] [("_law_rest", 0)] rfl ⟨rfl, by decide +kernel, by decide +kernel, rfl, rfl⟩ (zi_zip rfl m_zip (za_cons (zn 1) (za_cons (zn 2) za_nil))) kpg_two (fun _ _ _ _ => zg_tup rfl (zgs_cons (zg_name (i := 0) (show List.Nodup (["_law_many", "_law_point", "_law_rest"] : List Str) by decide +kernel) rfl (Or.inl rfl)) (zgs_cons (zg_name (i := 1) (show List.Nodup (["_law_many", "_law_point", "_law_rest"] : List Str) by decide +kernel) rfl (Or.inl rfl)) zgs_nil))) (fun _ _ _ _ => zif_nil) (fun _ _ _ _ => (ze_op op_mulQ (zn 0) (ze_ix (ix_P' rfl) (zn 1) (zn 2) (fun _ _ => rfl))))) za_nil) rfl rfl rfl))) za_nil) rfl rfl)))), ?_⟩
  refine ⟨t, rfl, h3, fun p rs H1 hp y1 hp1 tls => ?_⟩
  have rsl : rs.length = t := by rw [tls.len, rl]
  refine ⟨p, rfl, ⟨_, SqL.of hp1⟩, cmp_list (xs := rs.map V.ref) (fun i zs H' => Same H1 H' ∧ i ≤ t ∧ ∃ qs : List Addr, zs = qs.map V.ref ∧ Tl H' qs ((vks t).take i)) ⟨Same.refl _, Nat.zero_le _, [], rfl, rfl, fun i h1 => absurd h1 (Nat.not_lt_zero _)⟩ ?_ ?_ ?_⟩
  · rintro i zs H' _ ⟨y, _⟩
    exact SqL.of (y _ _ hp1)
  · rintro i x zs H' hx ⟨y, _, qs, rfl, tq⟩
    have hi : i < rs.length := by
      have := (List.getElem?_eq_some_iff.mp hx).1
      rwa [List.length_map] at this
    have ex : x = .ref rs[i] := by rw [List.getElem?_map, List.getElem?_eq_getElem hi] at hx; exact (Option.some.inj hx).symm
    subst ex
    have hi2 : i < (rnd t).length := by lia
    have hi3 : i < (vks t).length := by lia
    have ln := rnd_ok h3 _ (List.getElem_mem hi2)
    have l1 := tq.len
    rw [List.length_take] at l1
    refine ⟨by rw [List.length_map]; exact small1000 (by lia), ?_⟩
    refine ⟨rs[i], (rnd t)[i], t, 0, rfl, y _ _ (tls.at_ i hi hi2), by lia, by lia, by lia, by decide, fun r H2 y2 hr2 => ?_⟩
    refine ⟨y.trans y2, by lia, qs ++ [r], by rw [List.map_append]; rfl, ?_⟩
    rw [List.take_succ, List.getElem?_eq_getElem hi3, vks_get hi3 hi2]
    exact (tq.same y2).snoc hr2
  · rintro zs H' ⟨y, _, qs, rfl, tq⟩ D hD
    rw [List.length_map, rsl, List.take_of_length_le (by lia)] at tq
    have yD := Same.new hD (.lst (qs.map V.ref))
    have hDD : upd H' D (.lst (qs.map V.ref)) D = some (.lst (qs.map V.ref)) := upd_same
    have tq2 := tq.same yD
    have y2 := (y1.trans y).trans yD
    generalize upd H' D (.lst (qs.map V.ref)) = H2 at hDD tq2 y2
    have ql : qs.length = t := by rw [tq2.len, vl]
    refine ⟨(t : Int), rfl, by lia, by lia, cmp_range (fun r zs H' => Same H2 H' ∧ zs = (vbTo t ns r).map V.int) ⟨Same.refl _, rfl⟩ ?_ ?_⟩
    · rintro r zs H3 hr' ⟨y3, rfl⟩
      have hr2 : r < t := by rwa [Int.toNat_natCast] at hr'
      refine ⟨by rw [List.length_map, vbTo_len]; exact small1000 (by lia), ?_⟩
      have em : min (ns.map V.int).length (qs.map V.ref).length = t := by rw [List.length_map, List.length_map]; lia
      refine ⟨c, false, _, _, (ha.same y2).same y3, SqK.lst (y3 _ _ hDD), cmp_zip (xs := ns.map V.int) (ys := qs.map V.ref) (fun i zs H' => Same H3 H' ∧ zs = (dtTo t ns r i).map V.int) ⟨Same.refl _, rfl⟩ ?_ ?_ ?_ ?_⟩
      · rintro i zs H' _ ⟨y, _⟩
        exact ⟨((ha.same y2).same y3).same y, SqK.lst (y _ _ (y3 _ _ hDD))⟩
      · rintro i zs H' hi ⟨_, rfl⟩
        rw [em] at hi
        rw [List.length_map, dtTo_len]
        exact small1000 (by lia)
      · rintro i x y zs H' p' hx hy ⟨yy, rfl⟩ hp'
        have hi : i < ns.length := by
          have := (List.getElem?_eq_some_iff.mp hx).1
          rwa [List.length_map] at this
        have hi2 : i < qs.length := by lia
        have hi3 : i < (vks t).length := by lia
        have ex : x = .int ns[i] := by rw [getI hi] at hx; exact (Option.some.inj hx).symm
        subst ex
        have ey : y = .ref qs[i] := by rw [List.getElem?_map, List.getElem?_eq_getElem hi2] at hy; exact (Option.some.inj hy).symm
        subst ey
        have rlen := vks_row hi3
        have hj2 : r < (vks t)[i].length := by lia
        have lim := vk_lim h3 _ (List.getElem_mem hi3) _ (List.getElem_mem hj2)
        have yp := Same.new hp' (.tup [.int ns[i], .ref qs[i]])
        refine ⟨p', _, rfl, SqT.of upd_same, rfl, _, _, rfl, _, _, rfl, rfl, ?_⟩
        refine ⟨_, .inr (yp _ _ (yy _ _ (y3 _ _ (tq2.at_ i hi2 hi3)))), .int (vks t)[i][r], atI_of (j := r) (by lia) (getI hj2), ?_⟩
        refine ⟨mulR (by lia) (by lia), ?_⟩
        refine ⟨yy.trans yp, ?_⟩
        rw [dtTo_succ, List.map_append, nf_at hi, vk_at hi3 hj2]
        rfl
      · rintro zs H' ⟨yy, rfl⟩ D2 hD2
        rw [em]
        refine ⟨_, .inl (SqL.of upd_same), ?_⟩
        refine ⟨(y3.trans yy).trans (Same.new hD2 _), ?_⟩
        rw [vbTo_succ, List.map_append]
        rfl
    · rintro zs H3 ⟨y3, rfl⟩ D3 hD3
      have e : vbTo t ns ((t : Int)).toNat = vby t (nf ns) := by rw [Int.toNat_natCast]; rfl
      rw [e]
      refine ⟨_, .inl (SqL.of upd_same), fun r H4 y4 hr4 => ?_⟩
      exact q r H4 (((y2.trans y3).trans (Same.new hD3 _)).trans y4) hr4
end
end K47
set_option Elab.async false
set_option linter.all false
set_option maxRecDepth 100000
set_option maxHeartbeats 4000000
namespace K47
open PySem L2 M39 M40 M43 M48 M47
noncomputable def dotTo (as bs : List Int) (m : Nat) : List Int := (List.range m).map fun (j : Nat) => nf as j * nf bs j
theorem dotTo_succ (as bs : List Int) (m : Nat) : dotTo as bs (m + 1) = dotTo as bs m ++ [nf as m * nf bs m] := by unfold dotTo; rw [List.range_succ, List.map_append]; rfl
theorem dotTo_len (as bs : List Int) (m : Nat) : (dotTo as bs m).length = m := by unfold dotTo; simp
noncomputable def plc (t : Nat) : List Int := (List.range t).map fun (j : Nat) => (j : Int)
theorem nf_plc {t j : Nat} (h : j < t) : nf (plc t) j = (j : Int) := by unfold nf plc; simp [h]
theorem cw_is {t : Nat} (h3 : T3 t) : ((rnd t).getD 0 []).sum = cw t ∧ 0 < (rnd t).length := by rcases h3 with rfl | rfl | rfl <;> exact ⟨by decide, by decide⟩
theorem cw_lim {t : Nat} (h3 : T3 t) : 0 ≤ cw t ∧ cw t < t := by rcases h3 with rfl | rfl | rfl <;> decide
theorem ups_last (rs : List Int) (m : Nat) : atI ((ups rs (m + 1)).map V.int) (-1) = some (.int (rs.take m).sum) := by
  rw [ups_succ, List.map_append]
  exact atI_last _ _
section
variable {P : Program} {w : World} {K : PySem.W.Frag} {mg : Str → Option Value} {base : Heap} {f : Addr} {fd : FuncData}
theorem sc_wr : FnScope ["t"] ["t"] (defScope (top 19)) := ⟨rfl, rfl, rfl, by decide +kernel, rfl, by decide +kernel, by decide +kernel⟩
noncomputable def sp_wr : Sp := fun vs H Q _ => ∃ t : Nat, vs = [.int t] ∧ T3 t ∧ Q (.int (cw t)) H
theorem ok_wr (F : Fun K "weight_of_round" "weight_of_round" (top 19) f fd) (m_sum : mg "sum" = none) (g_ROUNDS : TabG K mg "ROUNDS" RD) : FnOk P w K mg base CX0 1 f fd ["t"] sp_wr := by
  refine F.okz sc_wr (fun vs H Q E h => ?_) (fun cdv A outer s H vs Q E hr h => ?_)
  · obtain ⟨t, rfl, _⟩ := h; rfl
  obtain ⟨t, rfl, h3, q⟩ := h
  have nd := sc_wr.nd
  have hu := hr.units
  refine ⟨_, (zss_one (zs_ret (zcb_sumK rfl rfl m_sum (za_cons (ze_ix ix_K (ze_tab rfl g_ROUNDS (zn 0) (fun _ _ => rfl)) ze_int (fun _ _ => rfl)) za_nil) rfl rfl))), ?_⟩
  refine ⟨(t : Int), rnd t, rfl, rd_look h3, fun a hT => ?_⟩
  obtain ⟨as, ha, hlen, hrw⟩ := hT
  obtain ⟨e1, e2⟩ := cw_is h3
  have h0 : 0 < as.length := by lia
  refine ⟨_, ha.sq _, .ref as[0], atI_of (j := 0) rfl (by rw [List.getElem?_map, List.getElem?_eq_getElem h0]; rfl), ?_⟩
  refine ⟨_, (hrw 0 h0 e2).sq _, ?_⟩
  have : (rnd t)[0].sum = cw t := by
    rw [← e1, List.getD_eq_getElem?_getD, List.getElem?_eq_getElem e2]
    rfl
  rw [this]
  exact q
theorem sc_sp : FnScope ["one", "other"] ["one", "other"] (defScope (top 21)) := ⟨rfl, rfl, rfl, by decide +kernel, rfl, by decide +kernel, by decide +kernel⟩
noncomputable def sp_sp : Sp := fun vs H Q _ => ∃ (c d : Bool) (a b : Addr) (as bs : List Int) (m : Nat), vs = [.ref a, .ref b] ∧ SqK H c a (as.map V.int) ∧ SqK H d b (bs.map V.int) ∧ as.length = m ∧ bs.length = m ∧ m ≤ 100 ∧ (∀ i, i < m → IntMulOk (nf as i) (nf bs i)) ∧ ∀ H', Same H H' → Q (.int (dotTo as bs m).sum) H'
theorem ok_sp (F : Fun K "sum_of_products" "sum_of_products" (top 21) f fd) (m_sum : mg "sum" = none) (m_zip : mg "zip" = none) : FnOk P w K mg base CX0 1 f fd ["one", "other"] sp_sp := by
  refine F.okz sc_sp (fun vs H Q E h => ?_) (fun cdv A outer s H vs Q E hr h => ?_)
  · obtain ⟨c, d, a, b, as, bs, m, rfl, _⟩ := h; rfl
  obtain ⟨c, d, a, b, as, bs, m, rfl, ha, hb, la, lb, hm, ok, q⟩ := h
  have nd := sc_sp.nd
  have hu := hr.units
  have em : min (as.map V.int).length (bs.map V.int).length = m := by rw [List.length_map, List.length_map]; lia
  refine ⟨_, (zss_one (zs_ret (zcb_sum rfl rfl m_sum (za_cons (ze_comp ["left", "right"] [] rfl ⟨rfl, by decide +kernel, by decide +kernel, rfl, rfl⟩ (zi_zip rfl m_zip (za_cons (zn 0) (za_cons (zn 1) za_nil))) kpg_two (fun _ _ _ _ => zg_tup rfl (zgs_cons (zg_name (i := 0) (show List.Nodup (["left", "right"] : List Str) by decide +kernel) rfl (Or.inl rfl)) (zgs_cons (zg_name (i := 1) (show List.Nodup (["left", "right"] : List Str) by decide +kernel) rfl (Or.inl rfl)) zgs_nil))) (fun _ _ _ _ => zif_nil) (fun _ _ _ _ => (ze_op op_mulQ (zn 0) (zn 1)))) za_nil) rfl rfl))), ?_⟩
  refine ⟨c, d, _, _, ha, hb, cmp_zip (xs := as.map V.int) (ys := bs.map V.int) (fun i zs H' => Same H H' ∧ zs = (dotTo as bs i).map V.int) ⟨Same.refl _, rfl⟩ ?_ ?_ ?_ ?_⟩
  · rintro i zs H' _ ⟨y, _⟩
    exact ⟨ha.same y, hb.same y⟩
  · rintro i zs H' hi ⟨_, rfl⟩
    rw [em] at hi
    rw [List.length_map, dotTo_len]
    exact small1000 (by lia)
  · rintro i x y zs H' p' hx hy ⟨yy, rfl⟩ hp'
    have hi : i < as.length := by
      have := (List.getElem?_eq_some_iff.mp hx).1
      rwa [List.length_map] at this
    have hi2 : i < bs.length := by lia
    have ex : x = .int as[i] := by rw [getI hi] at hx; exact (Option.some.inj hx).symm
    subst ex
    have ey : y = .int bs[i] := by rw [getI hi2] at hy; exact (Option.some.inj hy).symm
    subst ey
    refine ⟨p', _, rfl, SqT.of upd_same, rfl, _, _, rfl, _, _, rfl, rfl, ?_⟩
    have o := ok i (by lia)
    rw [nf_at hi, nf_at hi2] at o
    refine ⟨o, ?_⟩
    refine ⟨yy.trans (Same.new hp' _), ?_⟩
    rw [dotTo_succ, List.map_append, nf_at hi, nf_at hi2]
    rfl
  · rintro zs H' ⟨yy, rfl⟩ D2 hD2
    rw [em]
    refine ⟨_, .inl (SqL.of upd_same), ?_⟩
    exact q _ (yy.trans (Same.new hD2 _))
end
end K47
set_option Elab.async false
set_option linter.all false
set_option maxRecDepth 100000
set_option maxHeartbeats 4000000
namespace K47
open PySem L2 M39 M40 M43 M48 M47
noncomputable def SmX (L : Addr) (H H' : Hp) : Prop := ∀ b o, b ≠ L → H b = some o → H' b = some o
theorem SmX.refl (L : Addr) (H : Hp) : SmX L H H := fun _ _ _ e => e
theorem SmX.put {L : Addr} {H H' : Hp} {o : HO} (x : SmX L H H') : SmX L H (upd H' L o) := fun b u nb e => by rw [upd_ne nb]; exact x b u nb e
theorem SmX.then {L : Addr} {H H1 H2 : Hp} (x : SmX L H H1) (y : Same H1 H2) : SmX L H H2 := fun b u nb e => y _ _ (x b u nb e)
theorem rng_small {t : Nat} (h : t ≤ 1000) : Builtin.Range.small 0 (t : Int) 1 = true := M27.small_up (by decide) (by decide) (by decide) (by decide) (by lia) (by lia)
theorem plc_list {t : Nat} : (((List.range (Builtin.Range.rangeSize 0 (t : Int) 1).toNat).map fun (k : Nat) => (0 : Int) + k * 1).map V.int) = (plc t).map V.int := by
  have es : (Builtin.Range.rangeSize 0 (t : Int) 1).toNat = t := by
    rw [M27.size_up (by decide)]
    by_cases h : (0 : Int) < (t : Int)
    · rw [if_pos h, Int.ediv_one]; lia
    · rw [if_neg h]; lia
  rw [es]
  congr 1
  unfold plc
  refine List.map_congr_left fun j _ => ?_
  lia
theorem dot_pl {t : Nat} {ns : List Int} : (dotTo (plc t) ns t).sum = pl (nf ns) t := by
  unfold dotTo pl
  congr 1
  refine List.map_congr_left fun j hj => ?_
  rw [nf_plc (List.mem_range.mp hj)]
theorem dot_pv {t i : Nat} {ns : List Int} (h : i < (vks t).length) : (dotTo ns (vks t)[i] t).sum = M47.pv t (nf ns) i t := by
  unfold dotTo M47.pv
  congr 1
  refine List.map_congr_left fun j hj => ?_
  have hj := List.mem_range.mp hj
  have hr : j < (vks t)[i].length := by rw [vks_row h]; exact hj
  rw [← vk_at h hr, nf_at hr]
theorem dot_plv {t i : Nat} (h : i < (vks t).length) : (dotTo (plc t) (vks t)[i] t).sum = pl (vk t i) t := by
  unfold dotTo pl
  congr 1
  refine List.map_congr_left fun j hj => ?_
  have hj := List.mem_range.mp hj
  have hr : j < (vks t)[i].length := by rw [vks_row h]; exact hj
  rw [nf_plc hj, ← vk_at h hr, nf_at hr]
theorem bds_take {t i : Nat} (n : Nat → Int) (h : i < t) : (bds t n).take (i + 1) = (bds t n).take i ++ [bend t n i] := by
  have hl : i < (bds t n).length := by unfold bds; simpa using h
  rw [List.take_succ, List.getElem?_eq_getElem hl]
  congr 1
  simp [bds]
section
variable {P : Program} {w : World} {K : PySem.W.Frag} {mg : Str → Option Value} {base : Heap} {f : Addr} {fd : FuncData}
theorem sc_bo : FnScope ["t", "numbers", "places", "beyond", "told", "beside", "sums"] ["t", "numbers"] (defScope (top 22)) := ⟨rfl, rfl, rfl, by decide +kernel, rfl, by decide +kernel, by decide +kernel⟩
noncomputable def sp_bo : Sp := fun vs H Q _ => ∃ (a : Addr) (ns : List Int) (t : Nat), vs = [.int t, .ref a] ∧ H a = some (.tup (ns.map V.int)) ∧ T3 t ∧ ns.length = t ∧ ∀ p H', Same H H' → H' p = some (.lst ((bds t (nf ns)).map V.int)) → Q (.ref p) H'
theorem ok_bo (F : Fun K "bends_of" "bends_of" (top 22) f fd) (m_list : mg "list" = none) (m_range : mg "range" = none) (F_sum_of_products : FnA P w K mg base "sum_of_products" 1 ["one", "other"] sp_sp) (F_vectors_of_round : FnA P w K mg base "vectors_of_round" 4 ["t"] sp_vr) (F_weight_of_round : FnA P w K mg base "weight_of_round" 1 ["t"] sp_wr) : FnOk P w K mg base CX0 5 f fd ["t", "numbers"] sp_bo := by
  refine F.okz sc_bo (fun vs H Q E h => ?_) (fun cdv A outer s H vs Q E hr h => ?_)
  · obtain ⟨a, ns, t, rfl, _⟩ := h; rfl
  obtain ⟨a, ns, t, rfl, ha, h3, hl, q⟩ := h
  have nd := sc_bo.nd
  have hu := hr.units
  have tl : 5 ≤ t ∧ t ≤ 11 := by rcases h3 with rfl | rfl | rfl <;> decide
  have vl := vks_len h3
  have cl := cw_lim h3
  refine ⟨_, (zss_cons (zs_set (i := 2) nd rfl (Or.inl rfl) (zcb_lrange rfl rfl m_list (za_cons (zcb_range1 rfl m_range (za_cons (zn 0) za_nil) rfl rfl) za_nil) rfl rfl))
      (zss_cons (zs_set (i := 3) nd rfl (Or.inl rfl) (ze_op op_mulQ ze_int (ze_op op_subP (zn 0) (ze_fn F_weight_of_round hr (by decide) rfl (za_cons (zn 0) za_nil)))))
      (zss_cons (zs_set (i := 4) nd rfl (Or.inl rfl) (ze_lst za_nil))
      (zss_cons (zs_for PassesOwn.never rfl (zi_list (ze_fn F_vectors_of_round hr (by decide) rfl (za_cons (zn 0) za_nil))) (zg_name (i := 5) nd rfl (Or.inl rfl)) (zss_cons (zs_set (i := 6) nd rfl (Or.inl rfl) (ze_op op_addP (ze_fn F_sum_of_products hr (by decide) rfl (za_cons (zn 2) (za_cons (zn 1) za_nil))) (ze_fn F_sum_of_products hr (by decide) rfl (za_cons (zn 2) (za_cons (zn 5) za_nil)))))
      (zss_one (zs_expr (zm_append (zn 4) (za_cons (ze_op op_addP (ze_fn F_sum_of_products hr (by decide) rfl (za_cons (zn 1) (za_cons (zn 5) za_nil))) (ze_op op_fdivP (ze_op op_addP (zn 6) (zn 3)) (zn 0))) za_nil))))))
      (zss_one (zs_ret (zn 4))))))), ?_⟩
  refine fun r0 hr0 => ?_
  have g0 := Same.new hr0 (rngO r0 0 (t : Int) 1)
  refine ⟨0, (t : Int), 1, upd_same, rng_small (by lia), by decide, by rw [M27.size_up (by decide)]; split <;> lia, fun l hl0 => ?_⟩
  rw [plc_list]
  have g1 := g0.trans (Same.new hl0 (.lst ((plc t).map V.int)))
  have hll : upd (upd H r0 (rngO r0 0 (t : Int) 1)) l (.lst ((plc t).map V.int)) l = some (.lst ((plc t).map V.int)) := upd_same
  generalize upd (upd H r0 (rngO r0 0 (t : Int) 1)) l (.lst ((plc t).map V.int)) = H1 at g1 hll
  refine ⟨t, rfl, h3, ?_⟩
  refine ⟨mulL (by decide) (by decide), ?_⟩
  refine ⟨by show 0 ≤ sizeLine; decide, fun D hD => ?_⟩
  have g2 := Same.new hD (.lst [])
  have hDD : upd H1 D (.lst []) D = some (.lst []) := upd_same
  have ll := g2 _ _ hll
  have g12 := g1.trans g2
  have hHD : H D = none := fresh_back g1 hD
  generalize upd H1 D (.lst []) = H2 at g2 hDD ll g12
  refine ⟨t, rfl, h3, fun p rs H3 hp y3 hp3 tls => ?_⟩
  have pD : p ≠ D := fun z => by rw [z, hDD] at hp; cases hp
  have lD : l ≠ D := fun z => by rw [z] at hll; rw [hD] at hll; cases hll
  have aD : a ≠ D := ne_of_none ha hHD
  have tl1 := tls.len
  have pl_len : (plc t).length = t := by unfold plc; simp
  refine ⟨p, rfl, ⟨_, SqL.of hp3⟩, for_list (xs := rs.map V.ref) (fun i σ H' => SmX D H3 H' ∧ i ≤ t ∧ H' D = some (.lst (((bds t (nf ns)).take i).map V.int)) ∧ ∃ x5 x6, σ = [some (.int t), some (.ref a), some (.ref l), some (.int (2 * ((t : Int) - cw t))), some (.ref D), x5, x6]) ⟨SmX.refl _ _, Nat.zero_le _, y3 _ _ hDD, _, _, rfl⟩ ?_ ?_ ?_⟩
  · rintro i σ H' _ ⟨y, _⟩
    exact SqL.of (y _ _ pD hp3)
  · rintro i x σ H' hx ⟨y, _, hDi, x5, x6, rfl⟩
    have hi : i < rs.length := by
      have := (List.getElem?_eq_some_iff.mp hx).1
      rwa [List.length_map] at this
    have ex : x = .ref rs[i] := by rw [List.getElem?_map, List.getElem?_eq_getElem hi] at hx; exact (Option.some.inj hx).symm
    subst ex
    have hi2 : i < (vks t).length := by lia
    have hr3 := tls.at_ i hi hi2
    have rD : rs[i] ≠ D := fun z => by
      rw [z, y3 _ _ hDD] at hr3; cases hr3
    have hv := y _ _ rD hr3
    have hl4 := y _ _ lD (y3 _ _ ll)
    have ha4 := y _ _ aD (y3 _ _ (g12 _ _ ha))
    have rw1 := vks_row hi2
    have lim := vk_lim h3 _ (List.getElem_mem hi2)
    have nfl : ∀ j, j < t → -(2 ^ 64) < nf (plc t) j ∧ nf (plc t) j < 2 ^ 64 := fun j hj => by rw [nf_plc hj]; lia
    have nfv : ∀ j, j < t → -(2 ^ 64) < nf (vks t)[i] j ∧ nf (vks t)[i] j < 2 ^ 64 := fun j hj => by
      have hj2 : j < (vks t)[i].length := by lia
      rw [nf_at hj2]
      have := lim _ (List.getElem_mem hj2)
      lia
    refine ⟨false, true, l, a, plc t, ns, t, rfl, SqK.lst hl4, SqK.tup ha4, pl_len, hl, by lia, fun j hj => mulL (nfl j hj).1 (nfl j hj).2, fun H5 y5 => ?_⟩
    refine ⟨false, true, l, rs[i], plc t, (vks t)[i], t, rfl, SqK.lst (y5 _ _ hl4), SqK.tup (y5 _ _ hv), pl_len, rw1, by lia, fun j hj => mulL (nfl j hj).1 (nfl j hj).2, fun H6 y6 => ?_⟩
    have z6 := y5.trans y6
    refine ⟨.inl ⟨rfl, _, SqL.of (z6 _ _ hDi)⟩, ?_⟩
    refine ⟨true, true, a, rs[i], ns, (vks t)[i], t, rfl, SqK.tup (z6 _ _ ha4), SqK.tup (z6 _ _ hv), hl, rw1, by lia, fun j hj => mulR (nfv j hj).1 (nfv j hj).2, fun H7 y7 => ?_⟩
    have z7 := z6.trans y7
    refine ⟨⟨by lia, by lia⟩, ?_⟩
    refine ⟨_, z7 _ _ hDi, by rw [List.length_map, List.length_take]; exact small1000 (by lia), ?_⟩
    refine ⟨(y.then z7).put, by lia, ?_, _, _, rfl⟩
    rw [upd_same, bds_take _ (by lia), List.map_append]
    have e : (dotTo ns (vks t)[i] t).sum + ((dotTo (plc t) ns t).sum + (dotTo (plc t) (vks t)[i] t).sum + 2 * ((t : Int) - cw t)) / (t : Int) = bend t (nf ns) i := by rw [dot_pl, dot_pv hi2, dot_plv hi2]; rfl
    rw [← e]
    rfl
  · rintro σ H' ⟨y, _, hDi, x5, x6, rfl⟩
    rw [List.length_map, tl1, vl, List.take_of_length_le (by unfold bds; simp)] at hDi
    refine q D H' (fun b o e => ?_) hDi
    exact y b o (ne_of_none e hHD) (y3 _ _ (g12 _ _ e))
theorem sc_br : FnScope ["rises", "total", "told", "rise", "first"] ["rises", "total"] (defScope (top 23)) := ⟨rfl, rfl, rfl, by decide +kernel, rfl, by decide +kernel, by decide +kernel⟩
noncomputable def sp_br : Sp := fun vs H Q _ => ∃ (a : Addr) (rs : List Int) (c : Int), vs = [.ref a, .int c] ∧ H a = some (.lst (rs.map V.int)) ∧ rs.length ≤ 100 ∧ ∀ p H', H p = none → Same H H' → H' p = some (.lst ((br rs c).map V.int)) → Q (.ref p) H'
theorem ok_br (F : Fun K "by_rises" "by_rises" (top 23) f fd) (m_len : mg "len" = none) (m_sum : mg "sum" = none) : FnOk P w K mg base CX0 1 f fd ["rises", "total"] sp_br := by
  refine F.okz sc_br (fun vs H Q E h => ?_) (fun cdv A outer s H vs Q E hr h => ?_)
  · obtain ⟨a, rs, c, rfl, _⟩ := h; rfl
  obtain ⟨a, rs, c, rfl, ha, hl, q⟩ := h
  have nd := sc_br.nd
  have hu := hr.units
  refine ⟨_, (zss_cons (zs_set (i := 2) nd rfl (Or.inl rfl) (ze_lst (za_cons ze_int za_nil)))
      (zss_cons (zs_for PassesOwn.never rfl (zi_list (zn 0)) (zg_name (i := 3) nd rfl (Or.inl rfl)) (zss_one (zs_expr (zm_append (zn 2) (za_cons (ze_op op_addP (ze_ix ix_P (zn 2) (ze_un un_neg ze_int) (fun _ _ => rfl)) (zn 3)) za_nil)))))
      (zss_cons (zs_set (i := 4) nd rfl (Or.inr rfl) (ze_op op_fdivP (ze_op op_subP (zn 1) (zcb_sum rfl rfl m_sum (za_cons (zn 2) za_nil) rfl rfl)) (zcb_len rfl m_len (za_cons (zn 2) za_nil) rfl rfl)))
      (zss_one (zs_ret (ze_comp ["number"] [("first", 4)] rfl ⟨rfl, by decide +kernel, by decide +kernel, rfl, rfl⟩ (zi_list (zn 2)) kpg_name (fun _ _ _ _ => zg_name (i := 0) (show List.Nodup (["number", "first"] : List Str) by decide +kernel) rfl (Or.inl rfl)) (fun _ _ _ _ => zif_nil) (fun _ _ _ _ => (ze_op op_addP (zn 1) (zn 0))))))))), ?_⟩
  refine ⟨by show 1 ≤ sizeLine; decide, fun D hD => ?_⟩
  have g0 := Same.new hD (.lst [V.int 0])
  have hDD : upd H D (.lst [V.int 0]) D = some (.lst [V.int 0]) := upd_same
  have ha1 := g0 _ _ ha
  have aD : a ≠ D := ne_of_none ha hD
  generalize upd H D (.lst [V.int 0]) = H1 at g0 hDD ha1
  refine ⟨a, rfl, ⟨_, SqL.of ha1⟩, for_list (xs := rs.map V.int) (fun i σ H' => SmX D H1 H' ∧ i ≤ rs.length ∧ H' D = some (.lst ((ups rs (i + 1)).map V.int)) ∧ ∃ x3, σ = [some (.ref a), some (.int c), some (.ref D), x3, none]) ⟨SmX.refl _ _, Nat.zero_le _, hDD, _, rfl⟩ ?_ ?_ ?_⟩
  · rintro i σ H' _ ⟨y, _⟩
    exact SqL.of (y _ _ aD ha1)
  · rintro i x σ H' hx ⟨y, _, hDi, x3, rfl⟩
    have hi : i < rs.length := by
      have := (List.getElem?_eq_some_iff.mp hx).1
      rwa [List.length_map] at this
    have ex : x = .int rs[i] := by rw [getI hi] at hx; exact (Option.some.inj hx).symm
    subst ex
    refine ⟨.inl ⟨rfl, _, SqL.of hDi⟩, ?_⟩
    refine ⟨1, rfl, _, .inl (SqL.of hDi), .int (rs.take i).sum, ups_last rs i, ?_⟩
    refine ⟨_, hDi, by rw [List.length_map, ups_len]; exact small1000 (by lia), ?_⟩
    refine ⟨y.put, by lia, ?_, _, rfl⟩
    rw [upd_same, ups_succ rs (i + 1), List.map_append, take_up hi]
    rfl
  · rintro σ H' ⟨y, _, hDi, x3, rfl⟩
    rw [List.length_map] at hDi
    refine ⟨_, .inl (SqL.of hDi), ?_⟩
    refine ⟨_, .inl (SqL.of hDi), ?_⟩
    rw [List.length_map, ups_len]
    refine ⟨⟨by lia, by lia⟩, ?_⟩
    refine ⟨D, rfl, ⟨_, SqL.of hDi⟩, cmp_list (xs := (ups rs (rs.length + 1)).map V.int) (fun i zs H2 => H2 = H' ∧ zs = ((br rs c).take i).map V.int) ⟨rfl, rfl⟩ ?_ ?_ ?_⟩
    · rintro i zs H2 _ ⟨rfl, _⟩
      exact SqL.of hDi
    · rintro i x zs H2 hx ⟨rfl, rfl⟩
      have hi : i < (ups rs (rs.length + 1)).length := by
        have := (List.getElem?_eq_some_iff.mp hx).1
        rwa [List.length_map] at this
      have ex : x = .int (ups rs (rs.length + 1))[i] := by rw [getI hi] at hx; exact (Option.some.inj hx).symm
      subst ex
      have hi2 := hi
      rw [ups_len] at hi2
      refine ⟨by rw [List.length_map, List.length_take]; exact small1000 (by lia), ?_⟩
      refine ⟨rfl, ?_⟩
      have hb : i < (br rs c).length := by unfold br; rw [List.length_map, ups_len]; exact hi2
      rw [List.take_succ, List.getElem?_eq_getElem hb, List.map_append]
      congr 1
      simp [br]
    · rintro zs H2 ⟨rfl, rfl⟩ L hL
      rw [List.length_map, ups_len, List.take_of_length_le (by unfold br; rw [List.length_map, ups_len]; exact Nat.le_refl _)]
      refine q L _ ?_ (fun b o e => ?_) upd_same
      · refine fresh_back (H' := H2) (fun b o e => ?_) hL
        exact y b o (ne_of_none e hD) (g0 _ _ e)
      · rw [upd_ne (fun z => by rw [z] at e; have := y L o (ne_of_none e hD) (g0 _ _ e); rw [hL] at this; cases this)]
        exact y b o (ne_of_none e hD) (g0 _ _ e)
end
end K47
set_option Elab.async false
set_option linter.all false
set_option maxRecDepth 100000
set_option maxHeartbeats 4000000
namespace K47
open PySem L2 M39 M40 M43 M48 M47
theorem cut_init {ws : List Int} {m : Nat} (h : ws.length = m + 1) : cutV (ws.map V.int) none (some (-1)) = (ws.take m).map V.int := by
  unfold cutV
  have e : HT.sIx (ws.map V.int).length (ws.map V.int).length (some (-1)) = m := by
    rw [List.length_map, h]
    unfold HT.sIx
    dsimp only
    rw [if_pos (by decide)]
    lia
  rw [HT.sIx_none, e, List.drop_zero, Nat.sub_zero, List.map_take]
theorem br_len (rs : List Int) (c : Int) : (br rs c).length = rs.length + 1 := by unfold br; rw [List.length_map, ups_len]
theorem bds_len (t : Nat) (n : Nat → Int) : (bds t n).length = t := by unfold bds; simp
theorem rss_len {t : Nat} (n : Nat → Int) (h : 0 < t) : (rss t n).length = t := by unfold rss; rw [br_len, List.length_map, List.length_drop, bds_len]; lia
section
variable {P : Program} {w : World} {K : PySem.W.Frag} {mg : Str → Option Value} {base : Heap} {f : Addr} {fd : FuncData}
theorem sc_fo : FnScope ["t", "numbers", "rises"] ["t", "numbers"] (defScope (top 24)) := ⟨rfl, rfl, rfl, by decide +kernel, rfl, by decide +kernel, by decide +kernel⟩
noncomputable def sp_fo : Sp := fun vs H Q _ => ∃ (a : Addr) (ns : List Int) (t : Nat), vs = [.int t, .ref a] ∧ H a = some (.tup (ns.map V.int)) ∧ T3 t ∧ ns.length = t ∧ (∀ n ∈ ns, Bt n) ∧ sz ns % (t : Int) = cw t ∧ ∀ r H', Same H H' → H' r = some (.tup ((frm t (nf ns)).map V.int)) → Q (.ref r) H'
theorem ok_fo (F : Fun K "frame_of" "frame_of" (top 24) f fd) (m_tuple : mg "tuple" = none) (F_bends_of : FnA P w K mg base "bends_of" 5 ["t", "numbers"] sp_bo) (F_by_rises : FnA P w K mg base "by_rises" 1 ["rises", "total"] sp_br) (F_size_of : FnA P w K mg base "size_of" 1 ["numbers"] sp_sz) (F_weight_of_round : FnA P w K mg base "weight_of_round" 1 ["t"] sp_wr) : FnOk P w K mg base CX0 6 f fd ["t", "numbers"] sp_fo := by
  refine F.okz sc_fo (fun vs H Q E h => ?_) (fun cdv A outer s H vs Q E hr h => ?_)
  · obtain ⟨a, ns, t, rfl, _⟩ := h; rfl
  obtain ⟨a, ns, t, rfl, ha, h3, hl, hb, hs, q⟩ := h
  have nd := sc_fo.nd
  have hu := hr.units
  have tl : 5 ≤ t ∧ t ≤ 11 := by rcases h3 with rfl | rfl | rfl <;> decide
  refine ⟨_, (zss_cons (zs_if (zt_cmpP (op_neD hu) (ze_op op_modP (ze_fn F_size_of hr (by decide) rfl (za_cons (zn 1) za_nil)) (zn 0)) (ze_fn F_weight_of_round hr (by decide) rfl (za_cons (zn 0) za_nil)) (nomark _)) (zss_one zs_no) zss_nil)
      (zss_cons (zs_set (i := 2) nd rfl (Or.inl rfl) (ze_fn F_by_rises hr (by decide) rfl (za_cons (ze_comp ["bend"] [] rfl ⟨rfl, by decide +kernel, by decide +kernel, rfl, rfl⟩ (zi_list (ze_slice sl_P (ze_fn F_bends_of hr (by decide) rfl (za_cons (zn 0) (za_cons (zn 1) za_nil))) (zo_some ze_int) zo_none)) kpg_name (fun _ _ _ _ => zg_name (i := 0) (show List.Nodup (["bend"] : List Str) by decide +kernel) rfl (Or.inl rfl)) (fun _ _ _ _ => zif_nil) (fun _ _ _ _ => (ze_un un_neg (zn 0)))) (za_cons ze_int za_nil))))
      (zss_one (zs_ret (zcb_tuple rfl m_tuple (za_cons (ze_fn F_by_rises hr (by decide) rfl (za_cons (ze_slice sl_P (zn 2) zo_none (zo_some (ze_un un_neg ze_int))) (za_cons ze_int za_nil))) za_nil) rfl rfl))))), ?_⟩
  refine ⟨a, ns, rfl, ha, by lia, hb, fun H1 y1 => ?_⟩
  refine ⟨by lia, ?_⟩
  refine ⟨t, rfl, h3, ?_⟩
  refine iteB (fun c => by simp [hs] at c) (fun _ => ?_)
  refine ⟨a, ns, t, rfl, y1 _ _ ha, h3, hl, fun p H2 y2 hp => ?_⟩
  refine ⟨_, rfl, p, rfl, .inr ⟨_, SqL.of hp, fun c1 hc1 => ?_⟩⟩
  have e1 := cut_drop (bds t (nf ns)) 1
  have e1 : cutV ((bds t (nf ns)).map V.int) (some 1) none = ((bds t (nf ns)).drop 1).map V.int := e1
  rw [e1]
  have z2 := (y1.trans y2).trans (Same.new hc1 (.lst (((bds t (nf ns)).drop 1).map V.int)))
  have hc : upd H2 c1 (.lst (((bds t (nf ns)).drop 1).map V.int)) c1 = some (.lst (((bds t (nf ns)).drop 1).map V.int)) := upd_same
  generalize upd H2 c1 (.lst (((bds t (nf ns)).drop 1).map V.int)) = H3 at z2 hc
  have dl : ((bds t (nf ns)).drop 1).length = t - 1 := by rw [List.length_drop, bds_len]
  refine ⟨c1, rfl, ⟨_, SqL.of hc⟩, cmp_list (xs := ((bds t (nf ns)).drop 1).map V.int) (fun i zs H' => H' = H3 ∧ zs = ((((bds t (nf ns)).drop 1).map fun b => -b).take i).map V.int) ⟨rfl, rfl⟩ ?_ ?_ ?_⟩
  · rintro i zs H' _ ⟨rfl, _⟩
    exact SqL.of hc
  · rintro i x zs H' hx ⟨rfl, rfl⟩
    have hi : i < ((bds t (nf ns)).drop 1).length := by
      have := (List.getElem?_eq_some_iff.mp hx).1
      rwa [List.length_map] at this
    have ex : x = .int ((bds t (nf ns)).drop 1)[i] := by rw [getI hi] at hx; exact (Option.some.inj hx).symm
    subst ex
    refine ⟨by rw [List.length_map, List.length_take, List.length_map]; exact small1000 (by lia), ?_⟩
    refine ⟨_, rfl, ?_⟩
    refine ⟨rfl, ?_⟩
    rw [List.take_succ, List.getElem?_map, List.getElem?_eq_getElem hi, List.map_append]
    rfl
  · rintro zs H' ⟨rfl, rfl⟩ D hD
    rw [List.length_map, List.take_of_length_le (by rw [List.length_map]; exact Nat.le_refl _)]
    have z4 := z2.trans (Same.new hD (.lst ((((bds t (nf ns)).drop 1).map fun b => -b).map V.int)))
    have hDD : upd H' D (.lst ((((bds t (nf ns)).drop 1).map fun b => -b).map V.int)) D = some (.lst ((((bds t (nf ns)).drop 1).map fun b => -b).map V.int)) := upd_same
    generalize upd H' D (.lst ((((bds t (nf ns)).drop 1).map fun b => -b).map V.int)) = H4 at z4 hDD
    refine ⟨D, _, 0, rfl, hDD, by rw [List.length_map]; lia, fun p5 H5 _ y5 hp5 => ?_⟩
    have hp5 : H5 p5 = some (.lst ((rss t (nf ns)).map V.int)) := hp5
    refine ⟨1, rfl, _, rfl, p5, rfl, .inr ⟨_, SqL.of hp5, fun c6 hc6 => ?_⟩⟩
    rw [cut_init (m := t - 1) (by rw [rss_len _ (by lia)]; lia)]
    have z6 := (z4.trans y5).trans (Same.new hc6 (.lst (((rss t (nf ns)).take (t - 1)).map V.int)))
    refine ⟨c6, _, 1, rfl, upd_same, by rw [List.length_take]; lia, fun p7 H7 _ y7 hp7 => ?_⟩
    refine ⟨_, .inl (SqL.of hp7), fun r H8 y8 hr8 => ?_⟩
    exact q r H8 ((z6.trans y7).trans y8) hr8
noncomputable def sp_fx (C : Addr) : Sp := fun vs H _ E => ∃ (a : Addr) (ns : List Int) (t : Nat), vs = [.int t, .ref a] ∧ H a = some (.tup (ns.map V.int)) ∧ T3 t ∧ ns.length = t ∧ (∀ n ∈ ns, Bt n) ∧ sz ns % (t : Int) ≠ cw t ∧ ∀ H', Same H H' → E (.ref C) none H'
theorem ok_fx {C : Addr} (R_NoTurn : RaC K C) (g_NoTurn : mg "NoTurn" = some (.ref C)) (F : Fun K "frame_of" "frame_of" (top 24) f fd) (F_size_of : FnA P w K mg base "size_of" 1 ["numbers"] sp_sz) (F_weight_of_round : FnA P w K mg base "weight_of_round" 1 ["t"] sp_wr) : FnOk P w K mg base (CXF P w) 6 f fd ["t", "numbers"] (sp_fx C) := by
  refine F.okx sc_fo (fun vs H Q E h => ?_) (fun cdv A outer s H vs Q E hr h => ?_)
  · obtain ⟨a, ns, t, rfl, _⟩ := h; rfl
  obtain ⟨a, ns, t, rfl, ha, h3, hl, hb, hs, q⟩ := h
  have nd := sc_fo.nd
  have hu := hr.units
  have tl : 5 ≤ t ∧ t ≤ 11 := by rcases h3 with rfl | rfl | rfl <;> decide
  refine ⟨_, (zss_cons (zs_if (zt_cmpP (op_neD hu) (ze_op op_modP (ze_fn F_size_of hr (by decide) rfl (za_cons (zn 1) za_nil)) (zn 0)) (ze_fn F_weight_of_round hr (by decide) rfl (za_cons (zn 0) za_nil)) (nomark _)) (zss_one (zs_raise R_NoTurn g_NoTurn rfl (za_cons ze_str za_nil))) zss_nil)
      zss_never), ?_⟩
  refine ⟨a, ns, rfl, ha, by lia, hb, fun H1 y1 => ?_⟩
  refine ⟨by lia, ?_⟩
  refine ⟨t, rfl, h3, ?_⟩
  refine iteB (fun _ => ?_) (fun c => by simp [hs] at c)
  exact ⟨by show 1 ≤ sizeLine; decide, q _ y1⟩
end
end K47
set_option Elab.async false
set_option linter.all false
set_option maxRecDepth 100000
set_option maxHeartbeats 4000000
namespace K47
open PySem L2 M39 M40 M43 M48 M47
structure Errs (mg : Str → Option Value) (c0 c1 c2 c3 c4 c5 c6 c7 c8 c9 : Addr) : Prop where
  g0 : mg "PartError" = some (.ref c0)
  g1 : mg "NoRow" = some (.ref c1)
  g2 : mg "NoCore" = some (.ref c2)
  g3 : mg "NoTurn" = some (.ref c3)
  g4 : mg "NoPair" = some (.ref c4)
  g5 : mg "NoList" = some (.ref c5)
  g6 : mg "NoPlace" = some (.ref c6)
  g7 : mg "NoText" = some (.ref c7)
  g8 : mg "NoLine" = some (.ref c8)
  g9 : mg "NotSo" = some (.ref c9)
structure Nine (K : PySem.W.Frag) (C c1 c2 c3 c4 c5 c6 c7 c8 c9 : Addr) : Prop where
  cls : ExC K C
  vE : PySem.W.kitOne K (.ref C) (.type "ValueError") = some true
  ex : ∃ b1 b2 b3 b4 b5 b6 b7 b8 b9, PySem.W.kitOne K (.ref C) (.ref c1) = some b1 ∧ PySem.W.kitOne K (.ref C) (.ref c2) = some b2 ∧ PySem.W.kitOne K (.ref C) (.ref c3) = some b3 ∧ PySem.W.kitOne K (.ref C) (.ref c4) = some b4 ∧ PySem.W.kitOne K (.ref C) (.ref c5) = some b5 ∧ PySem.W.kitOne K (.ref C) (.ref c6) = some b6 ∧ PySem.W.kitOne K (.ref C) (.ref c7) = some b7 ∧ PySem.W.kitOne K (.ref C) (.ref c8) = some b8 ∧ PySem.W.kitOne K (.ref C) (.ref c9) = some b9 ∧ [b1, b2, b3, b4, b5, b6, b7, b8, b9].count true = 1
section
variable {P : Program} {w : World} {K : PySem.W.Frag} {mg : Str → Option Value} {base : Heap} {f : Addr} {fd : FuncData} {c0 c1 c2 c3 c4 c5 c6 c7 c8 c9 : Addr}
theorem sc_ot : FnScope ["_law_error", "_law_some"] ["_law_error"] (defScope (top 36)) := ⟨rfl, rfl, rfl, by decide +kernel, rfl, by decide +kernel, by decide +kernel⟩
noncomputable def sp_ot (K : PySem.W.Frag) (c1 c2 c3 c4 c5 c6 c7 c8 c9 : Addr) : Sp := fun vs H Q _ => ∃ (e C : Addr), vs = [.ref e] ∧ H e = some (.ext (IsX e C)) ∧ Nine K C c1 c2 c3 c4 c5 c6 c7 c8 c9 ∧ ∀ H', Same H H' → Q (.bl true) H'
theorem ok_ot (G : Errs mg c0 c1 c2 c3 c4 c5 c6 c7 c8 c9) (F : Fun K "_law_others" "_law_others" (top 36) f fd) (m_ValueError : mg "ValueError" = none) (m_isinstance : mg "isinstance" = none) : FnOk P w K mg base CX0 1 f fd ["_law_error"] (sp_ot K c1 c2 c3 c4 c5 c6 c7 c8 c9) := by
  obtain ⟨g_PartError, g_NoRow, g_NoCore, g_NoTurn, g_NoPair, g_NoList, g_NoPlace, g_NoText, g_NoLine, g_NotSo⟩ := G
  refine F.okz sc_ot (fun vs H Q E h => ?_) (fun cdv A outer s H vs Q E hr h => ?_)
  · obtain ⟨e, C, rfl, _⟩ := h; rfl
  obtain ⟨e, C, rfl, he, N9, q⟩ := h
  have nd := sc_ot.nd
  have hu := hr.units
  obtain ⟨L, vE, b1, b2, b3, b4, b5, b6, b7, b8, b9, k1, k2, k3, k4, k5, k6, k7, k8, k9, cnt⟩ := N9
  refine ⟨_, (zss_cons (zs_set (i := 1) nd rfl (Or.inl rfl) (ze_lst (za_cons (zcb_isiE rfl m_isinstance (za_cons (zn 0) (za_cons (ze_cls rfl g_NoRow) za_nil)) rfl rfl) (za_cons (zcb_isiE rfl m_isinstance (za_cons (zn 0) (za_cons (ze_cls rfl g_NoCore) za_nil)) rfl rfl) (za_cons (zcb_isiE rfl m_isinstance (za_cons (zn 0) (za_cons (ze_cls rfl g_NoTurn) za_nil)) rfl rfl) za_nil)))))
      (zss_cons (zs_set (i := 1) nd rfl (Or.inl rfl) (ze_op op_addP (zn 1) (ze_lst (za_cons (zcb_isiE rfl m_isinstance (za_cons (zn 0) (za_cons (ze_cls rfl g_NoPair) za_nil)) rfl rfl) (za_cons (zcb_isiE rfl m_isinstance (za_cons (zn 0) (za_cons (ze_cls rfl g_NoList) za_nil)) rfl rfl) (za_cons (zcb_isiE rfl m_isinstance (za_cons (zn 0) (za_cons (ze_cls rfl g_NoPlace) za_nil)) rfl rfl) za_nil))))))
      (zss_cons (zs_set (i := 1) nd rfl (Or.inl rfl) (ze_op op_addP (zn 1) (ze_lst (za_cons (zcb_isiE rfl m_isinstance (za_cons (zn 0) (za_cons (ze_cls rfl g_NoText) za_nil)) rfl rfl) (za_cons (zcb_isiE rfl m_isinstance (za_cons (zn 0) (za_cons (ze_cls rfl g_NoLine) za_nil)) rfl rfl) (za_cons (zcb_isiE rfl m_isinstance (za_cons (zn 0) (za_cons (ze_cls rfl g_NotSo) za_nil)) rfl rfl) za_nil))))))
      (zss_one (zs_ret (ze_andP (ze_cmpR (op_eqD hu) (zm_bcount (zn 1) (za_cons ze_bl za_nil)) ze_int (nomark _)) (ze_one (zcb_isiE rfl m_isinstance (za_cons (zn 0) (za_cons (zty_ValueError rfl m_ValueError) za_nil)) rfl rfl)))))))), ?_⟩
  refine ⟨C, b1, _, he, L, rfl, k1, C, b2, _, he, L, rfl, k2, C, b3, _, he, L, rfl, k3, ?_⟩
  refine ⟨by show 3 ≤ sizeLine; decide, fun d1 hd1 => ?_⟩
  have y1 := Same.new hd1 (.lst [V.bl b1, .bl b2, .bl b3])
  have h1 : upd H d1 (.lst [V.bl b1, .bl b2, .bl b3]) d1 = some (.lst [V.bl b1, .bl b2, .bl b3]) := upd_same
  generalize upd H d1 (.lst [V.bl b1, .bl b2, .bl b3]) = H1 at y1 h1
  have he1 := y1 _ _ he
  refine ⟨C, b4, _, he1, L, rfl, k4, C, b5, _, he1, L, rfl, k5, C, b6, _, he1, L, rfl, k6, ?_⟩
  refine ⟨by show 3 ≤ sizeLine; decide, fun d2 hd2 => ?_⟩
  have y2 := Same.new hd2 (.lst [V.bl b4, .bl b5, .bl b6])
  refine .inl ⟨_, _, y2 _ _ h1, upd_same, by show 6 ≤ sizeLine; decide, fun d3 hd3 => ?_⟩
  have y3 := Same.new hd3 (.lst ([V.bl b1, .bl b2, .bl b3] ++ [V.bl b4, .bl b5, .bl b6]))
  have h3 : upd (upd H1 d2 (.lst [V.bl b4, .bl b5, .bl b6])) d3 (.lst ([V.bl b1, .bl b2, .bl b3] ++ [V.bl b4, .bl b5, .bl b6])) d3 = some (.lst ([V.bl b1, .bl b2, .bl b3] ++ [V.bl b4, .bl b5, .bl b6])) := upd_same
  have he3 := y3 _ _ (y2 _ _ he1)
  have z3 := (y1.trans y2).trans y3
  generalize upd (upd H1 d2 (.lst [V.bl b4, .bl b5, .bl b6])) d3 (.lst ([V.bl b1, .bl b2, .bl b3] ++ [V.bl b4, .bl b5, .bl b6])) = H3 at y3 h3 he3 z3
  refine ⟨C, b7, _, he3, L, rfl, k7, C, b8, _, he3, L, rfl, k8, C, b9, _, he3, L, rfl, k9, ?_⟩
  refine ⟨by show 3 ≤ sizeLine; decide, fun d4 hd4 => ?_⟩
  have y4 := Same.new hd4 (.lst [V.bl b7, .bl b8, .bl b9])
  refine .inl ⟨_, _, y4 _ _ h3, upd_same, by show 9 ≤ sizeLine; decide, fun d5 hd5 => ?_⟩
  have y5 := Same.new hd5 (.lst ([V.bl b1, .bl b2, .bl b3] ++ [V.bl b4, .bl b5, .bl b6] ++ [V.bl b7, .bl b8, .bl b9]))
  have h5 : upd (upd H3 d4 (.lst [V.bl b7, .bl b8, .bl b9])) d5 (.lst ([V.bl b1, .bl b2, .bl b3] ++ [V.bl b4, .bl b5, .bl b6] ++ [V.bl b7, .bl b8, .bl b9])) d5 = some (.lst ([b1, b2, b3, b4, b5, b6, b7, b8, b9].map V.bl)) := upd_same
  have he5 := y5 _ _ (y4 _ _ he3)
  have z5 := (z3.trans y4).trans y5
  generalize upd (upd H3 d4 (.lst [V.bl b7, .bl b8, .bl b9])) d5 (.lst ([V.bl b1, .bl b2, .bl b3] ++ [V.bl b4, .bl b5, .bl b6] ++ [V.bl b7, .bl b8, .bl b9])) = H5 at y5 h5 he5 z5
  refine ⟨.inl ⟨rfl, _, SqL.of h5⟩, ?_⟩
  refine ⟨_, SqL.of h5, ?_⟩
  rw [cnt]
  refine ⟨C, true, _, he5, L, rfl, vE, ?_⟩
  exact q _ z5
theorem sc_as : FnScope ["_law_t", "_law_numbers", "_law_told_here", "_law_caught", "_law_error"] ["_law_t", "_law_numbers"] (defScope (top 37)) := ⟨rfl, rfl, rfl, by decide +kernel, rfl, by decide +kernel, by decide +kernel⟩
noncomputable def sp_as (C : Addr) : Sp := fun vs H Q _ => ∃ (a : Addr) (ns : List Int) (t : Nat), vs = [.int t, .ref a] ∧ H a = some (.tup (ns.map V.int)) ∧ T3 t ∧ ns.length = t ∧ (∀ n ∈ ns, Bt n) ∧
  ((sz ns % (t : Int) = cw t ∧ ∀ d r H', Same H H' → H' d = some (.tup [.ref r, .non]) → H' r = some (.tup ((frm t (nf ns)).map V.int)) → Q (.ref d) H') ∨
   (sz ns % (t : Int) ≠ cw t ∧ ∀ d e H', Same H H' → H' d = some (.tup [.non, .ref e]) → H' e = some (.ext (IsX e C)) → Q (.ref d) H'))
theorem ok_as {C : Addr} (mt : PySem.W.exmOne K (.ref C) (.ref c0) = some true) (G : Errs mg c0 c1 c2 c3 c4 c5 c6 c7 c8 c9) (F : Fun K "_law_asked" "_law_asked" (top 37) f fd)  (R_frame_of : FnR P w K mg base "frame_of" 6 ["t", "numbers"] (fun vs H Q E => sp_fo vs H Q E ∨ sp_fx C vs H Q E)) : FnOk P w K mg base CX0 7 f fd ["_law_t", "_law_numbers"] (sp_as C) := by
  obtain ⟨g_PartError, g_NoRow, g_NoCore, g_NoTurn, g_NoPair, g_NoList, g_NoPlace, g_NoText, g_NoLine, g_NotSo⟩ := G
  refine F.okz sc_as (fun vs H Q E h => ?_) (fun cdv A outer s H vs Q E hr h => ?_)
  · obtain ⟨a, ns, t, rfl, _⟩ := h; rfl
  obtain ⟨a, ns, t, rfl, ha, h3, hl, hb, q⟩ := h
  have nd := sc_as.nd
  have hu := hr.units
  refine ⟨_, (zss_cons (zs_asg (ze_tup (za_cons ze_non (za_cons ze_non za_nil))) (zg_tup rfl (zgs_cons (zg_name (i := 2) nd rfl (Or.inl rfl)) (zgs_cons (zg_name (i := 3) nd rfl (Or.inl rfl)) zgs_nil))))
      (zss_cons (zs_try (pxs_set (i := 2) nd rfl (Or.inl rfl) (zx_call R_frame_of hr (by decide) rfl (za_cons (zn 0) (za_cons (zn 1) za_nil)))) (fun _ => (zss_one (zs_set (i := 3) nd rfl (Or.inl rfl) (zn 4)))) rfl rfl nd (i := 4) rfl rfl rfl g_PartError)
      (zss_one (zs_ret (ze_tup (za_cons (zn 2) (za_cons (zn 3) za_nil))))))), ?_⟩
  refine ⟨by show 2 ≤ sizeLine; decide, fun d0 hd0 => ?_⟩
  have y0 := Same.new hd0 (.tup [V.non, .non])
  refine ⟨d0, _, rfl, SqT.of upd_same, rfl, _, _, rfl, _, _, rfl, rfl, ?_⟩
  generalize upd H d0 (.tup [V.non, .non]) = H1 at y0
  rcases q with ⟨hs, q⟩ | ⟨hs, q⟩
  · refine .inl ⟨a, ns, t, rfl, y0 _ _ ha, h3, hl, hb, hs, fun r H2 y2 hr2 => ?_⟩
    refine ⟨by show 2 ≤ sizeLine; decide, fun d3 hd3 => ?_⟩
    have y3 := Same.new hd3 (.tup [V.ref r, .non])
    exact q d3 r _ ((y0.trans y2).trans y3) upd_same (y3 _ _ hr2)
  · refine .inr ⟨a, ns, t, rfl, y0 _ _ ha, h3, hl, hb, hs, fun H2 y2 => ?_⟩
    refine ⟨C, rfl, mt, fun e he => ?_⟩
    have y3 := Same.new he (.ext (IsX e C))
    refine ⟨by show 2 ≤ sizeLine; decide, fun d4 hd4 => ?_⟩
    have y4 := Same.new hd4 (.tup [V.non, .ref e])
    exact q d4 e _ (((y0.trans y2).trans y3).trans y4) upd_same (y4 _ _ upd_same)
end
end K47
set_option Elab.async false
set_option linter.all false
set_option maxRecDepth 100000
set_option maxHeartbeats 4000000
namespace K47
open PySem L2 M39 M40 M43 M48 M47
noncomputable def DW : List (Key × V) := [(.inl 5, .int 4), (.inl 7, .int 5), (.inl 11, .int 6)]
theorem dw_at {t : Nat} (h3 : T3 t) : valV (mergeK [] DW) (.inl (t : Int)) = some (.int (cw t)) := by rcases h3 with rfl | rfl | rfl <;> rfl
theorem bend_congr {t i : Nat} {n m : Nat → Int} (h : ∀ r, r < t → n r = m r) : bend t n i = bend t m i := by
  have e1 : M47.pv t n i t = M47.pv t m i t := by
    unfold M47.pv
    congr 1
    refine List.map_congr_left fun j hj => ?_
    rw [h j (List.mem_range.mp hj)]
  have e2 : pl n t = pl m t := by
    unfold pl
    congr 1
    refine List.map_congr_left fun j hj => ?_
    rw [h j (List.mem_range.mp hj)]
  unfold bend
  rw [e1, e2]
theorem frm_congr {t : Nat} {n m : Nat → Int} (h : ∀ r, r < t → n r = m r) : frm t n = frm t m := by
  have : bds t n = bds t m := by
    unfold bds
    exact List.map_congr_left fun j _ => bend_congr h
  unfold frm rss
  rw [this]
theorem vby_congr {t : Nat} {g k : Nat → Int} (h : ∀ r, r < t → g r = k r) : vby t g = vby t k := by
  unfold vby dt
  refine List.map_congr_left fun r _ => ?_
  congr 1
  refine List.map_congr_left fun j hj => ?_
  rw [h j (List.mem_range.mp hj)]
theorem nf_rng {t r : Nat} (g : Nat → Int) (h : r < t) : nf ((List.range t).map g) r = g r := by unfold nf; simp [h]
theorem frm_ok {t : Nat} {ns : List Int} (h3 : T3 t) (hl : ns.length = t) (h0 : ns.sum = 0) (hs : sz ns % (t : Int) = cw t) : (frm t (nf ns)).length = t ∧ (frm t (nf ns)).sum = 1 ∧ vby t (nf (frm t (nf ns))) = ns := by
  have hn : ((List.range t).map (nf ns)).sum = 0 := by rw [← hl, nf_list]; exact h0
  have hr : ro t (nf ns) % (t : Int) = cw t := by
    rw [← hs]
    unfold sz
    rw [hl]
    exact (size_ro hn).symm
  obtain ⟨g, g1, g2⟩ := ex_frame h3 hn hr
  have e : frm t (nf ns) = (List.range t).map g := by
    rw [← frm_is h3 g1]
    exact frm_congr fun r hr => (g2 r hr).symm
  rw [e]
  refine ⟨by simp, g1, ?_⟩
  rw [vby_congr (fun r hr => nf_rng g hr)]
  rw [← nf_list ns, hl]
  unfold vby
  exact List.map_congr_left fun r hr => g2 r (List.mem_range.mp hr)
theorem frm_back {t : Nat} {fs : List Int} (h3 : T3 t) (hl : fs.length = t) (h1 : fs.sum = 1) : frm t (nf (vby t (nf fs))) = fs := by
  have hs : ((List.range t).map (nf fs)).sum = 1 := by rw [← hl, nf_list]; exact h1
  have e := frm_is h3 hs
  have e2 : (List.range t).map (nf fs) = fs := by rw [← hl, nf_list]
  rw [e2] at e
  rw [← e]
  have : frm t (dt t (nf fs) t) = fs := e
  rw [this]
  rw [← e]
  refine frm_congr fun r hr => ?_
  rw [e]
  rw [nf_at (show r < (vby t (nf fs)).length by rw [vby_len]; exact hr)]
  simp [vby]
theorem size_back {t : Nat} {fs : List Int} (h3 : T3 t) (hl : fs.length = t) (h1 : fs.sum = 1) : sz (vby t (nf fs)) % (t : Int) = cw t := by
  have hs : ((List.range t).map (nf fs)).sum = 1 := by rw [← hl, nf_list]; exact h1
  have hv : ∀ r, r < t → nf (vby t (nf fs)) r = dt t (nf fs) t r := fun r hr => by
    rw [nf_at (show r < (vby t (nf fs)).length by rw [vby_len]; exact hr)]
    simp [vby]
  have e2 : ro t (nf (vby t (nf fs))) = ro t (dt t (nf fs) t) := by
    unfold ro
    congr 1
    refine List.map_congr_left fun r hr => ?_
    rw [hv r (List.mem_range.mp hr)]
  have z : ((List.range t).map (nf (vby t (nf fs)))).sum = 0 := by
    have : (List.range t).map (nf (vby t (nf fs))) = vby t (nf fs) := by
      have q := nf_list (vby t (nf fs))
      rwa [vby_len] at q
    rw [this]
    exact vby_zero h3 _
  unfold sz
  rw [vby_len, size_ro z, e2]
  exact ro_told h3 hs
end K47
set_option Elab.async false
set_option linter.all false
set_option maxRecDepth 100000
set_option maxHeartbeats 4000000
namespace K47
open PySem L2 M39 M40 M43 M48 M47
theorem bt_big {n : Int} (h1 : -(10 ^ 65) < n) (h2 : n < 10 ^ 65) : Bt n := by
  refine Nat.le_trans (intBits_le_iff (m := 250).mpr ?_) (by decide)
  have h3 : (10 : Int) ^ 65 ≤ ((2 ^ 250 : Nat) : Int) := by decide
  lia
theorem vby_bt {t : Nat} {ns : List Int} (h3 : T3 t) (hl : ns.length = t) (hb : ∀ x ∈ ns, -(10 ^ 60) < x ∧ x < 10 ^ 60) : ∀ n ∈ vby t (nf ns), Bt n := fun n hn => by
  obtain ⟨r, hr, rfl⟩ := List.mem_map.mp hn
  have tl : t ≤ 11 := by rcases h3 with rfl | rfl | rfl <;> decide
  have hr := List.mem_range.mp hr
  have := S_lim (f := nf ns) (v := fun k => vk t k r) (B := 10 ^ 60) (by decide) t (fun k hk => by rw [nf_at (by lia)]; have := hb _ (List.getElem_mem (show k < ns.length by lia)); lia) (fun k hk => by
    have hk2 : k < (vks t).length := by rw [vks_len h3]; exact hk
    have hr2 : r < (vks t)[k].length := by rw [vks_row hk2]; exact hr
    rw [← vk_at hk2 hr2]
    exact vk_lim h3 _ (List.getElem_mem hk2) _ (List.getElem_mem hr2))
  have e : dt t (nf ns) t r = S t fun k => nf ns k * vk t k r := rfl
  rw [e]
  have h4 : (t : Int) * (20 * 10 ^ 60) ≤ 11 * (20 * 10 ^ 60) := Int.mul_le_mul_of_nonneg_right (by lia) (by decide)
  exact bt_big (by lia) (by lia)
noncomputable def lsTo (t : Nat) (ns : List Int) (m : Nat) : List Int := (List.range m).map fun (r : Nat) => (t : Int) * nf ns r * nf ns r + 2 * (r : Int) * nf ns r
theorem lsTo_succ (t : Nat) (ns : List Int) (m : Nat) : lsTo t ns (m + 1) = lsTo t ns m ++ [(t : Int) * nf ns m * nf ns m + 2 * (m : Int) * nf ns m] := by unfold lsTo; rw [List.range_succ, List.map_append]; rfl
theorem lsTo_len (t : Nat) (ns : List Int) (m : Nat) : (lsTo t ns m).length = m := by unfold lsTo; simp
theorem lsTo_sum (t : Nat) (ns : List Int) : ∀ m, (lsTo t ns m).sum = (t : Int) * sq m (nf ns) + 2 * ro m (nf ns)
  | 0 => by simp [lsTo, sq, ro]
  | m + 1 => by
    have e1 : sq (m + 1) (nf ns) = sq m (nf ns) + nf ns m * nf ns m := by unfold sq; rw [List.range_succ, List.map_append, List.sum_append]; simp
    have e2 : ro (m + 1) (nf ns) = ro m (nf ns) + (m : Int) * nf ns m := by unfold ro; rw [List.range_succ, List.map_append, List.sum_append]; simp
    rw [lsTo_succ, List.sum_append, lsTo_sum t ns m, e1, e2]
    simp only [List.sum_cons, List.sum_nil]
    grind
theorem lsTo_sz {t : Nat} {ns : List Int} (hl : ns.length = t) : (lsTo t ns t).sum / 2 = sz ns := by
  rw [lsTo_sum, half_add]
  unfold sz
  rw [hl]
theorem bt_sm {a n : Int} (h1 : -(2 ^ 64) < a) (h2 : a < 2 ^ 64) (h : Bt n) : Builtin.Int.intBits (a * n) ≤ 2 ^ 20 := Nat.le_trans (intBits_mul_le (intBits_le_64 h1 h2) h) (by decide)
theorem ty_tup {H : Hp} {r : Addr} {xs : List V} (h : H r = some (.tup xs)) : tyName H (.ref r) = some "tuple" := by
  show (match H r with | some (HO.lst xs) => some "list" | some (HO.tup xs) => some "tuple" | some (HO.dK kvs) => some "dict" | x => none) = _
  rw [h]
theorem all_yes (n : Nat) : (List.replicate n true).all id = true := by
  rw [List.all_eq_true]
  intro x hx
  rw [List.eq_of_mem_replicate hx]
  rfl
section
variable {P : Program} {w : World} {K : PySem.W.Frag} {mg : Str → Option Value} {base : Heap} {f : Addr} {fd : FuncData} {c0 c1 c2 c3 c4 c5 c6 c7 c8 c9 : Addr}
theorem sc_ri : FnScope ["_law_t", "_law_numbers", "_law_c", "_law_size", "_law_again", "_law_told_here", "_law_caught"] ["_law_t", "_law_numbers"] (defScope (top 38)) := ⟨rfl, rfl, rfl, by decide +kernel, rfl, by decide +kernel, by decide +kernel⟩
noncomputable def sp_ri : Sp := fun vs H Q _ => ∃ (a : Addr) (ns : List Int) (t : Nat), vs = [.int t, .ref a] ∧ H a = some (.tup (ns.map V.int)) ∧ T3 t ∧ ns.length = t ∧ (∀ n ∈ ns, Bt n) ∧ ns.sum = 0 ∧ ∀ H', Same H H' → Q (.bl true) H'
theorem ok_ri (N9 : Nine K c3 c1 c2 c3 c4 c5 c6 c7 c8 c9) (me : PySem.W.kitOne K (.ref c3) (.ref c3) = some true) (G : Errs mg c0 c1 c2 c3 c4 c5 c6 c7 c8 c9) (F : Fun K "_law_right" "_law_right" (top 38) f fd) (m_all : mg "all" = none) (m_enumerate : mg "enumerate" = none) (m_int : mg "int" = none) (m_isinstance : mg "isinstance" = none) (m_len : mg "len" = none) (m_range : mg "range" = none) (m_sum : mg "sum" = none) (m_tuple : mg "tuple" = none) (F_law_asked : FnA P w K mg base "_law_asked" 7 ["_law_t", "_law_numbers"] (sp_as c3)) (F_law_others : FnA P w K mg base "_law_others" 1 ["_law_error"] (sp_ot K c1 c2 c3 c4 c5 c6 c7 c8 c9)) (F_law_told : FnA P w K mg base "_law_told" 3 ["_law_t", "_law_frame_here"] sp_to) : FnOk P w K mg base CX0 8 f fd ["_law_t", "_law_numbers"] sp_ri := by
  obtain ⟨g_PartError, g_NoRow, g_NoCore, g_NoTurn, g_NoPair, g_NoList, g_NoPlace, g_NoText, g_NoLine, g_NotSo⟩ := G
  refine F.okz sc_ri (fun vs H Q E h => ?_) (fun cdv A outer s H vs Q E hr h => ?_)
  · obtain ⟨a, ns, t, rfl, _⟩ := h; rfl
  obtain ⟨a, ns, t, rfl, ha, h3, hl, hb, h0, q⟩ := h
  have nd := sc_ri.nd
  have hu := hr.units
  have hu1 := hu_of hr
  have tl : 5 ≤ t ∧ t ≤ 11 := by rcases h3 with rfl | rfl | rfl <;> decide
  refine ⟨_, (zss_cons (zs_set (i := 2) nd rfl (Or.inl rfl) (ze_dget hu1 (ze_disp (zps_cons ze_int ze_int (zps_cons ze_int ze_int (zps_cons ze_int ze_int zps_nil))) rfl rfl (by decide) (by decide)) (zn 0) (fun _ _ => rfl)))
      (zss_cons (zs_set (i := 3) nd rfl (Or.inl rfl) (ze_op op_fdivP (zcb_sum rfl rfl m_sum (za_cons (ze_comp ["_law_where", "_law_number_here"] [("_law_t", 0)] rfl ⟨rfl, by decide +kernel, by decide +kernel, rfl, rfl⟩ (zi_enumK rfl m_enumerate (za_cons (zn 1) za_nil)) kpg_two (fun _ _ _ _ => zg_tup rfl (zgs_cons (zg_name (i := 0) (show List.Nodup (["_law_where", "_law_number_here", "_law_t"] : List Str) by decide +kernel) rfl (Or.inl rfl)) (zgs_cons (zg_name (i := 1) (show List.Nodup (["_law_where", "_law_number_here", "_law_t"] : List Str) by decide +kernel) rfl (Or.inl rfl)) zgs_nil))) (fun _ _ _ _ => zif_nil) (fun _ _ _ _ => (ze_op op_addP (ze_op op_mulQ (ze_op op_mulQ (zn 2) (zn 1)) (zn 1)) (ze_op op_mulQ (ze_op op_mulQ ze_int (zn 0)) (zn 1))))) za_nil) rfl rfl) ze_int))
      (zss_cons (zs_for PassesOwn.never rfl (zi_range1 rfl m_range (za_cons ze_int za_nil)) (zg_name (i := 4) nd rfl (Or.inl rfl)) (zss_cons (zs_asg (ze_fn F_law_asked hr (by decide) rfl (za_cons (zn 0) (za_cons (zn 1) za_nil))) (zg_tup rfl (zgs_cons (zg_name (i := 5) nd rfl (Or.inl rfl)) (zgs_cons (zg_name (i := 6) nd rfl (Or.inl rfl)) zgs_nil))))
      (zss_one (zs_if (zt_cmpP (op_neD hu) (ze_op op_modP (zn 3) (zn 0)) (zn 2) (nomark _)) (zss_one (zs_if (ZW.zt (zw_or (zt_not (zt_valP (zcb_isiE rfl m_isinstance (za_cons (zn 6) (za_cons (ze_cls rfl g_NoTurn) za_nil)) rfl rfl))) (zw_or1 (zt_not (zt_valP (ze_fn F_law_others hr (by decide) rfl (za_cons (zn 6) za_nil))))))) (zss_one (zs_ret ze_bl)) zss_nil)) (zss_one (zs_if (ZW.zt (zw_or (zt_cmpP op_isntP (zn 6) ze_non (nomark _)) (zw_or (zt_not (zt_valP (zcb_isinstance rfl m_isinstance (za_cons (zn 5) (za_cons (zty_tuple rfl m_tuple) za_nil)) rfl rfl))) (zw_or (zt_cmpP (op_neD hu) (zcb_len rfl m_len (za_cons (zn 5) za_nil) rfl rfl) (zn 0) (nomark _)) (zw_or1 (zt_cmpP (op_neD hu) (zcb_sum rfl rfl m_sum (za_cons (zn 5) za_nil) rfl rfl) ze_int (nomark _))))))) (zss_one (zs_ret ze_bl)) (zss_one (zs_if (ZW.zt (zw_or (zt_not (zt_valP (zcb_all rfl rfl m_all (za_cons (ze_comp ["_law_one"] [] rfl ⟨rfl, by decide +kernel, by decide +kernel, rfl, rfl⟩ (zi_tup (zn 5)) kpg_name (fun _ _ _ _ => zg_name (i := 0) (show List.Nodup (["_law_one"] : List Str) by decide +kernel) rfl (Or.inl rfl)) (fun _ _ _ _ => zif_nil) (fun _ _ _ _ => (zcb_isinstance rfl m_isinstance (za_cons (zn 0) (za_cons (zty_int rfl m_int) za_nil)) rfl rfl))) za_nil) rfl rfl))) (zw_or1 (zt_cmpP (op_neD hu) (ze_fn F_law_told hr (by decide) rfl (za_cons (zn 0) (za_cons (zn 5) za_nil))) (zn 1) (nomark _))))) (zss_one (zs_ret ze_bl)) zss_nil))))))))
      (zss_one (zs_ret ze_bl))))), ?_⟩
  refine fun d8 hd8 => ?_
  refine ⟨upd_same, DW, rfl, by decide, ?_⟩
  refine ⟨d8, _, rfl, .inl ⟨_, .inl (t : Int), .inl upd_same, rfl, (dw_at h3).symm⟩, ?_⟩
  have y1 : Same H (upd (upd H d8 (.dK [])) d8 (.dK (mergeK [] DW))) := fun b o e => by
    have bd : b ≠ d8 := fun z => by rw [z, hd8] at e; cases e
    rw [upd_ne bd, upd_ne bd]
    exact e
  generalize upd (upd H d8 (.dK [])) d8 (.dK (mergeK [] DW)) = H1 at y1
  have ha1 := y1 _ _ ha
  refine ⟨true, _, SqK.tup ha1, cmp_enumK (xs := ns.map V.int) (fun i zs H' => Same H1 H' ∧ zs = (lsTo t ns i).map V.int) ⟨Same.refl _, rfl⟩ ?_ ?_ ?_ ?_⟩
  · rintro i zs H' _ ⟨y, _⟩
    exact SqK.tup (y _ _ ha1)
  · rintro i zs H' hi ⟨_, rfl⟩
    rw [List.length_map] at hi ⊢
    rw [lsTo_len]
    exact small1000 (by lia)
  · rintro i x zs H' p hx ⟨y, rfl⟩ hp
    have hi : i < ns.length := by
      have := (List.getElem?_eq_some_iff.mp hx).1
      rwa [List.length_map] at this
    have ex : x = .int ns[i] := by rw [getI hi] at hx; exact (Option.some.inj hx).symm
    subst ex
    have hbi := hb _ (List.getElem_mem hi)
    refine ⟨p, _, rfl, SqT.of upd_same, rfl, _, _, rfl, _, _, rfl, rfl, ?_⟩
    refine ⟨mulL (by lia) (by lia), IntMulOk.of_bits (bt_sm (by lia) (by lia) hbi) (Nat.le_trans hbi (by decide)), mulL (by decide) (by decide), mulL (by lia) (by lia), ?_⟩
    refine ⟨y.trans (Same.new hp _), ?_⟩
    rw [lsTo_succ, List.map_append, nf_at hi]
    rfl
  rintro zs H' ⟨y, rfl⟩ D hD
  rw [List.length_map, hl]
  refine ⟨_, .inl (SqL.of upd_same), ?_⟩
  refine ⟨⟨by decide, by decide⟩, ?_⟩
  have y2 := (y1.trans y).trans (Same.new hD (.lst ((lsTo t ns t).map V.int)))
  have ha2 := y2 _ _ ha
  generalize upd H' D (.lst ((lsTo t ns t).map V.int)) = H2 at y2 ha2
  have esz := lsTo_sz (t := t) hl
  refine ⟨2, rfl, by decide, by decide, for_range (fun i σ H' => Same H2 H' ∧ ∃ x4 x5 x6, σ = [some (.int t), some (.ref a), some (.int (cw t)), some (.int ((lsTo t ns t).sum / 2)), x4, x5, x6]) ⟨Same.refl _, _, _, _, rfl⟩ ?_ ?_⟩
  · rintro i σ H3 hi ⟨y3, x4, x5, x6, rfl⟩
    have ha3 := y3 _ _ ha2
    by_cases hs : sz ns % (t : Int) = cw t
    · refine ⟨a, ns, t, rfl, ha3, h3, hl, hb, .inl ⟨hs, fun d r H4 y4 hd4 hr4 => ?_⟩⟩
      obtain ⟨f1, f2, f3⟩ := frm_ok h3 hl h0 hs
      refine ⟨d, _, rfl, SqT.of hd4, rfl, _, _, rfl, _, _, rfl, rfl, ?_⟩
      refine ⟨by lia, ?_⟩
      refine iteB (fun c => by simp [esz, hs] at c) (fun _ => ?_)
      refine ⟨"tuple", ty_tup hr4, by decide, ?_⟩
      refine ⟨_, .inr hr4, ?_⟩
      rw [List.length_map, f1]
      refine iteB (fun c => by simp at c) (fun _ => ?_)
      refine ⟨_, .inr hr4, ?_⟩
      rw [f2]
      have ha4 := y4 _ _ ha3
      refine ⟨r, rfl, ⟨_, SqT.of hr4⟩, cmp_tup (xs := (frm t (nf ns)).map V.int) (fun i zs H' => H' = H4 ∧ zs = (List.replicate i true).map V.bl) ⟨rfl, rfl⟩ ?_ ?_ ?_⟩
      · rintro i zs H' _ ⟨rfl, _⟩
        exact SqT.of hr4
      · rintro i x zs H' hx ⟨rfl, rfl⟩
        have hi : i < (frm t (nf ns)).length := by
          have := (List.getElem?_eq_some_iff.mp hx).1
          rwa [List.length_map] at this
        have ex : x = .int (frm t (nf ns))[i] := by rw [getI hi] at hx; exact (Option.some.inj hx).symm
        subst ex
        refine ⟨by rw [List.length_map, List.length_replicate]; exact small1000 (by lia), ?_⟩
        refine ⟨_, rfl, by decide, ?_⟩
        refine ⟨rfl, ?_⟩
        rw [List.replicate_succ', List.map_append]
        rfl
      · rintro zs H' ⟨rfl, rfl⟩ D5 hD5
        rw [List.length_map, f1]
        have y5 := Same.new hD5 (.lst ((List.replicate t true).map V.bl))
        refine ⟨_, SqL.of upd_same, ?_⟩
        rw [all_yes]
        refine ⟨true, r, _, t, rfl, SqK.tup (y5 _ _ hr4), h3, f1, fun v6 H6 y6 hv6 => ?_⟩
        rw [f3] at hv6
        refine ⟨_, _, .ints hv6, .ints (y6 _ _ (y5 _ _ ha4)), shaped_ints _, shaped_ints _, ?_⟩
        rw [if_pos rfl, eqv_self (shaped_ints _)]
        exact ⟨((y3.trans y4).trans y5).trans y6, _, _, _, rfl⟩
    · refine ⟨a, ns, t, rfl, ha3, h3, hl, hb, .inr ⟨hs, fun d e H4 y4 hd4 he4 => ?_⟩⟩
      refine ⟨d, _, rfl, SqT.of hd4, rfl, _, _, rfl, _, _, rfl, rfl, ?_⟩
      refine ⟨by lia, ?_⟩
      refine iteB (fun _ => ?_) (fun c => by simp [esz, hs] at c)
      refine ⟨c3, true, _, he4, N9.cls, rfl, me, ?_⟩
      refine ⟨e, c3, rfl, he4, N9, fun H5 y5 => ?_⟩
      exact ⟨(y3.trans y4).trans y5, _, _, _, rfl⟩
  · rintro σ H3 ⟨y3, x4, x5, x6, rfl⟩
    exact q _ (y2.trans y3)
end
end K47
set_option Elab.async false
set_option linter.all false
set_option maxRecDepth 100000
set_option maxHeartbeats 4000000
namespace K47
open PySem L2 M39 M40 M43 M48 M47
theorem vec_lim {ns : List Int} {t : Nat} (h3 : T3 t) (hl : ns.length ≤ 400) : ∀ x ∈ vec ns t, Bt x := fun x hx => by
  have t0 : 0 < t := by rcases h3 with rfl | rfl | rfl <;> decide
  have t1 : t ≤ 11 := by rcases h3 with rfl | rfl | rfl <;> decide
  obtain ⟨r, _, rfl⟩ := List.mem_map.mp hx
  have h1 : ct ns (t * rd ns t) t r ≤ t * rd ns t := by
    unfold ct
    have := List.countP_le_length (p := fun b => decide (b % (t : Int) = (r : Int))) (l := bd ns (t * rd ns t))
    rwa [bd_len] at this
  have h2 := rd_le ns t0
  have h4 : rd ns t ≤ t * rd ns t := Nat.le_mul_of_pos_left _ t0
  exact bt_of (by lia) (by lia)
noncomputable def bigF (t : Nat) : List Int := [(10 : Int) ^ Int.toNat 59, 1 - (10 : Int) ^ Int.toNat 59] ++ List.replicate (t - 2) 0
theorem bigF_ok {t : Nat} (h3 : T3 t) : Fr t (bigF t) := by rcases h3 with rfl | rfl | rfl <;> exact ⟨by decide, by decide, by decide⟩
theorem at_t3 {i : Nat} {x : V} (h : [V.int 5, .int 7, .int 11][i]? = some x) : ∃ t : Nat, x = .int (t : Int) ∧ T3 t := by
  match i with
  | 0 => exact ⟨5, (Option.some.inj h).symm, .inl rfl⟩
  | 1 => exact ⟨7, (Option.some.inj h).symm, .inr (.inl rfl)⟩
  | 2 => exact ⟨11, (Option.some.inj h).symm, .inr (.inr rfl)⟩
  | n + 3 => simp at h
section
variable {P : Program} {w : World} {K : PySem.W.Frag} {mg : Str → Option Value} {base : Heap} {f : Addr} {fd : FuncData} {c0 c1 c2 c3 c4 c5 c6 c7 c8 c9 : Addr}
theorem sc_law : FnScope ["_law_script", "_law_state", "_law_turn", "_law_t", "_law_figures", "_law_frame_here", "_law_numbers", "_law_some"] ["_law_script"] (defScope (top 39)) := ⟨rfl, rfl, rfl, by decide +kernel, rfl, by decide +kernel, by decide +kernel⟩
noncomputable def sp_law (K : PySem.W.Frag) : Sp := fun vs H Q _ => ∃ (a : Addr) (ns : List Int), vs = [.ref a] ∧ SqL K H a (ns.map V.int) ∧ ns.length ≤ 63 ∧ ∀ H', Q (.bl true) H'
theorem ok_law (F : Fun K "law" "law" (top 39) f fd) (m_range : mg "range" = none) (m_sum : mg "sum" = none) (m_tuple : mg "tuple" = none) (F_law_asked : FnA P w K mg base "_law_asked" 7 ["_law_t", "_law_numbers"] (sp_as c3)) (F_law_frame : FnA P w K mg base "_law_frame" 3 ["_law_state", "_law_t"] sp_fr) (F_law_hand : FnA P w K mg base "_law_hand" 1 ["_law_script"] (sp_hand K)) (F_law_number : FnA P w K mg base "_law_number" 2 ["_law_state", "_law_figures"] sp_nu) (F_law_parting : FnA P w K mg base "_law_parting" 2 ["_law_state", "_law_most"] sp_parting) (F_law_right : FnA P w K mg base "_law_right" 8 ["_law_t", "_law_numbers"] sp_ri) (F_law_same : FnA P w K mg base "_law_same" 4 ["_law_found", "_law_due"] (sp_sm 4)) (F_law_take : FnA P w K mg base "_law_take" 1 ["_law_state", "_law_many"] sp_take) (F_law_told : FnA P w K mg base "_law_told" 3 ["_law_t", "_law_frame_here"] sp_to) (F_law_vector : FnA P w K mg base "_law_vector" 2 ["_law_parting_here", "_law_t", "_law_more"] sp_lvector) : FnOk P w K mg base CX0 9 f fd ["_law_script"] (sp_law K) := by
  refine F.okz sc_law (fun vs H Q E h => ?_) (fun cdv A outer s H vs Q E hr h => ?_)
  · obtain ⟨a, ns, rfl, _⟩ := h; rfl
  obtain ⟨a, ns, rfl, hS, hl, q⟩ := h
  have nd := sc_law.nd
  have hu := hr.units
  have tail : ∃ t, ZSs (cxOf CX0 P w K mg base ["_law_script", "_law_state", "_law_turn", "_law_t", "_law_figures", "_law_frame_here", "_law_numbers", "_law_some"] "law" (defScope (top 39)) f cdv A outer s H E).nox ((defBody (top 39)).drop 2) t ∧
      ∀ (H1 : Hp) (s0 s1 s2 s3 s4 s5 s6 s7 : Option V), t { nx := fun _ H' => Q .non H', rt := Q } [s0, s1, s2, s3, s4, s5, s6, s7] H1 := by
    refine ⟨_, (zss_cons (zs_for PassesOwn.never rfl (zi_tup (ze_tup (za_cons ze_int (za_cons ze_int (za_cons ze_int za_nil))))) (zg_name (i := 3) nd rfl (Or.inl rfl)) (zss_cons (zs_set (i := 5) nd rfl (Or.inl rfl) (ze_op op_addP (ze_tup (za_cons (ze_op op_powP ze_int ze_int) (za_cons (ze_op op_subP ze_int (ze_op op_powP ze_int ze_int)) za_nil))) (ze_op op_mulQ (ze_tup (za_cons ze_int za_nil)) (ze_op op_subP (zn 3) ze_int))))
      (zss_one (zs_if (ZW.zt (zw_or (zt_not (zt_valP (ze_fn F_law_same hr (by decide) rfl (za_cons (ze_ix ix_P (ze_fn F_law_asked hr (by decide) rfl (za_cons (zn 3) (za_cons (ze_fn F_law_told hr (by decide) rfl (za_cons (zn 3) (za_cons (zn 5) za_nil))) za_nil))) ze_int (fun _ _ => rfl)) (za_cons (zn 5) za_nil))))) (zw_or1 (zt_not (zt_valP (ze_fn F_law_right hr (by decide) rfl (za_cons (zn 3) (za_cons (ze_op op_mulQ (ze_tup (za_cons ze_int za_nil)) (zn 3)) za_nil)))))))) (zss_one (zs_ret ze_bl)) zss_nil))))
      (zss_one (zs_ret ze_bl))), ?_⟩
    intro H1 s0 s1 s2 s3 s4 s5 s6 s7
    refine ⟨by show 3 ≤ sizeLine; decide, fun d hd => ?_⟩
    have hdd : upd H1 d (.tup [V.int 5, .int 7, .int 11]) d = some (.tup [V.int 5, .int 7, .int 11]) := upd_same
    generalize upd H1 d (.tup [V.int 5, .int 7, .int 11]) = H2 at hdd
    refine ⟨d, rfl, ⟨_, SqT.of hdd⟩, for_tup (xs := [V.int 5, .int 7, .int 11]) (fun i σ H' => Same H2 H' ∧ ∃ x0 x1 x2 x3 x4 x5 x6 x7, σ = [x0, x1, x2, x3, x4, x5, x6, x7]) ⟨Same.refl _, _, _, _, _, _, _, _, _, rfl⟩ ?_ ?_ ?_⟩
    · rintro i σ H' _ ⟨y, _⟩
      exact SqT.of (y _ _ hdd)
    · rintro i x σ H' hx ⟨y, x0, x1, x2, x3, x4, x5, x6, x7, rfl⟩
      obtain ⟨t, rfl, h3⟩ := at_t3 hx
      have tl : 5 ≤ t ∧ t ≤ 11 := by rcases h3 with rfl | rfl | rfl <;> decide
      refine ⟨⟨by decide, by decide, by decide⟩, ?_⟩
      refine ⟨⟨by decide, by decide, by decide⟩, ?_⟩
      refine ⟨by show 2 ≤ sizeLine; decide, fun d1 hd1 => ?_⟩
      have y1 := Same.new hd1 (.tup [V.int ((10 : Int) ^ Int.toNat 59), .int (1 - (10 : Int) ^ Int.toNat 59)])
      refine ⟨by show 1 ≤ sizeLine; decide, fun d2 hd2 => ?_⟩
      have y2 := Same.new hd2 (.tup [V.int 0])
      refine ⟨⟨by show -(2 ^ 63) ≤ (t : Int) - 2; lia, by show (t : Int) - 2 < 2 ^ 63; lia⟩, .inr ⟨_, upd_same, le_line (by show 1 * ((t : Int) - 2).toNat ≤ 1000; lia), fun r3 H3 y3 hr3 => ?_⟩⟩
      have e3 : ((t : Int) - 2).toNat = t - 2 := by lia
      rw [rep_flat, e3] at hr3
      refine .inr ⟨_, _, y3 _ _ (y2 _ _ upd_same), hr3, le_line (by rw [List.length_map, List.length_replicate]; show 2 + _ ≤ 1000; lia), fun r4 H4 y4 hr4 => ?_⟩
      have hf : H4 r4 = some (.tup ((bigF t).map V.int)) := by rw [hr4]; unfold bigF; rw [List.map_append]; rfl
      obtain ⟨f1, f2, f4⟩ := bigF_ok h3
      refine ⟨true, r4, bigF t, t, rfl, SqK.tup hf, h3, f1, fun v6 H6 y6 hv6 => ?_⟩
      refine ⟨v6, _, t, rfl, hv6, h3, vby_len _ _, vby_bt h3 f1 f4, .inl ⟨size_back h3 f1 f2, fun d7 r7 H7 y7 hd7 hr7 => ?_⟩⟩
      rw [frm_back h3 f1 f2] at hr7
      refine ⟨_, .inr hd7, .ref r7, rfl, ?_⟩
      refine ⟨.ref r7, .ref r4, _, rfl, .ints hr7, .ints (y7 _ _ (y6 _ _ hf)), nice3 (by rw [f1]; lia), fun H8 y8 => ?_⟩
      refine ⟨by show 1 ≤ sizeLine; decide, fun d9 hd9 => ?_⟩
      have y9 := Same.new hd9 (.tup [V.int 0])
      refine ⟨⟨by lia, by lia⟩, .inr ⟨_, upd_same, le_line (by show 1 * (t : Int).toNat ≤ 1000; lia), fun r10 H10 y10 hr10 => ?_⟩⟩
      rw [rep_flat, Int.toNat_natCast] at hr10
      refine ⟨r10, List.replicate t 0, t, rfl, hr10, h3, by simp, fun n hn => by rw [List.eq_of_mem_replicate hn]; exact bt_of (by decide) (by decide), by rcases h3 with rfl | rfl | rfl <;> decide, fun H11 y11 => ?_⟩
      have z := ((((((((y1.trans y2).trans y3).trans y4).trans y6).trans y7).trans y8).trans y9).trans y10).trans y11
      exact ⟨y.trans z, _, _, _, _, _, _, _, _, rfl⟩
    · rintro σ H' ⟨y, x0, x1, x2, x3, x4, x5, x6, x7, rfl⟩
      exact q _
  obtain ⟨t2, ht2, tail⟩ := tail
  refine ⟨_, (zss_cons (zs_set (i := 1) nd rfl (Or.inr rfl) (ze_fn F_law_hand hr (by decide) rfl (za_cons (zn 0) za_nil)))
      (zss_cons (zs_for PassesOwn.never rfl (zi_range1 rfl m_range (za_cons (ze_op op_addP ze_int (ze_fn F_law_take hr (by decide) rfl (za_cons (zn 1) (za_cons ze_int za_nil)))) za_nil)) (zg_name (i := 2) nd rfl (Or.inl rfl)) (zss_cons (zs_asg (ze_tup (za_cons (ze_ix ix_P (ze_lst (za_cons ze_int (za_cons ze_int (za_cons ze_int za_nil)))) (ze_fn F_law_take hr (by decide) rfl (za_cons (zn 1) (za_cons ze_int za_nil))) (fun _ _ => rfl)) (za_cons (ze_fn F_law_take hr (by decide) rfl (za_cons (zn 1) (za_cons ze_int za_nil))) za_nil))) (zg_tup rfl (zgs_cons (zg_name (i := 3) nd rfl (Or.inl rfl)) (zgs_cons (zg_name (i := 4) nd rfl (Or.inr rfl)) zgs_nil))))
      (zss_cons (zs_set (i := 5) nd rfl (Or.inl rfl) (ze_fn F_law_frame hr (by decide) rfl (za_cons (zn 1) (za_cons (zn 3) za_nil))))
      (zss_cons (zs_set (i := 6) nd rfl (Or.inl rfl) (ze_fn F_law_told hr (by decide) rfl (za_cons (zn 3) (za_cons (zn 5) za_nil))))
      (zss_cons (zs_if (ZW.zt (zw_or (zt_not (zt_valP (ze_fn F_law_same hr (by decide) rfl (za_cons (ze_ix ix_P (ze_fn F_law_asked hr (by decide) rfl (za_cons (zn 3) (za_cons (zn 6) za_nil))) ze_int (fun _ _ => rfl)) (za_cons (zn 5) za_nil))))) (zw_or1 (zt_not (zt_valP (ze_fn F_law_right hr (by decide) rfl (za_cons (zn 3) (za_cons (zn 6) za_nil)))))))) (zss_one (zs_ret ze_bl)) zss_nil)
      (zss_cons (zs_setcomp (i := 7) ["_law_k"] [("_law_state", 1), ("_law_figures", 4)] rfl nd rfl (Or.inl rfl) ⟨rfl, by decide +kernel, by decide +kernel, rfl, rfl⟩ (zi_range1 rfl m_range (za_cons (ze_op op_subP (zn 3) ze_int) za_nil)) kpg_name (fun _ _ _ _ => zg_name (i := 0) (show List.Nodup (["_law_k", "_law_state", "_law_figures"] : List Str) by decide +kernel) rfl (Or.inl rfl)) (fun _ _ _ _ => zif_nil) (fun _ _ _ _ => (ze_fn F_law_number hr (by decide) rfl (za_cons (zn 1) (za_cons (zn 2) za_nil)))))
      (zss_cons (zs_if (zt_not (zt_valP (ze_fn F_law_right hr (by decide) rfl (za_cons (zn 3) (za_cons (zcb_tuple rfl m_tuple (za_cons (ze_op op_addP (zn 7) (ze_lst (za_cons (ze_un un_neg (zcb_sum rfl rfl m_sum (za_cons (zn 7) za_nil) rfl rfl)) za_nil))) za_nil) rfl rfl) za_nil))))) (zss_one (zs_ret ze_bl)) zss_nil)
      (zss_one (zs_if (zt_not (zt_valP (ze_fn F_law_right hr (by decide) rfl (za_cons (zn 3) (za_cons (ze_fn F_law_vector hr (by decide) rfl (za_cons (ze_fn F_law_parting hr (by decide) rfl (za_cons (zn 1) (za_cons ze_int za_nil))) (za_cons (zn 3) (za_cons ze_int za_nil)))) za_nil))))) (zss_one (zs_ret ze_bl)) zss_nil)))))))))
      ht2)), ?_⟩
  refine ⟨a, ns, rfl, hS, hl, fun p H1 hp y1 hh => ?_⟩
  refine ⟨p, 6, 0, rfl, hh, by decide, by decide, by decide, fun m H2 m0 m1 st2 => ?_⟩
  refine ⟨1 + m, rfl, by lia, by lia, for_range (fun i σ H' => i ≤ 6 ∧ Hand H' p (1 + 1000 * i) ∧ ∃ x2 x3 x4 x5 x6 x7, σ = [some (.ref a), some (.ref p), x2, x3, x4, x5, x6, x7]) ⟨by decide, st2.2.mono (by lia), _, _, _, _, _, _, rfl⟩ ?_ ?_⟩
  · rintro i σ H' hi ⟨_, hh, x2, x3, x4, x5, x6, x7, rfl⟩
    have hi6 : i + 1 ≤ 6 := by lia
    refine ⟨by show 3 ≤ sizeLine; decide, fun d hd => ?_⟩
    have yd := Same.new hd (.lst [V.int 5, .int 7, .int 11])
    have hdd : upd H' d (.lst [V.int 5, .int 7, .int 11]) d = some (.lst [V.int 5, .int 7, .int 11]) := upd_same
    have dp : d ≠ p := hh.ne hd
    have hh0 := hh.same yd
    generalize upd H' d (.lst [V.int 5, .int 7, .int 11]) = H2' at hdd hh0
    refine ⟨p, 3, 1 + 1000 * i, rfl, hh0, by lia, by decide, by decide, fun k H3 k0 k1 st3 => ?_⟩
    obtain ⟨t, et, h3⟩ := pickT k0 k1
    have tl : 5 ≤ t ∧ t ≤ 11 := by rcases h3 with rfl | rfl | rfl <;> decide
    refine ⟨_, .inl (SqL.of (st3.1 _ _ dp hdd)), .int t, et, ?_⟩
    refine ⟨p, 4, _, rfl, st3.2, by lia, by decide, by decide, fun fg H4 fg0 fg1 st4 => ?_⟩
    refine ⟨by show 2 ≤ sizeLine; decide, fun d5 hd5 => ?_⟩
    have y5 := Same.new hd5 (.tup [V.int (t : Int), .int fg])
    refine ⟨d5, _, rfl, SqT.of upd_same, rfl, _, _, rfl, _, _, rfl, rfl, ?_⟩
    have hh5 := st4.2.same y5
    generalize upd H4 d5 (.tup [V.int (t : Int), .int fg]) = H5 at hh5
    refine ⟨p, t, _, rfl, hh5, by lia, by lia, by lia, fun r6 H6 fs st6 hr6 hF => ?_⟩
    obtain ⟨f1, f2, f4⟩ := hF
    refine ⟨true, r6, fs, t, rfl, SqK.tup hr6, h3, f1, fun v7 H7 y7 hv7 => ?_⟩
    refine ⟨v7, _, t, rfl, hv7, h3, vby_len _ _, vby_bt h3 f1 f4, .inl ⟨size_back h3 f1 f2, fun d8 r8 H8 y8 hd8 hr8 => ?_⟩⟩
    rw [frm_back h3 f1 f2] at hr8
    refine ⟨_, .inr hd8, .ref r8, rfl, ?_⟩
    refine ⟨.ref r8, .ref r6, _, rfl, .ints hr8, .ints (y8 _ _ (y7 _ _ hr6)), nice3 (by rw [f1]; lia), fun H9 y9 => ?_⟩
    refine ⟨v7, _, t, rfl, y9 _ _ (y8 _ _ hv7), h3, vby_len _ _, vby_bt h3 f1 f4, vby_zero h3 _, fun H10 y10 => ?_⟩
    have hh10 := (((st6.2.same y7).same y8).same y9).same y10
    clear hr6 hv7 hd8 hr8
    refine ⟨(t : Int) - 1, rfl, by lia, by lia, cmp_range (fun j ys H' => Step p (1 + 1000 * i + 1 + 1 + 100 + 5 * j) H10 H' ∧ ∃ ws : List Int, ys = ws.map V.int ∧ ws.length = j ∧ ∀ x ∈ ws, -(10 ^ 58) < x ∧ x < 10 ^ 58) ⟨Step.refl (hh10.mono (by lia)), [], rfl, rfl, fun x hx => (nomatch hx)⟩ ?_ ?_⟩
    · rintro j ys H11 hj ⟨st11, ws, rfl, hl11, hw⟩
      refine ⟨by rw [List.length_map]; exact small1000 (by lia), ?_⟩
      refine ⟨p, fg, _, rfl, st11.2, by lia, fg0, fg1, fun v H12 v0 v1 st12 => ?_⟩
      refine ⟨st11.trans (st12.mono (by lia)), ws ++ [v], by rw [List.map_append]; rfl, by rw [List.length_append, hl11]; rfl, fun x hx => ?_⟩
      rcases List.mem_append.mp hx with hx | hx
      · exact hw x hx
      · have : x = v := by simpa using hx
        subst this
        exact ⟨v0, v1⟩
    rintro ys H11 ⟨st11, ws, rfl, hl11, hw⟩ D hD
    have hlw : ws.length = t - 1 := by lia
    have yD := Same.new hD (.lst (ws.map V.int))
    have hDD : upd H11 D (.lst (ws.map V.int)) D = some (.lst (ws.map V.int)) := upd_same
    have hh12 := st11.2.same yD
    generalize upd H11 D (.lst (ws.map V.int)) = H12 at hDD hh12
    refine ⟨ws, .inl (SqL.of hDD), ?_⟩
    refine ⟨_, rfl, ?_⟩
    refine ⟨by show 1 ≤ sizeLine; decide, fun c2 hc2 => ?_⟩
    have y2 := Same.new hc2 (.lst [V.int (-ws.sum)])
    refine .inl ⟨_, _, y2 _ _ hDD, upd_same, by rw [List.length_map]; exact Nat.le_of_lt (small1000 (by show _ + 1 ≤ 1000; lia)), fun c3' hc3 => ?_⟩
    have y3 := Same.new hc3 (.lst (ws.map V.int ++ [V.int (-ws.sum)]))
    refine ⟨_, .inl (SqL.of upd_same), fun r13 H13 y13 hr13 => ?_⟩
    have lim := sum_lim hw (by lia)
    refine ⟨r13, ws ++ [-ws.sum], t, rfl, by rw [hr13, List.map_append]; rfl, h3, by rw [List.length_append, hlw]; show t - 1 + 1 = t; lia, fun n hn => ?_, by rw [List.sum_append]; simp; lia, fun H14 y14 => ?_⟩
    · rcases List.mem_append.mp hn with hn | hn
      · have := hw n hn
        exact bt_of (by lia) (by lia)
      · have : n = -ws.sum := by simpa using hn
        subst this
        exact bt_of (by lia) (by lia)
    have hh14 := (((hh12.same y2).same y3).same y13).same y14
    refine ⟨p, 60, _, rfl, hh14, by lia, by decide, by decide, fun r15 H15 ms st15 hr15 pr hsum => ?_⟩
    have ml := prt_len pr.1
    refine ⟨r15, ms, t, 0, rfl, hr15, by lia, by lia, by lia, by decide, fun r16 H16 y16 hr16 => ?_⟩
    refine ⟨r16, _, t, rfl, hr16, h3, vec_len _ _, vec_lim h3 (by lia), vec_sum _ (by lia), fun H17 y17 => ?_⟩
    exact ⟨hi6, ((st15.2.same y16).same y17).mono (by lia), _, _, _, _, _, _, rfl⟩
  · rintro σ H' ⟨_, hh, x2, x3, x4, x5, x6, x7, rfl⟩
    exact tail H' _ _ _ _ _ _ _ _
end
end K47
set_option Elab.async false
set_option linter.all false
set_option maxRecDepth 100000
set_option maxHeartbeats 4000000
namespace K47
open PySem L2
theorem fnA {P : Program} {w : World} {K : PySem.W.Frag} {mg : Str → Option Value} {base : Heap} {x : Str} {k : Nat} {ps : List Str} {sp : Sp} {f : Addr} {fd : FuncData} (F : FnOk P w K mg base CX0 k f fd ps sp) (b : Binds K fd ps []) (kp : PySem.W.keepIn K (.ref f) = true) (m : mg x = some (.ref f)) : FnA P w K mg base x k ps sp := ⟨⟨f, fd, F, b, kp, m⟩⟩
theorem us1 {α : Type} {p : List α → Prop} (h : ∀ a, p [a]) : ∀ us : List α, us.length = 1 → p us
  | [a], _ => h a
theorem us2 {α : Type} {p : List α → Prop} (h : ∀ a b, p [a, b]) : ∀ us : List α, us.length = 2 → p us
  | [a, b], _ => h a b
theorem us3 {α : Type} {p : List α → Prop} (h : ∀ a b c, p [a, b, c]) : ∀ us : List α, us.length = 3 → p us
  | [a, b, c], _ => h a b c
theorem all_mk {l : PySem.W.OpenLaw} {w : World} {K : PySem.W.Frag} {h : Heap} {mg : Str → Option Value} {fa f1 f2 f3 f4 f5 f6 f7 f8 f9 f10 f11 f12 f13 f14 f15 f16 f17 f18 f19 f20 f21 f22 f23 f24 f25 : Addr} (X : K.In h) (G : h.Ns mainGlobals mg) (hfa : mg "law" = some (.ref fa))
    {od1 an1 od2 an2 od3 an3 od4 an4 od5 an5 od6 an6 od7 an7 od8 an8 od9 an9 od10 an10 od11 an11 od12 an12 od13 an13 od14 an14 od15 an15 od16 an16 od17 an17 od18 an18 od19 an19 od20 an20 od21 an21 od22 an22 od23 an23 od24 an24 od25 an25 : Option Addr} {sl1 sl2 sl3 sl4 sl5 sl6 sl7 sl8 sl9 sl10 sl11 sl12 sl13 sl14 sl15 sl16 sl17 sl18 sl19 sl20 sl21 sl22 sl23 sl24 sl25 : Array (Option Value)} {oc1 kV1 dc1 pm1 cd1 ct1 oc2 kV2 dc2 pm2 cd2 ct2 oc3 kV3 dc3 pm3 cd3 ct3 oc4 kV4 dc4 pm4 cd4 ct4 oc5 kV5 dc5 pm5 cd5 ct5 oc6 kV6 dc6 pm6 cd6 ct6 oc7 kV7 dc7 pm7 cd7 ct7 oc8 kV8 dc8 pm8 cd8 ct8 oc9 kV9 dc9 pm9 cd9 ct9 oc10 kV10 dc10 pm10 cd10 ct10 oc11 kV11 dc11 pm11 cd11 ct11 oc12 kV12 dc12 pm12 cd12 ct12 oc13 kV13 dc13 pm13 cd13 ct13 oc14 kV14 dc14 pm14 cd14 ct14 oc15 kV15 dc15 pm15 cd15 ct15 oc16 kV16 dc16 pm16 cd16 ct16 oc17 kV17 dc17 pm17 cd17 ct17 oc18 kV18 dc18 pm18 cd18 ct18 oc19 kV19 dc19 pm19 cd19 ct19 oc20 kV20 dc20 pm20 cd20 ct20 oc21 kV21 dc21 pm21 cd21 ct21 oc22 kV22 dc22 pm22 cd22 ct22 oc23 kV23 dc23 pm23 cd23 ct23 oc24 kV24 dc24 pm24 cd24 ct24 oc25 kV25 dc25 pm25 cd25 ct25 : Value}
    (a1 : PySem.W.nsIn K mainGlobals "beads_of" = some (some (.ref f1))) (l1 : K.lookup f1 = some ⟨oc1, od1, .func (PySem.W.fnOf "beads_of" "beads_of" (defArgs (top 12)) (defBody (top 12)) (defScope (top 12)) .none kV1 dc1 pm1 an1 cd1 ct1), sl1⟩) (c1 : PySem.W.codeIn K cd1 "beads_of" = true) (k1 : PySem.W.keepIn K (.ref f1) = true)
    (a2 : PySem.W.nsIn K mainGlobals "rounds_of" = some (some (.ref f2))) (l2 : K.lookup f2 = some ⟨oc2, od2, .func (PySem.W.fnOf "rounds_of" "rounds_of" (defArgs (top 13)) (defBody (top 13)) (defScope (top 13)) .none kV2 dc2 pm2 an2 cd2 ct2), sl2⟩) (c2 : PySem.W.codeIn K cd2 "rounds_of" = true) (k2 : PySem.W.keepIn K (.ref f2) = true)
    (a3 : PySem.W.nsIn K mainGlobals "runs_of" = some (some (.ref f3))) (l3 : K.lookup f3 = some ⟨oc3, od3, .func (PySem.W.fnOf "runs_of" "runs_of" (defArgs (top 14)) (defBody (top 14)) (defScope (top 14)) .none kV3 dc3 pm3 an3 cd3 ct3), sl3⟩) (c3 : PySem.W.codeIn K cd3 "runs_of" = true) (k3 : PySem.W.keepIn K (.ref f3) = true)
    (a4 : PySem.W.nsIn K mainGlobals "vector" = some (some (.ref f4))) (l4 : K.lookup f4 = some ⟨oc4, od4, .func (PySem.W.fnOf "vector" "vector" (defArgs (top 15)) (defBody (top 15)) (defScope (top 15)) .none kV4 dc4 pm4 an4 cd4 ct4), sl4⟩) (c4 : PySem.W.codeIn K cd4 "vector" = true) (k4 : PySem.W.keepIn K (.ref f4) = true)
    (a5 : PySem.W.nsIn K mainGlobals "size_of" = some (some (.ref f5))) (l5 : K.lookup f5 = some ⟨oc5, od5, .func (PySem.W.fnOf "size_of" "size_of" (defArgs (top 16)) (defBody (top 16)) (defScope (top 16)) .none kV5 dc5 pm5 an5 cd5 ct5), sl5⟩) (c5 : PySem.W.codeIn K cd5 "size_of" = true) (k5 : PySem.W.keepIn K (.ref f5) = true)
    (a6 : PySem.W.nsIn K mainGlobals "weight_of_round" = some (some (.ref f6))) (l6 : K.lookup f6 = some ⟨oc6, od6, .func (PySem.W.fnOf "weight_of_round" "weight_of_round" (defArgs (top 19)) (defBody (top 19)) (defScope (top 19)) .none kV6 dc6 pm6 an6 cd6 ct6), sl6⟩) (c6 : PySem.W.codeIn K cd6 "weight_of_round" = true) (k6 : PySem.W.keepIn K (.ref f6) = true)
    (a7 : PySem.W.nsIn K mainGlobals "vectors_of_round" = some (some (.ref f7))) (l7 : K.lookup f7 = some ⟨oc7, od7, .func (PySem.W.fnOf "vectors_of_round" "vectors_of_round" (defArgs (top 20)) (defBody (top 20)) (defScope (top 20)) .none kV7 dc7 pm7 an7 cd7 ct7), sl7⟩) (c7 : PySem.W.codeIn K cd7 "vectors_of_round" = true) (k7 : PySem.W.keepIn K (.ref f7) = true)
    (a8 : PySem.W.nsIn K mainGlobals "sum_of_products" = some (some (.ref f8))) (l8 : K.lookup f8 = some ⟨oc8, od8, .func (PySem.W.fnOf "sum_of_products" "sum_of_products" (defArgs (top 21)) (defBody (top 21)) (defScope (top 21)) .none kV8 dc8 pm8 an8 cd8 ct8), sl8⟩) (c8 : PySem.W.codeIn K cd8 "sum_of_products" = true) (k8 : PySem.W.keepIn K (.ref f8) = true)
    (a9 : PySem.W.nsIn K mainGlobals "bends_of" = some (some (.ref f9))) (l9 : K.lookup f9 = some ⟨oc9, od9, .func (PySem.W.fnOf "bends_of" "bends_of" (defArgs (top 22)) (defBody (top 22)) (defScope (top 22)) .none kV9 dc9 pm9 an9 cd9 ct9), sl9⟩) (c9 : PySem.W.codeIn K cd9 "bends_of" = true) (k9 : PySem.W.keepIn K (.ref f9) = true)
    (a10 : PySem.W.nsIn K mainGlobals "by_rises" = some (some (.ref f10))) (l10 : K.lookup f10 = some ⟨oc10, od10, .func (PySem.W.fnOf "by_rises" "by_rises" (defArgs (top 23)) (defBody (top 23)) (defScope (top 23)) .none kV10 dc10 pm10 an10 cd10 ct10), sl10⟩) (c10 : PySem.W.codeIn K cd10 "by_rises" = true) (k10 : PySem.W.keepIn K (.ref f10) = true)
    (a11 : PySem.W.nsIn K mainGlobals "frame_of" = some (some (.ref f11))) (l11 : K.lookup f11 = some ⟨oc11, od11, .func (PySem.W.fnOf "frame_of" "frame_of" (defArgs (top 24)) (defBody (top 24)) (defScope (top 24)) .none kV11 dc11 pm11 an11 cd11 ct11), sl11⟩) (c11 : PySem.W.codeIn K cd11 "frame_of" = true) (k11 : PySem.W.keepIn K (.ref f11) = true)
    (a12 : PySem.W.nsIn K mainGlobals "_law_hand" = some (some (.ref f12))) (l12 : K.lookup f12 = some ⟨oc12, od12, .func (PySem.W.fnOf "_law_hand" "_law_hand" (defArgs (top 26)) (defBody (top 26)) (defScope (top 26)) .none kV12 dc12 pm12 an12 cd12 ct12), sl12⟩) (c12 : PySem.W.codeIn K cd12 "_law_hand" = true) (k12 : PySem.W.keepIn K (.ref f12) = true)
    (a13 : PySem.W.nsIn K mainGlobals "_law_take" = some (some (.ref f13))) (l13 : K.lookup f13 = some ⟨oc13, od13, .func (PySem.W.fnOf "_law_take" "_law_take" (defArgs (top 27)) (defBody (top 27)) (defScope (top 27)) .none kV13 dc13 pm13 an13 cd13 ct13), sl13⟩) (c13 : PySem.W.codeIn K cd13 "_law_take" = true) (k13 : PySem.W.keepIn K (.ref f13) = true)
    (a14 : PySem.W.nsIn K mainGlobals "_law_parting" = some (some (.ref f14))) (l14 : K.lookup f14 = some ⟨oc14, od14, .func (PySem.W.fnOf "_law_parting" "_law_parting" (defArgs (top 28)) (defBody (top 28)) (defScope (top 28)) .none kV14 dc14 pm14 an14 cd14 ct14), sl14⟩) (c14 : PySem.W.codeIn K cd14 "_law_parting" = true) (k14 : PySem.W.keepIn K (.ref f14) = true)
    (a15 : PySem.W.nsIn K mainGlobals "_law_beads" = some (some (.ref f15))) (l15 : K.lookup f15 = some ⟨oc15, od15, .func (PySem.W.fnOf "_law_beads" "_law_beads" (defArgs (top 29)) (defBody (top 29)) (defScope (top 29)) .none kV15 dc15 pm15 an15 cd15 ct15), sl15⟩) (c15 : PySem.W.codeIn K cd15 "_law_beads" = true) (k15 : PySem.W.keepIn K (.ref f15) = true)
    (a16 : PySem.W.nsIn K mainGlobals "_law_vector" = some (some (.ref f16))) (l16 : K.lookup f16 = some ⟨oc16, od16, .func (PySem.W.fnOf "_law_vector" "_law_vector" (defArgs (top 30)) (defBody (top 30)) (defScope (top 30)) .none kV16 dc16 pm16 an16 cd16 ct16), sl16⟩) (c16 : PySem.W.codeIn K cd16 "_law_vector" = true) (k16 : PySem.W.keepIn K (.ref f16) = true)
    (a17 : PySem.W.nsIn K mainGlobals "_law_same" = some (some (.ref f17))) (l17 : K.lookup f17 = some ⟨oc17, od17, .func (PySem.W.fnOf "_law_same" "_law_same" (defArgs (top 31)) (defBody (top 31)) (defScope (top 31)) .none kV17 dc17 pm17 an17 cd17 ct17), sl17⟩) (c17 : PySem.W.codeIn K cd17 "_law_same" = true) (k17 : PySem.W.keepIn K (.ref f17) = true)
    (a18 : PySem.W.nsIn K mainGlobals "_law_round" = some (some (.ref f18))) (l18 : K.lookup f18 = some ⟨oc18, od18, .func (PySem.W.fnOf "_law_round" "_law_round" (defArgs (top 32)) (defBody (top 32)) (defScope (top 32)) .none kV18 dc18 pm18 an18 cd18 ct18), sl18⟩) (c18 : PySem.W.codeIn K cd18 "_law_round" = true) (k18 : PySem.W.keepIn K (.ref f18) = true)
    (a19 : PySem.W.nsIn K mainGlobals "_law_number" = some (some (.ref f19))) (l19 : K.lookup f19 = some ⟨oc19, od19, .func (PySem.W.fnOf "_law_number" "_law_number" (defArgs (top 33)) (defBody (top 33)) (defScope (top 33)) .none kV19 dc19 pm19 an19 cd19 ct19), sl19⟩) (c19 : PySem.W.codeIn K cd19 "_law_number" = true) (k19 : PySem.W.keepIn K (.ref f19) = true)
    (a20 : PySem.W.nsIn K mainGlobals "_law_frame" = some (some (.ref f20))) (l20 : K.lookup f20 = some ⟨oc20, od20, .func (PySem.W.fnOf "_law_frame" "_law_frame" (defArgs (top 34)) (defBody (top 34)) (defScope (top 34)) .none kV20 dc20 pm20 an20 cd20 ct20), sl20⟩) (c20 : PySem.W.codeIn K cd20 "_law_frame" = true) (k20 : PySem.W.keepIn K (.ref f20) = true)
    (a21 : PySem.W.nsIn K mainGlobals "_law_told" = some (some (.ref f21))) (l21 : K.lookup f21 = some ⟨oc21, od21, .func (PySem.W.fnOf "_law_told" "_law_told" (defArgs (top 35)) (defBody (top 35)) (defScope (top 35)) .none kV21 dc21 pm21 an21 cd21 ct21), sl21⟩) (c21 : PySem.W.codeIn K cd21 "_law_told" = true) (k21 : PySem.W.keepIn K (.ref f21) = true)
    (a22 : PySem.W.nsIn K mainGlobals "_law_others" = some (some (.ref f22))) (l22 : K.lookup f22 = some ⟨oc22, od22, .func (PySem.W.fnOf "_law_others" "_law_others" (defArgs (top 36)) (defBody (top 36)) (defScope (top 36)) .none kV22 dc22 pm22 an22 cd22 ct22), sl22⟩) (c22 : PySem.W.codeIn K cd22 "_law_others" = true) (k22 : PySem.W.keepIn K (.ref f22) = true)
    (a23 : PySem.W.nsIn K mainGlobals "_law_asked" = some (some (.ref f23))) (l23 : K.lookup f23 = some ⟨oc23, od23, .func (PySem.W.fnOf "_law_asked" "_law_asked" (defArgs (top 37)) (defBody (top 37)) (defScope (top 37)) .none kV23 dc23 pm23 an23 cd23 ct23), sl23⟩) (c23 : PySem.W.codeIn K cd23 "_law_asked" = true) (k23 : PySem.W.keepIn K (.ref f23) = true)
    (a24 : PySem.W.nsIn K mainGlobals "_law_right" = some (some (.ref f24))) (l24 : K.lookup f24 = some ⟨oc24, od24, .func (PySem.W.fnOf "_law_right" "_law_right" (defArgs (top 38)) (defBody (top 38)) (defScope (top 38)) .none kV24 dc24 pm24 an24 cd24 ct24), sl24⟩) (c24 : PySem.W.codeIn K cd24 "_law_right" = true) (k24 : PySem.W.keepIn K (.ref f24) = true)
    (a25 : PySem.W.nsIn K mainGlobals "law" = some (some (.ref f25))) (l25 : K.lookup f25 = some ⟨oc25, od25, .func (PySem.W.fnOf "law" "law" (defArgs (top 39)) (defBody (top 39)) (defScope (top 39)) .none kV25 dc25 pm25 an25 cd25 ct25), sl25⟩) (c25 : PySem.W.codeIn K cd25 "law" = true) (k25 : PySem.W.keepIn K (.ref f25) = true)
    {ra1 : Addr} (y1 : PySem.W.nsIn K mainGlobals "ROUNDS" = some (some (.ref ra1))) (yt1 : tabL K ra1 M48.RD = true)
    {e0 e1 e2 e3 e4 e5 e6 e7 e8 e9 : Addr} (ye0 : PySem.W.nsIn K mainGlobals "PartError" = some (some (.ref e0))) (ye1 : PySem.W.nsIn K mainGlobals "NoRow" = some (some (.ref e1))) (ye2 : PySem.W.nsIn K mainGlobals "NoCore" = some (some (.ref e2))) (ye3 : PySem.W.nsIn K mainGlobals "NoTurn" = some (some (.ref e3))) (ye4 : PySem.W.nsIn K mainGlobals "NoPair" = some (some (.ref e4))) (ye5 : PySem.W.nsIn K mainGlobals "NoList" = some (some (.ref e5))) (ye6 : PySem.W.nsIn K mainGlobals "NoPlace" = some (some (.ref e6))) (ye7 : PySem.W.nsIn K mainGlobals "NoText" = some (some (.ref e7))) (ye8 : PySem.W.nsIn K mainGlobals "NoLine" = some (some (.ref e8))) (ye9 : PySem.W.nsIn K mainGlobals "NotSo" = some (some (.ref e9))) (yE3 : errB K e0 e3 [e1, e2, e4, e5, e6, e7, e8, e9] = true)
    (z1 : PySem.W.nsIn K mainGlobals "enumerate" = some none) (z2 : PySem.W.nsIn K mainGlobals "len" = some none) (z3 : PySem.W.nsIn K mainGlobals "range" = some none) (z4 : PySem.W.nsIn K mainGlobals "tuple" = some none) (z5 : PySem.W.nsIn K mainGlobals "sum" = some none) (z6 : PySem.W.nsIn K mainGlobals "zip" = some none) (z7 : PySem.W.nsIn K mainGlobals "list" = some none) (z8 : PySem.W.nsIn K mainGlobals "abs" = some none) (z9 : PySem.W.nsIn K mainGlobals "int" = some none) (z10 : PySem.W.nsIn K mainGlobals "min" = some none) (z11 : PySem.W.nsIn K mainGlobals "sorted" = some none) (z12 : PySem.W.nsIn K mainGlobals "all" = some none) (z13 : PySem.W.nsIn K mainGlobals "bool" = some none) (z14 : PySem.W.nsIn K mainGlobals "isinstance" = some none) (z15 : PySem.W.nsIn K mainGlobals "str" = some none) (z16 : PySem.W.nsIn K mainGlobals "ValueError" = some none) :
    ∃ fd : FuncData, (∀ (s : Shared) (v : Value), BindsTo s fd ⟨[v], []⟩ [("_law_script", v)]) ∧ ∀ base : Heap, K.In base → base.Ns mainGlobals mg → FnOk l.prog w K mg base CX0 9 fa fd ["_law_script"] (sp_law K) := by
  have e := hfa.symm.trans (PySem.W.mg_of X G a25)
  cases e
  have F1 := fun_mk (st := top 12) l1 c1 k1
  have b1 := F1.binds (ps := ["parting", "many"]) fun _ _ _ _ _ _ => us2 fun _ _ => rfl
  have F2 := fun_mk (st := top 13) l2 c2 k2
  have b2 := F2.binds (ps := ["parting", "t"]) fun _ _ _ _ _ _ => us2 fun _ _ => rfl
  have F3 := fun_mk (st := top 14) l3 c3 k3
  have b3 := F3.binds (ps := ["parting", "t", "rounds"]) fun _ _ _ _ _ _ => us3 fun _ _ _ => rfl
  have F4 := fun_mk (st := top 15) l4 c4 k4
  have b4 := F4.binds (ps := ["parting", "t"]) fun _ _ _ _ _ _ => us2 fun _ _ => rfl
  have F5 := fun_mk (st := top 16) l5 c5 k5
  have b5 := F5.binds (ps := ["numbers"]) fun _ _ _ _ _ _ => us1 fun _ => rfl
  have F6 := fun_mk (st := top 19) l6 c6 k6
  have b6 := F6.binds (ps := ["t"]) fun _ _ _ _ _ _ => us1 fun _ => rfl
  have F7 := fun_mk (st := top 20) l7 c7 k7
  have b7 := F7.binds (ps := ["t"]) fun _ _ _ _ _ _ => us1 fun _ => rfl
  have F8 := fun_mk (st := top 21) l8 c8 k8
  have b8 := F8.binds (ps := ["one", "other"]) fun _ _ _ _ _ _ => us2 fun _ _ => rfl
  have F9 := fun_mk (st := top 22) l9 c9 k9
  have b9 := F9.binds (ps := ["t", "numbers"]) fun _ _ _ _ _ _ => us2 fun _ _ => rfl
  have F10 := fun_mk (st := top 23) l10 c10 k10
  have b10 := F10.binds (ps := ["rises", "total"]) fun _ _ _ _ _ _ => us2 fun _ _ => rfl
  have F11 := fun_mk (st := top 24) l11 c11 k11
  have b11 := F11.binds (ps := ["t", "numbers"]) fun _ _ _ _ _ _ => us2 fun _ _ => rfl
  have F12 := fun_mk (st := top 26) l12 c12 k12
  have b12 := F12.binds (ps := ["_law_script"]) fun _ _ _ _ _ _ => us1 fun _ => rfl
  have F13 := fun_mk (st := top 27) l13 c13 k13
  have b13 := F13.binds (ps := ["_law_state", "_law_many"]) fun _ _ _ _ _ _ => us2 fun _ _ => rfl
  have F14 := fun_mk (st := top 28) l14 c14 k14
  have b14 := F14.binds (ps := ["_law_state", "_law_most"]) fun _ _ _ _ _ _ => us2 fun _ _ => rfl
  have F15 := fun_mk (st := top 29) l15 c15 k15
  have b15 := F15.binds (ps := ["_law_parting_here", "_law_t", "_law_more"]) fun _ _ _ _ _ _ => us3 fun _ _ _ => rfl
  have F16 := fun_mk (st := top 30) l16 c16 k16
  have b16 := F16.binds (ps := ["_law_parting_here", "_law_t", "_law_more"]) fun _ _ _ _ _ _ => us3 fun _ _ _ => rfl
  have F17 := fun_mk (st := top 31) l17 c17 k17
  have b17 := F17.binds (ps := ["_law_found", "_law_due"]) fun _ _ _ _ _ _ => us2 fun _ _ => rfl
  have F18 := fun_mk (st := top 32) l18 c18 k18
  have b18 := F18.binds (ps := ["_law_t"]) fun _ _ _ _ _ _ => us1 fun _ => rfl
  have F19 := fun_mk (st := top 33) l19 c19 k19
  have b19 := F19.binds (ps := ["_law_state", "_law_figures"]) fun _ _ _ _ _ _ => us2 fun _ _ => rfl
  have F20 := fun_mk (st := top 34) l20 c20 k20
  have b20 := F20.binds (ps := ["_law_state", "_law_t"]) fun _ _ _ _ _ _ => us2 fun _ _ => rfl
  have F21 := fun_mk (st := top 35) l21 c21 k21
  have b21 := F21.binds (ps := ["_law_t", "_law_frame_here"]) fun _ _ _ _ _ _ => us2 fun _ _ => rfl
  have F22 := fun_mk (st := top 36) l22 c22 k22
  have b22 := F22.binds (ps := ["_law_error"]) fun _ _ _ _ _ _ => us1 fun _ => rfl
  have F23 := fun_mk (st := top 37) l23 c23 k23
  have b23 := F23.binds (ps := ["_law_t", "_law_numbers"]) fun _ _ _ _ _ _ => us2 fun _ _ => rfl
  have F24 := fun_mk (st := top 38) l24 c24 k24
  have b24 := F24.binds (ps := ["_law_t", "_law_numbers"]) fun _ _ _ _ _ _ => us2 fun _ _ => rfl
  have F25 := fun_mk (st := top 39) l25 c25 k25
  have m_enumerate := PySem.W.mg_none_of X G z1
  have m_len := PySem.W.mg_none_of X G z2
  have m_range := PySem.W.mg_none_of X G z3
  have m_tuple := PySem.W.mg_none_of X G z4
  have m_sum := PySem.W.mg_none_of X G z5
  have m_zip := PySem.W.mg_none_of X G z6
  have m_list := PySem.W.mg_none_of X G z7
  have m_abs := PySem.W.mg_none_of X G z8
  have m_int := PySem.W.mg_none_of X G z9
  have m_min := PySem.W.mg_none_of X G z10
  have m_sorted := PySem.W.mg_none_of X G z11
  have m_all := PySem.W.mg_none_of X G z12
  have m_bool := PySem.W.mg_none_of X G z13
  have m_isinstance := PySem.W.mg_none_of X G z14
  have m_str := PySem.W.mg_none_of X G z15
  have m_ValueError := PySem.W.mg_none_of X G z16
  have g_ROUNDS : TabG K mg "ROUNDS" M48.RD := ⟨⟨_, PySem.W.mg_of X G y1, yt1⟩⟩
  have G_E : Errs mg e0 e1 e2 e3 e4 e5 e6 e7 e8 e9 := ⟨PySem.W.mg_of X G ye0, PySem.W.mg_of X G ye1, PySem.W.mg_of X G ye2, PySem.W.mg_of X G ye3, PySem.W.mg_of X G ye4, PySem.W.mg_of X G ye5, PySem.W.mg_of X G ye6, PySem.W.mg_of X G ye7, PySem.W.mg_of X G ye8, PySem.W.mg_of X G ye9⟩
  have KE3 := ErrK.of yE3
  have N9_3 : Nine K e3 e1 e2 e3 e4 e5 e6 e7 e8 e9 := ⟨KE3.cls, KE3.vE, false, false, true, false, false, false, false, false, false, KE3.ot _ (by simp), KE3.ot _ (by simp), KE3.me, KE3.ot _ (by simp), KE3.ot _ (by simp), KE3.ot _ (by simp), KE3.ot _ (by simp), KE3.ot _ (by simp), KE3.ot _ (by simp), by decide⟩
  refine ⟨PySem.W.fnOf "law" "law" (defArgs (top 39)) (defBody (top 39)) (defScope (top 39)) .none kV25 dc25 pm25 an25 cd25 ct25, fun s v => .of_eq rfl, fun base _ _ => ?_⟩
  have A1 : FnA l.prog w K mg base "beads_of" 1 ["parting", "many"] (sp_beads_of K) := fnA (ok_beads_of F1 m_enumerate m_len) b1 k1 (PySem.W.mg_of X G a1)
  have A2 : FnA l.prog w K mg base "rounds_of" 1 ["parting", "t"] (sp_rounds_of K) := fnA (ok_rounds_of F2 m_len) b2 k2 (PySem.W.mg_of X G a2)
  have A3 : FnA l.prog w K mg base "runs_of" 2 ["parting", "t", "rounds"] (sp_runs_of K) := fnA (ok_runs_of F3 m_range A1) b3 k3 (PySem.W.mg_of X G a3)
  have A4 : FnA l.prog w K mg base "vector" 3 ["parting", "t"] (sp_vector K) := fnA (ok_vector F4 m_len m_tuple A2 A3) b4 k4 (PySem.W.mg_of X G a4)
  have A5 : FnA l.prog w K mg base "size_of" 1 ["numbers"] sp_sz := fnA (ok_sz F5 m_enumerate m_len m_sum) b5 k5 (PySem.W.mg_of X G a5)
  have A6 : FnA l.prog w K mg base "weight_of_round" 1 ["t"] sp_wr := fnA (ok_wr F6 m_sum g_ROUNDS) b6 k6 (PySem.W.mg_of X G a6)
  have A7 : FnA l.prog w K mg base "vectors_of_round" 4 ["t"] sp_vr := fnA (ok_vr F7 g_ROUNDS A4) b7 k7 (PySem.W.mg_of X G a7)
  have A8 : FnA l.prog w K mg base "sum_of_products" 1 ["one", "other"] sp_sp := fnA (ok_sp F8 m_sum m_zip) b8 k8 (PySem.W.mg_of X G a8)
  have A9 : FnA l.prog w K mg base "bends_of" 5 ["t", "numbers"] sp_bo := fnA (ok_bo F9 m_list m_range A8 A7 A6) b9 k9 (PySem.W.mg_of X G a9)
  have A10 : FnA l.prog w K mg base "by_rises" 1 ["rises", "total"] sp_br := fnA (ok_br F10 m_len m_sum) b10 k10 (PySem.W.mg_of X G a10)
  have B11 : FnR l.prog w K mg base "frame_of" 6 ["t", "numbers"] (fun vs H Q E => sp_fo vs H Q E ∨ sp_fx e3 vs H Q E) := ⟨⟨_, _, (FnOk.toX (ok_fo F11 m_tuple A9 A10 A5 A6)).both (ok_fx KE3.ra (PySem.W.mg_of X G ye3) F11 A5 A6), b11, k11, (PySem.W.mg_of X G a11)⟩⟩
  have A11 : FnA l.prog w K mg base "frame_of" 6 ["t", "numbers"] sp_fo := fnA (ok_fo F11 m_tuple A9 A10 A5 A6) b11 k11 (PySem.W.mg_of X G a11)
  have A12 : FnA l.prog w K mg base "_law_hand" 1 ["_law_script"] (sp_hand K) := fnA (ok_hand F12 m_abs m_enumerate m_len) b12 k12 (PySem.W.mg_of X G a12)
  have A13 : FnA l.prog w K mg base "_law_take" 1 ["_law_state", "_law_many"] sp_take := fnA (ok_take F13) b13 k13 (PySem.W.mg_of X G a13)
  have A14 : FnA l.prog w K mg base "_law_parting" 2 ["_law_state", "_law_most"] sp_parting := fnA (ok_parting F14 m_int m_min m_sorted m_tuple A13) b14 k14 (PySem.W.mg_of X G a14)
  have A15 : FnA l.prog w K mg base "_law_beads" 1 ["_law_parting_here", "_law_t", "_law_more"] sp_lbeads := fnA (ok_lbeads F15 m_enumerate m_len m_list) b15 k15 (PySem.W.mg_of X G a15)
  have A16 : FnA l.prog w K mg base "_law_vector" 2 ["_law_parting_here", "_law_t", "_law_more"] sp_lvector := fnA (ok_lvector F16 m_len m_range m_tuple A15) b16 k16 (PySem.W.mg_of X G a16)
  have A17 : FnA l.prog w K mg base "_law_same" 4 ["_law_found", "_law_due"] (sp_sm 4) := fnA (ok_same 4 F17 m_all m_bool m_int m_isinstance m_len m_list m_str m_tuple m_zip b17 k17 (PySem.W.mg_of X G a17)) b17 k17 (PySem.W.mg_of X G a17)
  have A18 : FnA l.prog w K mg base "_law_round" 1 ["_law_t"] sp_rd := fnA (ok_rd F18 m_int m_tuple) b18 k18 (PySem.W.mg_of X G a18)
  have A19 : FnA l.prog w K mg base "_law_number" 2 ["_law_state", "_law_figures"] sp_nu := fnA (ok_nu F19 m_range A13) b19 k19 (PySem.W.mg_of X G a19)
  have A20 : FnA l.prog w K mg base "_law_frame" 3 ["_law_state", "_law_t"] sp_fr := fnA (ok_fr F20 m_range m_sum m_tuple A19 A13) b20 k20 (PySem.W.mg_of X G a20)
  have A21 : FnA l.prog w K mg base "_law_told" 3 ["_law_t", "_law_frame_here"] sp_to := fnA (ok_to F21 m_range m_sum m_tuple m_zip A18 A16) b21 k21 (PySem.W.mg_of X G a21)
  have A22 : FnA l.prog w K mg base "_law_others" 1 ["_law_error"] (sp_ot K e1 e2 e3 e4 e5 e6 e7 e8 e9) := fnA (ok_ot G_E F22 m_ValueError m_isinstance) b22 k22 (PySem.W.mg_of X G a22)
  have A23 : FnA l.prog w K mg base "_law_asked" 7 ["_law_t", "_law_numbers"] (sp_as e3) := fnA (ok_as KE3.mt G_E F23 B11) b23 k23 (PySem.W.mg_of X G a23)
  have A24 : FnA l.prog w K mg base "_law_right" 8 ["_law_t", "_law_numbers"] sp_ri := fnA (ok_ri N9_3 KE3.me G_E F24 m_all m_enumerate m_int m_isinstance m_len m_range m_sum m_tuple A23 A22 A21) b24 k24 (PySem.W.mg_of X G a24)
  exact ok_law F25 m_range m_sum m_tuple A23 A20 A12 A19 A14 A24 A17 A13 A21 A16
theorem walk {l : PySem.W.OpenLaw} {q : Program} {loose : List Str} {XP : (Str → Option Value) → Heap → Prop} {YP : World → Heap → Prop} {d : DefRec} {K : Params → PySem.W.Frag} (hn : l.most = some 63) (hdf : d.params.defaults = [])
    (hY : ∀ (w : World) (h : Heap), YP w h → (K w.params).In h)
    (F : ∀ (w : World) (mg : Str → Option Value) (fa : Addr) (h : Heap), (K w.params).In h → h.Ns mainGlobals mg → mg d.name = some (.ref fa) →
      ∃ fd : FuncData, (∀ (s : Shared) (u : Value), BindsTo s fd ⟨[u], []⟩ [("_law_script", u)]) ∧ ∀ base : Heap, (K w.params).In base → base.Ns mainGlobals mg → FnOk l.prog w (K w.params) mg base CX0 9 fa fd ["_law_script"] (sp_law (K w.params))) :
    PySem.W.WalkO q loose XP YP l.row.toRowW d [] (fun f vs => PySem.call f vs) :=
  L2.walk_of (n := 63) (k := 9) (x := "_law_script") (CX := fun _ => CX0) (sp := fun w => sp_law (K w.params)) hn (by decide) hdf ⟨rfl, by decide, by decide, rfl⟩ hY F (fun _ _ a ns hl _ hS => ⟨a, ns, rfl, hS, hl, fun _ => rfl⟩) fun _ _ _ _ _ z => z
end K47
open PySem PySem.W PyProof.Rows
set_option maxRecDepth 100000 in
set_option maxHeartbeats 0 in
theorem PySem.Challenge.cw_partrests_k47_frames_found_holds : PySem.Challenge.rw_partrests_k47_frames_found.Holds := by
  w_on; o_law; k_head; (case hw => w_witness2)
  k_fill
  refine K47.walk (l := PySem.Challenge.rw_partrests_k47_frames_found) rfl rfl (fun w h Y => PySem.W.kIn_of Y) ?F
  case F =>
    intro w mg fa h KX G hmg
    refine' K47.all_mk KX G hmg ?a1 ?l1 ?c1 ?k1 ?a2 ?l2 ?c2 ?k2 ?a3 ?l3 ?c3 ?k3 ?a4 ?l4 ?c4 ?k4 ?a5 ?l5 ?c5 ?k5 ?a6 ?l6 ?c6 ?k6 ?a7 ?l7 ?c7 ?k7 ?a8 ?l8 ?c8 ?k8 ?a9 ?l9 ?c9 ?k9 ?a10 ?l10 ?c10 ?k10 ?a11 ?l11 ?c11 ?k11 ?a12 ?l12 ?c12 ?k12 ?a13 ?l13 ?c13 ?k13 ?a14 ?l14 ?c14 ?k14 ?a15 ?l15 ?c15 ?k15 ?a16 ?l16 ?c16 ?k16 ?a17 ?l17 ?c17 ?k17 ?a18 ?l18 ?c18 ?k18 ?a19 ?l19 ?c19 ?k19 ?a20 ?l20 ?c20 ?k20 ?a21 ?l21 ?c21 ?k21 ?a22 ?l22 ?c22 ?k22 ?a23 ?l23 ?c23 ?k23 ?a24 ?l24 ?c24 ?k24 ?a25 ?l25 ?c25 ?k25 ?y1 ?yt1 ?ye0 ?ye1 ?ye2 ?ye3 ?ye4 ?ye5 ?ye6 ?ye7 ?ye8 ?ye9 ?yE3 ?z1 ?z2 ?z3 ?z4 ?z5 ?z6 ?z7 ?z8 ?z9 ?z10 ?z11 ?z12 ?z13 ?z14 ?z15 ?z16
    (case a1 => k_is); (case l1 => k_is); (case c1 => k_is); (case k1 => k_is)
    (case a2 => k_is); (case l2 => k_is); (case c2 => k_is); (case k2 => k_is)
    (case a3 => k_is); (case l3 => k_is); (case c3 => k_is); (case k3 => k_is)
    (case a4 => k_is); (case l4 => k_is); (case c4 => k_is); (case k4 => k_is)
    (case a5 => k_is); (case l5 => k_is); (case c5 => k_is); (case k5 => k_is)
    (case a6 => k_is); (case l6 => k_is); (case c6 => k_is); (case k6 => k_is)
    (case a7 => k_is); (case l7 => k_is); (case c7 => k_is); (case k7 => k_is)
    (case a8 => k_is); (case l8 => k_is); (case c8 => k_is); (case k8 => k_is)
    (case a9 => k_is); (case l9 => k_is); (case c9 => k_is); (case k9 => k_is)
    (case a10 => k_is); (case l10 => k_is); (case c10 => k_is); (case k10 => k_is)
    (case a11 => k_is); (case l11 => k_is); (case c11 => k_is); (case k11 => k_is)
    (case a12 => k_is); (case l12 => k_is); (case c12 => k_is); (case k12 => k_is)
    (case a13 => k_is); (case l13 => k_is); (case c13 => k_is); (case k13 => k_is)
    (case a14 => k_is); (case l14 => k_is); (case c14 => k_is); (case k14 => k_is)
    (case a15 => k_is); (case l15 => k_is); (case c15 => k_is); (case k15 => k_is)
    (case a16 => k_is); (case l16 => k_is); (case c16 => k_is); (case k16 => k_is)
    (case a17 => k_is); (case l17 => k_is); (case c17 => k_is); (case k17 => k_is)
    (case a18 => k_is); (case l18 => k_is); (case c18 => k_is); (case k18 => k_is)
    (case a19 => k_is); (case l19 => k_is); (case c19 => k_is); (case k19 => k_is)
    (case a20 => k_is); (case l20 => k_is); (case c20 => k_is); (case k20 => k_is)
    (case a21 => k_is); (case l21 => k_is); (case c21 => k_is); (case k21 => k_is)
    (case a22 => k_is); (case l22 => k_is); (case c22 => k_is); (case k22 => k_is)
    (case a23 => k_is); (case l23 => k_is); (case c23 => k_is); (case k23 => k_is)
    (case a24 => k_is); (case l24 => k_is); (case c24 => k_is); (case k24 => k_is)
    (case a25 => k_is); (case l25 => k_is); (case c25 => k_is); (case k25 => k_is)
    (case y1 => k_is)
    (case yt1 => with_unfolding_all rfl)
    (case ye0 => k_is)
    (case ye1 => k_is)
    (case ye2 => k_is)
    (case ye3 => k_is)
    (case ye4 => k_is)
    (case ye5 => k_is)
    (case ye6 => k_is)
    (case ye7 => k_is)
    (case ye8 => k_is)
    (case ye9 => k_is)
    (case yE3 => with_unfolding_all rfl)
    (case z1 => k_is)
    (case z2 => k_is)
    (case z3 => k_is)
    (case z4 => k_is)
    (case z5 => k_is)
    (case z6 => k_is)
    (case z7 => k_is)
    (case z8 => k_is)
    (case z9 => k_is)
    (case z10 => k_is)
    (case z11 => k_is)
    (case z12 => k_is)
    (case z13 => k_is)
    (case z14 => k_is)
    (case z15 => k_is)
    (case z16 => k_is)

