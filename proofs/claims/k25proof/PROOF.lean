import PyProof.Rows.All
import Wide.All
import OpenK.AllK
import Wide.FinOn
import Lean
import PyProof.EqAt
import PyProof.EqKinds
import PyProof.TupleCall
import PySem.Challenge.RW_partrests_k25_whole_rows_agree
set_option Elab.async false
set_option linter.all false
set_option maxRecDepth 100000
namespace L2
open PySem PySem.Spec PyProof.Rows
noncomputable abbrev Key := Sum Int Str
noncomputable def keyIs : Key → Value → Bool
  | .inl k, v => Value.isInt k v
  | .inr x, v => Value.isStrOf x v
noncomputable def keyH (w : World) : Key → Int
  | .inl k => hashInt k
  | .inr x => hashStr w x
theorem keyIs_shape : ∀ {k : Key} {v : Value}, keyIs k v = true → (∃ i t, k = Sum.inl i ∧ v = Value.int i t) ∨ (∃ x t, k = Sum.inr x ∧ v = Value.str x t)
  | .inl i, v, h => by
    obtain ⟨t, e⟩ := Value.isInt_shape (k := i) (v := v) h
    exact .inl ⟨i, t, rfl, e⟩
  | .inr x, v, h => by
    obtain ⟨t, e⟩ := Value.isStrOf_shape (x := x) (v := v) h
    exact .inr ⟨x, t, rfl, e⟩
theorem keyIs_int (i : Int) (t : Tok) : keyIs (.inl i) (.int i t) = true := by simp [keyIs, Value.isInt]
theorem keyIs_str (x : Str) (t : Tok) : keyIs (.inr x) (.str x t) = true := by simp [keyIs, Value.isStrOf]
theorem key_ll (a b : Int) : decide ((Sum.inl a : Key) = Sum.inl b) = (a == b) := by
  by_cases e : a = b
  · subst e; simp
  · have h : ¬ (Sum.inl a : Key) = Sum.inl b := fun q => e (Sum.inl.inj q)
    rw [decide_eq_false h]
    exact (beq_eq_false_iff_ne.mpr e).symm
theorem key_rr (a b : Str) : decide ((Sum.inr a : Key) = Sum.inr b) = decide (a = b) := by
  by_cases e : a = b
  · subst e; simp
  · have h : ¬ (Sum.inr a : Key) = Sum.inr b := fun q => e (Sum.inr.inj q)
    rw [decide_eq_false h, decide_eq_false e]
theorem key_lr (a : Int) (b : Str) : decide ((Sum.inl a : Key) = Sum.inr b) = false := decide_eq_false (fun q => nomatch q)
theorem key_rl (a : Str) (b : Int) : decide ((Sum.inr a : Key) = Sum.inl b) = false := decide_eq_false (fun q => nomatch q)

noncomputable def mixKind (prog : Program) (w : World) : PySem.KeyKind prog w Key where
  is := keyIs
  hash := keyH w
  inj := fun v a b ha hb => by
    rcases keyIs_shape ha with ⟨i, t, rfl, rfl⟩ | ⟨x, t, rfl, rfl⟩
    · rcases keyIs_shape hb with ⟨j, u, rfl, e⟩ | ⟨y, u, rfl, e⟩
      · injection e with e1 _; rw [e1]
      · exact nomatch e
    · rcases keyIs_shape hb with ⟨j, u, rfl, e⟩ | ⟨y, u, rfl, e⟩
      · exact nomatch e
      · injection e with e1 _; rw [e1]
  byValue := fun k v h => by
    rcases keyIs_shape h with ⟨i, t, rfl, rfl⟩ | ⟨x, t, rfl, rfl⟩ <;> rfl
  pyHash := fun hv h => by
    rcases keyIs_shape hv with ⟨i, t, rfl, rfl⟩ | ⟨x, t, rfl, rfl⟩
    · exact wpAny_pyHash_int h
    · exact wpAny_pyHash_str h
  eqBool := fun hu hv h => by
    rcases keyIs_shape hu with ⟨i, t, rfl, rfl⟩ | ⟨x, t, rfl, rfl⟩
    · rcases keyIs_shape hv with ⟨j, u, rfl, rfl⟩ | ⟨y, u, rfl, rfl⟩
      · rw [key_ll] at h; exact wpAny_eqBool_int h
      · rw [key_lr] at h; exact SeqAt.EqAt.int_str i t y u _ _ _ _ h
    · rcases keyIs_shape hv with ⟨j, u, rfl, rfl⟩ | ⟨y, u, rfl, rfl⟩
      · rw [key_rl] at h; exact SeqAt.EqAt.str_int x t j u _ _ _ _ h
      · rw [key_rr] at h; exact wpAny_eqBool_str h
  «strs» := fun k x t v h => by
    rcases keyIs_shape h with ⟨i, u, rfl, e⟩ | ⟨y, u, rfl, e⟩
    · exact nomatch e
    · injection e with e1 _
      subst e1
      cases v <;> rfl

theorem mixKind_int (prog : Program) (w : World) (i : Int) (t : Tok) : (mixKind prog w).is (.inl i) (.int i t) = true := keyIs_int i t
theorem mixKind_str (prog : Program) (w : World) (x : Str) (t : Tok) : (mixKind prog w).is (.inr x) (.str x t) = true := keyIs_str x t
end L2
namespace L2
open PySem PySem.Spec PyProof.Rows
inductive V where
  | non | bl (b : Bool) | int (i : Int) | str (x : Str) | byt (b : Array UInt8) | flt (b : UInt64) | ref (a : Addr) | ty (n : String)
  deriving DecidableEq

noncomputable def RelV : V → Value → Prop
  | .non, u => u = Value.none
  | .bl b, u => u = Value.bool b
  | .int i, u => ∃ t, u = Value.int i t
  | .str x, u => ∃ t, u = Value.str x t
  | .byt b, u => ∃ t, u = Value.bytes b t
  | .flt b, u => ∃ t, u = Value.float b t
  | .ref a, u => u = Value.ref a
  | .ty n, u => u = Value.type n

noncomputable abbrev Vals : List V → List Value → Prop := Paired RelV
theorem Vals.length {xs : List V} {us : List Value} (r : Vals xs us) : xs.length = us.length := Paired.length r
theorem Vals.get : ∀ {xs : List V} {us : List Value} {i : Nat} {x : V}, Vals xs us → xs[i]? = some x → ∃ u, us[i]? = some u ∧ RelV x u
  | _, _, _, _, .nil, e => by simp at e
  | _, _, 0, _, .cons r _, e => by simp at e; subst e; exact ⟨_, rfl, r⟩
  | _, _, i + 1, x, .cons _ t, e => by
    obtain ⟨u, h1, h2⟩ := Vals.get (i := i) (x := x) t (by simpa using e)
    exact ⟨u, by simpa using h1, h2⟩
theorem Vals.set {x : V} {u : Value} (r : RelV x u) : ∀ {xs : List V} {us : List Value} (i : Nat), Vals xs us → Vals (xs.set i x) (us.set i u)
  | _, _, _, .nil => .nil
  | _, _, 0, .cons _ t => .cons r t
  | _, _, i + 1, .cons q t => .cons q (Vals.set r i t)
theorem Vals.append : ∀ {xs ys : List V} {us ws : List Value}, Vals xs us → Vals ys ws → Vals (xs ++ ys) (us ++ ws)
  | _, _, _, _, .nil, s => s
  | _, _, _, _, .cons r t, s => .cons r (Vals.append t s)
noncomputable def TupD (h : Heap) (a : Addr) (items : Array Value) : Prop := ∃ n, h.get? a = some { cls := .type "tuple", data := .seq items n }
theorem TupD.tup {h : Heap} {a : Addr} {items : Array Value} (p : TupD h a items) : IsTup h a items := let ⟨n, e⟩ := p; ⟨_, e, rfl, n, rfl⟩
theorem TupD.new (h : Heap) (items : Array Value) : TupD (h.push { cls := .type "tuple", data := .seq items }) h.objs.size items := ⟨_, Heap.get?_push_size _ rfl⟩

noncomputable def RelO : Option V → Option Value → Prop
  | some v, some u => RelV v u
  | none, none => True
  | _, _ => False
noncomputable def KV {κ : Type} : List (κ × V) → List (κ × Value) → Prop := Paired fun (p : κ × V) (q : κ × Value) => p.1 = q.1 ∧ RelV p.2 q.2

noncomputable def kV : Key → V
  | .inl i => .int i
  | .inr x => .str x

inductive HO where
  /-- a list -/
  | lst (xs : List V)
  /-- a tuple (never changes) -/
  | tup (xs : List V)
  /-- a dict whose keys are ints and texts; one whose keys are tuples of ints and texts (the empty one is both) -/
  | dK (kvs : List (Key × V)) | dT (kvs : List (List Key × V))
  /-- a set of ints: its members, its size -/
  | set (S : Int → Bool) (n : Nat)
  /-- an instance of the class at C, its dict at dx, its attributes -/
  | ins (C dx : Addr) (fs : List (Str × V))
  /-- the dict of the instance at x -/
  | own (x : Addr)
  /-- the dict of an exception -/
  | xd (fs : List (Str × V))
  /-- a bound method, f of x -/
  | met (f x : Addr)
  /-- a range object lo, lo + 1, .. below hi -/
  | rng (lo hi : Int)
  /-- a thing that is known to the object (the script; a dict while a loop walks it): read, never written while it is so -/
  | frz (o : Obj) (u : HO)
  /-- a code object's table -/
  | tbl (ps : Array Value)
  /-- any other thing, by what is true of its one object (a def of one's own: SetO a S n := HO.ext fun h => ..) -/
  | ext (φ : Heap → Prop)

noncomputable abbrev Hp := Addr → Option HO
noncomputable def upd (H : Hp) (a : Addr) (o : HO) : Hp := fun b => if b = a then some o else H b
theorem upd_same {H : Hp} {a : Addr} {o : HO} : upd H a o a = some o := by unfold upd; rw [if_pos rfl]
theorem upd_ne {H : Hp} {a b : Addr} {o : HO} (h : b ≠ a) : upd H a o b = H b := by unfold upd; rw [if_neg h]
theorem ne_of {H : Hp} {a b : Addr} {o u : HO} (h : H a = some o) (h' : H b = some u) (d : o ≠ u) : a ≠ b := by
  intro e; subst e; rw [h] at h'; exact d (Option.some.inj h')
theorem ne_of_none {H : Hp} {a b : Addr} {o : HO} (h : H a = some o) (h' : H b = none) : a ≠ b := by
  intro e; subst e; rw [h] at h'; cases h'

section
variable (P : Program) (w : World)
noncomputable def ObjOk (H : Hp) (h : Heap) (a : Addr) : HO → Prop
  | .lst xs => xs.length ≤ sizeLine ∧ ∃ (its : List Value) (n : Nat), Vals xs its ∧ h.get? a = some { cls := .type "list", data := .seq its.toArray n }
  | .tup xs => xs.length ≤ sizeLine ∧ ∃ its : List Value, Vals xs its ∧ TupD h a its.toArray
  | .dK kvs => kvs.length ≤ sizeLine ∧ (a == sysModules) = false ∧ ∃ vs, KV kvs vs ∧ h.DictOf (mixKind P w) a vs
  | .dT kvs => kvs.length ≤ sizeLine ∧ (a == sysModules) = false ∧ ∃ xs : List (List Key × Addr × Value),
      Paired (fun (p : List Key × V) (q : List Key × Addr × Value) => p.1 = q.1 ∧ H q.2.1 = some (.tup (p.1.map kV)) ∧ RelV p.2 q.2.2) kvs xs ∧
      ∃ o es ep, h.get? a = some o ∧ o.ExactDict ∧ o.data = .dict es ep ∧ es.toList = xs.map (entryOfKey (tupleKind (mixKind P w))) ∧ (xs.map (·.1)).Nodup
  | .set S n => h.SetOf (intKind P w) a S n
  | .ins C dx fs => H dx = some (.own a) ∧ fs.length ≤ 1000 ∧ dx ≠ a ∧ h.get? a = some (PySem.W.instObj C dx) ∧
      ∃ mA, h.Ns1 dx mA ∧ (∀ f, RelO (fs.lookup f) (mA f)) ∧ PySem.Within mA (fs.map (·.1))
  | .own _ => ∃ o, h.get? a = some o
  | .xd fs => ∃ mA, h.Ns1 a mA ∧ ∀ f, RelO (fs.lookup f) (mA f)
  | .rng lo hi => ∃ t u v, h.get? a = some { cls := .type "range", data := .fields #[.int lo t, .int hi u, .int 1 v] }
  | .frz o u => h.get? a = some o ∧ ObjOk H h a u
  | .tbl ps => h.get? a = some { cls := .none, data := .fields ps }
  | .met f x => h.get? a = some (PySem.W.methodObj (.ref f) (.ref x))
  | .ext φ => φ h ∧ (∃ o, h.get? a = some o) ∧ ∀ h1 h2 : Heap, φ h1 → (∀ o, h1.get? a = some o → h2.get? a = some o) → φ h2
noncomputable def HOk (H : Hp) (h : Heap) : Prop := ∀ a o, H a = some o → ObjOk P w H h a o
end
section
variable {P : Program} {w : World} {H H' : Hp} {h h' : Heap} {a : Addr} {o : HO}
theorem ObjOk.lt (x : ObjOk P w H h a o) : a < h.objs.size := by
  cases o with
  | lst xs => obtain ⟨_, _, _, _, e⟩ := x; exact Heap.lt_size e
  | tup xs => obtain ⟨_, _, _, p⟩ := x; exact p.tup.lt
  | dK kvs => obtain ⟨_, _, _, _, o, _, _, e, _⟩ := x; exact Heap.lt_size e
  | dT kvs => obtain ⟨_, _, _, _, o, _, _, e, _⟩ := x; exact Heap.lt_size e
  | set S n => obtain ⟨o, _, _, _, e, _⟩ := x; exact Heap.lt_size e
  | ins C dx fs => obtain ⟨_, _, _, e, _⟩ := x; exact Heap.lt_size e
  | own y => obtain ⟨_, e⟩ := x; exact Heap.lt_size e
  | xd fs => obtain ⟨_, ⟨_, _, _, e, _⟩, _⟩ := x; exact Heap.lt_size e
  | rng lo hi => obtain ⟨_, _, _, e⟩ := x; exact Heap.lt_size e
  | frz ob u => obtain ⟨e, _⟩ := x; exact Heap.lt_size e
  | tbl ps => exact Heap.lt_size (show h.get? a = some _ from x)
  | met f y => exact Heap.lt_size (show h.get? a = some _ from x)
  | ext φ => obtain ⟨_, ⟨_, e⟩, _⟩ := x; exact Heap.lt_size e
theorem Paired.mapP {α β : Type} {F G : α → β → Prop} : ∀ {l₁ : List α} {l₂ : List β}, Paired F l₁ l₂ → (∀ a b, F a b → G a b) → Paired G l₁ l₂
  | _, _, .nil, _ => .nil
  | _, _, .cons r t, f => .cons (f _ _ r) (Paired.mapP t f)
theorem ObjOk.stay (x : ObjOk P w H h a o) (k : ∀ b u, (b = a ∨ H b = some (.own a)) → h.get? b = some u → h'.get? b = some u)
    (ho : ∀ b, H b = some (.own a) → H' b = some (.own a)) (ht : ∀ b xs, H b = some (.tup xs) → H' b = some (.tup xs)) : ObjOk P w H' h' a o := by
  induction o with
  | lst xs => obtain ⟨z, its, n, r, e⟩ := x; exact ⟨z, its, n, r, k _ _ (.inl rfl) e⟩
  | tup xs => obtain ⟨z, its, r, ob, e⟩ := x; exact ⟨z, its, r, ob, k _ _ (.inl rfl) e⟩
  | dK kvs => obtain ⟨z, y, vs, r, ob, es, ep, e, c⟩ := x; exact ⟨z, y, vs, r, ob, es, ep, k _ _ (.inl rfl) e, c⟩
  | dT kvs =>
    obtain ⟨z, y, xs, r, ob, es, ep, e, c⟩ := x
    exact ⟨z, y, xs, Paired.mapP r fun p q z => ⟨z.1, ht _ _ z.2.1, z.2.2⟩, ob, es, ep, k _ _ (.inl rfl) e, c⟩
  | set S n => obtain ⟨ob, es, ep, t, e, c⟩ := x; exact ⟨ob, es, ep, t, k _ _ (.inl rfl) e, c⟩
  | ins C dx fs =>
    obtain ⟨d, z, ne, e, mA, ⟨od, es, ep, e2, c⟩, r⟩ := x
    exact ⟨ho _ d, z, ne, k _ _ (.inl rfl) e, mA, ⟨od, es, ep, k _ _ (.inr d) e2, c⟩, r⟩
  | own y => obtain ⟨ob, e⟩ := x; exact ⟨ob, k _ _ (.inl rfl) e⟩
  | xd fs => obtain ⟨mA, ⟨od, es, ep, e, c⟩, r⟩ := x; exact ⟨mA, ⟨od, es, ep, k _ _ (.inl rfl) e, c⟩, r⟩
  | rng lo hi => obtain ⟨t, u, v, e⟩ := x; exact ⟨t, u, v, k _ _ (.inl rfl) e⟩
  | frz ob u ih => obtain ⟨e, q⟩ := x; exact ⟨k _ _ (.inl rfl) e, ih q⟩
  | tbl ps =>
    have e : h.get? a = some { cls := .none, data := .fields ps } := x
    show h'.get? a = some { cls := .none, data := .fields ps }
    exact k a _ (.inl rfl) e
  | met f y =>
    have e : h.get? a = some (PySem.W.methodObj (.ref f) (.ref y)) := x
    show h'.get? a = some (PySem.W.methodObj (.ref f) (.ref y))
    exact k a _ (.inl rfl) e
  | ext φ => obtain ⟨p, ⟨o, e⟩, st⟩ := x; exact ⟨st _ _ p fun o q => k _ _ (.inl rfl) q, ⟨o, k _ _ (.inl rfl) e⟩, st⟩
theorem HOk.lt (x : HOk P w H h) (e : H a = some o) : a < h.objs.size := (x a o e).lt
theorem HOk.fresh (x : HOk P w H h) (e : h.objs.size ≤ a) : H a = none := by
  cases q : H a with
  | none => rfl
  | some u => exact absurd (Nat.lt_of_lt_of_le (x.lt q) e) (Nat.lt_irrefl _)
theorem HOk.kept (x : HOk P w H h) (k : ∀ b u, h.get? b = some u → h'.get? b = some u) : HOk P w H h' := fun a o e =>
  (x a o e).stay (fun b u _ q => k b u q) (fun _ q => q) fun _ _ q => q
theorem HOk.laid (x : HOk P w H h) (k : ∀ b u, h.get? b = some u → h'.get? b = some u) (hp : h.objs.size ≤ a) (new : ObjOk P w (upd H a o) h' a o) : HOk P w (upd H a o) h' := fun b u e => by
  have hn := x.fresh hp
  by_cases hb : b = a
  · subst hb; rw [upd_same] at e; cases e; exact new
  · rw [upd_ne hb] at e
    exact (x b u e).stay (fun c v _ q => k c v q) (fun c q => by rw [upd_ne (ne_of_none q hn)]; exact q) fun c xs q => by rw [upd_ne (ne_of_none q hn)]; exact q
end
noncomputable def Rd (H : Hp) (a : Addr) (u : HO) : Prop := H a = some u ∨ ∃ o, H a = some (.frz o u)
theorem Rd.ok {P : Program} {w : World} {H : Hp} {h : Heap} {a : Addr} {u : HO} (r : Rd H a u) (x : HOk P w H h) : ObjOk P w H h a u := by
  rcases r with r | ⟨o, r⟩
  · exact x a u r
  · obtain ⟨_, q⟩ := x a _ r
    exact q
noncomputable def Mut : Option HO → Prop
  | some (.lst _) => True
  | some (.dK _) => True
  | some (.dT _) => True
  | some (.set _ _) => True
  | some (.ins _ _ _) => True
  | some (.ext _) => True
  | _ => False
section
variable {P : Program} {w : World} {H : Hp} {h h' : Heap} {x e : Addr} {o' : HO}
theorem HOk.write (ok : HOk P w H h) (mu : Mut (H x)) (he : e = x ∨ H e = some (.own x)) (k : ∀ b u, b ≠ e → h.get? b = some u → h'.get? b = some u) (heo : ∃ u, h'.get? e = some u)
    (new : ObjOk P w (upd H x o') h' x o') : HOk P w (upd H x o') h' := fun b u q => by
  have nown : ∀ c y, H c = some (.own y) → c ≠ x := fun c y r z => by subst z; rw [r] at mu; exact mu
  have ntup : ∀ c xs, H c = some (.tup xs) → c ≠ x := fun c xs r z => by subst z; rw [r] at mu; exact mu
  by_cases hb : b = x
  · subst hb; rw [upd_same] at q; cases q; exact new
  · rw [upd_ne hb] at q
    by_cases hbe : b = e
    · have q' : H b = some (.own x) := by
        rcases he with z | z
        · exact absurd (hbe.trans z) hb
        · rw [hbe]; exact z
      rw [q] at q'; cases q'
      obtain ⟨v, hv⟩ := heo
      exact ⟨v, by rw [hbe]; exact hv⟩
    · refine (ok b u q).stay (fun c v hc r => k c v ?_ r) (fun c r => by rw [upd_ne (nown c b r)]; exact r) fun c xs r => by rw [upd_ne (ntup c xs r)]; exact r
      rcases hc with rfl | hc
      · exact hbe
      · rintro rfl
        rcases he with z | z
        · exact nown c b hc z
        · rw [hc] at z; cases z; exact hb rfl
end
structure Un (fs ex : List Addr) (H H' : Hp) (h h' : Heap) : Prop where
  keep : ∀ b o, h.get? b = some o → H b = none → b ∉ fs → b ∉ ex → h'.get? b = some o
  slot : ∀ b o, h.get? b = some o → H b = none → b ∈ fs → b ∉ ex → ∃ sl, h'.get? b = some { o with slots := sl }
  free : ∀ b o, h.get? b = some o → H b = none → b ∉ ex → H' b = none
  there : ∀ b o, h.get? b = some o → b ∉ ex → ∃ o', h'.get? b = some o'
  tups : ∀ b xs, H b = some (.tup xs) → H' b = some (.tup xs)
  frzs : ∀ b o u, H b = some (.frz o u) → H' b = some (.frz o u)
  tbls : ∀ b ps, H b = some (.tbl ps) → ∃ more, H' b = some (.tbl (ps ++ more))
section
variable {fs fs' ex ex' : List Addr} {H H1 H2 : Hp} {h h1 h2 h' : Heap} {a x e : Addr} {o : HO}
theorem Un.any (u : Un fs ex H H1 h h1) {b : Addr} {ob : Obj} (q : h.get? b = some ob) (n : H b = none) (hx : b ∉ ex) : ∃ sl, h1.get? b = some { ob with slots := sl } := by
  by_cases hb : b ∈ fs
  · exact u.slot b ob q n hb hx
  · exact ⟨ob.slots, u.keep b ob q n hb hx⟩
theorem Un.kept (k : ∀ b u, h.get? b = some u → h'.get? b = some u) : Un fs ex H H h h' :=
  ⟨fun b ob q _ _ _ => k b ob q, fun b ob q _ _ _ => ⟨ob.slots, k b ob q⟩, fun _ _ _ n _ => n, fun b ob q _ => ⟨ob, k b ob q⟩, fun _ _ q => q, fun _ _ _ q => q, fun _ ps q => ⟨#[], by rw [q]; simp⟩⟩
theorem Un.refl : Un fs ex H H h h := Un.kept fun _ _ q => q
theorem Un.laid (k : ∀ b u, h.get? b = some u → h'.get? b = some u) (hp : h.objs.size ≤ a) (hn : H a = none) : Un fs ex H (upd H a o) h h' where
  keep := fun b u q _ _ _ => k b u q
  slot := fun b u q _ _ _ => ⟨u.slots, k b u q⟩
  free := fun b u q n _ => by rw [upd_ne (Nat.ne_of_lt (Nat.lt_of_lt_of_le (Heap.lt_size q) hp))]; exact n
  there := fun b u q _ => ⟨u, k b u q⟩
  tups := fun b xs q => by rw [upd_ne (ne_of_none q hn)]; exact q
  frzs := fun b u xs q => by rw [upd_ne (ne_of_none q hn)]; exact q
  tbls := fun b ps q => ⟨#[], by rw [upd_ne (ne_of_none q hn), q]; simp⟩
theorem Un.write (mu : Mut (H x)) (he : e = x ∨ H e = some (.own x)) (k : ∀ b u, b ≠ e → h.get? b = some u → h'.get? b = some u) (heo : ∃ u, h'.get? e = some u) : Un fs ex H (upd H x o) h h' := by
  have hx : ∀ b, H b = none → b ≠ x := fun b n z => by subst z; rw [n] at mu; exact mu
  have hb : ∀ b, H b = none → b ≠ e := fun b n z => by
    subst z
    rcases he with r | r
    · exact hx b n r
    · rw [n] at r; cases r
  have hm : ∀ b u, H b = some u → ¬ Mut (some u) → b ≠ x := fun b u q nm z => by subst z; rw [q] at mu; exact nm mu
  refine ⟨fun b u q n _ _ => k b u (hb b n) q, fun b u q n _ _ => ⟨u.slots, k b u (hb b n) q⟩, fun b u q n _ => by rw [upd_ne (hx b n)]; exact n, fun b u q _ => ?_,
    fun b xs q => by rw [upd_ne (hm b _ q fun z => z)]; exact q, fun b u xs q => by rw [upd_ne (hm b _ q fun z => z)]; exact q, fun b ps q => ⟨#[], by rw [upd_ne (hm b _ q fun z => z), q]; simp⟩⟩
  by_cases hbe : b = e
  · subst hbe; exact heo
  · exact ⟨u, k b u hbe q⟩
end
noncomputable def trk (h : Heap) (H : Hp) : List Addr := (List.range h.objs.size).filter fun a => (H a).isSome
noncomputable def hidT (h : Heap) (H : Hp) : Heap := PySem.W.hideAll h (trk h H)
theorem hidT_size (h : Heap) (H : Hp) : (hidT h H).objs.size = h.objs.size := PySem.W.hideAll_size _ _
theorem hidT_get {h : Heap} {H : Hp} {b : Addr} {o : Obj} (e : h.get? b = some o) (n : H b = none) : (hidT h H).get? b = some o :=
  PySem.W.hideAll_get _ e fun hm => by
    have q : (H b).isSome = true := (List.mem_filter.mp hm).2
    rw [n] at q; simp at q
theorem of_hidT {h : Heap} {H : Hp} {b : Addr} {o : Obj} (e : (hidT h H).get? b = some o) : h.get? b = some o ∧ H b = none := by
  have e' : h.get? b = some o := PySem.W.of_hideAll (trk h H) e
  refine ⟨e', ?_⟩
  cases q : H b with
  | none => rfl
  | some x =>
    have hm : b ∈ trk h H := List.mem_filter.mpr ⟨List.mem_range.mpr (Heap.lt_size e'), by simp [q]⟩
    have z : (hidT h H).get? b = none := PySem.W.hideAll_none (trk h H) hm
    rw [z] at e; cases e

end L2
namespace L2
open PySem PySem.Spec PyProof.Rows
structure Mod (K : PySem.W.Frag) (mg : Str → Option Value) (base : Heap) : Prop where
  kin : K.In base
  glob : base.Ns mainGlobals mg
  blt : ∃ mb, base.Ns builtinsNs mb ∧ ∀ x : Str, x ≠ "__name__" → mb x = bootBuiltins x
  nolimit : base.NoLimit

structure Cx where
  prog : Program
  w : World
  K : PySem.W.Frag
  mg : Str → Option Value
  base : Heap
  A : Around
  N : List Str
  s₀ : Shared
  H₀ : Hp
  env : Env
  outer : List Env
  stack : List Env
  ex : List Addr
  fn : Str → Bool
  calm : Bool
  pn : List (Addr × Obj)
  xe : Value → Shared → Prop
noncomputable def frs (l : List Env) : List Addr := l.filterMap (·.frame)
noncomputable abbrev Cx.fs (X : Cx) : List Addr := frs X.outer

noncomputable def Vis (sc : Scope) (x : Str) : Prop := sc.names.lookup x = some .local ∨ sc.names.lookup x = some .cell ∨ sc.names.lookup x = some .free
noncomputable def Loc (sc : Scope) (x : Str) : Prop := sc.names.lookup x = some .local ∨ sc.names.lookup x = some .cell
noncomputable def Look (env : Env) (h : Heap) (m : Str → Option Value) (x : Str) (u : Value) : Prop :=
  (env.kindOf x = some .local ∧ m x = some u) ∨ ((env.kindOf x = some .cell ∨ env.kindOf x = some .free) ∧ ∃ c, env.cells.lookup x = some c ∧ h.IsCell c (some u))

structure Cx.Ok (X : Cx) : Prop where
  mod : Mod X.K X.mg X.base
  kind : X.env.scope.kind = .function
  glob : X.env.globals = mainGlobals
  blt : X.env.builtins = builtinsNs
  above : X.s₀.heap.objs.size ≤ X.env.locals
  inj : ∀ x y c, X.env.cells.lookup x = some c → X.env.cells.lookup y = some c → x = y
  has : ∀ x, (X.env.kindOf x = some .cell ∨ X.env.kindOf x = some .free) → ∃ c, X.env.cells.lookup x = some c
  cab : ∀ x c, X.fn x = true → X.env.cells.lookup x = some c → X.s₀.heap.objs.size ≤ c
  hd : X.calm = true → X.A.handled = none
  frames : X.A.frames = some X.stack
  stk : X.stack = X.outer ∨ (X.stack = X.env :: X.outer ∧ X.env.frame = some X.env.locals)
  exf : ∀ b ∈ X.ex, b ≠ X.env.locals ∧ ∀ x c, X.env.cells.lookup x = some c → c ≠ b
  bs : ∀ b o, X.base.get? b = some o → X.s₀.heap.get? b = some o ∧ X.H₀ b = none
  bsz : X.base.objs.size ≤ X.s₀.heap.objs.size
  noex : ∀ b o, X.base.get? b = some o → b ∉ X.ex
  exfs : ∀ b ∈ X.ex, b ∉ X.fs
  funs : X.s₀.heap.FunFrames X.base X.outer
  frf : ∀ b ∈ X.fs, X.H₀ b = none

structure Inv (X : Cx) (pins : List (Addr × Obj)) (σ : List (Option V)) (H : Hp) (s : Shared) : Prop where
  ok : X.Ok
  os : s.os = X.s₀.os
  bare : AllBare s.gens
  base : Un X.fs X.ex X.H₀ H X.s₀.heap s.heap
  loc : ∃ m, s.heap.Ns X.env.locals m ∧ ∀ (i : Nat) (x : Str) (v : V), X.N[i]? = some x → σ[i]? = some (some v) → Vis X.env.scope x → ∃ u, RelV v u ∧ Look X.env s.heap m x u
  cell : ∀ x c, X.env.cells.lookup x = some c → ∃ v, s.heap.IsCell c v
  free : H X.env.locals = none
  freeC : ∀ x c, X.env.cells.lookup x = some c → H c = none
  pin : ∀ p ∈ X.pn ++ pins, s.heap.get? p.1 = some p.2 ∧ H p.1 = none ∧ p.1 ≠ X.env.locals ∧ p.1 ∉ X.fs ∧ ∀ v, p.2.data ≠ .cell v
  hok : HOk X.prog X.w H s.heap
  len : σ.length = X.N.length

section
variable {X : Cx} {pins : List (Addr × Obj)} {σ : List (Option V)} {H H' : Hp} {s : Shared} {h' : Heap}
theorem Cx.Ok.nofr (ok : X.Ok) {b : Addr} {o : Obj} (e : X.base.get? b = some o) : b ∉ X.fs := fun hb => by
  have := (ok.funs.mem hb).1
  rw [e] at this; cases this
theorem Inv.bs (I : Inv X pins σ H s) : ∀ b o, X.base.get? b = some o → s.heap.get? b = some o ∧ H b = none := fun b o e =>
  ⟨I.base.keep b o (I.ok.bs b o e).1 (I.ok.bs b o e).2 (I.ok.nofr e) (I.ok.noex b o e), I.base.free b o (I.ok.bs b o e).1 (I.ok.bs b o e).2 (I.ok.noex b o e)⟩
theorem Inv.bk (I : Inv X pins σ H s) : ∀ b o, X.base.get? b = some o → s.heap.get? b = some o := fun b o e => (I.bs b o e).1
theorem Inv.mod (I : Inv X pins σ H s) : Mod X.K X.mg X.base := I.ok.mod
theorem Inv.kIn (I : Inv X pins σ H s) : X.K.In s.heap := I.ok.mod.kin.keeps I.bk
theorem Inv.lt (I : Inv X pins σ H s) : X.env.locals < s.heap.objs.size := let ⟨_, hn, _⟩ := I.loc; hn.lt
theorem Inv.sz (I : Inv X pins σ H s) : X.s₀.heap.objs.size ≤ s.heap.objs.size := Nat.le_trans I.ok.above (Nat.le_of_lt I.lt)
theorem Inv.nofs (I : Inv X pins σ H s) {a : Addr} (h : s.heap.objs.size ≤ a) : a ∉ X.fs := fun hb => by
  obtain ⟨_, o, ho, _⟩ := I.ok.funs.mem hb
  exact absurd (Nat.lt_of_lt_of_le (Heap.lt_size ho) (Nat.le_trans I.sz h)) (Nat.lt_irrefl _)
theorem Inv.cne (I : Inv X pins σ H s) : ∀ x c, X.env.cells.lookup x = some c → c ≠ X.env.locals := fun x c e z => by
  obtain ⟨v, o, ho, hd⟩ := I.cell x c e
  obtain ⟨m, ⟨o', es, ep, ho', hd', _⟩, _⟩ := I.loc
  rw [z, ho'] at ho; cases ho; rw [hd'] at hd; cases hd
theorem Inv.funs (I : Inv X pins σ H s) : s.heap.FunFrames X.base X.outer := by
  have all : ∀ (l : List Env), (∀ b ∈ frs l, b ∈ X.fs) → X.s₀.heap.FunFrames X.base l → s.heap.FunFrames X.base l := by
    intro l
    induction l with
    | nil => intro _ _; trivial
    | cons env r ih =>
      intro hs hl
      obtain ⟨hk, ⟨L, o, hf, hn, ho, hd⟩, hr⟩ := hl
      have hL : L ∈ X.fs := hs L (by unfold frs; rw [List.filterMap_cons, hf]; exact List.mem_cons_self)
      obtain ⟨sl, e⟩ := I.base.slot L o ho (I.ok.frf L hL) hL fun z => I.ok.exfs L z hL
      exact ⟨hk, ⟨L, _, hf, hn, e, hd⟩, ih (fun b hb => hs b (by unfold frs; rw [List.filterMap_cons, hf]; exact List.mem_cons_of_mem _ hb)) hr⟩
  exact all X.outer (fun _ hb => hb) I.ok.funs

theorem Inv.stack (I : Inv X pins σ H s) : s.heap.FunFrames X.base X.stack := by
  rcases I.ok.stk with e | ⟨e, hf⟩
  · rw [e]; exact I.funs
  · rw [e]
    obtain ⟨m, hn, _⟩ := I.loc
    refine .cons (by rw [I.ok.kind]; decide) hf hn ?_ I.funs
    exact Heap.get?_none_of_le (Nat.le_trans I.ok.bsz I.ok.above)
theorem Inv.stkSub (I : Inv X pins σ H s) : ∀ b ∈ frs X.stack, b ∈ X.env.locals :: X.fs := fun b hb => by
  rcases I.ok.stk with e | ⟨e, hf⟩
  · rw [e] at hb; exact List.mem_cons_of_mem _ hb
  · rw [e] at hb
    unfold frs at hb
    rw [List.filterMap_cons, hf] at hb
    exact hb
theorem Inv.stkFree (I : Inv X pins σ H s) : ∀ b ∈ frs X.stack, H b = none := fun b hb => by
  rcases List.mem_cons.mp (I.stkSub b hb) with e | hb
  · rw [e]; exact I.free
  · obtain ⟨_, o, ho, _⟩ := I.ok.funs.mem hb
    exact I.base.free b o ho (I.ok.frf b hb) fun z => I.ok.exfs b z hb

theorem Inv.step {g' : Array GenState} {t' : Nat} {d' : Drawn} {ch : List Addr} (I : Inv X pins σ H s)
    (hch : ∀ b ∈ ch, (b ∈ X.ex ∨ X.s₀.heap.objs.size ≤ b) ∧ b ≠ X.env.locals ∧ (∀ x c, X.env.cells.lookup x = some c → c ≠ b) ∧ ∀ p ∈ X.pn ++ pins, p.1 ≠ b)
    (keep : ∀ b o, b ≠ X.env.locals → b ∉ X.fs → b ∉ ch → s.heap.get? b = some o → H b = none → h'.get? b = some o)
    (slot : ∀ b o, b ≠ X.env.locals → b ∈ X.fs → b ∉ ch → s.heap.get? b = some o → H b = none → ∃ sl, h'.get? b = some { o with slots := sl }) (free : ∀ b o, b ∉ ch → s.heap.get? b = some o → H b = none → H' b = none)
    (there : ∀ b o, b ∉ ch → s.heap.get? b = some o → ∃ o', h'.get? b = some o')
    (tups : ∀ b xs, H b = some (.tup xs) → H' b = some (.tup xs)) (frzs : ∀ b o u, H b = some (.frz o u) → H' b = some (.frz o u)) (tbls : ∀ b ps, H b = some (.tbl ps) → ∃ more, H' b = some (.tbl (ps ++ more)))
    (ns : ∀ m, s.heap.Ns X.env.locals m → h'.Ns X.env.locals m) (hok : HOk X.prog X.w H' h') (hg : AllBare g') :
    Inv X pins σ H' { s with heap := h', gens := g', drawn := d', toks := t' } := by
  have neL : ∀ b o, X.s₀.heap.get? b = some o → b ≠ X.env.locals := fun b o e => Nat.ne_of_lt (Nat.lt_of_lt_of_le (Heap.lt_size e) I.ok.above)
  have neC : ∀ b o, X.s₀.heap.get? b = some o → b ∉ X.ex → b ∉ ch := fun b o e hx hb => by
    rcases (hch b hb).1 with z | z
    · exact hx z
    · exact absurd (Nat.lt_of_lt_of_le (Heap.lt_size e) z) (Nat.lt_irrefl _)
  have cellK : ∀ x c, X.env.cells.lookup x = some c → ∀ v, s.heap.IsCell c v → h'.IsCell c v := fun x c e v ⟨o, ho, hd⟩ => by
    have nch : c ∉ ch := fun z => (hch c z).2.2.1 x c e rfl
    by_cases hc : c ∈ X.fs
    · obtain ⟨sl, q⟩ := slot c o (I.cne x c e) hc nch ho (I.freeC x c e)
      exact ⟨_, q, hd⟩
    · exact ⟨o, keep c o (I.cne x c e) hc nch ho (I.freeC x c e), hd⟩
  refine ⟨I.ok, I.os, hg, ⟨fun b o e n hb hx => ?_, fun b o e n hb hx => ?_, fun b o e n hx => ?_, fun b o e hx => ?_, fun b xs e => tups b xs (I.base.tups b xs e), fun b o xs e => frzs b o xs (I.base.frzs b o xs e), fun b ps e => ?_⟩, ?_, fun x c e => ?_, ?_, fun x c e => ?_, fun p hp => ?_, hok, I.len⟩
  · exact keep b o (neL b o e) hb (neC b o e hx) (I.base.keep b o e n hb hx) (I.base.free b o e n hx)
  · obtain ⟨sl, e1⟩ := I.base.slot b o e n hb hx
    obtain ⟨sl', e2⟩ := slot b _ (neL b o e) hb (neC b o e hx) e1 (I.base.free b o e n hx)
    exact ⟨sl', e2⟩
  · obtain ⟨o', e1⟩ := I.base.there b o e hx
    exact free b o' (neC b o e hx) e1 (I.base.free b o e n hx)
  · obtain ⟨o', e1⟩ := I.base.there b o e hx
    exact there b o' (neC b o e hx) e1
  · obtain ⟨m1, e1⟩ := I.base.tbls b ps e
    obtain ⟨m2, e2⟩ := tbls b _ e1
    exact ⟨m1 ++ m2, by rw [e2, Array.append_assoc]⟩
  · obtain ⟨m, hn, hl⟩ := I.loc
    refine ⟨m, ns m hn, fun i x v e1 e2 e3 => ?_⟩
    obtain ⟨u, r, l⟩ := hl i x v e1 e2 e3
    refine ⟨u, r, ?_⟩
    rcases l with l | ⟨k, c, e, z⟩
    · exact .inl l
    · exact .inr ⟨k, c, e, cellK x c e _ z⟩
  · obtain ⟨v, z⟩ := I.cell x c e
    exact ⟨v, cellK x c e v z⟩
  · obtain ⟨m, ⟨o, _, _, ho, _⟩, _⟩ := I.loc
    exact free _ o (fun z => (hch _ z).2.1 rfl) ho I.free
  · obtain ⟨v, o, ho, hd⟩ := I.cell x c e
    exact free c o (fun z => (hch c z).2.2.1 x c e rfl) ho (I.freeC x c e)
  · obtain ⟨e, n, ne, nf, d⟩ := I.pin p hp
    have nch : p.1 ∉ ch := fun z => (hch p.1 z).2.2.2 p hp rfl
    exact ⟨keep p.1 p.2 ne nf nch e n, free p.1 p.2 nch e n, ne, nf, d⟩
theorem Inv.un {t' : Nat} (I : Inv X pins σ H s) (u : Un X.fs [] H H' s.heap h') (hok : HOk X.prog X.w H' h') : Inv X pins σ H' { s with heap := h', toks := t' } := by
  obtain ⟨m, ⟨o, es, ep, ho, r⟩, _⟩ := id I.loc
  obtain ⟨sl, hL⟩ := u.any ho I.free (by simp)
  exact I.step (g' := s.gens) (d' := s.drawn) (ch := []) (fun _ z => nomatch z) (fun b o _ hb _ e n => u.keep b o e n hb (by simp)) (fun b o _ hb _ e n => u.slot b o e n hb (by simp)) (fun b o _ e n => u.free b o e n (by simp)) (fun b o _ e => u.there b o e (by simp)) u.tups u.frzs u.tbls (fun m' hm => by
    obtain ⟨o', es', ep', ho', r'⟩ := hm
    rw [ho] at ho'; cases ho'
    exact ⟨_, es', ep', hL, r'⟩) hok I.bare
theorem Inv.call {g' : Array GenState} {t' : Nat} {d' : Drawn} {ch : List Addr} (I : Inv X pins σ H s) (u : Un (frs X.stack) ch H H' s.heap h') (hok : HOk X.prog X.w H' h') (hg : AllBare g')
    (hch : ∀ b ∈ ch, (b ∈ X.ex ∨ X.s₀.heap.objs.size ≤ b) ∧ b ≠ X.env.locals ∧ (∀ x c, X.env.cells.lookup x = some c → c ≠ b) ∧ ∀ p ∈ X.pn ++ pins, p.1 ≠ b) :
    Inv X pins σ H' { s with heap := h', gens := g', drawn := d', toks := t' } := by
  obtain ⟨m, ⟨o, es, ep, ho, r⟩, _⟩ := id I.loc
  obtain ⟨sl, hL⟩ := u.any ho I.free fun z => (hch _ z).2.1 rfl
  exact I.step (ch := ch) hch (fun b o hL hb hc e n => u.keep b o e n (fun z => (List.mem_cons.mp (I.stkSub b z)).elim hL hb) hc) (fun b o _ _ hc e n => u.any e n hc) (fun b o hc e n => u.free b o e n hc) (fun b o hc e => u.there b o e hc) u.tups u.frzs u.tbls (fun m' hm => by
    obtain ⟨o', es', ep', ho', r'⟩ := hm
    rw [ho] at ho'; cases ho'
    exact ⟨_, es', ep', hL, r'⟩) hok hg
theorem Inv.turned {t' : Nat} {it : Addr} (I : Inv X pins σ H s) (k : ∀ b o, b ≠ it → s.heap.get? b = some o → h'.get? b = some o) (hn : H it = none) (hL : it ≠ X.env.locals)
    (h1 : it ∈ X.ex ∨ X.s₀.heap.objs.size ≤ it) (h2 : ∀ x c, X.env.cells.lookup x = some c → c ≠ it) (h3 : ∀ p ∈ X.pn ++ pins, p.1 ≠ it) : Inv X pins σ H { s with heap := h', toks := t' } := by
  have nit : ∀ b u, H b = some u → b ≠ it := fun b u e z => by rw [z, hn] at e; cases e
  refine I.step (g' := s.gens) (d' := s.drawn) (ch := [it]) (fun b hb => ?_) (fun b o _ _ hc e _ => k b o (fun z => hc (by simp [z])) e) (fun b o _ _ hc e _ => ⟨o.slots, k b o (fun z => hc (by simp [z])) e⟩) (fun _ _ _ _ n => n)
    (fun b o hc e => ⟨o, k b o (fun z => hc (by simp [z])) e⟩) (fun _ _ e => e) (fun _ _ _ e => e) (fun b ps e => ⟨#[], by rw [e]; simp⟩) (fun m hm => ?_) (fun b u e => ?_) I.bare
  · have e : b = it := by simpa using hb
    subst e
    exact ⟨h1, hL, h2, h3⟩
  · obtain ⟨o, es, ep, ho, r⟩ := hm
    exact ⟨o, es, ep, k _ o (Ne.symm hL) ho, r⟩
  · refine (I.hok b u e).stay (fun c v hc q => k c v ?_ q) (fun _ q => q) fun _ _ q => q
    rcases hc with z | z
    · rw [z]; exact nit b u e
    · exact nit c _ z
theorem Inv.tok (I : Inv X pins σ H s) (t : Nat) : Inv X pins σ H { s with toks := t } := I.un (h' := s.heap) (t' := t) Un.refl I.hok
theorem Inv.kept {t' : Nat} (I : Inv X pins σ H s) (k : ∀ b u, s.heap.get? b = some u → h'.get? b = some u) : Inv X pins σ H { s with heap := h', toks := t' } := I.un (Un.kept k) (I.hok.kept k)
theorem Inv.laid {a : Addr} {o : HO} {t' : Nat} (I : Inv X pins σ H s) (k : ∀ b u, s.heap.get? b = some u → h'.get? b = some u) (hp : s.heap.objs.size ≤ a) (new : ObjOk X.prog X.w (upd H a o) h' a o) :
    Inv X pins σ (upd H a o) { s with heap := h', toks := t' } := I.un (Un.laid k hp (I.hok.fresh hp)) (I.hok.laid k hp new)
theorem Inv.write {x e : Addr} {o : HO} {t' : Nat} (I : Inv X pins σ H s) (mu : Mut (H x)) (he : e = x ∨ H e = some (.own x)) (k : ∀ b u, b ≠ e → s.heap.get? b = some u → h'.get? b = some u) (heo : ∃ u, h'.get? e = some u)
    (new : ObjOk X.prog X.w (upd H x o) h' x o) : Inv X pins σ (upd H x o) { s with heap := h', toks := t' } := I.un (Un.write mu he k heo) (I.hok.write mu he k heo new)
theorem Inv.weak {σ' : List (Option V)} (I : Inv X pins σ H s) (hl : σ'.length = σ.length) (w : ∀ (i : Nat) v, σ'[i]? = some (some v) → σ[i]? = some (some v)) : Inv X pins σ' H s :=
  ⟨I.ok, I.os, I.bare, I.base, let ⟨m, hn, hl'⟩ := I.loc; ⟨m, hn, fun i x v e1 e2 e3 => hl' i x v e1 (w i v e2) e3⟩, I.cell, I.free, I.freeC, I.pin, I.hok, hl.trans I.len⟩
theorem Inv.pins_of {pins' : List (Addr × Obj)} (I : Inv X pins σ H s) (h : ∀ p ∈ pins', s.heap.get? p.1 = some p.2 ∧ H p.1 = none ∧ p.1 ≠ X.env.locals ∧ p.1 ∉ X.fs ∧ ∀ v, p.2.data ≠ .cell v) : Inv X pins' σ H s :=
  ⟨I.ok, I.os, I.bare, I.base, I.loc, I.cell, I.free, I.freeC, fun p hp => (List.mem_append.mp hp).elim (fun z => I.pin p (List.mem_append_left _ z)) (h p), I.hok, I.len⟩

theorem nodup_ix {N : List Str} (hN : N.Nodup) {i j : Nat} {x : Str} (a : N[i]? = some x) (b : N[j]? = some x) : i = j := by
  obtain ⟨h1, e1⟩ := List.getElem?_eq_some_iff.mp a
  obtain ⟨h2, e2⟩ := List.getElem?_eq_some_iff.mp b
  exact (List.getElem_inj hN).mp (e1.trans e2.symm)

theorem store_ok2 {M : Model} {A : Around} {E : Value → Shared → Prop} {i : Nat} {x : Str} {v : V} {u : Value} {Q : Unit → Shared → Prop} (I : Inv X pins σ H s) (hN : X.N.Nodup) (hi : X.N[i]? = some x) (hx : Loc X.env.scope x) (r : RelV v u)
    (h : ∀ s', Inv X pins (σ.set i (some v)) H s' → (∃ a, Heap.SameBut a s.heap s'.heap ∧ (a = X.env.locals ∨ X.env.cells.lookup x = some a)) → Q () s') (hf : X.fn x = true ∨ X.env.scope.names.lookup x = some .local := by first | exact .inl rfl | exact .inr rfl | assumption) : wpAny M A (storeName X.env x u) Q E s := by
  obtain ⟨m, hn, hl⟩ := id I.loc
  have hcls : (X.env.scope.kind == .class || (X.env.scope.kind == .module && X.env.locals != X.env.globals)) = false := by rw [I.ok.kind]; rfl
  have hiσ : i < σ.length := by rw [I.len]; exact (List.getElem?_eq_some_iff.mp hi).1
  have cne := I.cne
  have tracked : ∀ {a : Addr} {h' : Heap}, (∃ o, s.heap.get? a = some o ∧ H a = none) → Heap.SameBut a s.heap h' → HOk X.prog X.w H h' := fun {a h'} ha hs b ob e => by
    obtain ⟨_, _, hfree⟩ := ha
    refine (I.hok b ob e).stay (fun c w' hc q => (hs.2 c ?_).trans q) (fun _ q => q) fun _ _ q => q
    rintro rfl
    rcases hc with rfl | hc
    · rw [hfree] at e; cases e
    · rw [hfree] at hc; cases hc
  rcases hx with hk | hk
  · refine wpAny_storeName_local hk hn (fun h' hn' hs => ?_) hcls
    obtain ⟨oL, _, _, hoL, _⟩ := id hn
    refine h _ ⟨I.ok, I.os, I.bare, ⟨fun b o e n hb hx => ?_, fun b o e n hb hx => ?_, I.base.free, fun b o e hx => ?_, I.base.tups, I.base.frzs, I.base.tbls⟩, ⟨_, hn', fun j y v' e1 e2 e3 => ?_⟩, fun y c e => ?_, I.free, I.freeC, fun p hp => ?_, tracked ⟨oL, hoL, I.free⟩ hs, by simpa using I.len⟩ ⟨_, hs, .inl rfl⟩
    · exact (hs.2 b (Nat.ne_of_lt (Nat.lt_of_lt_of_le (Heap.lt_size e) I.ok.above))).trans (I.base.keep b o e n hb hx)
    · obtain ⟨sl, e1⟩ := I.base.slot b o e n hb hx
      exact ⟨sl, (hs.2 b (Nat.ne_of_lt (Nat.lt_of_lt_of_le (Heap.lt_size e) I.ok.above))).trans e1⟩
    · obtain ⟨o', e1⟩ := I.base.there b o e hx
      exact ⟨o', (hs.2 b (Nat.ne_of_lt (Nat.lt_of_lt_of_le (Heap.lt_size e) I.ok.above))).trans e1⟩
    · by_cases hj : j = i
      · subst hj
        rw [hi] at e1; cases e1
        rw [List.getElem?_set_self hiσ] at e2
        cases e2
        exact ⟨u, r, .inl ⟨hk, by simp⟩⟩
      · rw [List.getElem?_set_ne (Ne.symm hj)] at e2
        obtain ⟨u', r', q⟩ := hl j y v' e1 e2 e3
        refine ⟨u', r', ?_⟩
        rcases q with ⟨k, e⟩ | ⟨k, c, e, z⟩
        · refine .inl ⟨k, ?_⟩
          have : y ≠ x := fun e => hj (nodup_ix hN e1 (e ▸ hi))
          simp [this, e]
        · exact .inr ⟨k, c, e, z.sameBut hs (cne y c e)⟩
    · obtain ⟨w', z⟩ := I.cell y c e
      exact ⟨w', z.sameBut hs (cne y c e)⟩
    · obtain ⟨e, n, ne, nf, d⟩ := I.pin p hp
      exact ⟨(hs.2 p.1 ne).trans e, n, ne, nf, d⟩
  · have hfn : X.fn x = true := by
      rcases hf with z | z
      · exact z
      · rw [z] at hk; cases hk
    obtain ⟨c, hc⟩ := I.ok.has x (.inl hk)
    obtain ⟨w', z⟩ := I.cell x c hc
    refine wpAny_storeName_cell I.ok.kind hk hc z (fun h' hc' hs => ?_)
    obtain ⟨oc, hoc, hocd⟩ := id z
    refine h { s with heap := h' } ⟨I.ok, I.os, I.bare, ⟨fun b o e n hb hx => ?_, fun b o e n hb hx => ?_, I.base.free, fun b o e hx => ?_, I.base.tups, I.base.frzs, I.base.tbls⟩, ⟨m, hn.sameBut hs (Ne.symm (cne x c hc)), fun j y v' e1 e2 e3 => ?_⟩, fun y c' e => ?_, I.free, I.freeC, fun p hp => ?_, tracked ⟨oc, hoc, I.freeC x c hc⟩ hs, by simpa using I.len⟩ ⟨c, hs, .inr hc⟩
    · exact (hs.2 b (Nat.ne_of_lt (Nat.lt_of_lt_of_le (Heap.lt_size e) (I.ok.cab x c hfn hc)))).trans (I.base.keep b o e n hb hx)
    · obtain ⟨sl, e1⟩ := I.base.slot b o e n hb hx
      exact ⟨sl, (hs.2 b (Nat.ne_of_lt (Nat.lt_of_lt_of_le (Heap.lt_size e) (I.ok.cab x c hfn hc)))).trans e1⟩
    · obtain ⟨o', e1⟩ := I.base.there b o e hx
      exact ⟨o', (hs.2 b (Nat.ne_of_lt (Nat.lt_of_lt_of_le (Heap.lt_size e) (I.ok.cab x c hfn hc)))).trans e1⟩
    · by_cases hj : j = i
      · subst hj
        rw [hi] at e1; cases e1
        rw [List.getElem?_set_self hiσ] at e2
        cases e2
        exact ⟨u, r, .inr ⟨.inl hk, c, hc, hc'⟩⟩
      · rw [List.getElem?_set_ne (Ne.symm hj)] at e2
        obtain ⟨u', r', q⟩ := hl j y v' e1 e2 e3
        refine ⟨u', r', ?_⟩
        rcases q with q | ⟨k, c', e, z'⟩
        · exact .inl q
        · refine .inr ⟨k, c', e, z'.sameBut hs ?_⟩
          rintro rfl
          exact hj (nodup_ix hN e1 (I.ok.inj _ _ _ e hc ▸ hi))
    · by_cases hcc : c' = c
      · subst hcc; exact ⟨_, hc'⟩
      · obtain ⟨w2, z2⟩ := I.cell y c' e
        exact ⟨w2, z2.sameBut hs hcc⟩
    · obtain ⟨e, n, ne, nf, d⟩ := I.pin p hp
      refine ⟨(hs.2 p.1 ?_).trans e, n, ne, nf, d⟩
      intro q
      rw [q, hoc] at e
      have q' : oc = p.2 := Option.some.inj e
      exact d w' (by rw [← q']; exact hocd)
theorem store_ok {M : Model} {A : Around} {E : Value → Shared → Prop} {i : Nat} {x : Str} {v : V} {u : Value} {Q : Unit → Shared → Prop} (I : Inv X pins σ H s) (hN : X.N.Nodup) (hi : X.N[i]? = some x) (hx : Loc X.env.scope x) (r : RelV v u)
    (h : ∀ s', Inv X pins (σ.set i (some v)) H s' → Q () s') (hf : X.fn x = true ∨ X.env.scope.names.lookup x = some .local := by first | exact .inl rfl | exact .inr rfl | assumption) : wpAny M A (storeName X.env x u) Q E s :=
  store_ok2 I hN hi hx r (fun s' I' _ => h s' I') hf
theorem Inv.call' {s' : Shared} {ch : List Addr} (I : Inv X pins σ H s) (ho : s'.os = s.os) (u : Un (frs X.stack) ch H H' s.heap s'.heap) (hok : HOk X.prog X.w H' s'.heap) (hg : AllBare s'.gens)
    (hch : ∀ b ∈ ch, (b ∈ X.ex ∨ X.s₀.heap.objs.size ≤ b) ∧ b ≠ X.env.locals ∧ (∀ x c, X.env.cells.lookup x = some c → c ≠ b) ∧ ∀ p ∈ X.pn ++ pins, p.1 ≠ b) : Inv X pins σ H' s' := by
  obtain ⟨h', g', d', t', o'⟩ := s'
  have e : o' = s.os := ho
  subst e
  exact I.call (g' := g') (t' := t') (d' := d') u hok hg hch
end
noncomputable abbrev XK := Value → Option Addr → Hp → Prop
noncomputable abbrev St := List (Option V)
noncomputable abbrev VK := V → Hp → Prop
noncomputable abbrev TE := St → Hp → VK → Prop
noncomputable abbrev TT := St → Hp → (Bool → Hp → Prop) → Prop
noncomputable abbrev TA := St → Hp → (List V → Hp → Prop) → Prop
structure Ends where
  nx : St → Hp → Prop
  rt : VK
  bk : St → Hp → Prop := fun _ _ => False
  ct : St → Hp → Prop := fun _ _ => False
noncomputable abbrev TS := Ends → St → Hp → Prop

noncomputable def EP (X : Cx) (pins : List (Addr × Obj)) (σ : St) (Q : VK) (u : Value) (s' : Shared) : Prop := ∃ v H', Inv X pins σ H' s' ∧ RelV v u ∧ Q v H'
noncomputable def TP (X : Cx) (pins : List (Addr × Obj)) (σ : St) (Q : Bool → Hp → Prop) (b : Bool) (s' : Shared) : Prop := ∃ H', Inv X pins σ H' s' ∧ Q b H'
noncomputable def AP (X : Cx) (pins : List (Addr × Obj)) (σ : St) (Q : List V → Hp → Prop) (us : List Value) (s' : Shared) : Prop := ∃ vs H', Inv X pins σ H' s' ∧ Vals vs us ∧ Q vs H'
noncomputable def SP (X : Cx) (pins : List (Addr × Obj)) (D : Ends) (f : Flow) (s' : Shared) : Prop :=
  match f with
  | .next => ∃ σ' H', Inv X pins σ' H' s' ∧ D.nx σ' H'
  | .brk => ∃ σ' H', Inv X pins σ' H' s' ∧ D.bk σ' H'
  | .cont => ∃ σ' H', Inv X pins σ' H' s' ∧ D.ct σ' H'
  | .ret u => ∃ v σ' H', Inv X pins σ' H' s' ∧ RelV v u ∧ D.rt v H'

noncomputable def PE (X : Cx) (e : Expr) (t : TE) : Prop :=
  ∀ (pins : List (Addr × Obj)) (s : Shared) (σ : St) (H : Hp) (Q : VK), Inv X pins σ H s → t σ H Q → wpAny (model X.prog X.w) X.A (eval e X.env) (EP X pins σ Q) X.xe s
@[irreducible] noncomputable def ZE (X : Cx) (e : Expr) (t : TE) : Prop := PE X e t
noncomputable def PT (X : Cx) (e : Expr) (t : TT) : Prop :=
  ∀ (pins : List (Addr × Obj)) (s : Shared) (σ : St) (H : Hp) (Q : Bool → Hp → Prop), Inv X pins σ H s → t σ H Q → wpAny (model X.prog X.w) X.A (isTrue e X.env (eval e X.env)) (TP X pins σ Q) X.xe s
@[irreducible] noncomputable def ZT (X : Cx) (e : Expr) (t : TT) : Prop := PT X e t
noncomputable def PW (X : Cx) (e : Expr) (t : TT) : Prop :=
  ∀ (whole : Sem Value) (pins : List (Addr × Obj)) (s : Shared) (σ : St) (H : Hp) (Q : Bool → Hp → Prop), Inv X pins σ H s → t σ H Q → wpAny (model X.prog X.w) X.A (isTrue e X.env whole) (TP X pins σ Q) X.xe s
@[irreducible] noncomputable def ZW (X : Cx) (e : Expr) (t : TT) : Prop := PW X e t
theorem PW.pt {X : Cx} {e : Expr} {t : TT} (h : PW X e t) : PT X e t := h _
theorem ZW.zt {X : Cx} {e : Expr} {t : TT} (h : ZW X e t) : ZT X e t := by with_unfolding_all exact PW.pt h
noncomputable def PA (X : Cx) (es : List Expr) (t : TA) : Prop :=
  ∀ (pos : Pos) (pins : List (Addr × Obj)) (s : Shared) (σ : St) (H : Hp) (Q : List V → Hp → Prop), Inv X pins σ H s → t σ H Q → wpAny (model X.prog X.w) X.A (spliced (backTo pos (starEach es X.env))) (AP X pins σ Q) X.xe s
@[irreducible] noncomputable def ZA (X : Cx) (es : List Expr) (t : TA) : Prop := PA X es t
noncomputable def PS (X : Cx) (st : Stmt) (t : TS) : Prop :=
  ∀ (pins : List (Addr × Obj)) (s : Shared) (σ : St) (H : Hp) (D : Ends), Inv X pins σ H s → t D σ H → wpAny (model X.prog X.w) X.A (exec st X.env) (SP X pins D) X.xe s
@[irreducible] noncomputable def ZS (X : Cx) (st : Stmt) (t : TS) : Prop := PS X st t
noncomputable def PSs (X : Cx) (st : List Stmt) (t : TS) : Prop :=
  ∀ (pins : List (Addr × Obj)) (s : Shared) (σ : St) (H : Hp) (D : Ends), Inv X pins σ H s → t D σ H → wpAny (model X.prog X.w) X.A (execs st X.env) (SP X pins D) X.xe s
@[irreducible] noncomputable def ZSs (X : Cx) (st : List Stmt) (t : TS) : Prop := PSs X st t
theorem ZSs.p {X : Cx} {st : List Stmt} {t : TS}  (h : ZSs X st t) : PSs X st t := by unfold ZSs at h; exact h
theorem thn {α : Type} {t : Sem α} {Q Q' : α → Shared → Prop} {M : Model} {A : Around} {E : Value → Shared → Prop} {s : Shared} (h : wpAny M A t Q E s) (hQ : ∀ a s, Q a s → Q' a s) : wpAny M A t Q' E s := wpAny_mono h hQ fun _ _ x => x
end L2
namespace L2
open PySem PySem.Spec PyProof.Rows
section
variable {X : Cx}
noncomputable def tVar (i : Nat) : TE := fun σ H Q => ∃ v, σ[i]? = some (some v) ∧ Q v H
noncomputable def tC (v : V) : TE := fun _ H Q => Q v H
theorem pe_var {i : Nat} {x : Str} {pos : Pos} (hN : X.N[i]? = some x) (hv : Vis X.env.scope x) (hd : (x == ("__debug__" : Str)) = false := by decide) (hcd : (x == ("__classdict__" : Str)) = false := by decide) : PE X (.Name x pos) (tVar i) := by
  intro pins s σ H Q I h
  obtain ⟨v, e, h⟩ := h
  obtain ⟨m, hn, hl⟩ := I.loc
  obtain ⟨u, r, l⟩ := hl i x v hN e hv
  have fin : EP X pins σ Q u s := ⟨v, H, I, r, h⟩
  rcases l with ⟨hk, hm⟩ | ⟨hk, c, hc, hcell⟩
  · exact wpAny_Name (wpAny_loadName_local I.ok.kind hk hn hm fin) hd
  · rcases hk with hk | hk
    · exact wpAny_Name (wpAny_loadName_cell I.ok.kind hk hc hcell fin) hd
    · exact wpAny_Name (wpAny_loadName_free I.ok.kind hk hc hcell fin hcd) hd
theorem pe_int {i j pos} : PE X (.Constant (.int i) j pos) (tC (.int i)) := fun _ _ _ H _ I h => wpAny_Constant_int ⟨.int i, H, I.tok _, ⟨_, rfl⟩, h⟩
theorem ze_int {i j pos} : ZE X (.Constant (.int i) j pos) (tC (.int i)) := by with_unfolding_all exact pe_int 
theorem pe_bl {b j pos} : PE X (.Constant (.bool b) j pos) (tC (.bl b)) := fun _ _ _ H _ I h => Constant_bool ⟨.bl b, H, I, rfl, h⟩
theorem ze_bl {b j pos} : ZE X (.Constant (.bool b) j pos) (tC (.bl b)) := by with_unfolding_all exact pe_bl 
theorem pe_non {j pos} : PE X (.Constant .none j pos) (tC .non) := fun _ _ _ H _ I h => Constant_none ⟨.non, H, I, rfl, h⟩
theorem ze_non {j pos} : ZE X (.Constant .none j pos) (tC .non) := by with_unfolding_all exact pe_non 
theorem pe_str {x j pos} : PE X (.Constant (.str x) j pos) (tC (.str x)) := fun _ _ _ H _ I h => Calls.Constant_str ⟨.str x, H, I.tok _, ⟨_, rfl⟩, h⟩
theorem ze_str {x j pos} : ZE X (.Constant (.str x) j pos) (tC (.str x)) := by with_unfolding_all exact pe_str 

noncomputable def Gl (X : Cx) (x : Str) : Prop := X.env.kindOf x = some .globalImplicit
theorem ld_glob {E : Value → Shared → Prop} {pins : List (Addr × Obj)} {s : Shared} {σ : St} {H : Hp} {x : Str} {u : Value} {pos : Pos} {Q : Value → Shared → Prop} (I : Inv X pins σ H s) (hg : Gl X x) (hm : X.mg x = some u) (h : Q u s)
    (hd : (x == ("__debug__" : Str)) = false := by decide) : wpAny (model X.prog X.w) X.A (eval (.Name x pos) X.env) Q E s :=
  Calls.Name_function_global I.ok.kind hg (Calls.loadGlobal_global (by rw [I.ok.glob]; exact I.mod.glob.keeps I.bk) hm h) hd
theorem ld_blt {E : Value → Shared → Prop} {pins : List (Addr × Obj)} {s : Shared} {σ : St} {H : Hp} {x : Str} {u : Value} {pos : Pos} {Q : Value → Shared → Prop} (I : Inv X pins σ H s) (hg : Gl X x) (hm : X.mg x = none) (hv : bootBuiltins x = some u) (h : Q u s)
    (hn : x ≠ "__name__" := by decide) (hd : (x == ("__debug__" : Str)) = false := by decide) : wpAny (model X.prog X.w) X.A (eval (.Name x pos) X.env) Q E s := by
  obtain ⟨mb, h1, h2⟩ := I.mod.blt
  exact Calls.Name_function_global I.ok.kind hg (Calls.loadGlobal_builtin (by rw [I.ok.glob]; exact I.mod.glob.keeps I.bk) hm (by rw [I.ok.blt]; exact h1.keeps I.bk) ((h2 x hn).trans hv) h) hd
variable {a b : Expr} {ta tb : TE} {pos : Pos}
variable {tA tB' : TT} {rest : List Expr}
noncomputable def tAnd (t u : TT) : TT := fun σ H Q => t σ H fun c H1 => if c = true then u σ H1 Q else Q false H1
noncomputable def tOr (t u : TT) : TT := fun σ H Q => t σ H fun c H1 => if c = true then Q true H1 else u σ H1 Q
noncomputable def tNot (t : TT) : TT := fun σ H Q => t σ H fun c H1 => Q (!c) H1
theorem pw_and1 (ha : PT X a tA) : PW X (.BoolOp .And [a] pos) tA := by
  intro wh pins s σ H Q I h
  refine isTrue_and (thn (ha pins s σ H Q I h) fun c s1 e => ?_)
  cases c with
  | true => exact isTrue_and_nil e
  | false => exact e
theorem zw_and1 (ha : ZT X a tA) : ZW X (.BoolOp .And [a] pos) tA := by with_unfolding_all exact pw_and1 ha
theorem pw_or1 (ha : PT X a tA) : PW X (.BoolOp .Or [a] pos) tA := by
  intro wh pins s σ H Q I h
  refine isTrue_or (thn (ha pins s σ H Q I h) fun c s1 e => ?_)
  cases c with
  | false => exact isTrue_or_nil e
  | true => exact e
theorem zw_or1 (ha : ZT X a tA) : ZW X (.BoolOp .Or [a] pos) tA := by with_unfolding_all exact pw_or1 ha
theorem pw_and (ha : PT X a tA) (hb : PW X (.BoolOp .And (b :: rest) pos) tB') : PW X (.BoolOp .And (a :: b :: rest) pos) (tAnd tA tB') := by
  intro wh pins s σ H Q I h
  refine isTrue_and (thn (ha pins s σ H _ I h) fun c s1 ⟨H1, I1, q1⟩ => ?_)
  cases c with
  | true => exact hb wh pins s1 σ H1 Q I1 q1
  | false => exact ⟨H1, I1, q1⟩
theorem zw_and (ha : ZT X a tA) (hb : ZW X (.BoolOp .And (b :: rest) pos) tB') : ZW X (.BoolOp .And (a :: b :: rest) pos) (tAnd tA tB') := by with_unfolding_all exact pw_and ha hb
theorem pw_or (ha : PT X a tA) (hb : PW X (.BoolOp .Or (b :: rest) pos) tB') : PW X (.BoolOp .Or (a :: b :: rest) pos) (tOr tA tB') := by
  intro wh pins s σ H Q I h
  refine isTrue_or (thn (ha pins s σ H _ I h) fun c s1 ⟨H1, I1, q1⟩ => ?_)
  cases c with
  | true => exact ⟨H1, I1, q1⟩
  | false => exact hb wh pins s1 σ H1 Q I1 q1
theorem zw_or (ha : ZT X a tA) (hb : ZW X (.BoolOp .Or (b :: rest) pos) tB') : ZW X (.BoolOp .Or (a :: b :: rest) pos) (tOr tA tB') := by with_unfolding_all exact pw_or ha hb
theorem pt_not (ha : PT X a tA) : PT X (.UnaryOp .Not a pos) (tNot tA) := by
  intro pins s σ H Q I h
  exact isTrue_not (ha pins s σ H (fun c H1 => Q (!c) H1) I h)
theorem zt_not (ha : ZT X a tA) : ZT X (.UnaryOp .Not a pos) (tNot tA) := by with_unfolding_all exact pt_not ha
theorem pe_one {op} {t : TE} (h : PE X a t) : PE X (.BoolOp op [a] pos) t := fun pins s σ H Q I hw => BoolOp_one (h pins s σ H Q I hw)
theorem ze_one {op} {t : TE} (h : ZE X a t) : ZE X (.BoolOp op [a] pos) t := by with_unfolding_all exact pe_one h
noncomputable def tIf (t : TT) (ta tb : TE) : TE := fun σ H Q => t σ H fun c H1 => if c = true then ta σ H1 Q else tb σ H1 Q
theorem pe_ifExp {c : Expr} (hc : PT X c tA) (ha : PE X a ta) (hb : PE X b tb) : PE X (.IfExp c a b pos) (tIf tA ta tb) := by
  intro pins s σ H Q I h
  refine wpAny_IfExp (thn (hc pins s σ H _ I h) fun d s1 ⟨H1, I1, q1⟩ => ?_)
  cases d with
  | true => exact ha pins s1 σ H1 Q I1 q1
  | false => exact hb pins s1 σ H1 Q I1 q1
theorem ze_ifExp {c : Expr} (hc : ZT X c tA) (ha : ZE X a ta) (hb : ZE X b tb) : ZE X (.IfExp c a b pos) (tIf tA ta tb) := by with_unfolding_all exact pe_ifExp hc ha hb
end
end L2
namespace L2
open PySem PySem.Spec PyProof.Rows
noncomputable def SqL (K : PySem.W.Frag) (H : Hp) (a : Addr) (xs : List V) : Prop :=
  Rd H a (.lst xs) ∨
    ∃ (o : Obj) (its : Array Value) (n : Nat), K.lookup a = some o ∧ o.cls = .type "list" ∧ o.dict = none ∧ o.data = .seq its n ∧ its.size ≤ sizeLine ∧ Vals xs its.toList
noncomputable def SqT (K : PySem.W.Frag) (H : Hp) (a : Addr) (xs : List V) : Prop :=
  Rd H a (.tup xs) ∨
    ∃ (o : Obj) (its : Array Value) (n : Nat), K.lookup a = some o ∧ o.cls = .type "tuple" ∧ o.data = .seq its n ∧ its.size ≤ sizeLine ∧ Vals xs its.toList
noncomputable def absV : Value → Option V
  | .none => some .non
  | .bool b => some (.bl b)
  | .int i _ => some (.int i)
  | .str x _ => some (.str x)
  | .bytes b _ => some (.byt b)
  | .float b _ => some (.flt b)
  | .ref a => some (.ref a)
  | .type n => some (.ty n)
  | _ => none
theorem RelV.abs {x : V} {u : Value} (r : RelV x u) : absV u = some x := by
  cases x with
  | non => cases r; rfl
  | bl _ => cases r; rfl
  | int _ => obtain ⟨t, rfl⟩ := r; rfl
  | str _ => obtain ⟨t, rfl⟩ := r; rfl
  | byt _ => obtain ⟨t, rfl⟩ := r; rfl
  | flt _ => obtain ⟨t, rfl⟩ := r; rfl
  | ref _ => cases r; rfl
  | ty _ => cases r; rfl
theorem RelV.inj {x y : V} {u : Value} (r : RelV x u) (q : RelV y u) : x = y := Option.some.inj (r.abs.symm.trans q.abs)
theorem Vals.inj : ∀ {xs ys : List V} {us : List Value}, Vals xs us → Vals ys us → xs = ys
  | _, _, _, .nil, .nil => rfl
  | _, _, _, .cons r t, .cons r' t' => by rw [r.inj r', Vals.inj t t']
section
variable {X : Cx} {pins : List (Addr × Obj)} {σ : St} {H : Hp} {s : Shared} {a : Addr} {xs ys : List V}
theorem SqL.of {K : PySem.W.Frag} (h : H a = some (.lst xs)) : SqL K H a xs := .inl (.inl h)
theorem SqT.of {K : PySem.W.Frag} (h : H a = some (.tup xs)) : SqT K H a xs := .inl (.inl h)
theorem Inv.list (I : Inv X pins σ H s) (h : SqL X.K H a xs) : ∃ its : List Value, Vals xs its ∧ PlainL s.heap a its.toArray ∧ xs.length ≤ sizeLine := by
  rcases h with h | ⟨o, its, n, hk, hc, hd, hs, hz, r⟩
  · obtain ⟨z, its, n, r, e⟩ := h.ok I.hok
    exact ⟨its, r, ⟨_, n, e, rfl, rfl, rfl⟩, z⟩
  · refine ⟨its.toList, r, ⟨o, n, I.kIn a o hk, hc, hd, by simpa using hs⟩, ?_⟩
    have e := r.length
    simp only [Array.length_toList] at e
    omega
theorem Inv.tuple (I : Inv X pins σ H s) (h : SqT X.K H a xs) : ∃ its : List Value, Vals xs its ∧ IsTup s.heap a its.toArray ∧ xs.length ≤ sizeLine := by
  rcases h with h | ⟨o, its, n, hk, hc, hs, hz, r⟩
  · obtain ⟨z, its, r, p⟩ := h.ok I.hok
    exact ⟨its, r, p.tup, z⟩
  · refine ⟨its.toList, r, ⟨o, I.kIn a o hk, hc, n, by simpa using hs⟩, ?_⟩
    have e := r.length
    simp only [Array.length_toList] at e
    omega
theorem Inv.list_inj (I : Inv X pins σ H s) (h : SqL X.K H a xs) (h' : SqL X.K H a ys) : xs = ys := by
  obtain ⟨its, r, ⟨o, n, e, _, _, d⟩, _⟩ := I.list h
  obtain ⟨its', r', ⟨o', n', e', _, _, d'⟩, _⟩ := I.list h'
  rw [e] at e'; cases e'
  rw [d] at d'
  injection d' with d1 _
  have : its = its' := by simpa using congrArg Array.toList d1
  subst this
  exact r.inj r'
theorem Inv.tuple_inj (I : Inv X pins σ H s) (h : SqT X.K H a xs) (h' : SqT X.K H a ys) : xs = ys := by
  obtain ⟨its, r, ⟨o, e, _, n, d⟩, _⟩ := I.tuple h
  obtain ⟨its', r', ⟨o', e', _, n', d'⟩, _⟩ := I.tuple h'
  rw [e] at e'; cases e'
  rw [d] at d'
  injection d' with d1 _
  have : its = its' := by simpa using congrArg Array.toList d1
  subst this
  exact r.inj r'
end
noncomputable abbrev Cx.wish (X : Cx) (E : Value → Shared → Prop) : Cx := { X with xe := E }
noncomputable abbrev Cx.nox (X : Cx) : Cx := X.wish fun _ _ => False
theorem Cx.Ok.wish {X : Cx} (ok : X.Ok) (E : Value → Shared → Prop) : (X.wish E).Ok :=
  ⟨ok.mod, ok.kind, ok.glob, ok.blt, ok.above, ok.inj, ok.has, ok.cab, ok.hd, ok.frames, ok.stk, ok.exf, ok.bs, ok.bsz, ok.noex, ok.exfs, ok.funs, ok.frf⟩
theorem Cx.Ok.unwish {X : Cx} {E : Value → Shared → Prop} (ok : (X.wish E).Ok) : X.Ok :=
  ⟨ok.mod, ok.kind, ok.glob, ok.blt, ok.above, ok.inj, ok.has, ok.cab, ok.hd, ok.frames, ok.stk, ok.exf, ok.bs, ok.bsz, ok.noex, ok.exfs, ok.funs, ok.frf⟩
section
variable {X : Cx} {pins : List (Addr × Obj)} {σ : St} {H : Hp} {s : Shared} {E : Value → Shared → Prop}
theorem Inv.wish (I : Inv X pins σ H s) (E : Value → Shared → Prop) : Inv (X.wish E) pins σ H s := ⟨I.ok.wish E, I.os, I.bare, I.base, I.loc, I.cell, I.free, I.freeC, I.pin, I.hok, I.len⟩
theorem Inv.unwish (I : Inv (X.wish E) pins σ H s) : Inv X pins σ H s := ⟨I.ok.unwish, I.os, I.bare, I.base, I.loc, I.cell, I.free, I.freeC, I.pin, I.hok, I.len⟩
theorem SP.unwish {D : Ends} {f : Flow} {s' : Shared} (h : SP (X.wish E) pins D f s') : SP X pins D f s' := by
  cases f with
  | next => obtain ⟨σ', H', I, q⟩ := h; exact ⟨σ', H', I.unwish, q⟩
  | brk => obtain ⟨σ', H', I, q⟩ := h; exact ⟨σ', H', I.unwish, q⟩
  | cont => obtain ⟨σ', H', I, q⟩ := h; exact ⟨σ', H', I.unwish, q⟩
  | ret u => obtain ⟨v, σ', H', I, r, q⟩ := h; exact ⟨v, σ', H', I.unwish, r, q⟩
theorem PSs.nox {st : List Stmt} {t : TS} (h : PSs X.nox st t) : PSs X st t := fun pins s σ H D I hw =>
  wpAny_mono (h pins s σ H D (I.wish _) hw) (fun _ _ q => q.unwish) fun _ _ z => False.elim z
end
section
variable {X : Cx} {st : Stmt} {rest : List Stmt} {t u : TS} {e : Expr} {te : TE} {pos : Pos}
noncomputable def tNext : TS := fun D σ H => D.nx σ H
noncomputable def tSeq (t u : TS) : TS := fun D σ H => t { D with nx := u D } σ H
theorem pss_nil : PSs X [] tNext := fun _ _ σ H _ I h => wpAny_execs_nil ⟨σ, H, I, h⟩
theorem zss_nil : ZSs X [] tNext := by with_unfolding_all exact pss_nil 
theorem pss_cons (h1 : PS X st t) (h2 : PSs X rest u) : PSs X (st :: rest) (tSeq t u) := by
  intro pins s σ H D I h
  refine wpAny_execs_cons (thn (h1 pins s σ H { D with nx := u D } I h) fun f s1 q => ?_)
  cases f with
  | next =>
    obtain ⟨σ', H', I', q⟩ := q
    exact h2 pins s1 σ' H' D I' q
  | ret v => exact q
  | brk => exact q
  | cont => exact q
theorem zss_cons (h1 : ZS X st t) (h2 : ZSs X rest u) : ZSs X (st :: rest) (tSeq t u) := by with_unfolding_all exact pss_cons h1 h2
theorem pss_one (h1 : PS X st t) : PSs X [st] t := by
  intro pins s σ H D I h
  refine wpAny_execs_cons (thn (h1 pins s σ H D I h) fun f s1 q => ?_)
  cases f with
  | next => exact wpAny_execs_nil q
  | ret v => exact q
  | brk => exact q
  | cont => exact q
theorem zss_one (h1 : ZS X st t) : ZSs X [st] t := by with_unfolding_all exact pss_one h1
theorem Inv.quiet {pins : List (Addr × Obj)} {σ : St} {H : Hp} {s : Shared} (I : Inv X pins σ H s) : interactive X.env = false := by simp [interactive, I.ok.kind]
noncomputable def tDrop (te : TE) : TS := fun D σ H => te σ H fun _ H1 => D.nx σ H1
theorem ps_expr (he : PE X e te) (hs : swapsWith e none pos.line X.env = pure false := by rfl) : PS X (.Expr e pos) (tDrop te) := by
  intro pins s σ H D I h
  exact wpAny_Expr_any (thn (he pins s σ H _ I h) fun v s1 ⟨x, H1, I1, r1, q1⟩ => ⟨σ, H1, I1, q1⟩) I.quiet hs
theorem zs_expr (he : ZE X e te) (hs : swapsWith e none pos.line X.env = pure false := by rfl) : ZS X (.Expr e pos) (tDrop te) := by with_unfolding_all exact ps_expr he hs
noncomputable def tRet (te : TE) : TS := fun D σ H => te σ H D.rt
theorem ps_ret (he : PE X e te) : PS X (.Return (some e) pos) (tRet te) := by
  intro pins s σ H D I h
  exact wpAny_Return_some (thn (he pins s σ H _ I h) fun v s1 ⟨x, H1, I1, r1, q1⟩ => ⟨x, σ, H1, I1, r1, q1⟩)
theorem zs_ret (he : ZE X e te) : ZS X (.Return (some e) pos) (tRet te) := by with_unfolding_all exact ps_ret he
noncomputable def tIfS (c : TT) (t u : TS) : TS := fun D σ H => c σ H fun b H1 => if b = true then t D σ H1 else u D σ H1
theorem ps_if {c : Expr} {a b : List Stmt} {tc : TT} (hc : PT X c tc) (ha : PSs X a t) (hb : PSs X b u) : PS X (.If c a b pos) (tIfS tc t u) := by
  intro pins s σ H D I h
  refine wpAny_If (thn (hc pins s σ H _ I h) fun d s1 ⟨H1, I1, q1⟩ => ?_)
  cases d with
  | true => exact ha pins s1 σ H1 D I1 q1
  | false => exact hb pins s1 σ H1 D I1 q1
theorem zs_if {c : Expr} {a b : List Stmt} {tc : TT} (hc : ZT X c tc) (ha : ZSs X a t) (hb : ZSs X b u) : ZS X (.If c a b pos) (tIfS tc t u) := by with_unfolding_all exact ps_if hc ha hb
noncomputable def tNever : TS := fun _ _ _ => False
theorem pss_never {sts : List Stmt} : PSs X sts tNever := fun _ _ _ _ _ _ h => h.elim
end
noncomputable abbrev TG := V → St → Hp → (St → Hp → Prop) → Prop
noncomputable abbrev TGs := List V → St → Hp → (St → Hp → Prop) → Prop
noncomputable def PG (X : Cx) (target : Expr) (t : TG) : Prop :=
  ∀ (pins : List (Addr × Obj)) (s : Shared) (σ : St) (H : Hp) (v : V) (u : Value) (Q : St → Hp → Prop), Inv X pins σ H s → RelV v u → t v σ H Q →
    wpAny (model X.prog X.w) X.A (assign target X.env u) (fun _ s' => ∃ σ' H', Inv X pins σ' H' s' ∧ Q σ' H') X.xe s
@[irreducible] noncomputable def ZG (X : Cx) (target : Expr) (t : TG) : Prop := PG X target t
noncomputable def PGs (X : Cx) (ts : List Expr) (t : TGs) : Prop :=
  ∀ (pins : List (Addr × Obj)) (s : Shared) (σ : St) (H : Hp) (vs : List V) (us : List Value) (Q : St → Hp → Prop), Inv X pins σ H s → Vals vs us → t vs σ H Q →
    wpAny (model X.prog X.w) X.A (assignInOrder ((assignEach ts X.env).map (·.2)) us) (fun _ s' => ∃ σ' H', Inv X pins σ' H' s' ∧ Q σ' H') X.xe s
@[irreducible] noncomputable def ZGs (X : Cx) (ts : List Expr) (t : TGs) : Prop := PGs X ts t
noncomputable abbrev TSet := V → V → V → Hp → (Hp → Prop) → Prop
noncomputable def PSet (X : Cx) (t : TSet) : Prop :=
  ∀ (pins : List (Addr × Obj)) (s : Shared) (σ : St) (H : Hp) (o i v : V) (ov iv u : Value) (Q : Hp → Prop), Inv X pins σ H s → RelV o ov → RelV i iv → RelV v u → t o i v H Q →
    wpAny (model X.prog X.w) X.A (setItem ov iv u) (fun _ s' => ∃ H', Inv X pins σ H' s' ∧ Q H') X.xe s
noncomputable abbrev TIp := V → V → Hp → VK → Prop
noncomputable def PIp (X : Cx) (op : Operator) (t : TIp) : Prop :=
  ∀ (pins : List (Addr × Obj)) (s : Shared) (σ : St) (H : Hp) (x y : V) (v u : Value) (Q : VK), Inv X pins σ H s → RelV x v → RelV y u → t x y H Q →
    wpAny (model X.prog X.w) X.A (inplaceOp op v u) (EP X pins σ Q) X.xe s
section
variable {X : Cx} {pos : Pos}
noncomputable def gName (i : Nat) : TG := fun v σ H Q => Q (σ.set i (some v)) H
theorem pg_name {i : Nat} {x : Str} (hN : X.N.Nodup) (hi : X.N[i]? = some x) (hx : Loc X.env.scope x) (hf : X.fn x = true ∨ X.env.scope.names.lookup x = some .local := by first | exact .inl rfl | exact .inr rfl | assumption) : PG X (.Name x pos) (gName i) := by
  intro pins s σ H v u Q I r h
  exact wpAny_assign_Name (store_ok I hN hi hx r (fun s' I' => ⟨_, H, I', h⟩) hf)
theorem zg_name {i : Nat} {x : Str} (hN : X.N.Nodup) (hi : X.N[i]? = some x) (hx : Loc X.env.scope x) (hf : X.fn x = true ∨ X.env.scope.names.lookup x = some .local := by first | exact .inl rfl | exact .inr rfl | assumption) : ZG X (.Name x pos) (gName i) := by with_unfolding_all exact pg_name hN hi hx hf
noncomputable def gNil : TGs := fun vs σ H Q => vs = [] ∧ Q σ H
noncomputable def gCons (t : TG) (u : TGs) : TGs := fun vs σ H Q => ∃ v r, vs = v :: r ∧ t v σ H fun σ' H' => u r σ' H' Q
theorem pgs_nil : PGs X [] gNil := by
  intro pins s σ H vs us Q I r h
  obtain ⟨e, h⟩ := h
  subst e
  cases r
  exact assignInOrder_nil ⟨σ, H, I, h⟩
theorem zgs_nil : ZGs X [] gNil := by with_unfolding_all exact pgs_nil 
theorem pgs_cons {e : Expr} {es : List Expr} {t : TG} {u : TGs} (h1 : PG X e t) (h2 : PGs X es u)
    (hs : (assignEach (e :: es) X.env).map (·.2) = assign e X.env :: (assignEach es X.env).map (·.2) := by rfl) : PGs X (e :: es) (gCons t u) := by
  intro pins s σ H vs us Q I r h
  obtain ⟨v, vr, e1, h⟩ := h
  subst e1
  cases r with
  | cons r rr =>
    rw [hs]
    refine assignInOrder_cons (thn (h1 pins s σ H _ _ _ I r h) fun _ s1 ⟨σ1, H1, I1, q1⟩ => ?_)
    exact h2 pins s1 σ1 H1 _ _ Q I1 rr q1
theorem zgs_cons {e : Expr} {es : List Expr} {t : TG} {u : TGs} (h1 : ZG X e t) (h2 : ZGs X es u)
    (hs : (assignEach (e :: es) X.env).map (·.2) = assign e X.env :: (assignEach es X.env).map (·.2) := by rfl) : ZGs X (e :: es) (gCons t u) := by with_unfolding_all exact pgs_cons h1 h2 hs
noncomputable def gTup (K : PySem.W.Frag) (n : Nat) (t : TGs) : TG := fun v σ H Q => ∃ a xs, v = .ref a ∧ SqT K H a xs ∧ xs.length = n ∧ t xs σ H Q
theorem pg_tup {es : List Expr} {k : Nat} {t : TGs} {n : Nat} (hc : X.calm = true) (h : PGs X es t)
    (hn : (assignEach es X.env).length = n := by rfl) (hst : (assignEach es X.env).findIdx? (·.1) = none := by rfl) : PG X (.Tuple es k pos) (gTup X.K n t) := by
  intro pins s σ H v u Q I r hw
  obtain ⟨a, xs, e1, hq, hl, hw⟩ := hw
  subst e1
  cases r
  obtain ⟨its, rv, ht, hz⟩ := I.tuple hq
  refine assign_Tuple_tuple (I.ok.hd hc) ht (by simp [hn, ← hl, rv.length]) hst fun h' hx => ?_
  have I1 : Inv X pins σ H { s with heap := h' } := I.kept (t' := s.toks) fun b o e => hx b o (Nat.ne_of_lt (Heap.lt_size e)) e
  exact h pins _ σ H xs _ Q I1 (by simpa using rv) hw
theorem zg_tup {es : List Expr} {k : Nat} {t : TGs} {n : Nat} (hc : X.calm = true) (h : ZGs X es t)
    (hn : (assignEach es X.env).length = n := by rfl) (hst : (assignEach es X.env).findIdx? (·.1) = none := by rfl) : ZG X (.Tuple es k pos) (gTup X.K n t) := by with_unfolding_all exact pg_tup hc h hn hst
noncomputable def gSub (to ti : TE) (t : TSet) : TG := fun v σ H Q => to σ H fun o H1 => ti σ H1 fun i H2 => t o i v H2 fun H3 => Q σ H3
theorem pg_sub {o i : Expr} {to ti : TE} {t : TSet} (ho : PE X o to) (hi : PE X i ti) (hs : PSet X t)
    (ha : ∀ v, assign (.Subscript o i pos) X.env v = (do
      let ov ← holding [v] (eval o X.env)
      let iv ← holding [v, ov] (eval i X.env)
      standAt pos
      holding [v, ov, iv] (setItem ov iv v)
      release [v, ov, iv] []) := by intro _; rfl) : PG X (.Subscript o i pos) (gSub to ti t) := by
  intro pins s σ H v u Q I r h
  rw [ha]
  refine wpAny_bind (wpAny_holding (thn (ho pins s σ H _ I h) fun ov s1 ⟨x, H1, I1, r1, q1⟩ => ?_))
  refine wpAny_bind (wpAny_holding (thn (hi pins s1 σ H1 _ I1 q1) fun iv s2 ⟨y, H2, I2, r2, q2⟩ => ?_))
  refine wpAny_bind (wpAny_standAt (wpAny_bind (wpAny_holding (thn (hs pins s2 σ H2 x y v ov iv u _ I2 r1 r2 r q2) fun _ s3 ⟨H3, I3, q3⟩ => ?_))))
  exact wpAny_release ⟨σ, H3, I3, q3⟩
noncomputable def tAsg (te : TE) (g : TG) : TS := fun D σ H => te σ H fun x H1 => g x σ H1 D.nx
theorem ps_asg {tg e : Expr} {te : TE} {g : TG} (he : PE X e te) (hg : PG X tg g) (hs : swapsWithSole [tg] e pos.line X.env = pure false := by rfl) (hw : swappedStores [tg] e X.env = pure none := by rfl)
    (h1 : (assignEach [tg] X.env).map (·.2) = [assign tg X.env] := by rfl) : PS X (.Assign [tg] e pos) (tAsg te g) := by
  intro pins s σ H D I h
  refine wpAny_Assign_stores (thn (he pins s σ H _ I h) fun v s1 ⟨x, H1, I1, r1, q1⟩ => ?_) hs hw
  rw [h1]
  exact thn (hg pins s1 σ H1 x v _ I1 r1 q1) fun _ s2 q => q
theorem ps_set {i : Nat} {x : Str} {e : Expr} {te : TE} {pos' : Pos} (hN : X.N.Nodup) (hi : X.N[i]? = some x) (hx : Loc X.env.scope x) (he : PE X e te) (hs : swapsWith e (some (.Name x pos')) pos.line X.env = pure false := by rfl) (hf : X.fn x = true ∨ X.env.scope.names.lookup x = some .local := by first | exact .inl rfl | exact .inr rfl | assumption) :
    PS X (.Assign [.Name x pos'] e pos) (tAsg te (gName i)) := by
  intro pins s σ H D I h
  refine wpAny_Assign_Name (thn (he pins s σ H _ I h) fun v s1 ⟨y, H1, I1, r1, q1⟩ => ?_) hs
  exact store_ok I1 hN hi hx r1 (fun s2 I2 => ⟨_, H1, I2, q1⟩) hf
theorem zs_set {i : Nat} {x : Str} {e : Expr} {te : TE} {pos' : Pos} (hN : X.N.Nodup) (hi : X.N[i]? = some x) (hx : Loc X.env.scope x) (he : ZE X e te) (hs : swapsWith e (some (.Name x pos')) pos.line X.env = pure false := by rfl) (hf : X.fn x = true ∨ X.env.scope.names.lookup x = some .local := by first | exact .inl rfl | exact .inr rfl | assumption) :
    ZS X (.Assign [.Name x pos'] e pos) (tAsg te (gName i)) := by with_unfolding_all exact ps_set hN hi hx he hs hf
noncomputable def tPar (i j : Nat) (ta : TA) : TS := fun D σ H => ta σ H fun vs H1 => ∃ v w, vs = [v, w] ∧ D.nx ((σ.set i (some v)).set j (some w)) H1
theorem ps_par {i j : Nat} {x y : Str} {a b : Expr} {ta : TA} {px py pt : Pos} {kt k2 pt2} (hc : X.calm = true) (hN : X.N.Nodup) (hi : X.N[i]? = some x) (hj : X.N[j]? = some y) (hij : i ≠ j)
    (hx : X.env.scope.names.lookup x = some .local) (hy : X.env.scope.names.lookup y = some .local) (ha : PA X [a, b] ta)
    (hw : swappedStores [.Tuple [.Name x px, .Name y py] kt pt] (.Tuple [a, b] k2 pt2) X.env = pure (some [x, y]))
    (hs : swapsWithSole [.Tuple [.Name x px, .Name y py] kt pt] (.Tuple [a, b] k2 pt2) pos.line X.env = pure false := by rfl) :
    PS X (.Assign [.Tuple [.Name x px, .Name y py] kt pt] (.Tuple [a, b] k2 pt2) pos) (tPar i j ta) := by
  intro pins s σ H D I h
  rw [exec_Assign_arm]
  refine wpAny_bind (wpAny_standAt ?_)
  rw [hs]
  refine wpAny_bind (wpAny_pure ?_)
  rw [if_neg (by decide)]
  refine wpAny_bind (Tuple_ (thn (ha _ pins s σ H _ I h) fun us s1 ⟨vs, H1, I1, r1, q1⟩ => ?_))
  obtain ⟨v, w, e1, q1⟩ := q1
  subst e1
  obtain ⟨u1, u2, rfl, rv, rw'⟩ : ∃ u1 u2, us = [u1, u2] ∧ RelV v u1 ∧ RelV w u2 := by
    cases r1 with
    | cons p q =>
      cases q with
      | cons p' q' =>
        cases q'
        exact ⟨_, _, rfl, p, p'⟩
  refine wpAny_newObj_type ?_ (by show 2 ≤ sizeLine; decide)
  have I2 : Inv X pins σ H1 { s1 with heap := s1.heap.push { cls := .type "tuple", data := .seq [u1, u2].toArray } } := I1.kept (t' := s1.toks) fun b o e => Heap.get?_push_of_some _ e
  rw [hw]
  refine wpAny_bind (wpAny_pure ?_)
  show wpAny (model X.prog X.w) X.A (do rule "assign.swapped-stores"; let items ← unpackItems (.ref s1.heap.objs.size) 2 none; assignInOrder [fun v => bindName X.env y v, fun v => bindName X.env x v] items.reverse; pure Flow.next) _ _ _
  refine wpAny_bind (wpAny_rule (wpAny_bind (unpackItems_tuple (items := #[u1, u2]) (I.ok.hd hc) (IsTup.new s1.heap _) fun h' hx' => ?_)))
  have I3 := I2.kept (h' := h') (t' := s1.toks) fun b o e => hx' b o (Nat.ne_of_lt (Heap.lt_size e)) e
  show wpAny _ _ (assignInOrder [fun v => bindName X.env y v, fun v => bindName X.env x v] [u2, u1] >>= fun _ => pure Flow.next) _ _ _
  refine wpAny_bind (assignInOrder_cons (wpAny_bindName (store_ok I3 hN hj (.inl hy) rw' (fun s2 I4 => ?_) (.inr hy))))
  refine assignInOrder_cons (wpAny_bindName (store_ok I4 hN hi (.inl hx) rv (fun s3 I5 => assignInOrder_nil (wpAny_pure ?_)) (.inr hx)))
  rw [List.set_comm _ _ (Ne.symm hij)] at I5
  exact ⟨_, H1, I5, q1⟩
theorem zs_par {i j : Nat} {x y : Str} {a b : Expr} {ta : TA} {px py pt : Pos} {kt k2 pt2} (hc : X.calm = true) (hN : X.N.Nodup) (hi : X.N[i]? = some x) (hj : X.N[j]? = some y) (hij : i ≠ j)
    (hx : X.env.scope.names.lookup x = some .local) (hy : X.env.scope.names.lookup y = some .local) (ha : ZA X [a, b] ta)
    (hw : swappedStores [.Tuple [.Name x px, .Name y py] kt pt] (.Tuple [a, b] k2 pt2) X.env = pure (some [x, y]))
    (hs : swapsWithSole [.Tuple [.Name x px, .Name y py] kt pt] (.Tuple [a, b] k2 pt2) pos.line X.env = pure false := by rfl) :
    ZS X (.Assign [.Tuple [.Name x px, .Name y py] kt pt] (.Tuple [a, b] k2 pt2) pos) (tPar i j ta) := by with_unfolding_all exact ps_par hc hN hi hj hij hx hy ha hw hs
noncomputable def tAug (i : Nat) (te : TE) (ti : TIp) : TS := fun D σ H => ∃ x, σ[i]? = some (some x) ∧ te σ H fun y H1 => ti x y H1 fun z H2 => D.nx (σ.set i (some z)) H2
theorem ps_aug {i : Nat} {x : Str} {e : Expr} {te : TE} {op : Operator} {ti : TIp} {pos' : Pos} (hN : X.N.Nodup) (hi : X.N[i]? = some x) (hx : Loc X.env.scope x) (he : PE X e te) (ho : PIp X op ti) (hf : X.fn x = true ∨ X.env.scope.names.lookup x = some .local := by first | exact .inl rfl | exact .inr rfl | assumption) :
    PS X (.AugAssign (.Name x pos') op e pos) (tAug i te ti) := by
  intro pins s σ H D I h
  obtain ⟨v, e1, h⟩ := h
  obtain ⟨m, hn, hl⟩ := I.loc
  have vis : Vis X.env.scope x := by rcases hx with k | k; exact .inl k; exact .inr (.inl k)
  obtain ⟨u, r, l⟩ := hl i x v hi e1 vis
  refine wpAny_AugAssign_Name ?_
  have go : wpAny (model X.prog X.w) X.A (eval e X.env) (fun w s₂ => wpAny (model X.prog X.w) X.A (inplaceOp op u w) (fun r s₃ => wpAny (model X.prog X.w) X.A (storeName X.env x r) (fun _ => SP X pins D .next) X.xe s₃) X.xe s₂) X.xe s := by
    refine thn (he pins s σ H _ I h) fun w s1 ⟨y, H1, I1, r1, q1⟩ => ?_
    refine thn (ho pins s1 σ H1 v y u w _ I1 r r1 q1) fun z s2 ⟨zv, H2, I2, r2, q2⟩ => ?_
    exact store_ok I2 hN hi hx r2 (fun s3 I3 => ⟨_, H2, I3, q2⟩) hf
  rcases l with ⟨hk, hm⟩ | ⟨hk, c, hc, hcell⟩
  · exact wpAny_loadName_local I.ok.kind hk hn hm go
  · rcases hk with hk | hk
    · exact wpAny_loadName_cell I.ok.kind hk hc hcell go
    · rcases hx with k | k
      · have : X.env.scope.names.lookup x = some .free := hk
        rw [k] at this; cases this
      · have : X.env.scope.names.lookup x = some .free := hk
        rw [k] at this; cases this
theorem zs_aug {i : Nat} {x : Str} {e : Expr} {te : TE} {op : Operator} {ti : TIp} {pos' : Pos} (hN : X.N.Nodup) (hi : X.N[i]? = some x) (hx : Loc X.env.scope x) (he : ZE X e te) (ho : PIp X op ti) (hf : X.fn x = true ∨ X.env.scope.names.lookup x = some .local := by first | exact .inl rfl | exact .inr rfl | assumption) :
    ZS X (.AugAssign (.Name x pos') op e pos) (tAug i te ti) := by with_unfolding_all exact ps_aug hN hi hx he ho hf
noncomputable def tAugS (to ti te : TE) (tget : V → V → Hp → VK → Prop) (tip : TIp) (tset : TSet) : TS := fun D σ H => to σ H fun o H1 => ti σ H1 fun i H2 => tget o i H2 fun x H3 => te σ H3 fun y H4 => tip x y H4 fun z H5 => tset o i z H5 fun H6 => D.nx σ H6
noncomputable def PGet (X : Cx) (t : V → V → Hp → VK → Prop) : Prop :=
  ∀ (pins : List (Addr × Obj)) (s : Shared) (σ : St) (H : Hp) (o i : V) (ov iv : Value) (Q : VK), Inv X pins σ H s → RelV o ov → RelV i iv → t o i H Q →
    wpAny (model X.prog X.w) X.A (getItem ov iv) (EP X pins σ Q) X.xe s
theorem ps_augS {o i e : Expr} {to ti te : TE} {tget : V → V → Hp → VK → Prop} {tip : TIp} {tset : TSet} {op : Operator} {tpos : Pos} (ho : PE X o to) (hi : PE X i ti) (hg : PGet X tget) (he : PE X e te) (hp : PIp X op tip) (hs : PSet X tset)
    (ha : ∀ ov iv new, augStore i ov iv new = (do holding [new, ov, iv] (setItem ov iv new); release [new, ov, iv] []; pure .next) := by intros; rfl) : PS X (.AugAssign (.Subscript o i tpos) op e pos) (tAugS to ti te tget tip tset) := by
  intro pins s σ H D I h
  refine wpAny_AugAssign_SubscriptAny (thn (ho pins s σ H _ I h) fun ov s1 ⟨x1, H1, I1, r1, q1⟩ => ?_) ha
  refine thn (hi pins s1 σ H1 _ I1 q1) fun iv s2 ⟨x2, H2, I2, r2, q2⟩ => ?_
  refine thn (hg pins s2 σ H2 x1 x2 ov iv _ I2 r1 r2 q2) fun old s3 ⟨x3, H3, I3, r3, q3⟩ => ?_
  refine thn (he pins s3 σ H3 _ I3 q3) fun v s4 ⟨x4, H4, I4, r4, q4⟩ => ?_
  refine thn (hp pins s4 σ H4 x3 x4 old v _ I4 r3 r4 q4) fun new s5 ⟨x5, H5, I5, r5, q5⟩ => ?_
  exact thn (hs pins s5 σ H5 x1 x2 x5 ov iv new _ I5 r1 r2 r5 q5) fun _ s6 ⟨H6, I6, q6⟩ => ⟨σ, H6, I6, q6⟩
theorem zs_augS {o i e : Expr} {to ti te : TE} {tget : V → V → Hp → VK → Prop} {tip : TIp} {tset : TSet} {op : Operator} {tpos : Pos} (ho : ZE X o to) (hi : ZE X i ti) (hg : PGet X tget) (he : ZE X e te) (hp : PIp X op tip) (hs : PSet X tset)
    (ha : ∀ ov iv new, augStore i ov iv new = (do holding [new, ov, iv] (setItem ov iv new); release [new, ov, iv] []; pure .next) := by intros; rfl) : ZS X (.AugAssign (.Subscript o i tpos) op e pos) (tAugS to ti te tget tip tset) := by with_unfolding_all exact ps_augS ho hi hg he hp hs ha
noncomputable def ipI (f : Int → Int → Int) : TIp := fun x y H Q => ∃ i j, x = .int i ∧ y = .int j ∧ Q (.int (f i j)) H
theorem ip_add : PIp X .Add (ipI fun i j => i + j) := by
  intro pins s σ H x y v u Q I r1 r2 h
  obtain ⟨i, j, e1, e2, q⟩ := h
  subst e1; subst e2
  obtain ⟨t, rfl⟩ := r1
  obtain ⟨t', rfl⟩ := r2
  exact iadd_int ⟨.int _, H, I.tok _, ⟨_, rfl⟩, q⟩
theorem ip_sub : PIp X .Sub (ipI fun i j => i - j) := by
  intro pins s σ H x y v u Q I r1 r2 h
  obtain ⟨i, j, e1, e2, q⟩ := h
  subst e1; subst e2
  obtain ⟨t, rfl⟩ := r1
  obtain ⟨t', rfl⟩ := r2
  exact isub_int ⟨.int _, H, I.tok _, ⟨_, rfl⟩, q⟩
end
section
variable {X : Cx} {pos : Pos}
noncomputable def tWhile (c : TT) (tb : TS) : TS := fun D σ H => ∃ W : Nat → St → Hp → Prop, (∃ m, W m σ H) ∧ ∀ m σ H, W m σ H →
  c σ H fun b H1 => if b = true then ∃ N : St → Hp → Prop, (∀ σ' H', N σ' H' → ∃ m', m' < m ∧ W m' σ' H') ∧ tb { D with nx := N, ct := N, bk := D.nx } σ H1 else D.nx σ H1
theorem ps_while {c : Expr} {body : List Stmt} {tc : TT} {tb : TS} (hp : PassesOwn (model X.prog X.w) X.A X.env X.xe) (hc : PT X c tc) (hb : PSs X body tb) : PS X (.While c body [] pos) (tWhile tc tb) := by
  intro pins s σ H D I h
  obtain ⟨W, ⟨m0, w0⟩, turn⟩ := h
  refine wpAny_While (codeAny_whileLoop (fun n s' => ∃ σ' H', Inv X pins σ' H' s' ∧ W n σ' H') ?_ m0 ⟨σ, H, I, w0⟩)
  rintro n s1 ⟨σ1, H1, I1, w1⟩
  refine wpAny_passesOwn hp (thn (hc pins s1 σ1 H1 _ I1 (turn n σ1 H1 w1)) fun b s2 ⟨H2, I2, q2⟩ => ?_)
  cases b with
  | true =>
    obtain ⟨N, hN, q2⟩ := q2
    rw [if_pos rfl]
    refine wpAny_passesOwn hp (thn (hb pins s2 σ1 H2 _ I2 q2) fun f s3 q3 => ?_)
    cases f with
    | next =>
      obtain ⟨σ3, H3, I3, n3⟩ := q3
      obtain ⟨m', hm, w3⟩ := hN σ3 H3 n3
      exact ⟨m', hm, σ3, H3, I3, w3⟩
    | cont =>
      obtain ⟨σ3, H3, I3, n3⟩ := q3
      obtain ⟨m', hm, w3⟩ := hN σ3 H3 n3
      exact ⟨m', hm, σ3, H3, I3, w3⟩
    | brk => exact q3
    | ret v => exact q3
  | false =>
    rw [if_neg Bool.false_ne_true]
    exact wpAny_execs_nil ⟨σ1, H2, I2, q2⟩
theorem zs_while {c : Expr} {body : List Stmt} {tc : TT} {tb : TS} (hp : PassesOwn (model X.prog X.w) X.A X.env X.xe) (hc : ZT X c tc) (hb : ZSs X body tb) : ZS X (.While c body [] pos) (tWhile tc tb) := by with_unfolding_all exact ps_while hp hc hb
end
structure It where
  go : Nat → Hp → Prop
  yld : Nat → Hp → V → Hp → Prop
  stop : Nat → Hp → Prop
noncomputable def FpOk (X : Cx) (pins : List (Addr × Obj)) (H : Hp) (b : Addr) : Prop :=
  H b = none ∧ b ≠ X.env.locals ∧ b ∉ X.fs ∧ (b ∈ X.ex ∨ X.s₀.heap.objs.size ≤ b) ∧ (∀ x c, X.env.cells.lookup x = some c → c ≠ b) ∧ ∀ p ∈ X.pn ++ pins, p.1 ≠ b
theorem Inv.fpOk {X : Cx} {pins : List (Addr × Obj)} {σ : St} {H H' : Hp} {s : Shared} {b : Addr} (I : Inv X pins σ H s) (hb : s.heap.objs.size ≤ b) (hn : H' b = none) : FpOk X pins H' b := by
  refine ⟨hn, Nat.ne_of_gt (Nat.lt_of_lt_of_le I.lt hb), I.nofs hb, .inr (Nat.le_trans I.sz hb), fun x c e z => ?_, fun p hp z => ?_⟩
  · obtain ⟨v, q⟩ := I.cell x c e
    exact absurd (Nat.lt_of_lt_of_le q.lt (by rw [z]; exact hb)) (Nat.lt_irrefl _)
  · exact absurd (Nat.lt_of_lt_of_le (Heap.lt_size (I.pin p hp).1) (by rw [z]; exact hb)) (Nat.lt_irrefl _)
structure Turn (P : Program) (w : World) (K : PySem.W.Frag) (tg : Expr) (J : It) (fp : List Addr) (it : Addr) (tn : Nat → Heap → Prop) : Prop where
  mem : it ∈ fp
  obj : ∀ i h, tn i h → ∀ b ∈ fp, ∃ o, h.get? b = some o ∧ ∀ v, o.data ≠ .cell v
  keep : ∀ i h h', tn i h → (∀ b ∈ fp, ∀ o, h.get? b = some o → h'.get? b = some o) → tn i h'
  item : ∀ (X : Cx), X.prog = P → X.w = w → X.K = K → X.calm = true → ∀ (i : Nat) (pins : List (Addr × Obj)) (s : Shared) (σ : St) (H : Hp) (E : Value → Shared → Prop), Inv X pins σ H s → (∀ b ∈ fp, FpOk X pins H b) → tn i s.heap → J.go i H →
    wpAny (model P w) X.A (pyNext (.ref it)) (fun r s1 => ∃ u, r = some u ∧
      wpAny (model P w) X.A (letOwnedTupleGo tg (.ref it) u) (fun _ s2 => ∃ x H', Inv X pins σ H' s2 ∧ RelV x u ∧ J.yld i H x H' ∧ tn (i + 1) s2.heap ∧ ∀ b ∈ fp, H' b = none) E s1) E s
  done : ∀ (X : Cx), X.prog = P → X.w = w → X.K = K → X.calm = true → ∀ (i : Nat) (pins : List (Addr × Obj)) (s : Shared) (σ : St) (H : Hp) (E : Value → Shared → Prop), Inv X pins σ H s → (∀ b ∈ fp, FpOk X pins H b) → tn i s.heap → J.stop i H →
    wpAny (model P w) X.A (pyNext (.ref it)) (fun r s1 => r = none ∧ Inv X pins σ H s1) E s
  self : ∀ (A : Around) (i : Nat) (s : Shared) (Q : Value → Shared → Prop) (E : Value → Shared → Prop), tn i s.heap → Q (.ref it) s → wpAny (model P w) A (pyIter (.ref it)) Q E s
noncomputable abbrev TI := St → Hp → (It → Hp → Prop) → Prop
noncomputable def PIE (X : Cx) (pins : List (Addr × Obj)) (σ : St) (tg : Expr) (R : It → Hp → Prop) (itv : Value) (s2 : Shared) : Prop :=
  ∃ (it : Addr) (fp : List Addr) (tn : Nat → Heap → Prop) (J : It) (H' : Hp), itv = .ref it ∧ Inv X pins σ H' s2 ∧ Turn X.prog X.w X.K tg J fp it tn ∧ tn 0 s2.heap ∧ (∀ b ∈ fp, FpOk X pins H' b) ∧ R J H'
noncomputable def PI (X : Cx) (tg iter : Expr) (wi : TI) : Prop :=
  ∀ (pins : List (Addr × Obj)) (s : Shared) (σ : St) (H : Hp) (R : It → Hp → Prop), Inv X pins σ H s → wi σ H R →
    wpAny (model X.prog X.w) X.A (eval iter X.env) (fun v s1 => wpAny (model X.prog X.w) X.A (pyIter v) (PIE X pins σ tg R) X.xe s1) X.xe s
@[irreducible] noncomputable def ZI (X : Cx) (tg iter : Expr) (wi : TI) : Prop := PI X tg iter wi
theorem go_of {M : Model} {A : Around} {E : Value → Shared → Prop} {s : Shared} {tg : Expr} {it : Addr} {u : Value} {o : Obj} {n : String} {vs : Array Value} {Q : Unit → Shared → Prop} (ho : s.heap.get? it = some o) (hc : o.cls = .type n) (hd : o.data = .fields vs)
    (hn : ["enumerate", "zip", "dict_itemiterator", "dict_reverseitemiterator", "odict_iterator", "itertools.zip_longest", "itertools.pairwise"].contains n = false) (hQ : Q () s) : wpAny M A (letOwnedTupleGo tg (.ref it) u) Q E s := by
  unfold letOwnedTupleGo
  cases tg <;> first
    | exact wpAny_pure hQ
    | (cases u <;> first
        | exact wpAny_pure hQ
        | (refine wpAny_bind (wpAny_load ho ?_)
           rw [hc, hd]
           show wpAny M A (if (["enumerate", "zip", "dict_itemiterator", "dict_reverseitemiterator", "odict_iterator", "itertools.zip_longest", "itertools.pairwise"].contains n && vs[0]? == some (rawInt _)) = true then _ else _) Q E s
           rw [if_neg (by intro h; rw [hn, Bool.false_and] at h; cases h)]
           exact wpAny_pure hQ))

noncomputable def Itl (K : PySem.W.Frag) (a : Addr) : It :=
  ⟨fun i H => ∃ xs x, SqL K H a xs ∧ xs[i]? = some x, fun i H x H' => H' = H ∧ ∀ xs, SqL K H a xs → xs[i]? = some x, fun i H => ∃ xs, SqL K H a xs ∧ xs.length ≤ i⟩
noncomputable def Itt (K : PySem.W.Frag) (a : Addr) : It :=
  ⟨fun i H => ∃ xs x, SqT K H a xs ∧ xs[i]? = some x, fun i H x H' => H' = H ∧ ∀ xs, SqT K H a xs → xs[i]? = some x, fun i H => ∃ xs, SqT K H a xs ∧ xs.length ≤ i⟩
noncomputable def Itr (lo : Int) (n : Nat) : It := ⟨fun i _ => i < n, fun i H x H' => H' = H ∧ x = .int (lo + i), fun i _ => n ≤ i⟩
theorem turn_list {P : Program} {w : World} {K : PySem.W.Frag} {tg : Expr} (a it : Addr) : Turn P w K tg (Itl K a) [it] it (fun i h => h.IsListIter it a i) where
  mem := by simp
  obj := fun i h st b hb => by
    have e : b = it := by simpa using hb
    subst e
    obtain ⟨o, e, c, d⟩ := st
    exact ⟨o, e, fun v z => by rw [d] at z; cases z⟩
  keep := fun i h h' st k => st.at fun o e => k it (by simp) o e
  item := by
    intro X hP hw hK hc i pins s σ H E I hf st hg
    subst hP hw hK
    obtain ⟨xs, x, hq, hx⟩ := hg
    obtain ⟨its, rv, p, hz⟩ := I.list hq
    obtain ⟨u, hu, ru⟩ := rv.get hx
    obtain ⟨f0, f1, f2, f3, f4, f5⟩ := hf it (by simp)
    refine wpAny_pyNext_list_item st p.isList (x := u) (by simpa using hu) fun h' st' sb => ?_
    have I1 : Inv X pins σ H { s with heap := h' } := I.turned (t' := s.toks) (fun b o hb e => (sb.2 b hb).trans e) f0 f1 f3 f4 f5
    obtain ⟨o, e, c, d⟩ := id st'
    exact ⟨u, rfl, go_of (s := { s with heap := h' }) e c d (by decide) ⟨x, H, I1, ru, ⟨rfl, fun ys hy => by rw [I.list_inj hy hq]; exact hx⟩, st', fun b hb => (hf b hb).1⟩⟩
  done := by
    intro X hP hw hK hc i pins s σ H E I hf st hg
    subst hP hw hK
    obtain ⟨xs, hq, hx⟩ := hg
    obtain ⟨its, rv, p, hz⟩ := I.list hq
    obtain ⟨f0, f1, f2, f3, f4, f5⟩ := hf it (by simp)
    have hl := rv.length
    exact wpAny_pyNext_list_end (I.ok.hd hc) st p.isList (by simp; omega) fun h' eb => ⟨rfl, I.turned (t' := s.toks) (fun b o hb e => eb b o hb e) f0 f1 f3 f4 f5⟩
  self := fun _ _ _ _ _ st h => wpAny_pyIter_listiter st h
theorem turn_tuple {P : Program} {w : World} {K : PySem.W.Frag} {tg : Expr} (a it : Addr) : Turn P w K tg (Itt K a) [it] it (fun i h => h.IsTupleIter it a i) where
  mem := by simp
  obj := fun i h st b hb => by
    have e : b = it := by simpa using hb
    subst e
    obtain ⟨o, e, c, d⟩ := st
    exact ⟨o, e, fun v z => by rw [d] at z; cases z⟩
  keep := fun i h h' st k => st.at fun o e => k it (by simp) o e
  item := by
    intro X hP hw hK hc i pins s σ H E I hf st hg
    subst hP hw hK
    obtain ⟨xs, x, hq, hx⟩ := hg
    obtain ⟨its, rv, p, hz⟩ := I.tuple hq
    obtain ⟨u, hu, ru⟩ := rv.get hx
    obtain ⟨f0, f1, f2, f3, f4, f5⟩ := hf it (by simp)
    refine wpAny_pyNext_tuple_item st (show s.heap.IsTuple a its.toArray from p) (x := u) (by simpa using hu) fun h' st' sb => ?_
    have I1 : Inv X pins σ H { s with heap := h' } := I.turned (t' := s.toks) (fun b o hb e => (sb.2 b hb).trans e) f0 f1 f3 f4 f5
    obtain ⟨o, e, c, d⟩ := id st'
    exact ⟨u, rfl, go_of (s := { s with heap := h' }) e c d (by decide) ⟨x, H, I1, ru, ⟨rfl, fun ys hy => by rw [I.tuple_inj hy hq]; exact hx⟩, st', fun b hb => (hf b hb).1⟩⟩
  done := by
    intro X hP hw hK hc i pins s σ H E I hf st hg
    subst hP hw hK
    obtain ⟨xs, hq, hx⟩ := hg
    obtain ⟨its, rv, p, hz⟩ := I.tuple hq
    obtain ⟨f0, f1, f2, f3, f4, f5⟩ := hf it (by simp)
    have hl := rv.length
    exact wpAny_pyNext_tuple_end (I.ok.hd hc) st (show s.heap.IsTuple a its.toArray from p) (by simp; omega) fun h' eb => ⟨rfl, I.turned (t' := s.toks) (fun b o hb e => eb b o hb e) f0 f1 f3 f4 f5⟩
  self := fun _ _ _ _ _ st h => wpAny_pyIter_tupleiter st h
theorem turn_range {P : Program} {w : World} {K : PySem.W.Frag} {tg : Expr} (it : Addr) (lo : Int) (n : Nat) : Turn P w K tg (Itr lo n) [it] it (fun i h => IsRangeIter h it (lo + (i : Nat) * 1) ((n : Int) - (i : Nat)) 1) where
  mem := by simp
  obj := fun i h st b hb => by
    have e : b = it := by simpa using hb
    subst e
    exact ⟨_, st, fun v z => by
      have z' : Data.fields _ = Data.cell v := z
      cases z'⟩
  keep := fun i h h' st k => k it (by simp) _ st
  item := by
    intro X hP hw hK hc i pins s σ H E I hf st hg
    subst hP hw hK
    obtain ⟨f0, f1, f2, f3, f4, f5⟩ := hf it (by simp)
    have W := Walks.range (prog := X.prog) (w := X.w) (I.ok.hd hc) it lo 1 n
    refine W.item i s _ _ hg st fun v h' tk hv st' kk => ?_
    obtain ⟨t, rfl⟩ := hv
    have I1 : Inv X pins σ H { s with heap := h', toks := tk } := I.turned (fun b o hb e => kk b o (by simpa using hb) e) f0 f1 f3 f4 f5
    refine ⟨_, rfl, go_of (s := { s with heap := h', toks := tk }) (n := "range_iterator") st' rfl rfl (by decide) ⟨.int (lo + i), H, I1, ⟨t, ?_⟩, ⟨rfl, rfl⟩, st', fun b hb => (hf b hb).1⟩⟩
    rw [Int.mul_one]
  done := by
    intro X hP hw hK hc i pins s σ H E I hf st hg
    subst hP hw hK
    obtain ⟨f0, f1, f2, f3, f4, f5⟩ := hf it (by simp)
    exact wpAny_pyNext_range_end (I.ok.hd hc) st (by have : n ≤ i := hg; omega) fun h' eb => ⟨rfl, I.turned (t' := s.toks) (fun b o hb e => eb b o hb e) f0 f1 f3 f4 f5⟩
  self := fun _ _ _ _ _ st h => wpAny_pyIter_rangeiter st h
end L2
namespace L2
open PySem PySem.Spec PyProof.Rows
section
variable {X : Cx} {tg : Expr}
noncomputable def iList (K : PySem.W.Frag) (tl : TE) : TI := fun σ H R => tl σ H fun x H1 => ∃ a, x = .ref a ∧ (∃ xs, SqL K H1 a xs) ∧ R (Itl K a) H1
noncomputable def iTup (K : PySem.W.Frag) (tl : TE) : TI := fun σ H R => tl σ H fun x H1 => ∃ a, x = .ref a ∧ (∃ xs, SqT K H1 a xs) ∧ R (Itt K a) H1
theorem pi_list {l : Expr} {tl : TE} (hl : PE X l tl) : PI X tg l (iList X.K tl) := by
  intro pins s σ H R I h
  refine thn (hl pins s σ H _ I h) fun v s1 ⟨x, H1, I1, r1, q1⟩ => ?_
  obtain ⟨a, e, ⟨xs, hq⟩, q⟩ := q1
  subst e
  cases r1
  obtain ⟨its, rv, p, hz⟩ := I1.list hq
  refine wpAny_pyIter_list p.isList ?_
  refine ⟨s1.heap.objs.size, [s1.heap.objs.size], _, _, H1, rfl, I1.kept (t' := s1.toks) fun b o e => Heap.get?_push_of_some _ e, turn_list a _, ⟨_, Heap.get?_push_size _ rfl, rfl, rfl⟩, fun b hb => ?_, q⟩
  have e : b = s1.heap.objs.size := by simpa using hb
  subst e
  exact I1.fpOk (Nat.le_refl _) (I1.hok.fresh (Nat.le_refl _))
theorem zi_list {l : Expr} {tl : TE} (hl : ZE X l tl) : ZI X tg l (iList X.K tl) := by with_unfolding_all exact pi_list hl
theorem pi_tup {l : Expr} {tl : TE} (hl : PE X l tl) : PI X tg l (iTup X.K tl) := by
  intro pins s σ H R I h
  refine thn (hl pins s σ H _ I h) fun v s1 ⟨x, H1, I1, r1, q1⟩ => ?_
  obtain ⟨a, e, ⟨xs, hq⟩, q⟩ := q1
  subst e
  cases r1
  obtain ⟨its, rv, p, hz⟩ := I1.tuple hq
  refine wpAny_pyIter_tuple (show s1.heap.IsTuple a its.toArray from p) ?_
  refine ⟨s1.heap.objs.size, [s1.heap.objs.size], _, _, H1, rfl, I1.kept (t' := s1.toks) fun b o e => Heap.get?_push_of_some _ e, turn_tuple a _, ⟨_, Heap.get?_push_size _ rfl, rfl, rfl⟩, fun b hb => ?_, q⟩
  have e : b = s1.heap.objs.size := by simpa using hb
  subst e
  exact I1.fpOk (Nat.le_refl _) (I1.hok.fresh (Nat.le_refl _))
theorem zi_tup {l : Expr} {tl : TE} (hl : ZE X l tl) : ZI X tg l (iTup X.K tl) := by with_unfolding_all exact pi_tup hl
theorem range_it {pins : List (Addr × Obj)} {σ : St} {H : Hp} {s : Shared} {R : It → Hp → Prop} {E : Value → Shared → Prop} {lo hi : Int} {t u v : Tok} {tk : Nat} (I : Inv X pins σ H s) (h1 : -(2 ^ 62) ≤ lo) (h2 : lo < 2 ^ 62) (h3 : -(2 ^ 62) ≤ hi) (h4 : hi < 2 ^ 62)
    (q : R (Itr lo (hi - lo).toNat) H) : wpAny (model X.prog X.w) X.A (pyIter (.ref s.heap.objs.size)) (PIE X pins σ tg R) E { s with heap := s.heap.push { cls := .type "range", data := .fields #[.int lo t, .int hi u, .int 1 v] }, toks := tk } := by
  refine wpAny_pyIter_range (IsRange.new ..) (small_one h1 h2 h3 h4) ?_
  have I1 : Inv X pins σ H { s with heap := s.heap.push { cls := .type "range", data := .fields #[.int lo t, .int hi u, .int 1 v] }, toks := tk } := I.kept fun b o e => Heap.get?_push_of_some _ e
  refine ⟨(s.heap.push { cls := .type "range", data := .fields #[.int lo t, .int hi u, .int 1 v] }).objs.size, [(s.heap.push { cls := .type "range", data := .fields #[.int lo t, .int hi u, .int 1 v] }).objs.size], _, _, H, rfl,
    I1.kept (t' := tk) fun b o e => Heap.get?_push_of_some _ e, turn_range _ lo (hi - lo).toNat, ?_, fun b hb => ?_, q⟩
  · have e1 : lo + ((0 : Nat) : Int) * 1 = lo := by simp
    have e2 : (((hi - lo).toNat : Nat) : Int) - ((0 : Nat) : Int) = Builtin.Range.rangeSize lo hi 1 := by rw [rangeSize_one]; split <;> omega
    show IsRangeIter _ _ (lo + ((0 : Nat) : Int) * 1) ((((hi - lo).toNat : Nat) : Int) - ((0 : Nat) : Int)) 1
    rw [e1, e2]
    exact Heap.get?_push_size _ rfl
  · have e : b = (s.heap.push { cls := .type "range", data := .fields #[.int lo t, .int hi u, .int 1 v] }).objs.size := by simpa using hb
    subst e
    exact I1.fpOk (Nat.le_refl _) (I1.hok.fresh (Nat.le_refl _))
noncomputable def iRng1 (ta : TA) : TI := fun σ H R => ta σ H fun vs H1 => ∃ j : Int, vs = [.int j] ∧ -(2 ^ 62) ≤ j ∧ j < 2 ^ 62 ∧ R (Itr 0 j.toNat) H1
noncomputable def iRng2 (ta : TA) : TI := fun σ H R => ta σ H fun vs H1 => ∃ i j : Int, vs = [.int i, .int j] ∧ (-(2 ^ 62) ≤ i ∧ i < 2 ^ 62 ∧ -(2 ^ 62) ≤ j ∧ j < 2 ^ 62) ∧ R (Itr i (j - i).toNat) H1
theorem pi_range1 {a : Expr} {ta : TA} {p pos : Pos} (hg : Gl X "range") (hm : X.mg "range" = none) (ha : PA X [a] ta) (hs : starEach [a] X.env = [(false, eval a X.env)] := by rfl) : PI X tg (.Call (.Name "range" p) [a] [] pos) (iRng1 ta) := by
  intro pins s σ H R I h
  refine Call_ (ld_blt I hg hm boot_range (PyProof.Rows.callWith_type1 (thn (ha pos pins s σ H _ I h) fun us s1 ⟨vs, H1, I1, r1, q1⟩ => ?_) hs rfl))
  obtain ⟨j, e, q1, q2, q⟩ := q1
  subst e
  cases r1 with
  | cons r rr =>
    cases rr
    obtain ⟨t, rfl⟩ := r
    exact call_range_1 (range_it I1 (by omega) (by omega) q1 q2 (by simpa using q))
theorem zi_range1 {a : Expr} {ta : TA} {p pos : Pos} (hg : Gl X "range") (hm : X.mg "range" = none) (ha : ZA X [a] ta) (hs : starEach [a] X.env = [(false, eval a X.env)] := by rfl) : ZI X tg (.Call (.Name "range" p) [a] [] pos) (iRng1 ta) := by with_unfolding_all exact pi_range1 hg hm ha hs
theorem pi_range2 {a b : Expr} {ta : TA} {p pos : Pos} (hg : Gl X "range") (hm : X.mg "range" = none) (ha : PA X [a, b] ta) (hs : starEach [a, b] X.env = [(false, eval a X.env), (false, eval b X.env)] := by rfl) (hs2 : starEach [b] X.env = [(false, eval b X.env)] := by rfl) :
    PI X tg (.Call (.Name "range" p) [a, b] [] pos) (iRng2 ta) := by
  intro pins s σ H R I h
  refine Call_ (ld_blt I hg hm boot_range (PyProof.Rows.callWith_type1 (thn (ha pos pins s σ H _ I h) fun us s1 ⟨vs, H1, I1, r1, q1⟩ => ?_) (by rw [hs, hs2]) (by rw [hs2]; rfl)))
  obtain ⟨i, j, e, ⟨q1, q2, q3, q4⟩, q⟩ := q1
  subst e
  cases r1 with
  | cons r rr =>
    cases rr with
    | cons r' rr =>
      cases rr
      obtain ⟨t, rfl⟩ := r
      obtain ⟨t', rfl⟩ := r'
      exact call_range_2 (range_it I1 q1 q2 q3 q4 q)
theorem zi_range2 {a b : Expr} {ta : TA} {p pos : Pos} (hg : Gl X "range") (hm : X.mg "range" = none) (ha : ZA X [a, b] ta) (hs : starEach [a, b] X.env = [(false, eval a X.env), (false, eval b X.env)] := by rfl) (hs2 : starEach [b] X.env = [(false, eval b X.env)] := by rfl) :
    ZI X tg (.Call (.Name "range" p) [a, b] [] pos) (iRng2 ta) := by with_unfolding_all exact pi_range2 hg hm ha hs hs2

noncomputable def tFor (wi : TI) (g : TG) (tb : TS) : TS := fun D σ H => wi σ H fun J H1 => ∃ W : Nat → Nat → St → Hp → Prop, (∃ m, W 0 m σ H1) ∧ ∀ i m σ H, W i m σ H →
  (J.stop i H ∧ D.nx σ H) ∨ (J.go i H ∧ ∃ N : St → Hp → Prop, (∀ σ' H', N σ' H' → ∃ m', m' < m ∧ W (i + 1) m' σ' H') ∧ ∀ x H', J.yld i H x H' → g x σ H' fun σ2 H2 => tb { D with nx := N, ct := N, bk := D.nx } σ2 H2)
noncomputable def pinsAt (fp : List Addr) (h : Heap) : List (Addr × Obj) := fp.filterMap fun b => (h.get? b).map fun o => (b, o)
theorem mem_pinsAt {fp : List Addr} {h : Heap} {b : Addr} {o : Obj} (hb : b ∈ fp) (e : h.get? b = some o) : (b, o) ∈ pinsAt fp h := List.mem_filterMap.mpr ⟨b, hb, by rw [e]; rfl⟩
theorem of_pinsAt {fp : List Addr} {h : Heap} {p : Addr × Obj} (hp : p ∈ pinsAt fp h) : p.1 ∈ fp ∧ h.get? p.1 = some p.2 := by
  obtain ⟨b, hb, e⟩ := List.mem_filterMap.mp hp
  cases q : h.get? b with
  | none => rw [q] at e; cases e
  | some o =>
    rw [q] at e
    have e' : (b, o) = p := Option.some.inj e
    subst e'
    exact ⟨hb, q⟩
theorem Inv.pinned {pins : List (Addr × Obj)} {σ : St} {H : Hp} {s : Shared} {fp : List Addr} (I : Inv X pins σ H s) (hf : ∀ b ∈ fp, FpOk X pins H b) (ho : ∀ b ∈ fp, ∃ o, s.heap.get? b = some o ∧ ∀ v, o.data ≠ .cell v) : Inv X (pins ++ pinsAt fp s.heap) σ H s :=
  I.pins_of fun p hp => (List.mem_append.mp hp).elim (fun z => I.pin p (List.mem_append_right _ z)) fun z => by
    obtain ⟨hb, e⟩ := of_pinsAt z
    obtain ⟨f0, f1, f2, _⟩ := hf p.1 hb
    obtain ⟨o, e', d⟩ := ho p.1 hb
    rw [e] at e'; cases e'
    exact ⟨e, f0, f1, f2, d⟩
theorem Inv.unpinned {pins pl : List (Addr × Obj)} {σ : St} {H : Hp} {s : Shared} (I : Inv X (pins ++ pl) σ H s) : Inv X pins σ H s := I.pins_of fun p hp => I.pin p (List.mem_append_right _ (List.mem_append_left _ hp))
theorem ps_for {iter : Expr} {body : List Stmt} {wi : TI} {g : TG} {tb : TS} {pos : Pos} (hp : PassesOwn (model X.prog X.w) X.A X.env X.xe) (hc : X.calm = true) (hi : PI X tg iter wi) (hg : PG X tg g) (hb : PSs X body tb)
    (hs : ∀ x, foldedSetIterable iter X.env x = pure x := by intro _; rfl) : PS X (.For tg iter body [] pos) (tFor wi g tb) := by
  intro pins s σ H D I h
  refine wpAny_For (thn (hi pins s σ H _ I h) fun v s1 h1 => thn h1 fun itv s2 h2 => ?_) hs
  obtain ⟨it, fp, tn, J, H2, e, I2, T, st2, f2, W, ⟨m0, w0⟩, turn⟩ := h2
  subst e
  -- what stays true of the iterator's objects through the loop
  have stat : ∀ {H' : Hp}, (∀ b ∈ fp, H' b = none) → ∀ b ∈ fp, FpOk X pins H' b := fun hn b hb => ⟨hn b hb, (f2 b hb).2⟩
  refine codeAny_forLoop_any (fun n s' => ∃ i σ' H', Inv X pins σ' H' s' ∧ tn i s'.heap ∧ (∀ b ∈ fp, H' b = none) ∧ W i n σ' H') ?_ m0 ⟨0, σ, H2, I2, st2, fun b hb => (f2 b hb).1, w0⟩
  rintro n s3 ⟨i, σ3, H3, I3, st3, fr3, w3⟩
  rcases turn i n σ3 H3 w3 with ⟨stop, qn⟩ | ⟨go, N, hN, step⟩
  · refine wpAny_passesOwn hp (thn (T.done X rfl rfl rfl hc i pins s3 σ3 H3 X.xe I3 (stat fr3) st3 stop) fun r s4 ⟨hr, I4⟩ => ?_)
    subst hr
    exact wpAny_execs_nil ⟨σ3, H3, I4, qn⟩
  · refine wpAny_passesOwn hp (thn (T.item X rfl rfl rfl hc i pins s3 σ3 H3 X.xe I3 (stat fr3) st3 go) fun r s4 ⟨u, hr, h4⟩ => ?_)
    subst hr
    refine wpAny_passesOwn hp (thn h4 fun _ s5 ⟨x, H5, I5, r5, y5, st5, fr5⟩ => ?_)
    have I5' := I5.pinned (stat fr5) (T.obj _ _ st5)
    refine wpAny_passesOwn hp (thn (hg _ s5 σ3 H5 x u _ I5' r5 (step x H5 y5)) fun _ s6 ⟨σ6, H6, I6, q6⟩ => ?_)
    refine wpAny_passesOwn hp (thn (hb _ s6 σ6 H6 _ I6 q6) fun f s7 q7 => ?_)
    have again : ∀ {σ7 : St} {H7 : Hp}, Inv X (pins ++ pinsAt fp s5.heap) σ7 H7 s7 → N σ7 H7 → ∃ m, m < n ∧ ∃ i σ' H', Inv X pins σ' H' s7 ∧ tn i s7.heap ∧ (∀ b ∈ fp, H' b = none) ∧ W i m σ' H' := fun {σ7 H7} I7 n7 => by
      obtain ⟨m', hm, w7⟩ := hN σ7 H7 n7
      refine ⟨m', hm, i + 1, σ7, H7, I7.unpinned, T.keep _ _ _ st5 fun b hb o e => (I7.pin (b, o) (List.mem_append_right _ (List.mem_append_right _ (mem_pinsAt hb e)))).1, fun b hb => ?_, w7⟩
      obtain ⟨o, e, d⟩ := T.obj _ _ st5 b hb
      exact (I7.pin (b, o) (List.mem_append_right _ (List.mem_append_right _ (mem_pinsAt hb e)))).2.1
    cases f with
    | next => obtain ⟨σ7, H7, I7, n7⟩ := q7; exact again I7 n7
    | cont => obtain ⟨σ7, H7, I7, n7⟩ := q7; exact again I7 n7
    | brk => obtain ⟨σ7, H7, I7, q7⟩ := q7; exact ⟨σ7, H7, I7.unpinned, q7⟩
    | ret v => obtain ⟨x7, σ7, H7, I7, r7, q7⟩ := q7; exact ⟨x7, σ7, H7, I7.unpinned, r7, q7⟩
theorem zs_for {iter : Expr} {body : List Stmt} {wi : TI} {g : TG} {tb : TS} {pos : Pos} (hp : PassesOwn (model X.prog X.w) X.A X.env X.xe) (hc : X.calm = true) (hi : ZI X tg iter wi) (hg : ZG X tg g) (hb : ZSs X body tb)
    (hs : ∀ x, foldedSetIterable iter X.env x = pure x := by intro _; rfl) : ZS X (.For tg iter body [] pos) (tFor wi g tb) := by with_unfolding_all exact ps_for hp hc hi hg hb hs
end
theorem for_list {K : PySem.W.Frag} {a : Addr} {xs : List V} {g : TG} {tb : TS} {D : Ends} {σ : St} {H : Hp} (Pv : Nat → St → Hp → Prop) (h0 : Pv 0 σ H) (hl : ∀ i σ H, i ≤ xs.length → Pv i σ H → SqL K H a xs)
    (hs : ∀ i x σ H, xs[i]? = some x → Pv i σ H → g x σ H fun σ2 H2 => tb { D with nx := Pv (i + 1), ct := Pv (i + 1), bk := D.nx } σ2 H2) (hd : ∀ σ H, Pv xs.length σ H → D.nx σ H) :
    ∃ W : Nat → Nat → St → Hp → Prop, (∃ m, W 0 m σ H) ∧ ∀ i m σ H, W i m σ H →
      ((Itl K a).stop i H ∧ D.nx σ H) ∨ ((Itl K a).go i H ∧ ∃ N : St → Hp → Prop, (∀ σ' H', N σ' H' → ∃ m', m' < m ∧ W (i + 1) m' σ' H') ∧ ∀ x H', (Itl K a).yld i H x H' → g x σ H' fun σ2 H2 => tb { D with nx := N, ct := N, bk := D.nx } σ2 H2) := by
  refine ⟨fun i m σ H => m = xs.length - i ∧ i ≤ xs.length ∧ Pv i σ H, ⟨xs.length, by simp, Nat.zero_le _, h0⟩, ?_⟩
  rintro i m σ H ⟨rfl, hi, p⟩
  have q := hl i σ H hi p
  by_cases hlt : i < xs.length
  · refine .inr ⟨⟨xs, xs[i], q, by simp [hlt]⟩, Pv (i + 1), fun σ' H' p' => ⟨xs.length - (i + 1), by omega, rfl, hlt, p'⟩, fun x H' y => ?_⟩
    obtain ⟨e, y⟩ := y
    subst e
    exact hs i x σ _ (y xs q) p
  · have e : i = xs.length := by omega
    subst e
    exact .inl ⟨⟨xs, q, Nat.le_refl _⟩, hd σ H p⟩
theorem for_range {lo : Int} {n : Nat} {g : TG} {tb : TS} {D : Ends} {σ : St} {H : Hp} (Pv : Nat → St → Hp → Prop) (h0 : Pv 0 σ H)
    (hs : ∀ i σ H, i < n → Pv i σ H → g (.int (lo + i)) σ H fun σ2 H2 => tb { D with nx := Pv (i + 1), ct := Pv (i + 1), bk := D.nx } σ2 H2) (hd : ∀ σ H, Pv n σ H → D.nx σ H) :
    ∃ W : Nat → Nat → St → Hp → Prop, (∃ m, W 0 m σ H) ∧ ∀ i m σ H, W i m σ H →
      ((Itr lo n).stop i H ∧ D.nx σ H) ∨ ((Itr lo n).go i H ∧ ∃ N : St → Hp → Prop, (∀ σ' H', N σ' H' → ∃ m', m' < m ∧ W (i + 1) m' σ' H') ∧ ∀ x H', (Itr lo n).yld i H x H' → g x σ H' fun σ2 H2 => tb { D with nx := N, ct := N, bk := D.nx } σ2 H2) := by
  refine ⟨fun i m σ H => m = n - i ∧ i ≤ n ∧ Pv i σ H, ⟨n, by simp, Nat.zero_le _, h0⟩, ?_⟩
  rintro i m σ H ⟨rfl, hi, p⟩
  by_cases hlt : i < n
  · refine .inr ⟨hlt, Pv (i + 1), fun σ' H' p' => ⟨n - (i + 1), by omega, rfl, hlt, p'⟩, fun x H' y => ?_⟩
    obtain ⟨e, y⟩ := y
    subst e y
    exact hs i σ _ hlt p
  · have e : i = n := by omega
    subst e
    exact .inl ⟨Nat.le_refl _, hd σ H p⟩
end L2
namespace L2
open PySem PySem.Spec PyProof.Rows
noncomputable abbrev R2 := V → V → Hp → VK → Prop
noncomputable def OpR (X : Cx) (f : Value → Value → Sem Value) (r : R2) : Prop :=
  ∀ (pins : List (Addr × Obj)) (s : Shared) (σ : St) (H : Hp) (x y : V) (v u : Value) (Q : VK), Inv X pins σ H s → RelV x v → RelV y u → r x y H Q →
    wpAny (model X.prog X.w) X.A (f v u) (EP X pins σ Q) X.xe s
noncomputable def UnR (X : Cx) (f : Value → Sem Value) (r : V → Hp → VK → Prop) : Prop :=
  ∀ (pins : List (Addr × Obj)) (s : Shared) (σ : St) (H : Hp) (x : V) (v : Value) (Q : VK), Inv X pins σ H s → RelV x v → r x H Q →
    wpAny (model X.prog X.w) X.A (f v) (EP X pins σ Q) X.xe s
noncomputable def CallR (X : Cx) (f : Value) (r : List V → Hp → VK → Prop) : Prop :=
  ∀ (pins : List (Addr × Obj)) (s : Shared) (σ : St) (H : Hp) (xs : List V) (us : List Value) (Q : VK), Inv X pins σ H s → Vals xs us → r xs H Q →
    wpAny (model X.prog X.w) X.A (call f us) (EP X pins σ Q) X.xe s
noncomputable def tOp (r : R2) (ta tb : TE) : TE := fun σ H Q => ta σ H fun x H1 => tb σ H1 fun y H2 => r x y H2 Q
noncomputable def tUn (r : V → Hp → VK → Prop) (ta : TE) : TE := fun σ H Q => ta σ H fun x H1 => r x H1 Q
noncomputable def rI (C : Int → Int → Prop) (g : Int → Int → V) : R2 := fun x y H Q => ∃ i j, x = .int i ∧ y = .int j ∧ C i j ∧ Q (g i j) H
noncomputable def rI0 (g : Int → Int → V) : R2 := fun x y H Q => ∃ i j, x = .int i ∧ y = .int j ∧ Q (g i j) H
noncomputable def rU (g : Int → V) : V → Hp → VK → Prop := fun x H Q => ∃ i, x = .int i ∧ Q (g i) H

section
variable {X : Cx} {a b c : Expr} {ta tb tc : TE} {pos : Pos}
theorem binT (ha : PE X a ta) (hb : PE X b tb) {pins : List (Addr × Obj)} {s : Shared} {σ : St} {H : Hp} {R : V → V → Hp → Prop} (I : Inv X pins σ H s)
    (h : ta σ H fun x H1 => tb σ H1 fun y H2 => R x y H2) {Q : Value → Shared → Prop} {f : Value → Value → Sem Value}
    (hf : ∀ v u s2 x y H2, Inv X pins σ H2 s2 → RelV x v → RelV y u → R x y H2 → wpAny (model X.prog X.w) X.A (f v u) Q X.xe s2) :
    wpAny (model X.prog X.w) X.A (eval a X.env) (fun v s₁ => wpAny (model X.prog X.w) X.A (eval b X.env) (fun u s₂ => wpAny (model X.prog X.w) X.A (f v u) Q X.xe s₂) X.xe s₁) X.xe s := by
  refine thn (ha pins s σ H _ I h) fun v s1 ⟨x, H1, I1, r1, q1⟩ => ?_
  refine thn (hb pins s1 σ H1 _ I1 q1) fun u s2 ⟨y, H2, I2, r2, q2⟩ => ?_
  exact hf v u s2 x y H2 I2 r1 r2 q2

theorem pe_op {op : Operator} {r : R2} (ho : OpR X (binaryOp op) r) (ha : PE X a ta) (hb : PE X b tb) : PE X (.BinOp a op b pos) (tOp r ta tb) := by
  intro pins s σ H Q I h
  exact wpAny_BinOp (binT ha hb I h fun v u s2 x y H2 I2 rx ry q => ho pins s2 σ H2 x y v u Q I2 rx ry q)
theorem ze_op {op : Operator} {r : R2} (ho : OpR X (binaryOp op) r) (ha : ZE X a ta) (hb : ZE X b tb) : ZE X (.BinOp a op b pos) (tOp r ta tb) := by with_unfolding_all exact pe_op ho ha hb
theorem pe_un {op : UnaryOp} {r : V → Hp → VK → Prop} (ho : UnR X (unaryOp op) r) (ha : PE X a ta) : PE X (.UnaryOp op a pos) (tUn r ta) := by
  intro pins s σ H Q I h
  exact UnaryOp_ (thn (ha pins s σ H _ I h) fun v s1 ⟨x, H1, I1, r1, q1⟩ => ho pins s1 σ H1 x v Q I1 r1 q1)
theorem ze_un {op : UnaryOp} {r : V → Hp → VK → Prop} (ho : UnR X (unaryOp op) r) (ha : ZE X a ta) : ZE X (.UnaryOp op a pos) (tUn r ta) := by with_unfolding_all exact pe_un ho ha
theorem opI {f : Value → Value → Sem Value} {C : Int → Int → Prop} {g : Int → Int → Int}
    (rule : ∀ (i j : Int) (t u : Tok) (s : Shared) (Q : Value → Shared → Prop) (E : Value → Shared → Prop), C i j → Q (.int (g i j) s.toks) { s with toks := s.toks + 1 } → wpAny (model X.prog X.w) X.A (f (.int i t) (.int j u)) Q E s) :
    OpR X f (rI C fun i j => .int (g i j)) := by
  intro pins s σ H x y v u Q I rx ry h
  obtain ⟨i, j, rfl, rfl, hc, q⟩ := h
  obtain ⟨t, rfl⟩ := rx
  obtain ⟨t', rfl⟩ := ry
  exact rule i j t t' s _ _ hc ⟨.int (g i j), H, I.tok _, ⟨_, rfl⟩, q⟩
theorem opI0 {f : Value → Value → Sem Value} {g : Int → Int → Int}
    (rule : ∀ (i j : Int) (t u : Tok) (s : Shared) (Q : Value → Shared → Prop) (E : Value → Shared → Prop), Q (.int (g i j) s.toks) { s with toks := s.toks + 1 } → wpAny (model X.prog X.w) X.A (f (.int i t) (.int j u)) Q E s) :
    OpR X f (rI0 fun i j => .int (g i j)) := by
  intro pins s σ H x y v u Q I rx ry h
  obtain ⟨i, j, rfl, rfl, q⟩ := h
  obtain ⟨t, rfl⟩ := rx
  obtain ⟨t', rfl⟩ := ry
  exact rule i j t t' s _ _ ⟨.int (g i j), H, I.tok _, ⟨_, rfl⟩, q⟩
theorem opB0 {f : Value → Value → Sem Value} {g : Int → Int → Bool}
    (rule : ∀ (i j : Int) (t u : Tok) (s : Shared) (Q : Value → Shared → Prop) (E : Value → Shared → Prop), Q (.bool (g i j)) s → wpAny (model X.prog X.w) X.A (f (.int i t) (.int j u)) Q E s) :
    OpR X f (rI0 fun i j => .bl (g i j)) := by
  intro pins s σ H x y v u Q I rx ry h
  obtain ⟨i, j, rfl, rfl, q⟩ := h
  obtain ⟨t, rfl⟩ := rx
  obtain ⟨t', rfl⟩ := ry
  exact rule i j t t' s _ _ ⟨.bl (g i j), H, I, rfl, q⟩

noncomputable def CDiv (i j : Int) : Prop := 0 < j ∧ j < 1073741824
noncomputable def CPow (i j : Int) : Prop := 0 ≤ j ∧ j ≤ 1000000 ∧ i.natAbs < 2 ^ 64
theorem op_add : OpR X (binaryOp .Add) (rI0 fun i j => .int (i + j)) := opI0 fun _ _ _ _ _ _ _ q => add_int q
theorem op_sub : OpR X (binaryOp .Sub) (rI0 fun i j => .int (i - j)) := opI0 fun _ _ _ _ _ _ _ q => sub_int q
theorem op_fdiv : OpR X (binaryOp .FloorDiv) (rI CDiv fun i j => .int (i / j)) := opI fun i j _ _ _ _ _ hc q => by
  have h1 : (0 : Int) < j := hc.1
  have h2 : j < 1073741824 := hc.2
  exact floordiv_int (by omega) (by rw [Int.fdiv_eq_ediv_of_nonneg i (by omega)]; exact q) (.inl (PyProof.noPylong_small (by omega)))
theorem op_mod : OpR X (binaryOp .Mod) (rI (fun _ j => 0 < j) fun i j => .int (i % j)) := opI fun i j _ _ _ _ _ hc q => by
  have h1 : (0 : Int) < j := hc
  exact mod_int' (by omega) (by rw [Int.fmod_eq_emod_of_nonneg i (by omega)]; exact q)
theorem op_pow : OpR X (binaryOp .Pow) (rI CPow fun i j => .int (i ^ j.toNat)) := opI fun _ _ _ _ _ _ _ hc q => pow_int_small hc.1 hc.2.1 hc.2.2 q
theorem unI {f : Value → Sem Value} {g : Int → Int}
    (rule : ∀ (i : Int) (t : Tok) (s : Shared) (Q : Value → Shared → Prop) (E : Value → Shared → Prop), Q (.int (g i) s.toks) { s with toks := s.toks + 1 } → wpAny (model X.prog X.w) X.A (f (.int i t)) Q E s) :
    UnR X f (rU fun i => .int (g i)) := by
  intro pins s σ H x v Q I rx h
  obtain ⟨i, rfl, q⟩ := h
  obtain ⟨t, rfl⟩ := rx
  exact rule i t s _ _ ⟨.int (g i), H, I.tok _, ⟨_, rfl⟩, q⟩
theorem un_neg : UnR X (unaryOp .USub) (rU fun i => .int (-i)) := unI fun _ _ _ _ _ q => neg_int q
end
noncomputable def scal : V → V → Bool
  | .non, .non => true | .non, .int _ => true | .int _, .non => true | .non, .bl _ => true | .bl _, .non => true | .non, .str _ => true | .str _, .non => true
  | .int _, .int _ => true | .bl _, .bl _ => true | .str _, .str _ => true | .byt _, .byt _ => true
  | .int _, .str _ => true | .str _, .int _ => true | .bl _, .str _ => true | .str _, .bl _ => true
  | _, _ => false
noncomputable def rEq : R2 := fun x y H Q => scal x y = true ∧ Q (.bl (decide (x = y))) H
noncomputable def rNe : R2 := fun x y H Q => scal x y = true ∧ Q (.bl (!decide (x = y))) H

theorem dec_int {i j : Int} : decide (V.int i = V.int j) = (i == j) := by
  rw [Bool.eq_iff_iff]
  simp
theorem dec_bl {i j : Bool} : decide (V.bl i = V.bl j) = (i == j) := by
  rw [Bool.eq_iff_iff]
  simp
theorem dec_str {i j : Str} : decide (V.str i = V.str j) = (i == j) := by
  rw [Bool.eq_iff_iff]
  simp
theorem dec_byt {i j : Array UInt8} : decide (V.byt i = V.byt j) = (i.toList == j.toList) := by
  rw [Bool.eq_iff_iff]
  cases i
  cases j
  simp

section
variable {X : Cx} {a b c : Expr} {ta tb tc : TE} {pos : Pos}
theorem fin_bl {pins : List (Addr × Obj)} {σ : St} {H : Hp} {s : Shared} {Q : VK} {k k' : Bool} (I : Inv X pins σ H s) (q : Q (.bl k) H) (e : k = k') : EP X pins σ Q (.bool k') s := by
  subst e
  exact ⟨.bl k, H, I, rfl, q⟩
theorem op_eq : OpR X (compareOp .Eq) rEq := by
  intro pins s σ H x y v u Q I rx ry h
  obtain ⟨hs, q⟩ := h
  cases x with
  | non =>
    cases rx
    cases y with
    | non => cases ry; exact PySem.EqNone.eq_none_none (fin_bl I q (by simp))
    | bl j => cases ry; exact PySem.EqNone.eq_none_bool (fin_bl I q (by simp))
    | int j => obtain ⟨t', rfl⟩ := ry; exact PySem.EqNone.eq_none_int (fin_bl I q (by simp))
    | str j => obtain ⟨t', rfl⟩ := ry; exact PySem.EqNone.eq_none_str (fin_bl I q (by simp))
    | _ => exact absurd (show false = true from hs) Bool.false_ne_true
  | bl i =>
    cases rx
    cases y with
    | non => cases ry; exact PySem.EqNone.eq_bool_none (fin_bl I q (by simp))
    | bl j => cases ry; exact eq_bool (fin_bl I q dec_bl)
    | str j => obtain ⟨t', rfl⟩ := ry; exact PySem.EqMixed.eq_bool_str (fin_bl I q (by simp))
    | _ => exact absurd (show false = true from hs) Bool.false_ne_true
  | int i =>
    obtain ⟨t, rfl⟩ := rx
    cases y with
    | non => cases ry; exact PySem.EqNone.eq_int_none (fin_bl I q (by simp))
    | int j => obtain ⟨t', rfl⟩ := ry; exact eq_int (fin_bl I q dec_int)
    | str j => obtain ⟨t', rfl⟩ := ry; exact PySem.EqMixed.eq_int_str (fin_bl I q (by simp))
    | _ => exact absurd (show false = true from hs) Bool.false_ne_true
  | str i =>
    obtain ⟨t, rfl⟩ := rx
    cases y with
    | non => cases ry; exact PySem.EqNone.eq_str_none (fin_bl I q (by simp))
    | bl j => cases ry; exact PySem.EqMixed.eq_str_bool (fin_bl I q (by simp))
    | int j => obtain ⟨t', rfl⟩ := ry; exact PySem.EqMixed.eq_str_int (fin_bl I q (by simp))
    | str j => obtain ⟨t', rfl⟩ := ry; exact eq_str (fin_bl I q dec_str)
    | _ => exact absurd (show false = true from hs) Bool.false_ne_true
  | byt i =>
    obtain ⟨t, rfl⟩ := rx
    cases y with
    | byt j => obtain ⟨t', rfl⟩ := ry; exact PySem.W.eq_bytes (fin_bl I q dec_byt)
    | _ => exact absurd (show false = true from hs) Bool.false_ne_true
  | _ => cases y <;> exact absurd (show false = true from hs) Bool.false_ne_true
theorem op_ne : OpR X (compareOp .NotEq) rNe := by
  intro pins s σ H x y v u Q I rx ry h
  obtain ⟨hs, q⟩ := h
  cases x with
  | non =>
    cases rx
    cases y with
    | non => cases ry; exact PySem.EqNone.ne_none_none (fin_bl I q (by simp))
    | bl j => cases ry; exact PySem.EqNone.ne_none_bool (fin_bl I q (by simp))
    | int j => obtain ⟨t', rfl⟩ := ry; exact PySem.EqNone.ne_none_int (fin_bl I q (by simp))
    | str j => obtain ⟨t', rfl⟩ := ry; exact PySem.EqNone.ne_none_str (fin_bl I q (by simp))
    | _ => exact absurd (show false = true from hs) Bool.false_ne_true
  | bl i =>
    cases rx
    cases y with
    | non => cases ry; exact PySem.EqNone.ne_bool_none (fin_bl I q (by simp))
    | bl j => cases ry; exact ne_bool (fin_bl I q (congrArg not dec_bl))
    | str j => obtain ⟨t', rfl⟩ := ry; exact PySem.EqMixed.ne_bool_str (fin_bl I q (by simp))
    | _ => exact absurd (show false = true from hs) Bool.false_ne_true
  | int i =>
    obtain ⟨t, rfl⟩ := rx
    cases y with
    | non => cases ry; exact PySem.EqNone.ne_int_none (fin_bl I q (by simp))
    | int j => obtain ⟨t', rfl⟩ := ry; exact ne_int (fin_bl I q (congrArg not dec_int))
    | str j => obtain ⟨t', rfl⟩ := ry; exact PySem.EqMixed.ne_int_str (fin_bl I q (by simp))
    | _ => exact absurd (show false = true from hs) Bool.false_ne_true
  | str i =>
    obtain ⟨t, rfl⟩ := rx
    cases y with
    | non => cases ry; exact PySem.EqNone.ne_str_none (fin_bl I q (by simp))
    | bl j => cases ry; exact PySem.EqMixed.ne_str_bool (fin_bl I q (by simp))
    | int j => obtain ⟨t', rfl⟩ := ry; exact PySem.EqMixed.ne_str_int (fin_bl I q (by simp))
    | str j => obtain ⟨t', rfl⟩ := ry; exact ne_str (fin_bl I q (congrArg not dec_str))
    | _ => exact absurd (show false = true from hs) Bool.false_ne_true
  | byt i =>
    obtain ⟨t, rfl⟩ := rx
    cases y with
    | byt j => obtain ⟨t', rfl⟩ := ry; exact PySem.W.ne_bytes (fin_bl I q (congrArg not dec_byt))
    | _ => exact absurd (show false = true from hs) Bool.false_ne_true
  | _ => cases y <;> exact absurd (show false = true from hs) Bool.false_ne_true

theorem op_lt : OpR X (compareOp .Lt) (rI0 fun i j => .bl (decide (i < j))) := opB0 fun _ _ _ _ _ _ _ q => lt_int q
theorem op_le : OpR X (compareOp .LtE) (rI0 fun i j => .bl (decide (i ≤ j))) := opB0 fun _ _ _ _ _ _ _ q => le_int q
theorem op_gt : OpR X (compareOp .Gt) (rI0 fun i j => .bl (decide (j < i))) := opB0 fun _ _ _ _ _ _ _ q => gt_int q
theorem op_ge : OpR X (compareOp .GtE) (rI0 fun i j => .bl (decide (j ≤ i))) := opB0 fun _ _ _ _ _ _ _ q => ge_int q
theorem op_isN : OpR X (compareOp .Is) (fun x y H Q => y = .non ∧ Q (.bl (decide (x = .non))) H) := by
  intro pins s σ H x y v u Q I rx ry h
  obtain ⟨rfl, q⟩ := h
  cases ry
  refine is_none_gen (fin_bl I q ?_)
  cases x <;> first
    | (cases rx; rfl)
    | (obtain ⟨t, rfl⟩ := rx; rfl)
theorem nomark (b : Expr) {op : CmpOp} (h : op ≠ .In := by decide) (h2 : op ≠ .NotIn := by decide) : behindInMarks op b = false := by
  have e1 : (op == CmpOp.In) = false := by cases op <;> first | rfl | exact absurd rfl h
  have e2 : (op == CmpOp.NotIn) = false := by cases op <;> first | rfl | exact absurd rfl h2
  cases b <;> simp [behindInMarks, e1, e2]
theorem pe_cmpR {op : CmpOp} {r : R2} (ho : OpR X (compareOp op) r) (ha : PE X a ta) (hb : PE X b tb) (hm : behindInMarks op b = false) : PE X (.Compare a [op] [b] pos) (tOp r ta tb) := by
  intro pins s σ H Q I h
  exact wpAny_Compare1 (binT ha hb I h fun v u s2 x y H2 I2 rx ry q => ho pins s2 σ H2 x y v u Q I2 rx ry q) hm
theorem ze_cmpR {op : CmpOp} {r : R2} (ho : OpR X (compareOp op) r) (ha : ZE X a ta) (hb : ZE X b tb) (hm : behindInMarks op b = false) : ZE X (.Compare a [op] [b] pos) (tOp r ta tb) := by with_unfolding_all exact pe_cmpR ho ha hb hm
noncomputable def tChain (r r' : R2) (ta tb tc : TE) : TE := fun σ H Q => ta σ H fun x H1 => tb σ H1 fun y H2 => r x y H2 fun z H3 => ∃ k, z = .bl k ∧
  (if k = true then tc σ H3 fun w' H4 => r' y w' H4 Q else Q (.bl false) H3)
theorem pe_chain {op op' : CmpOp} {r r' : R2} (ho : OpR X (compareOp op) r) (ho' : OpR X (compareOp op') r') (ha : PE X a ta) (hb : PE X b tb) (hc : PE X c tc)
    (hm : lastMarks [op, op'] [b, c] = false := by with_unfolding_all rfl) : PE X (.Compare a [op, op'] [b, c] pos) (tChain r r' ta tb tc) := by
  intro pins s σ H Q I h
  refine Compare_chain (thn (ha pins s σ H _ I h) fun v s1 ⟨x, H1, I1, r1, q1⟩ => chain_link (thn (hb pins s1 σ H1 _ I1 q1) fun u s2 ⟨y, H2, I2, r2, q2⟩ =>
    thn (ho pins s2 σ H2 x y v u _ I2 r1 r2 q2) fun d s3 ⟨z, H3, I3, r3, k, e, q3⟩ => ?_)) hm
  subst e
  cases r3
  refine wpAny_truthy_bool ?_
  cases k with
  | false => exact ite_ff ⟨.bl false, H3, I3, rfl, q3⟩
  | true => exact ite_tt (chain_last (thn (hc pins s3 σ H3 _ I3 q3) fun w' s4 ⟨z', H4, I4, r4, q4⟩ => ho' pins s4 σ H4 y z' u w' Q I4 r2 r4 q4))
theorem ze_chain {op op' : CmpOp} {r r' : R2} (ho : OpR X (compareOp op) r) (ho' : OpR X (compareOp op') r') (ha : ZE X a ta) (hb : ZE X b tb) (hc : ZE X c tc)
    (hm : lastMarks [op, op'] [b, c] = false := by with_unfolding_all rfl) : ZE X (.Compare a [op, op'] [b, c] pos) (tChain r r' ta tb tc) := by with_unfolding_all exact pe_chain ho ho' ha hb hc hm
theorem line63 : (sizeLine : Nat) < 2 ^ 63 := by rw [sizeLine_eq]; decide
theorem op_add_str : OpR X (binaryOp .Add) (fun x y H Q => ∃ i j, x = .str i ∧ y = .str j ∧ i.length + j.length ≤ sizeLine ∧ Q (.str (i ++ j)) H) := by
  intro pins s σ H x y v u Q I rx ry h
  obtain ⟨i, j, rfl, rfl, hz, q⟩ := h
  obtain ⟨t, rfl⟩ := rx
  obtain ⟨t', rfl⟩ := ry
  exact add_str (fun t' tk => ⟨.str (i ++ j), H, I.tok _, ⟨_, rfl⟩, q⟩) hz
theorem vals1 {x : V} {us : List Value} (r : Vals [x] us) : ∃ u, us = [u] ∧ RelV x u := by
  cases r with
  | cons r1 r2 => cases r2; exact ⟨_, rfl, r1⟩
theorem vals2 {x y : V} {us : List Value} (r : Vals [x, y] us) : ∃ u w', us = [u, w'] ∧ RelV x u ∧ RelV y w' := by
  cases r with
  | cons r1 r2 =>
    cases r2 with
    | cons r3 r4 => cases r4; exact ⟨_, _, rfl, r1, r3⟩
theorem call_abs : CallR X (.builtin "abs") (fun xs H Q => ∃ i, xs = [.int i] ∧ Q (.int (if i < 0 then -i else i)) H) := by
  intro pins s σ H xs us Q I r h
  obtain ⟨i, rfl, q⟩ := h
  obtain ⟨u, rfl, t, rfl⟩ := vals1 r
  exact call_abs_int fun u tk => ⟨.int (if i < 0 then -i else i), H, I.tok _, ⟨_, rfl⟩, q⟩
theorem call_min2 (hc : X.calm = true) : CallR X (.builtin "min") (fun xs H Q => ∃ i j, xs = [.int i, .int j] ∧ Q (.int (if j < i then j else i)) H) := by
  intro pins s σ H xs us Q I r h
  obtain ⟨i, j, rfl, q⟩ := h
  obtain ⟨u, w', rfl, ⟨t, rfl⟩, ⟨t', rfl⟩⟩ := vals2 r
  refine min_two_ints (I.ok.hd hc) fun h' tk k => ⟨_, H, I.kept k, ?_, q⟩
  by_cases hj : j < i
  · rw [if_pos hj, if_pos hj]; exact ⟨_, rfl⟩
  · rw [if_neg hj, if_neg hj]; exact ⟨_, rfl⟩
theorem call_int1 : CallR X (.type "int") (fun xs H Q => (∃ i, xs = [.int i] ∧ Q (.int i) H) ∨ ∃ k, xs = [.bl k] ∧ Q (.int (if k then 1 else 0)) H) := by
  intro pins s σ H xs us Q I r h
  rcases h with ⟨i, rfl, q⟩ | ⟨k, rfl, q⟩
  · obtain ⟨u, rfl, t, rfl⟩ := vals1 r
    exact call_int_int ⟨.int i, H, I, ⟨_, rfl⟩, q⟩
  · obtain ⟨u, rfl, r1⟩ := vals1 r
    cases r1
    exact call_int_bool ⟨.int (if k then 1 else 0), H, I.tok _, ⟨_, rfl⟩, q⟩
end
end L2
namespace L2
open PySem PySem.Spec PyProof.Rows
section
variable {prog : Program} {w : World} {A : Around} {E : Value → Shared → Prop} {s : Shared} {K : PySem.W.Frag} {x dx C f : Addr} {mA : Str → Option Value} {name : Str} {v : Value}
end
section
variable {P : Program} {w : World} {H H' : Hp} {h h' : Heap} {a C dx : Addr} {fs fs' : List (Str × V)}
end
section
variable {X : Cx} {pins : List (Addr × Obj)} {σ : St} {H : Hp} {s : Shared} {a C dx : Addr} {fs : List (Str × V)} {f : Str} {v : V} {A : Around} {E : Value → Shared → Prop}
end
section
variable {X : Cx} {o e value : Expr} {f : Str} {pos pos' tpos : Pos} {ta tv : TE}
end
section
variable {X : Cx} {pins : List (Addr × Obj)} {σ : St} {H : Hp} {s : Shared} {A : Around} {E : Value → Shared → Prop} {Q : Value → Shared → Prop} {c : Value} {b : Bool}
end
end L2
namespace L2
open PySem PySem.Spec PyProof.Rows
structure Room (k : Nat) (A : Around) : Prop where
  hd : A.handled = none
  dp : A.depth + 3 * k + 5 < recursionLimit
  un : A.units + 16 * k + 200 < cLine
  gd : A.guards = some []
theorem Room.mono {j k : Nat} {A : Around} (r : Room k A) (h : j ≤ k) : Room j A := ⟨r.hd, by have := r.dp; omega, by have := r.un; omega, r.gd⟩
theorem Room.deeper {k : Nat} {A : Around} (r : Room (k + 1) A) (env : Env) : Room k (A.deeper env) :=
  ⟨r.hd, by have := r.dp; show A.depth + 1 + 3 * k + 5 < _; omega, by have := r.un; show A.units + 3 + 16 * k + 200 < _; omega, r.gd⟩
theorem Room.depth {k : Nat} {A : Around} (r : Room k A) : A.depth < recursionLimit := by have := r.dp; omega
theorem Room.units {k : Nat} {A : Around} (r : Room k A) : A.units + 64 < cLine := by have := r.un; omega
noncomputable def tNil : TA := fun _ H Q => Q [] H
noncomputable def tCons (ta : TE) (tr : TA) : TA := fun σ H Q => ta σ H fun x H1 => tr σ H1 fun xs H2 => Q (x :: xs) H2
section
variable {X : Cx} {e : Expr} {es : List Expr} {te : TE} {t : TA} {pos : Pos}
theorem pa_nil : PA X [] tNil := fun _ _ _ _ H Q I h => Calls.spliced_nil ⟨[], H, I, .nil, h⟩
theorem za_nil : ZA X [] tNil := by with_unfolding_all exact pa_nil 
theorem pa_cons (ha : PE X e te) (hr : PA X es t) (hs : starEach (e :: es) X.env = (false, eval e X.env) :: starEach es X.env := by rfl) : PA X (e :: es) (tCons te t) := by
  intro pos pins s σ H Q I h
  rw [hs]
  show wpAny _ _ (spliced ((false, eval e X.env) :: backTo pos (starEach es X.env))) _ _ s
  refine Calls.spliced_cons (thn (ha pins s σ H _ I h) fun u s1 ⟨x, H1, I1, r1, q1⟩ => ?_)
  exact thn (hr pos pins s1 σ H1 _ I1 q1) fun us s2 ⟨xs, H2, I2, r2, q2⟩ => ⟨x :: xs, H2, I2, .cons r1 r2, q2⟩
theorem za_cons (ha : ZE X e te) (hr : ZA X es t) (hs : starEach (e :: es) X.env = (false, eval e X.env) :: starEach es X.env := by rfl) : ZA X (e :: es) (tCons te t) := by with_unfolding_all exact pa_cons ha hr hs

noncomputable def tTup (t : TA) : TE := fun σ H Q => t σ H fun xs H1 => xs.length ≤ sizeLine ∧ ∀ p, H1 p = none → Q (.ref p) (upd H1 p (.tup xs))
noncomputable def tLst (t : TA) : TE := fun σ H Q => t σ H fun xs H1 => xs.length ≤ sizeLine ∧ ∀ p, H1 p = none → Q (.ref p) (upd H1 p (.lst xs))
theorem pe_tup {x1} (h : PA X es t) : PE X (.Tuple es x1 pos) (tTup t) := by
  intro pins s σ H Q I hq
  refine wpAny_Tuple_spliced (thn (h pos pins s σ H _ I hq) fun us s1 ⟨xs, H1, I1, r, z, q⟩ => ⟨by rw [← r.length]; exact z, ?_⟩)
  have hf : H1 s1.heap.objs.size = none := I1.hok.fresh (Nat.le_refl _)
  refine ⟨.ref s1.heap.objs.size, upd H1 s1.heap.objs.size (.tup xs), I1.laid (t' := s1.toks) (fun b u e => Heap.get?_push_of_some _ e) (Nat.le_refl _) ?_, rfl, q _ hf⟩
  exact ⟨z, us, r, ⟨_, Heap.get?_push_size _ rfl⟩⟩
theorem ze_tup {x1} (h : ZA X es t) : ZE X (.Tuple es x1 pos) (tTup t) := by with_unfolding_all exact pe_tup h
theorem pe_lst (h : PA X es t) : PE X (.List es pos) (tLst t) := by
  intro pins s σ H Q I hq
  refine wpAny_List_spliced (thn (h pos pins s σ H _ I hq) fun us s1 ⟨xs, H1, I1, r, z, q⟩ => ⟨by rw [← r.length]; exact z, ?_⟩)
  have hf : H1 s1.heap.objs.size = none := I1.hok.fresh (Nat.le_refl _)
  refine ⟨.ref s1.heap.objs.size, upd H1 s1.heap.objs.size (.lst xs), I1.laid (t' := s1.toks) (fun b u e => Heap.get?_push_of_some _ e) (Nat.le_refl _) ?_, rfl, q _ hf⟩
  exact ⟨z, us, 0, r, Heap.get?_push_size _ rfl⟩
theorem ze_lst (h : ZA X es t) : ZE X (.List es pos) (tLst t) := by with_unfolding_all exact pe_lst h
end
noncomputable abbrev Sp := List V → Hp → VK → XK → Prop
noncomputable abbrev CXT := List Env → Hp → Shared → XK → Value → Shared → Prop

structure Env0 (P : Program) (w : World) (K : PySem.W.Frag) (mg : Str → Option Value) (base : Heap) (A : Around) (outer : List Env) (s : Shared) (H : Hp) : Prop where
  frames : A.frames = some outer
  mod : Mod K mg base
  bs : ∀ b o, base.get? b = some o → s.heap.get? b = some o ∧ H b = none
  bsz : base.objs.size ≤ s.heap.objs.size
  funs : s.heap.FunFrames base outer
  frf : ∀ b ∈ frs outer, H b = none
  hok : HOk P w H s.heap
  bare : AllBare s.gens
noncomputable def CE (outer : List Env) (P : Program) (w : World) (H : Hp) (s : Shared) (Q : VK) (u : Value) (s' : Shared) : Prop :=
  ∃ v H', s'.os = s.os ∧ AllBare s'.gens ∧ Un (frs outer) [] H H' s.heap s'.heap ∧ HOk P w H' s'.heap ∧ RelV v u ∧ Q v H'
noncomputable def CR (CX : CXT) (outer : List Env) (P : Program) (w : World) (H : Hp) (s : Shared) (Q : VK) (E : XK) (r : Result) (s' : Shared) : Prop :=
  match r with
  | .ok (.ret u) => CE outer P w H s Q u s'
  | .ok _ => False
  | .error e => CX outer H s E e s'
structure FnOk (P : Program) (w : World) (K : PySem.W.Frag) (mg : Str → Option Value) (base : Heap) (CX : CXT) (k : Nat) (f : Addr) (fd : FuncData) (ps : List Str) (sp : Sp) : Prop where
  len : ∀ vs H Q E, sp vs H Q E → vs.length = ps.length
  run : ∀ (A : Around) (outer : List Env) (s : Shared) (H : Hp) (args : Args) (us : List Value) (vs : List V) (Q : VK) (E : XK), Room k A → Env0 P w K mg base A outer s H → BindsTo s fd args (ps.zip us) → Vals vs us → sp vs H Q E →
    codeAny (model P w) A (.call (.ref f) args) (CR CX outer P w H s Q E) s
theorem FnOk.mono {P : Program} {w : World} {K : PySem.W.Frag} {mg : Str → Option Value} {base : Heap} {CX : CXT} {j k : Nat} {f : Addr} {fd : FuncData} {ps : List Str} {sp : Sp} (F : FnOk P w K mg base CX j f fd ps sp) (h : j ≤ k) :
    FnOk P w K mg base CX k f fd ps sp := ⟨F.len, fun A outer s H args us vs Q E hr => F.run A outer s H args us vs Q E (hr.mono h)⟩
section
variable {X : Cx} {pins : List (Addr × Obj)} {σ : St} {H : Hp} {s s' : Shared}
theorem Inv.env0 (I : Inv X pins σ H s) : Env0 X.prog X.w X.K X.mg X.base X.A X.stack s H :=
  ⟨I.ok.frames, I.ok.mod, I.bs, Nat.le_trans I.ok.bsz I.sz, I.stack, I.stkFree, I.hok, I.bare⟩
theorem Inv.after {Q : VK} {u : Value} (I : Inv X pins σ H s) (h : CE X.stack X.prog X.w H s Q u s') : EP X pins σ Q u s' := by
  obtain ⟨v, H', os, bare, un, hok, r, q⟩ := h
  obtain ⟨hh, g, d, t, os'⟩ := s'
  obtain rfl : os' = s.os := os
  exact ⟨v, H', I.call (h' := hh) (g' := g) (d' := d) (t' := t) (ch := []) un hok bare (fun b z => absurd z (by simp)), r, q⟩
end
noncomputable def tCall (sp : Sp) (dvs : List V) (E : XK) (t : TA) : TE := fun σ H Q => t σ H fun vs H1 => sp (vs ++ dvs) H1 Q E
noncomputable def Binds (K : PySem.W.Frag) (fd : FuncData) (ps : List Str) (ds : List Value) : Prop :=
  ∀ (s : Shared) (us : List Value), K.In s.heap → (us ++ ds).length = ps.length → BindsTo s fd ⟨us, []⟩ (ps.zip (us ++ ds))
theorem Binds.all {K : PySem.W.Frag} {fd : FuncData} {ps : List Str} (h : ∀ us : List Value, us.length = ps.length → bindArgs fd ⟨us, []⟩ = pure (ps.zip us)) : Binds K fd ps [] := fun s us _ hl => by
  rw [List.append_nil] at hl ⊢
  exact .of_eq (h us hl)

noncomputable def Passes (CX : CXT) (X : Cx) (E : XK) : Prop := ∀ (pins : List (Addr × Obj)) (σ : St) (H : Hp) (s : Shared) (e : Value) (s' : Shared), Inv X pins σ H s → CX X.stack H s E e s' → X.xe e s'

section
variable {X : Cx} {CX : CXT} {k : Nat} {f C : Addr} {fd : FuncData} {ps : List Str} {sp : Sp} {dvs : List V} {ds : List Value} {E : XK} {x m : Str} {p pos apos : Pos} {e o : Expr} {es : List Expr} {ta : TE} {t : TA}
theorem run_fn {pins : List (Addr × Obj)} {σ : St} {H : Hp} {s : Shared} {Q : VK} {us : List Value} {vs : List V} (F : FnOk X.prog X.w X.K X.mg X.base CX k f fd ps sp) (hr : Room k X.A) (hb : Binds X.K fd ps ds) (hd : Vals dvs ds) (hx : Passes CX X E)
    (I : Inv X pins σ H s) (r : Vals vs us) (h : sp (vs ++ dvs) H Q E) : wpAny (model X.prog X.w) X.A (call (.ref f) us) (EP X pins σ Q) X.xe s := by
  have r2 : Vals (vs ++ dvs) (us ++ ds) := r.append hd
  have hl : (us ++ ds).length = ps.length := by rw [← r2.length]; exact F.len _ _ _ _ h
  refine wpAny_call (codeAny_mono (F.run X.A X.stack s H ⟨us, []⟩ (us ++ ds) (vs ++ dvs) Q E hr I.env0 (hb s us I.kIn hl) r2 h) fun r s' hq => ?_)
  cases r with
  | error e => exact hx pins σ H s e s' I hq
  | ok fl =>
    cases fl with
    | ret u => exact I.after hq
    | next => exact False.elim hq
    | brk => exact False.elim hq
    | cont => exact False.elim hq

theorem pe_call (F : FnOk X.prog X.w X.K X.mg X.base CX k f fd ps sp) (hr : Room k X.A) (hg : Gl X x) (hm : X.mg x = some (.ref f)) (hk : PySem.W.keepIn X.K (.ref f) = true) (hb : Binds X.K fd ps ds) (hd : Vals dvs ds) (hx : Passes CX X E)
    (ha : PA X (e :: es) t) (hdb : (x == ("__debug__" : Str)) = false := by decide) (he : starEach (e :: es) X.env = (false, eval e X.env) :: starEach es X.env := by rfl) (hpl : (backTo pos (starEach es X.env)).any (·.1) = false := by rfl) :
    PE X (.Call (.Name x p) (e :: es) [] pos) (tCall sp dvs E t) := by
  intro pins s σ H Q I h
  refine wpAny_Call_Name_kw (ld_glob I hg hm ?_ hdb)
  refine PySem.W.callWith_K (h₀ := X.base) I.ok.mod.kin hk (thn (ha pos pins s σ H _ I h) fun us s1 ⟨vs, H1, I1, r, q⟩ => ⟨I1.kIn, ?_⟩) he hpl
  exact run_fn F hr hb hd hx I1 r q
end
section
variable {X : Cx} {CX : CXT} {k : Nat} {f C : Addr} {fd : FuncData} {ps ks : List Str} {sp : Sp} {E : XK} {x m : Str} {p pos apos kpos : Pos} {e o : Expr} {es : List Expr} {kws : List Keyword} {te ta : TE} {t tk : TA} {nm : Option Str}
variable {g : List Value → List Value → List Value} {gV : List V → List V → List V}
end
structure FnScope (N P : List Str) (sc : Scope) : Prop where
  kind : sc.kind = .function
  co : sc.isCoroutine = false
  gen : sc.isGenerator = false
  nd : N.Nodup
  pre : N.take P.length = P
  par : ∀ x ∈ P, sc.names.lookup x = some .local ∨ sc.names.lookup x = some .cell
  nofree : ∀ y ∈ sc.names, y.2 ≠ .free

theorem bindL_out {kindOf : Str → Option NameKind} {x : Str} : ∀ {binds : List (Str × Value)} {m : Str → Option Value}, (∀ v, (x, v) ∉ binds) → bindL kindOf binds m x = m x
  | [], _, _ => rfl
  | (n, v) :: r, m, h => by
    unfold bindL
    rw [bindL_out fun w hw => h w (List.mem_cons_of_mem _ hw)]
    split
    · have : x ≠ n := by rintro rfl; exact h v List.mem_cons_self
      simp [this]
    · rfl
theorem bindC_out {kindOf : Str → Option NameKind} {x : Str} : ∀ {binds : List (Str × Value)} {m : Str → Option Value}, (∀ v, (x, v) ∉ binds) → bindC kindOf binds m x = m x
  | [], _, _ => rfl
  | (n, v) :: r, m, h => by
    unfold bindC
    rw [bindC_out fun w hw => h w (List.mem_cons_of_mem _ hw)]
    split
    · rfl
    · have : x ≠ n := by rintro rfl; exact h v List.mem_cons_self
      simp [this]
theorem bindL_get {kindOf : Str → Option NameKind} {x : Str} {v : Value} : ∀ {P : List Str} {vs : List Value} {i : Nat} {m : Str → Option Value}, P.Nodup → P[i]? = some x → vs[i]? = some v → kindOf x = some .local →
    bindL kindOf (P.zip vs) m x = some v
  | [], _, _, _, _, h, _, _ => by simp at h
  | _ :: _, [], _, _, _, _, h, _ => by simp at h
  | p :: P, w :: vs, 0, m, nd, h1, h2, hk => by
    simp at h1 h2; subst h1; subst h2
    show bindL kindOf ((p, w) :: P.zip vs) m p = _
    unfold bindL
    rw [bindL_out fun v hv => (List.nodup_cons.mp nd).1 (List.of_mem_zip hv).1, if_pos hk]
    simp
  | p :: P, w :: vs, i + 1, m, nd, h1, h2, hk => by
    show bindL kindOf ((p, w) :: P.zip vs) m x = _
    unfold bindL
    exact bindL_get (i := i) (List.nodup_cons.mp nd).2 (by simpa using h1) (by simpa using h2) hk
theorem bindC_get {kindOf : Str → Option NameKind} {x : Str} {v : Value} : ∀ {P : List Str} {vs : List Value} {i : Nat} {m : Str → Option Value}, P.Nodup → P[i]? = some x → vs[i]? = some v → kindOf x ≠ some .local →
    bindC kindOf (P.zip vs) m x = some v
  | [], _, _, _, _, h, _, _ => by simp at h
  | _ :: _, [], _, _, _, _, h, _ => by simp at h
  | p :: P, w :: vs, 0, m, nd, h1, h2, hk => by
    simp at h1 h2; subst h1; subst h2
    show bindC kindOf ((p, w) :: P.zip vs) m p = _
    unfold bindC
    rw [bindC_out fun v hv => (List.nodup_cons.mp nd).1 (List.of_mem_zip hv).1, if_neg hk]
    simp
  | p :: P, w :: vs, i + 1, m, nd, h1, h2, hk => by
    show bindC kindOf ((p, w) :: P.zip vs) m x = _
    unfold bindC
    exact bindC_get (i := i) (List.nodup_cons.mp nd).2 (by simpa using h1) (by simpa using h2) hk

noncomputable def start (N : List Str) (vs : List V) : St := vs.map some ++ List.replicate (N.length - vs.length) none

noncomputable def cxOf (CX : CXT) (P : Program) (w : World) (K : PySem.W.Frag) (mg : Str → Option Value) (base : Heap) (N : List Str) (qual : Str) (scope : Scope) (f : Addr) (cd : Value) (A : Around) (outer : List Env) (s : Shared) (H : Hp) (E : XK) : Cx where
  prog := P
  w := w
  K := K
  mg := mg
  base := base
  A := A.deeper (envOfC qual scope s.heap.objs.size f cd)
  N := N
  s₀ := s
  H₀ := H
  env := envOfC qual scope s.heap.objs.size f cd
  outer := outer
  stack := envOfC qual scope s.heap.objs.size f cd :: outer
  ex := []
  calm := true
  fn := fun _ => true
  pn := []
  xe := fun e s' => wpAny (model P w) (A.deeper (envOfC qual scope s.heap.objs.size f cd)) (leaving (envOfC qual scope s.heap.objs.size f cd) e) (fun _ s'' => CX outer H s E e s'') (fun e' s'' => CX outer H s E e' s'') s'

theorem cell_has {sc : Scope} {n : Nat} {x : Str} (h : sc.names.lookup x = some .cell) : ∃ c, (cellsFrom n sc.names []).lookup x = some c := by
  have q := PySem.W.cellsFrom_some sc.names n [] (.inl h)
  exact Option.isSome_iff_exists.mp q

theorem inv_start {CX : CXT} {P : Program} {w : World} {K : PySem.W.Frag} {mg : Str → Option Value} {base : Heap} {N ps : List Str} {qual : Str} {scope : Scope} {f : Addr} {cd : Value} {A : Around} {outer : List Env} {s s1 : Shared} {H : Hp} {E : XK} {us : List Value} {vs : List V}
    (S : FnScope N ps scope) (hd : A.handled = none) (e0 : Env0 P w K mg base A outer s H) (hl : vs.length = ps.length) (r : Vals vs us)
    (x : InCallC s s.heap.objs.size (bindL (envOfC qual scope s.heap.objs.size f cd).kindOf (ps.zip us) fun _ => none) (cellsFrom (s.heap.objs.size + 1) scope.names []) (bindC (envOfC qual scope s.heap.objs.size f cd).kindOf (ps.zip us) fun _ => none) s1) :
    Inv (cxOf CX P w K mg base N qual scope f cd A outer s H E) [] (start N vs) H s1 := by
  have hpl : ps.length ≤ N.length := by have := congrArg List.length S.pre; rw [List.length_take] at this; omega
  obtain ⟨h1, tk, rfl, hk⟩ := x.done
  have noA : ∀ b : Addr, b ∉ (cxOf CX P w K mg base N qual scope f cd A outer s H E).ex := fun b z => absurd (show b ∈ ([] : List Addr) from z) (by simp)
  refine ⟨⟨e0.mod, S.kind, rfl, rfl, Nat.le_refl _, fun y z c h1 h2 => ?_, fun y hy => ?_, fun y c _ h => ?_, fun _ => hd, Around.frames_deeper e0.frames, .inr ⟨rfl, rfl⟩, fun b z => absurd z (noA b), e0.bs, e0.bsz, fun b _ _ => noA b, fun b z => absurd z (noA b), e0.funs, e0.frf⟩,
    rfl, e0.bare, Un.kept hk, ⟨_, x.toInCall.ns, fun i y v h1 h2 h3 => ?_⟩, fun y c h => ⟨_, x.cell y c h⟩, e0.hok.fresh (Nat.le_refl _), fun y c h => ?_, fun p hp => absurd (show p ∈ ([] : List (Addr × Obj)) from hp) (by simp), e0.hok.kept hk, ?_⟩
  · exact name_of_addr x.apart (PySem.mem_of_lookup h1) (PySem.mem_of_lookup h2)
  · have hy : scope.names.lookup y = some .cell ∨ scope.names.lookup y = some .free := hy
    rcases hy with hy | hy
    · exact cell_has hy
    · exact absurd rfl (S.nofree _ (PySem.mem_of_lookup hy))
  · exact Nat.le_of_lt (x.above y c (PySem.mem_of_lookup h))
  · have hi : i < vs.length := by
      unfold start at h2
      by_cases hi : i < vs.length
      · exact hi
      · rw [List.getElem?_append_right (by simpa using hi)] at h2
        rw [List.getElem?_replicate] at h2
        split at h2 <;> cases h2
    have ha : vs[i]? = some v := by
      unfold start at h2
      rw [List.getElem?_append_left (by simpa using hi), List.getElem?_map] at h2
      cases e : vs[i]? with
      | none => rw [e] at h2; cases h2
      | some a => rw [e] at h2; cases h2; rfl
    obtain ⟨u, hu, rv⟩ := r.get ha
    have hp : ps[i]? = some y := by
      rw [← S.pre, List.getElem?_take_of_lt (by omega)]; exact h1
    have ndP : ps.Nodup := by rw [← S.pre]; exact S.nd.sublist (List.take_sublist _ _)
    refine ⟨u, rv, ?_⟩
    rcases S.par y (List.mem_of_getElem? hp) with k | k
    · exact .inl ⟨k, bindL_get ndP hp hu k⟩
    · obtain ⟨c, e⟩ := cell_has (n := s.heap.objs.size + 1) k
      refine .inr ⟨.inl k, c, e, ?_⟩
      have q := x.cell y c e
      rw [bindC_get ndP hp hu (by show scope.names.lookup y ≠ _; rw [k]; decide)] at q
      exact q
  · exact e0.hok.fresh (Nat.le_of_lt (x.above y c (PySem.mem_of_lookup h)))
  · unfold start
    show _ = N.length
    rw [List.length_append, List.length_map, List.length_replicate]
    omega

theorem fn_of {CX : CXT} {P : Program} {w : World} {K : PySem.W.Frag} {mg : Str → Option Value} {base : Heap} {k : Nat} {f : Addr} {name qual : Str} {params : Arguments} {body : List Stmt} {scope : Scope} {dV kV doc pm cdv ct oc : Value} {an od : Option Addr}
    {osl : Array (Option Value)} {N ps : List Str} {sp : Sp} (lk : K.lookup f = some ⟨oc, od, .func (PySem.W.fnOf name qual params body scope dV kV doc pm an cdv ct), osl⟩) (hcd : PySem.W.codeIn K cdv qual = true) (S : FnScope N ps scope)
    (len : ∀ vs H Q E, sp vs H Q E → vs.length = ps.length)
    (hbody : ∀ (A : Around) (outer : List Env) (s : Shared) (H : Hp) (vs : List V) (Q : VK) (E : XK), Room k (A.deeper (envOfC qual scope s.heap.objs.size f cdv)) → sp vs H Q E →
      ∃ t, PSs (cxOf CX P w K mg base N qual scope f cdv A outer s H E) body t ∧ t { nx := fun _ H' => Q .non H', rt := Q } (start N vs) H) :
    FnOk P w K mg base CX (k + 1) f (PySem.W.fnOf name qual params body scope dV kV doc pm an cdv ct) ps sp := by
  refine ⟨len, fun A outer s H args us vs Q E hr e0 hb r hsp => ?_⟩
  have hl := len _ _ _ _ hsp
  have KX : K.In s.heap := e0.mod.kin.keeps fun b o e => (e0.bs b o e).1
  have lim : s.heap.NoLimit := e0.mod.nolimit.keeps fun b o e => (e0.bs b o e).1
  have hkind : ∀ y ∈ ps.zip us, scope.names.lookup y.1 = some .local ∨ (scope.names.lookup y.1 = some .cell ∧ ((cellsFrom (s.heap.objs.size + 1) scope.names []).lookup y.1).isSome = true) := fun ⟨n, v⟩ hy => by
    rcases S.par n (List.of_mem_zip hy).1 with q | q
    · exact .inl q
    · exact .inr ⟨q, PySem.W.cellsFrom_some _ _ _ (.inl q)⟩
  refine codeAny_call_function hr.depth (KX _ _ lk) rfl S.co S.gen rfl (PySem.W.codeRec_of KX hcd) (hb _ _ _ _ ?_)
  refine wpAny_newFunctionEnv_cells S.kind hkind fun env he s1 x => ?_
  subst he
  refine ⟨lim.keeps x.toInCall.keep, codeAny_func ?_⟩
  obtain ⟨t, ht, hq⟩ := hbody A outer s H vs Q E (hr.deeper _) hsp
  have I : Inv (cxOf CX P w K mg base N qual scope f cdv A outer s H E) [] (start N vs) H s1 := inv_start S hr.hd e0 hl r x
  refine wpAny_mono (ht [] s1 (start N vs) H _ I hq) (fun fl s' hs => ?_) fun e s' hs => hs
  have fin : ∀ {σ' : St} {H' : Hp} {v : V} {u : Value}, Inv (cxOf CX P w K mg base N qual scope f cdv A outer s H E) [] σ' H' s' → RelV v u → Q v H' → CE outer P w H s Q u s' :=
    fun {σ' H' v u} J rv q => ⟨v, H', J.os, J.bare, J.base, J.hok, rv, q⟩
  cases fl with
  | ret u =>
    obtain ⟨v, σ', H', J, rv, q⟩ := hs
    exact fin J rv q
  | next =>
    obtain ⟨σ', H', J, q⟩ := hs
    exact fin (v := V.non) (u := Value.none) J rfl q
  | brk =>
    obtain ⟨_, _, _, q⟩ := hs
    exact False.elim q
  | cont =>
    obtain ⟨_, _, _, q⟩ := hs
    exact False.elim q
end L2
namespace L2
open PySem PySem.Spec PyProof.Rows
section
variable {X : Cx} {x : Str} {p pos : Pos} {e : Expr} {es : List Expr} {t : TA} {id T : String} {r : List V → Hp → VK → Prop}
noncomputable def tCB (r : List V → Hp → VK → Prop) (t : TA) : TE := fun σ H Q => t σ H fun vs H1 => r vs H1 Q
theorem pe_callB (hc : CallR X (.builtin id) r) (hg : Gl X x) (hm : X.mg x = none) (hv : bootBuiltins x = some (.builtin id)) (ha : PA X (e :: es) t) (hn : x ≠ "__name__" := by decide) (hdb : (x == ("__debug__" : Str)) = false := by decide)
    (he : starEach (e :: es) X.env = (false, eval e X.env) :: starEach es X.env := by rfl) (hpl : (backTo pos (starEach es X.env)).any (·.1) = false := by rfl) : PE X (.Call (.Name x p) (e :: es) [] pos) (tCB r t) := by
  intro pins s σ H Q I h
  refine wpAny_Call_Name_kw (ld_blt I hg hm hv ?_ hn hdb)
  exact PyProof.Rows.callWith_builtin1 (thn (ha pos pins s σ H _ I h) fun us s1 ⟨vs, H1, I1, r1, q1⟩ => hc pins s1 σ H1 vs us Q I1 r1 q1) he hpl
theorem pe_callTy (hc : CallR X (.type T) r) (hg : Gl X x) (hm : X.mg x = none) (hv : bootBuiltins x = some (.type T)) (ha : PA X (e :: es) t) (hn : x ≠ "__name__" := by decide) (hdb : (x == ("__debug__" : Str)) = false := by decide)
    (he : starEach (e :: es) X.env = (false, eval e X.env) :: starEach es X.env := by rfl) (hpl : (backTo pos (starEach es X.env)).any (·.1) = false := by rfl) : PE X (.Call (.Name x p) (e :: es) [] pos) (tCB r t) := by
  intro pins s σ H Q I h
  refine wpAny_Call_Name_kw (ld_blt I hg hm hv ?_ hn hdb)
  exact PyProof.Rows.callWith_type1 (thn (ha pos pins s σ H _ I h) fun us s1 ⟨vs, H1, I1, r1, q1⟩ => hc pins s1 σ H1 vs us Q I1 r1 q1) he hpl
end
end L2
namespace HT
open PySem PyProof.Rows
section
open PySem.SeqAt
open PySem.AutoSeq1 (wpAny_loadPart')
open PySem.MeetsSeq PySem.MeetsSeq2 PySem.MeetsSeq3
end
section
variable {prog : Program} {w : World} {A : Around} {E : Value → Shared → Prop} {s : Shared}
theorem cat_tup {t b : Addr} {vs ws : List Value} {Q : Value → Shared → Prop} (ht : IsTup s.heap t vs.toArray) (hb : IsTup s.heap b ws.toArray) (hv : vs ≠ [])
    (h1 : ws = [] → Q (.ref t) s) (h2 : ws ≠ [] → Q (.ref s.heap.objs.size) { s with heap := s.heap.push { cls := .type "tuple", data := .seq (vs ++ ws).toArray } })
    (hsz : vs.length + ws.length ≤ sizeLine) : wpAny (model prog w) A (binaryOp .Add (.ref t) (.ref b)) Q E s := by
  obtain ⟨⟨cls, dd, data, sl⟩, ho, hc, n, hd⟩ := id ht
  obtain ⟨⟨cls2, dd2, data2, sl2⟩, ho2, hc2, n2, hd2⟩ := id hb
  simp only at hc hd hc2 hd2
  subst hc hd hc2 hd2
  have e : vs.toArray ++ ws.toArray = (vs ++ ws).toArray := by simp
  by_cases hw : ws = []
  · exact concat_meets ⟨_, ho, rfl⟩ ⟨_, ho2, rfl⟩ noFill_tuple_add seq_tuple_add PySem.F.slot_tuple_add PySem.F.entry_tuple_add (PySem.F.args_tuple_add_2 _ _)
      (tuple_addW1 t b vs.toArray ws.toArray n n2 dd dd2 sl sl2 (by simpa using hv) (by simp [hw])) ⟨ho, ho2, h1 hw⟩
  · refine concat_meets ⟨_, ho, rfl⟩ ⟨_, ho2, rfl⟩ noFill_tuple_add seq_tuple_add PySem.F.slot_tuple_add PySem.F.entry_tuple_add (PySem.F.args_tuple_add_2 _ _)
      (tuple_addW2 t b vs.toArray ws.toArray n n2 dd dd2 sl sl2 (by simpa using hv) (by simpa using hw) (by rw [List.size_toArray, List.size_toArray]; exact hsz)) ⟨ho, ho2, ?_⟩
    rw [e]
    exact h2 hw

end
end HT
namespace L2
open PySem PySem.Spec PyProof.Rows
section
variable {X : Cx} {e : Expr} {te : TE} {lo hi : Option Expr} {tl th : TO} {pos p2 : Pos}
noncomputable def rCatT (K : PySem.W.Frag) : R2 := fun x y H Q => ∃ a b xs ys, x = .ref a ∧ y = .ref b ∧ SqT K H a xs ∧ SqT K H b ys ∧ xs ≠ [] ∧ xs.length + ys.length ≤ sizeLine ∧
  (ys = [] → Q (.ref a) H) ∧ (ys ≠ [] → ∀ p, H p = none → Q (.ref p) (upd H p (.tup (xs ++ ys))))
theorem Vals.nil_iff {xs : List V} {us : List Value} (r : Vals xs us) : us = [] ↔ xs = [] := by
  cases r with
  | nil => simp
  | cons _ _ => simp
theorem op_catT : OpR X (binaryOp .Add) (rCatT X.K) := by
  intro pins s σ H x y v u Q I rx ry h
  obtain ⟨a, b, xs, ys, rfl, rfl, ha, hb, hx, hz, q1, q2⟩ := h
  cases rx
  cases ry
  obtain ⟨its, r1, p1, _⟩ := I.tuple ha
  obtain ⟨its2, r2, p2, _⟩ := I.tuple hb
  refine HT.cat_tup p1 p2 (fun z => hx (r1.nil_iff.mp z)) (fun z => ⟨.ref a, H, I, rfl, q1 (r2.nil_iff.mp z)⟩) (fun z => ?_) (by rw [← r1.length, ← r2.length]; exact hz)
  refine ⟨.ref s.heap.objs.size, _, I.laid (t' := s.toks) (o := .tup (xs ++ ys)) (fun b ob q => Heap.get?_push_of_some _ q) (Nat.le_refl _) ?_, rfl, q2 (fun w => z (r2.nil_iff.mpr w)) _ (I.hok.fresh (Nat.le_refl _))⟩
  exact ⟨by rw [List.length_append]; exact hz, _, r1.append r2, TupD.new _ _⟩
end
end L2
namespace L2
open PySem PySem.Spec PyProof.Rows
noncomputable def ixN (n : Nat) (i : Int) : Option Nat := if 0 ≤ i then (if i < n then some i.toNat else none) else if -(n : Int) ≤ i then some (i + n).toNat else none
noncomputable def atI {α : Type} (xs : List α) (i : Int) : Option α := (ixN xs.length i).bind fun j => xs[j]?
theorem ixN_seq {n : Nat} {i : Int} {j : Nat} (h : ixN n i = some j) : seqIndex? i n = some j ∧ j < n ∧ -(n : Int) ≤ i ∧ i < n := by
  unfold ixN at h
  by_cases h0 : 0 ≤ i
  · rw [if_pos h0] at h
    by_cases h1 : i < n
    · rw [if_pos h1] at h
      have e : i.toNat = j := Option.some.inj h
      exact ⟨by rw [seqIndex_of h0 h1, e], by omega, by omega, h1⟩
    · rw [if_neg h1] at h; cases h
  · rw [if_neg h0] at h
    by_cases h1 : -(n : Int) ≤ i
    · rw [if_pos h1] at h
      have e : (i + n).toNat = j := Option.some.inj h
      exact ⟨by rw [seqIndex_neg (by omega) h1, e], by omega, h1, by omega⟩
    · rw [if_neg h1] at h; cases h
theorem atI_get {α : Type} {xs : List α} {i : Int} {v : α} (h : atI xs i = some v) : ∃ j, seqIndex? i xs.length = some j ∧ xs[j]? = some v ∧ j < xs.length ∧ -(xs.length : Int) ≤ i ∧ i < xs.length := by
  unfold atI at h
  cases e : ixN xs.length i with
  | none => rw [e] at h; cases h
  | some j =>
    rw [e] at h
    obtain ⟨h1, h2, h3, h4⟩ := ixN_seq e
    exact ⟨j, h1, h, h2, h3, h4⟩
theorem atI_nat {α : Type} {xs : List α} {j : Nat} {v : α} (h : xs[j]? = some v) : atI xs (j : Int) = some v := by
  have hj : j < xs.length := (List.getElem?_eq_some_iff.mp h).1
  have e : ixN xs.length (j : Int) = some j := by
    unfold ixN
    rw [if_pos (by omega), if_pos (by omega)]; simp
  unfold atI; rw [e]; exact h
noncomputable def PlainIx (b : Expr) : Prop := ∀ o i, subscripted b false o i = operate [o, i] (getItem o i)
noncomputable def IxR (X : Cx) (r : R2) : Prop :=
  ∀ (value slice : Expr) (pins : List (Addr × Obj)) (s : Shared) (σ : St) (H : Hp) (x y : V) (v u : Value) (Q : VK), Inv X pins σ H s → RelV x v → RelV y u → r x y H Q →
    subscripted slice false v u = operate [v, u] (getItem v u) → wpAny (model X.prog X.w) X.A (subscriptTail value slice v u) (EP X pins σ Q) X.xe s
noncomputable def MtR (X : Cx) (id : String) (r : V → List V → Hp → VK → Prop) : Prop :=
  ∀ (pins : List (Addr × Obj)) (s : Shared) (σ : St) (H : Hp) (x : V) (xs : List V) (v : Value) (us : List Value) (Q : VK), Inv X pins σ H s → RelV x v → Vals xs us → r x xs H Q →
    wpAny (model X.prog X.w) X.A (call (.builtin id) (v :: us)) (EP X pins σ Q) X.xe s
section
variable {X : Cx} {a b : Expr} {ta tb : TE} {pos : Pos}
theorem pe_ix {r : R2} (hr : IxR X r) (ha : PE X a ta) (hb : PE X b tb) (hs : PlainIx b) : PE X (.Subscript a b pos) (tOp r ta tb) := by
  intro pins s σ H Q I h
  exact Subscript_ (binT ha hb I h fun v u s2 x y H2 I2 rx ry q => hr a b pins s2 σ H2 x y v u Q I2 rx ry q (hs _ _))
theorem ze_ix {r : R2} (hr : IxR X r) (ha : ZE X a ta) (hb : ZE X b tb) (hs : PlainIx b) : ZE X (.Subscript a b pos) (tOp r ta tb) := by with_unfolding_all exact pe_ix hr ha hb hs

noncomputable def rIxL (K : PySem.W.Frag) : R2 := fun x y H Q => ∃ p xs i v, x = .ref p ∧ y = .int i ∧ SqL K H p xs ∧ atI xs i = some v ∧ Q v H
noncomputable def rIxT (K : PySem.W.Frag) : R2 := fun x y H Q => ∃ p xs i v, x = .ref p ∧ y = .int i ∧ SqT K H p xs ∧ atI xs i = some v ∧ Q v H
theorem ix_list : IxR X (rIxL X.K) := by
  intro value slice pins s σ H x y v u Q I rx ry h hs
  obtain ⟨p, xs, i, z, rfl, rfl, hq, he, q⟩ := h
  cases rx
  obtain ⟨t, rfl⟩ := ry
  obtain ⟨its, r, pl, hz⟩ := I.list hq
  obtain ⟨j, h1, h2, h3, h4, h5⟩ := atI_get he
  obtain ⟨w, ew, rw'⟩ := r.get h2
  have hl := r.length
  have hn := line63
  have fin : EP X pins σ Q w s := ⟨z, H, I, rw', q⟩
  by_cases h0 : 0 ≤ i
  · have hj : i.toNat = j := by
      rw [seqIndex_of h0 h5] at h1
      exact Option.some.inj h1
    exact item_listR pl.isList h0 (by omega) (by rw [hj]; simpa using ew) fin hs
  · have hj : (i + (its.toArray.size : Int)).toNat = j := by
      rw [seqIndex_neg (by omega) h4] at h1
      rw [List.size_toArray, ← hl]
      exact Option.some.inj h1
    exact subscriptTail_builtinR (x := w) pl.isList.typeIs slot_list_getitem.lookup
      (wpAny_getItem_list_neg (Q := fun r s' => r = w ∧ EP X pins σ Q r s') pl.isList (by omega) (by rw [List.size_toArray] <;> omega) (by omega) (by rw [hj]; simpa using ew) ⟨rfl, fin⟩) hs
theorem ix_tup : IxR X (rIxT X.K) := by
  intro value slice pins s σ H x y v u Q I rx ry h hs
  obtain ⟨p, xs, i, z, rfl, rfl, hq, he, q⟩ := h
  cases rx
  obtain ⟨t, rfl⟩ := ry
  obtain ⟨its, r, pl, hz⟩ := I.tuple hq
  obtain ⟨j, h1, h2, h3, h4, h5⟩ := atI_get he
  obtain ⟨w, ew, rw'⟩ := r.get h2
  have hl := r.length
  have hn := line63
  have fin : EP X pins σ Q w s := ⟨z, H, I, rw', q⟩
  exact subscriptTail_builtinR (x := w) pl.typeIs slot_tuple_getitem.lookup
    (getItem_tuple (j := j) (Q := fun r s' => r = w ∧ EP X pins σ Q r s') pl (by omega) (by omega) (by rw [List.size_toArray, ← hl]; exact h1) (by simpa using ew) ⟨rfl, fin⟩) hs
theorem mapSeq_set (its : List Value) (n j : Nat) (u : Value) : Obj.mapSeq (·.setIfInBounds j u) { cls := .type "list", data := .seq its.toArray n } = { cls := .type "list", data := .seq (its.set j u).toArray n } := by
  simp [Obj.mapSeq]
theorem Inv.lst {pins : List (Addr × Obj)} {σ : St} {H : Hp} {s : Shared} {p : Addr} {xs : List V} (I : Inv X pins σ H s) (h : H p = some (.lst xs)) :
    ∃ (its : List Value) (n : Nat), Vals xs its ∧ s.heap.get? p = some { cls := .type "list", data := .seq its.toArray n } ∧ xs.length ≤ sizeLine := by
  obtain ⟨z, its, n, r, e⟩ := I.hok p _ h
  exact ⟨its, n, r, e, z⟩
theorem Inv.lstUpd {pins : List (Addr × Obj)} {σ : St} {H : Hp} {s : Shared} {p : Addr} {xs ys : List V} {its its' : List Value} {n n' : Nat} {f : Obj → Obj} (I : Inv X pins σ H s) (h : H p = some (.lst xs))
    (ho : s.heap.get? p = some { cls := .type "list", data := .seq its.toArray n }) (hf : f { cls := .type "list", data := .seq its.toArray n } = { cls := .type "list", data := .seq its'.toArray n' }) (r : Vals ys its') (hz : ys.length ≤ sizeLine) (t : Nat) :
    Inv X pins σ (upd H p (.lst ys)) { s with heap := s.heap.update p f, toks := t } := by
  have e : (s.heap.update p f).get? p = some { cls := .type "list", data := .seq its'.toArray n' } := by
    rw [Heap.get?_update_self f ho (by rw [hf] <;> rfl), hf]
  refine I.write (x := p) (e := p) (by rw [h]; trivial) (.inl rfl) (fun b u hb q => (Heap.get?_update_other _ _ (Ne.symm hb)).trans q) ⟨_, e⟩ ?_
  exact ⟨hz, its', n', r, e⟩
noncomputable def rSetL : V → V → V → Hp → (Hp → Prop) → Prop := fun o i v H Q => ∃ p xs k j, o = .ref p ∧ i = .int k ∧ H p = some (.lst xs) ∧ ixN xs.length k = some j ∧ Q (upd H p (.lst (xs.set j v)))
theorem set_list : PSet X rSetL := by
  intro pins s σ H o i v ov iv u Q I ro ri rv h
  obtain ⟨p, xs, k, j, rfl, rfl, hp, hj, q⟩ := h
  cases ro
  obtain ⟨t, rfl⟩ := ri
  obtain ⟨its, n, r, ho, hz⟩ := I.lst hp
  obtain ⟨h1, h2, h3, h4⟩ := ixN_seq hj
  have hl := r.length
  have hn := line63
  have I' : Inv X pins σ (upd H p (.lst (xs.set j v))) { s with heap := s.heap.update p (Obj.mapSeq (·.setIfInBounds j u)) } :=
    I.lstUpd hp ho (mapSeq_set its n j u) (r.set rv j) (by rw [List.length_set]; exact hz) s.toks
  by_cases h0 : 0 ≤ k
  · have hk : k.toNat = j := by
      rw [seqIndex_of h0 h4] at h1
      exact Option.some.inj h1
    exact PySem.W.ki_setAt ho h0 (by omega) (by rw [List.size_toArray, ← hl]; exact h4) (by rw [hk]; exact ⟨_, I', q⟩)
  · have hk : (k + (its.toArray.size : Int)).toNat = j := by
      rw [seqIndex_neg (by omega) h3] at h1
      rw [List.size_toArray, ← hl]
      exact Option.some.inj h1
    exact PySem.W.ki_setBack ho (by omega) (by rw [List.size_toArray, ← hl]; exact h3) (by omega) (by rw [hk]; exact ⟨_, I', q⟩)

noncomputable def flatV : V → Bool
  | .non => true
  | .bl _ => true
  | .int _ => true
  | .str _ => true
  | _ => false
noncomputable def eqV : V → V → Bool
  | .non, .non => true
  | .bl a, .bl b => a == b
  | .bl a, .int b => (if a then 1 else 0) == b
  | .int a, .bl b => a == (if b then 1 else 0)
  | .int a, .int b => a == b
  | .str a, .str b => a == b
  | _, _ => false
theorem eqAt_V {A : Around} {s : Shared} {y x : V} {u v : Value} (ry : RelV y u) (rx : RelV x v) (fy : flatV y = true) (fx : flatV x = true) : SeqAt.EqAt A s u v (eqV y x) := by
  cases y with
  | non =>
    cases ry
    cases x with
    | non => cases rx; exact SeqAt.EqAt.same _
    | bl b => cases rx; exact SeqAt.EqAt.none_bool b
    | int b => obtain ⟨t, rfl⟩ := rx; exact SeqAt.EqAt.none_int b t
    | str b => obtain ⟨t, rfl⟩ := rx; exact SeqAt.EqAt.none_str b t
    | _ => exact absurd (show false = true from fx) Bool.false_ne_true
  | bl a =>
    cases ry
    cases x with
    | non => cases rx; exact SeqAt.EqAt.bool_none a
    | bl b => cases rx; exact SeqAt.EqAt.bool_bool a b
    | int b => obtain ⟨t, rfl⟩ := rx; exact SeqAt.EqAt.bool_int a b t
    | str b => obtain ⟨t, rfl⟩ := rx; exact SeqAt.EqAt.bool_str a b t
    | _ => exact absurd (show false = true from fx) Bool.false_ne_true
  | int a =>
    obtain ⟨t', rfl⟩ := ry
    cases x with
    | non => cases rx; exact SeqAt.EqAt.int_none a t'
    | bl b => cases rx; exact SeqAt.EqAt.int_bool a t' b
    | int b => obtain ⟨t, rfl⟩ := rx; exact SeqAt.EqAt.int_int a t' b t
    | str b => obtain ⟨t, rfl⟩ := rx; exact SeqAt.EqAt.int_str a t' b t
    | _ => exact absurd (show false = true from fx) Bool.false_ne_true
  | str a =>
    obtain ⟨t', rfl⟩ := ry
    cases x with
    | non => cases rx; exact SeqAt.EqAt.str_none a t'
    | bl b => cases rx; exact SeqAt.EqAt.str_bool a t' b
    | int b => obtain ⟨t, rfl⟩ := rx; exact SeqAt.EqAt.str_int a t' b t
    | str b => obtain ⟨t, rfl⟩ := rx; exact SeqAt.EqAt.str_str a t' b t
    | _ => exact absurd (show false = true from fx) Bool.false_ne_true
  | _ => exact absurd (show false = true from fy) Bool.false_ne_true
noncomputable def eqU (x : V) (u : Value) : Bool := match u with
  | .none => eqV .non x
  | .bool b => eqV (.bl b) x
  | .int i _ => eqV (.int i) x
  | .str z _ => eqV (.str z) x
  | _ => false
theorem eqU_of {x y : V} {u : Value} (r : RelV y u) (f : flatV y = true) : eqU x u = eqV y x := by
  cases y with
  | non => cases r; rfl
  | bl b => cases r; rfl
  | int i => obtain ⟨t, rfl⟩ := r; rfl
  | str z => obtain ⟨t, rfl⟩ := r; rfl
  | _ => exact absurd (show false = true from f) Bool.false_ne_true
theorem any_eqU {x : V} : ∀ {xs : List V} {us : List Value}, Vals xs us → xs.all flatV = true → us.any (eqU x) = xs.any fun y => eqV y x
  | _, _, .nil, _ => rfl
  | y :: xs, u :: us, .cons r t, f => by
    rw [List.all_cons, Bool.and_eq_true] at f
    rw [List.any_cons, List.any_cons, eqU_of r f.1, any_eqU t f.2]
theorem mem_eqAt {A : Around} {s : Shared} {x : V} {v : Value} (rx : RelV x v) (fx : flatV x = true) : ∀ {xs : List V} {us : List Value}, Vals xs us → xs.all flatV = true → ∀ u ∈ us, SeqAt.EqAt A s u v (eqU x u)
  | _, _, .nil, _ => fun u hu => by cases hu
  | y :: xs, u :: us, .cons r t, f => fun u' hu => by
    rw [List.all_cons, Bool.and_eq_true] at f
    rcases List.mem_cons.mp hu with rfl | hu
    · rw [eqU_of r f.1]; exact eqAt_V r rx f.1 fx
    · exact mem_eqAt rx fx t f.2 u' hu
noncomputable def inV (x : V) (xs : List V) : Bool := xs.any fun y => eqV y x
noncomputable def rIn (K : PySem.W.Frag) (neg : Bool) : R2 := fun x y H Q => ∃ p xs, y = .ref p ∧ (SqL K H p xs ∨ SqT K H p xs) ∧ flatV x = true ∧ xs.all flatV = true ∧ Q (.bl (if neg then !inV x xs else inV x xs)) H
theorem op_in_seq : OpR X (compareOp .In) (rIn X.K false) := by
  intro pins s σ H x y v u Q I rx ry h
  obtain ⟨p, xs, rfl, hq, fx, fs, q⟩ := h
  cases ry
  rcases hq with hq | hq
  · obtain ⟨its, r, pl, hz⟩ := I.list hq
    refine SeqAt.in_listAt (eqU x) pl.isList (fun w hw => mem_eqAt rx fx r fs w (by simpa using hw)) ⟨.bl _, H, I, rfl, ?_⟩
    rw [show its.toArray.any (eqU x) = its.any (eqU x) by simp, any_eqU r fs]
    exact q
  · obtain ⟨its, r, pl, hz⟩ := I.tuple hq
    refine SeqAt.in_tupleAt (eqU x) pl (fun w hw => mem_eqAt rx fx r fs w (by simpa using hw)) ⟨.bl _, H, I, rfl, ?_⟩
    rw [show its.toArray.any (eqU x) = its.any (eqU x) by simp, any_eqU r fs]
    exact q
theorem call_len_seq : CallR X (.builtin "len") (fun xs H Q => ∃ p ys, xs = [.ref p] ∧ (SqL X.K H p ys ∨ SqT X.K H p ys) ∧ Q (.int ys.length) H) := by
  intro pins s σ H xs us Q I r h
  obtain ⟨p, ys, rfl, hq, q⟩ := h
  obtain ⟨u, rfl, rx⟩ := vals1 r
  cases rx
  have hn := line63
  rcases hq with hq | hq
  · obtain ⟨its, r', pl, hz⟩ := I.list hq
    have hlen := r'.length
    exact Calls.call_len_list pl.isList (by simp only [List.size_toArray] <;> omega) ⟨.int ys.length, H, I.tok _, ⟨s.toks + 1, by rw [List.size_toArray, hlen]⟩, q⟩
  · obtain ⟨its, r', pl, hz⟩ := I.tuple hq
    have hlen := r'.length
    exact len_tuple pl (by simp only [List.size_toArray] <;> omega) ⟨.int ys.length, H, I.tok _, ⟨s.toks + 1, by rw [List.size_toArray, hlen]⟩, q⟩
theorem call_list_of : CallR X (.type "list") (fun xs H Q => ∃ p ys, xs = [.ref p] ∧ (SqL X.K H p ys ∨ SqT X.K H p ys) ∧ ∀ l, H l = none → Q (.ref l) (upd H l (.lst ys))) := by
  intro pins s σ H xs us Q I r h
  obtain ⟨p, ys, rfl, hq, q⟩ := h
  obtain ⟨u, rfl, rx⟩ := vals1 r
  cases rx
  have fin : ∀ (its : List Value), Vals ys its → ys.length ≤ sizeLine → ∀ (h' : Heap) (c' : Nat), (∀ b o', s.heap.get? b = some o' → h'.get? b = some o') →
      h'.get? s.heap.objs.size = some { cls := .type "list", dict := none, data := .seq its.toArray c', slots := #[] } → EP X pins σ Q (.ref s.heap.objs.size) { s with heap := h' } := fun its r' hz h' c' kp e =>
    ⟨.ref s.heap.objs.size, _, I.laid (t' := s.toks) kp (Nat.le_refl _) (show ObjOk X.prog X.w _ h' _ (.lst ys) from ⟨hz, its, c', r', e⟩), rfl, q _ (I.hok.fresh (Nat.le_refl _))⟩
  rcases hq with hq | hq
  · obtain ⟨its, r', pl, hz⟩ := I.list hq
    have hlen := r'.length
    obtain ⟨o, ho, hc, n, hd⟩ := pl.isList
    exact call_list_seq p (.inl rfl) ho hc hd (fun h' c' kp e => fin its r' hz h' c' kp e) (by simp only [List.size_toArray] <;> omega)
  · obtain ⟨its, r', pl, hz⟩ := I.tuple hq
    have hlen := r'.length
    obtain ⟨o, ho, hc, n, hd⟩ := pl
    exact call_list_seq p (.inr rfl) ho hc hd (fun h' c' kp e => fin its r' hz h' c' kp e) (by simp only [List.size_toArray] <;> omega)
theorem call_tuple_of : CallR X (.type "tuple") (fun xs H Q => ∃ p ys, xs = [.ref p] ∧ ((SqL X.K H p ys ∧ ∀ l, H l = none → Q (.ref l) (upd H l (.tup ys))) ∨ (SqT X.K H p ys ∧ Q (.ref p) H))) := by
  intro pins s σ H xs us Q I r h
  obtain ⟨p, ys, rfl, h⟩ := h
  obtain ⟨u, rfl, rx⟩ := vals1 r
  cases rx
  rcases h with ⟨hq, q⟩ | ⟨hq, q⟩
  · obtain ⟨its, r', pl, hz⟩ := I.list hq
    have hlen := r'.length
    refine call_tuple_list pl.isList (fun h' kp => ?_) (by simp only [List.size_toArray] <;> omega)
    have I1 : Inv X pins σ H { s with heap := h' } := I.kept (t' := s.toks) kp
    have I2 : Inv X pins σ (upd H h'.objs.size (.tup ys)) { s with heap := h'.push { cls := .type "tuple", data := .seq its.toArray } } :=
      I1.laid (t' := s.toks) (fun b o e => Heap.get?_push_of_some _ e) (Nat.le_refl _) (show ObjOk X.prog X.w _ _ _ (.tup ys) from ⟨hz, its, r', TupD.new _ _⟩)
    exact ⟨.ref h'.objs.size, _, I2, rfl, q _ (I1.hok.fresh (Nat.le_refl _))⟩
  · obtain ⟨its, r', pl, hz⟩ := I.tuple hq
    exact call_tuple_same pl ⟨.ref p, H, I, rfl, q⟩

noncomputable def tyV (K : PySem.W.Frag) (T : String) (x : V) (H : Hp) : Prop := match x with
  | .str _ => T = "str"
  | .int _ => T = "int"
  | .ref p => (T = "list" ∧ ∃ xs, SqL K H p xs) ∨ (T = "tuple" ∧ ∃ o, K.lookup p = some o ∧ o.cls = .type "tuple" ∧ o.dict = none) ∨
      (T = "dict" ∧ ((∃ kvs, H p = some (.dK kvs)) ∨ ∃ kvs, H p = some (.dT kvs))) ∨ (T = "set" ∧ ∃ S n, H p = some (.set S n)) ∨ (T = "tuple" ∧ ∃ xs, H p = some (.tup xs))
  | _ => False
theorem tyV_is {pins : List (Addr × Obj)} {σ : St} {H : Hp} {s : Shared} {T : String} {x : V} {v : Value} (I : Inv X pins σ H s) (r : RelV x v) (ty : tyV X.K T x H) :
    s.TypeIs v T ∧ ∀ a, v = .ref a → ∃ ob, s.heap.get? a = some ob ∧ ob.dict = none := by
  cases x with
  | str z =>
    obtain ⟨t, rfl⟩ := r
    cases (show T = "str" from ty)
    exact ⟨typeIs_str s z t, fun _ e => nomatch e⟩
  | int i =>
    obtain ⟨t, rfl⟩ := r
    cases (show T = "int" from ty)
    exact ⟨typeIs_int s i t, fun _ e => nomatch e⟩
  | ref p =>
    cases r
    rcases ty with ⟨rfl, xs, hq⟩ | ⟨rfl, o, hk, hc, hd⟩ | ⟨rfl, hk⟩ | ⟨rfl, S, n, hk⟩ | ⟨rfl, xs, hk⟩
    · obtain ⟨its, _, pl, _⟩ := I.list hq
      refine ⟨pl.isList.typeIs, fun a e => ?_⟩
      cases e
      obtain ⟨o, n, e, c, hd, _⟩ := pl
      exact ⟨o, e, hd⟩
    · refine ⟨⟨o, I.kIn p o hk, hc⟩, fun a e => ?_⟩
      cases e
      exact ⟨o, I.kIn _ o hk, hd⟩
    · have z : ∃ o, s.heap.get? p = some o ∧ o.ExactDict := by
        rcases hk with ⟨kvs, hk⟩ | ⟨kvs, hk⟩
        · obtain ⟨_, _, _, _, o, _, _, e, ex, _⟩ := I.hok p _ hk
          exact ⟨o, e, ex⟩
        · obtain ⟨_, _, _, _, o, _, _, e, ex, _⟩ := I.hok p _ hk
          exact ⟨o, e, ex⟩
      obtain ⟨o, e, ex⟩ := z
      refine ⟨⟨o, e, ex.1⟩, fun a e2 => ?_⟩
      cases e2
      exact ⟨o, e, ex.2.1⟩
    · obtain ⟨o, _, _, _, e, ex, _⟩ := I.hok p _ hk
      refine ⟨⟨o, e, ex.1⟩, fun a e2 => ?_⟩
      cases e2
      exact ⟨o, e, ex.2.1⟩
    · obtain ⟨_, _, _, n, e⟩ := I.hok p _ hk
      refine ⟨⟨_, e, rfl⟩, fun a e2 => ?_⟩
      cases e2
      exact ⟨_, e, rfl⟩
  | _ => exact False.elim ty
noncomputable def tBM (K : PySem.W.Frag) (T : String) (r : V → List V → Hp → VK → Prop) (to : TE) (t : TA) : TE := fun σ H Q => to σ H fun x H1 => tyV K T x H1 ∧ t σ H1 fun xs H2 => r x xs H2 Q
variable {o e : Expr} {es : List Expr} {to : TE} {t : TA} {name : Str} {apos cpos : Pos} {T id : String} {r : V → List V → Hp → VK → Prop}
theorem pe_bm (pa : PlainAttrs T) (slot : Slot T name id) (hty : typeOf (.builtin id) = pure (.type "method_descriptor")) (hm : MtR X id r) (ho : PE X o to) (ha : PA X (e :: es) t)
    (hbase : attributeBase o name X.env (eval o X.env) = eval o X.env := by rfl)
    (hfew : ((backTo cpos (starEach (e :: es) X.env)).all (fun x => !x.1) && (backToKw cpos (keywordEach [] X.env)).all (fun x => x.1.isSome)
      && decide ((e :: es).length + ([] : List Keyword).length + (if ([] : List Keyword).isEmpty then 0 else 1) < 30)) = true := by rfl)
    (hline : (apos.endLine == cpos.line) = true := by rfl) (hs : starEach (e :: es) X.env = (false, eval e X.env) :: starEach es X.env := by rfl) (hplain : (backTo cpos (starEach es X.env)).any (·.1) = false := by rfl) :
    PE X (.Call (.Attribute o name apos) (e :: es) [] cpos) (tBM X.K T r to t) := by
  intro pins s σ H Q I h
  refine wpAny_Call_method_late hbase hfew hline rfl (thn (ho pins s σ H _ I h) fun v s1 ⟨x, H1, I1, r1, ty, q1⟩ => ?_)
  obtain ⟨h1, h2⟩ := tyV_is I1 r1 ty
  refine ⟨T, id, pa, slot, hty, h1, h2, ?_⟩
  have hA := ha cpos pins s1 σ H1 _ I1 q1
  rw [hs] at hA ⊢
  refine Calls.callWith_builtin (by show (false || (backTo cpos (starEach es X.env)).any (·.1)) = false; rw [hplain] <;> rfl) (Calls.evalArgs_plain ?_)
  exact thn hA fun us s2 ⟨vs, H2, I2, r2, q2⟩ => hm pins s2 σ H2 x vs v us Q I2 r1 r2 q2
/- xs.append(e), list.index on a module's tuple .. are MtR facts of 06m -/
end
end L2
namespace L2
open PySem PySem.Spec PyProof.Rows
noncomputable def MtM (X : Cx) (id : String) (r : V → List V → Hp → VK → Prop) : Prop :=
  ∀ (pins : List (Addr × Obj)) (s : Shared) (σ : St) (H : Hp) (x : V) (xs : List V) (v : Value) (us : List Value) (Q : VK), Inv X pins σ H s → RelV x v → Vals xs us → r x xs H Q →
    wpAny (model X.prog X.w) X.A (call (.builtin id) (v :: us)) (EP X pins σ Q) X.xe s

theorem Vals.one : ∀ {x : V} {us : List Value}, Vals [x] us → ∃ u, us = [u] ∧ RelV x u
  | _, _, .cons r .nil => ⟨_, rfl, r⟩
theorem Vals.rep {xs : List V} {us : List Value} (h : Vals xs us) : ∀ k : Nat, Vals (List.replicate k xs).flatten (List.replicate k us).flatten
  | 0 => .nil
  | k + 1 => by
    rw [List.replicate_succ, List.replicate_succ, List.flatten_cons, List.flatten_cons]
    exact Vals.append h (Vals.rep h k)
theorem foldl_rep (its : List Value) : ∀ (k : Nat) (acc : List Value),
    List.foldl (fun x1 x2 => x1 ++ x2) acc.toArray (List.replicate k its.toArray) = (acc ++ (List.replicate k its).flatten).toArray
  | 0, acc => by simp
  | k + 1, acc => by
    have e : acc.toArray ++ its.toArray = (acc ++ its).toArray := by simp
    have e2 : (acc ++ its) ++ (List.replicate k its).flatten = acc ++ (List.replicate (k + 1) its).flatten := by
      rw [List.replicate_succ, List.flatten_cons, List.append_assoc]
    rw [← e2, ← foldl_rep its k (acc ++ its), ← e, List.replicate_succ, List.foldl_cons]

section
variable {X : Cx} {pins : List (Addr × Obj)} {σ : St} {H : Hp} {s : Shared} {l b : Addr} {xs ys zs : List V}
theorem Inv.lset {its its' : List Value} {n : Nat} {f : Array Value → Array Value} {t' : Nat} (I : Inv X pins σ H s) (hH : H l = some (.lst xs))
    (e : s.heap.get? l = some { cls := .type "list", data := .seq its.toArray n }) (hf : f its.toArray = its'.toArray) (hv : Vals ys its') (hz : ys.length ≤ sizeLine) :
    Inv X pins σ (upd H l (.lst ys)) { s with heap := s.heap.update l (Obj.mapSeq f), toks := t' } := by
  have q := PySem.IsL.update e f
  rw [hf] at q
  refine I.write (x := l) (e := l) (by rw [hH]; exact trivial) (.inl rfl) (fun b' u hb hu => (Heap.get?_update_other s.heap (Obj.mapSeq f) (Ne.symm hb)).trans hu) ⟨_, q⟩ ?_
  exact ⟨hz, its', _, hv, q⟩
theorem Inv.lnew {its : List Value} {t' : Nat} (I : Inv X pins σ H s) (hv : Vals ys its) (hz : ys.length ≤ sizeLine) :
    Inv X pins σ (upd H s.heap.objs.size (.lst ys)) { s with heap := s.heap.push { cls := .type "list", data := .seq its.toArray }, toks := t' } :=
  I.laid (fun _ _ q => Heap.get?_push_of_some _ q) (Nat.le_refl _) ⟨hz, its, 0, hv, Heap.get?_push_size _ rfl⟩
theorem Inv.fresh (I : Inv X pins σ H s) : H s.heap.objs.size = none := I.hok.fresh (Nat.le_refl _)
theorem Inv.lstM (I : Inv X pins σ H s) (hH : H l = some (.lst xs)) : xs.length ≤ sizeLine ∧ ∃ (its : List Value) (n : Nat), Vals xs its ∧ xs.length = its.length ∧ s.heap.get? l = some { cls := .type "list", data := .seq its.toArray n } := by
  obtain ⟨z, its, n, r, e⟩ := I.hok l _ hH
  exact ⟨z, its, n, r, r.length, e⟩

theorem notLongL {n : Nat} (h : n ≤ sizeLine) : Builtin.List.listTooLong n = false := by
  unfold Builtin.List.listTooLong
  exact decide_eq_false (by omega)
end
section
variable {X : Cx}
noncomputable def rAppend : V → List V → Hp → VK → Prop := fun x vs H Q => ∃ l xs y, x = .ref l ∧ vs = [y] ∧ H l = some (.lst xs) ∧ xs.length < sizeLine ∧ Q .non (upd H l (.lst (xs ++ [y])))
theorem mt_append : MtM X "list.append" rAppend := by
  intro pins s σ H x vs v us Q I rx rv h
  obtain ⟨l, xs, y, rfl, rfl, hH, hz, q⟩ := h
  cases rx
  obtain ⟨u, rfl, ru⟩ := rv.one
  obtain ⟨z, its, n, r, hl, e⟩ := I.lstM hH
  refine call_meets F.slot_list_append ⟨_, e, rfl⟩ F.entry_list_append (F.args_list_append_2 _ _) (PySem.list_append l its.toArray n u (by rw [List.size_toArray]; omega)) ⟨e, ?_⟩
  refine ⟨.non, _, I.lset (its' := its ++ [u]) hH e (by simp) (r.append (.cons ru .nil)) ?_, rfl, q⟩
  rw [List.length_append, List.length_singleton]
  omega

noncomputable def rCat : R2 := fun x y H Q => ∃ l b xs zs, x = .ref l ∧ y = .ref b ∧ H l = some (.lst xs) ∧ H b = some (.lst zs) ∧ xs.length + zs.length ≤ sizeLine ∧ ∀ p, H p = none → Q (.ref p) (upd H p (.lst (xs ++ zs)))
theorem op_cat : OpR X (binaryOp .Add) rCat := by
  intro pins s σ H x y v u Q I rx ry h
  obtain ⟨l, b, xs, zs, rfl, rfl, hH, hB, hz, q⟩ := h
  cases rx
  cases ry
  obtain ⟨z, its, n, r, hl, e⟩ := I.lstM hH
  obtain ⟨z2, its2, n2, r2, hl2, e2⟩ := I.lstM hB
  refine PySem.P.add_list e e2 ?_ (by rw [List.size_toArray, List.size_toArray]; omega)
  have ea : its.toArray ++ its2.toArray = (its ++ its2).toArray := by simp
  rw [ea]
  exact ⟨.ref _, _, I.lnew (t' := s.toks) (r.append r2) (by rw [List.length_append]; omega), rfl, q _ I.fresh⟩
noncomputable def rRep : R2 := fun x y H Q => ∃ l k xs, x = .ref l ∧ y = .int k ∧ H l = some (.lst xs) ∧ -(2 ^ 63) ≤ k ∧ k < 2 ^ 63 ∧ xs.length * k.toNat ≤ sizeLine ∧
  ∀ p, H p = none → Q (.ref p) (upd H p (.lst (List.replicate k.toNat xs).flatten))
theorem len_rep {α : Type} (xs : List α) (k : Nat) : (List.replicate k xs).flatten.length = k * xs.length := by
  induction k with
  | zero => simp
  | succ k ih => rw [List.replicate_succ, List.flatten_cons, List.length_append, ih, Nat.succ_mul, Nat.add_comm]
theorem op_rep : OpR X (binaryOp .Mult) rRep := by
  intro pins s σ H x y v u Q I rx ry h
  obtain ⟨l, k, xs, rfl, rfl, hH, h1, h2, hz, q⟩ := h
  cases rx
  obtain ⟨t, rfl⟩ := ry
  obtain ⟨z, its, n, r, hl, e⟩ := I.lstM hH
  have hlen : its.toArray.size * k.toNat ≤ sizeLine := by rw [List.size_toArray, ← hl]; exact hz
  have hcap : ¬ its.toArray.size * k.toNat > (2 ^ 63 - 1) / 8 := by
    have : (sizeLine : Nat) ≤ (2 ^ 63 - 1) / 8 := by decide
    omega
  have hfit : ¬ (!Builtin.List.listFitsIndex k) = true := by
    rw [fitsIndex_both h1 h2]
    exact Bool.false_ne_true
  have hlong : ¬ Builtin.List.listTooLong (its.toArray.size * k.toNat) = true := by
    rw [notLongL hlen]
    exact Bool.false_ne_true
  have hnew : List.foldl (fun x1 x2 => x1 ++ x2) #[] (List.replicate (if its.toArray.isEmpty = true then 0 else k.toNat) its.toArray) = (List.replicate k.toNat its).flatten.toArray := by
    have f0 : ∀ m : Nat, List.foldl (fun x1 x2 => x1 ++ x2) #[] (List.replicate m its.toArray) = (List.replicate m its).flatten.toArray := fun m => by
      have := foldl_rep its m []
      rw [List.nil_append] at this
      exact this
    rw [f0]
    cases its with
    | nil => simp
    | cons a r' => rw [if_neg (by simp)]
  refine wpAny_binaryOp_repeat_ref (T := "list") (U := "int") (by decide) ⟨_, e, rfl⟩ (fun s' => typeIs_int s' k t) noFill_list_mul F.fills_int_mul F.slot_int_rmul repeat_list F.slot_int_index.lookup
    (call_meets F.slot_int_rmul (typeIs_int s k t) F.entry_int_rmul (F.args_int_rmul_2 _ _) (int___rmul___int_list k t l its.toArray n)
      ⟨e, rfl, ⟨_, e, rfl⟩, call_meets F.slot_list_mul ⟨_, e, rfl⟩ F.entry_list_mul (F.args_list_mul_2 _ _) (AutoListH.list___mul___list_int_3 l its.toArray n k t hfit hcap hlong) ⟨e, ?_⟩⟩)
  rw [hnew]
  exact ⟨.ref _, _, I.lnew (t' := s.toks) (r.rep k.toNat) (by rw [len_rep, Nat.mul_comm]; exact hz), rfl, q _ I.fresh⟩

end
section
variable {prog : Program} {w : World} {A : Around} {E : Value → Shared → Prop} {s : Shared}
end
section
variable {X : Cx}
end
end L2
namespace Att
open PySem PySem.W PySem.Calls PyProof.Rows
theorem ints_of_wellAll {P : Params} {h : Heap} : ∀ (ns : List Int) (vs : List Value), WellAll P h vs (ns.map WData.int) → IntsAre vs ns := by
  intro ns
  induction ns with
  | nil =>
    intro vs w
    rw [List.map_nil] at w
    cases w
    exact .nil
  | cons n ns ih =>
    intro vs w
    rw [List.map_cons] at w
    cases w with
    | cons a b =>
      cases a
      exact .cons _ _ (ih _ b)

theorem script_of {l : OpenLaw} {n : Nat} (hn : l.most = some n) {P : Params} {h : Heap} {args : List WData} {vals : List Value}
    (hpre : l.row.toRowW.claim.pre args = true) (hwl : WellAll P h vals args) :
    ∃ a vs ns, vals = [Value.ref a] ∧ args = [WData.list (ns.map WData.int)] ∧ h.get? a = some { cls := .type "list", data := .seq vs.toArray } ∧ IntsAre vs ns ∧ ns.length ≤ n := by
  have hsh : WShape.hasAll [] args [.list .int] = true := (pre_splitW hpre).1
  have hc : l.pre.holds [] { args := args } = true := (pre_splitW hpre).2
  obtain ⟨d, r, rfl, h1, h2⟩ := hasAllW_cons hsh
  obtain rfl := hasAllW_nil h2
  obtain ⟨xs, rfl, h3⟩ := hasW_list h1
  obtain ⟨ns, rfl⟩ := items_int h3
  have hlen : ns.length ≤ n := by
    unfold OpenLaw.pre at hc
    have h4 : (WTm.not (.lt (.lit (.int (n : Int))) (.len (.arg 0)))).holds [] { args := [.list (ns.map .int)] } = true := by
      have h4 := (holds_andW hc).1
      rw [hn] at h4
      exact h4
    have h5 := condW_of h4 (w_not (w_lt w_lit (w_len_list (w_arg rfl))))
    rw [List.length_map] at h5
    refine Nat.le_of_not_lt fun q => ?_
    have q' : (n : Int) < ((ns.length : Nat) : Int) := by omega
    first
      | (rw [decide_eq_true q'] at h5; exact absurd h5 (by decide))
      | (simp at h5; omega)
  cases hwl with
  | cons w1 w2 =>
    cases w2
    cases w1 with
    | list ho hall => exact ⟨_, _, ns, rfl, rfl, ho, ints_of_wellAll ns _ hall, hlen⟩

theorem post_true (l : OpenLaw) (args : List WData) : l.row.toRowW.claim.post args (.bool true) args = true :=
  postW_of (r := l.row.toRowW) (X := (true == true))
    (show WShape.has [] (.bool true) .bool = true by first | rfl | decide | simp [WShape.has, WShape.arms, WShape.armsAll])
    (show (WTm.eq .res (.lit (.bool true))).value [] { args := args, res := some (.bool true), after := args } = some (.bool (true == true)) from w_eq_bool (w_res rfl) w_lit) rfl

theorem attach_call {l : OpenLaw} {n : Nat} {q : Program} {loose : List Str} {XP : (Str → Option Value) → Heap → Prop} {YP : World → Heap → Prop} {d : DefRec}
    (hn : l.most = some n) (hdf : d.params.defaults = [])
    (call : ∀ (w : World) (s₀ s₁ : Shared) (mg mb : Str → Option Value) (fa : Addr) (o : Obj) (pm cd doc : Value) (a : Addr) (vs : List Value) (ns : List Int),
      Ground q loose [] XP w s₀ mg mb s₁.heap → YP w s₁.heap →
      s₁.heap.get? fa = some o → o.data = .func (docDef d.name d.params d.body d.scope pm cd doc) → s₁.heap.CodeRec cd d.name → mg d.name = some (.ref fa) →
      s₁.heap.get? a = some { cls := .type "list", data := .seq vs.toArray } → IntsAre vs ns → ns.length ≤ n → s₁.gens = #[] →
      codeAny (model l.prog w) callerA (.call (.ref fa) ⟨[.ref a], []⟩) (fun r s' => r = .ok (.ret (.bool true)) ∧ OldK s₁.heap s'.heap ∧ s'.os = s₁.os ∧ AllBare s'.gens) s₁) :
    WalkO q loose XP YP l.row.toRowW d [] (fun f vs => PySem.call f vs) := by
  intro w s₀ s₁ mg mb G Y fa o pm cd doc dV kV ho hd hcd hD hmg hg args vals as hpre hlay hrd hwl hlo
  obtain rfl : dV = .none := Dflts.none hD hdf
  obtain rfl : kV = .none := Dflts.noKw hD
  obtain ⟨a, vs, ns, rfl, rfl, hobj, hints, hlen⟩ := script_of hn hpre hwl
  refine enter_call (codeAny_mono (call w s₀ s₁ mg mb fa o pm cd doc a vs ns G Y ho (fd_plain hd) hcd hmg hobj hints hlen hg) fun r s' hq => ?_)
  obtain ⟨rfl, h2, h3, h4⟩ := hq
  exact ⟨.inl ⟨.bool true, .bool true, [], rfl, fun _ => rfl, .bool true, post_true l _, fun _ => ⟨List.Pairwise.nil, fun _ hm => (nomatch hm)⟩⟩, h2, h3, h4⟩

section
variable {prog : Program} {w : World} {A : Around} {E : Value → Shared → Prop} {s : Shared} {K : Frag}
end
end Att
namespace L2
open PySem PySem.Spec PyProof.Rows
theorem vals_ints : ∀ {vs : List Value} {ns : List Int}, IntsAre vs ns → Vals (ns.map V.int) vs
  | _, _, .nil => .nil
  | _, _, .cons n t h => .cons ⟨t, rfl⟩ (vals_ints h)

noncomputable def Only (H : Hp) : Prop := ∀ b, H b = none ∨ ∃ o xs, H b = some (.frz o (.lst xs))

theorem law_call {P : Program} {w : World} {K : PySem.W.Frag} {mg mb : Str → Option Value} {CX : CXT} {k : Nat} {fa a : Addr} {fd : FuncData} {x : Str} {sp : Sp} {s₁ : Shared} {vs : List Value} {ns : List Int}
    (KX : K.In s₁.heap) (hns : s₁.heap.Ns mainGlobals mg) (hb : s₁.heap.Ns builtinsNs mb) (hbb : ∀ x : Str, x ≠ "__name__" → mb x = bootBuiltins x) (hlim : s₁.heap.NoLimit) (hg : s₁.gens = #[])
    (ha : s₁.heap.get? a = some { cls := .type "list", data := .seq vs.toArray }) (hi : IntsAre vs ns) (hl : ns.length ≤ sizeLine) (hr : Room k callerA)
    (F : ∀ base : Heap, K.In base → base.Ns mainGlobals mg → FnOk P w K mg base CX k fa fd [x] sp) (hbind : ∀ (s : Shared) (u : Value), BindsTo s fd ⟨[u], []⟩ [(x, u)])
    (hsp : ∀ H : Hp, Only H → SqL K H a (ns.map V.int) → sp [.ref a] H (fun v _ => v = .bl true) fun _ _ _ => False)
    (hCX : ∀ H e s', CX [] H s₁ (fun _ _ _ => False) e s' → False) :
    codeAny (model P w) callerA (.call (.ref fa) ⟨[.ref a], []⟩) (fun r s' => r = .ok (.ret (.bool true)) ∧ OldK s₁.heap s'.heap ∧ s'.os = s₁.os ∧ AllBare s'.gens) s₁ := by
  have rv := vals_ints hi
  have lenV := hi.length
  -- from an abstract heap in which nothing but the script may be tracked
  have core : ∀ H : Hp, Only H → SqL K H a (ns.map V.int) → HOk P w H s₁.heap → (∀ b, H b ≠ none → b = a) → (H a ≠ none → K.lookup a = none) →
      codeAny (model P w) callerA (.call (.ref fa) ⟨[.ref a], []⟩) (fun r s' => r = .ok (.ret (.bool true)) ∧ OldK s₁.heap s'.heap ∧ s'.os = s₁.os ∧ AllBare s'.gens) s₁ := by
    intro H hO hS hok hA hK
    have base_of : ∀ {b : Addr} {o : Obj}, s₁.heap.get? b = some o → H b = none → (hidT s₁.heap H).get? b = some o := fun e n => hidT_get e n
    have noA : ∀ {b : Addr} {o : Obj} {es : Array DictEntry} {ep : Nat}, s₁.heap.get? b = some o → o.data = .dict es ep → H b = none := fun {b o es ep} e d => by
      cases q : H b with
      | none => rfl
      | some u =>
        have e' : b = a := hA b (by rw [q]; simp)
        subst e'
        rw [ha] at e; cases e
        have d' : Data.seq vs.toArray _ = Data.dict es ep := d
        cases d'
    have nsK : ∀ {b : Addr} {m : Str → Option Value}, s₁.heap.Ns b m → (hidT s₁.heap H).Ns b m := fun {b m} ⟨o, es, ep, e, d, r⟩ => ⟨o, es, ep, base_of e (noA e d), d, r⟩
    have hKb : K.In (hidT s₁.heap H) := fun b o e => base_of (KX b o e) (by
      cases q : H b with
      | none => rfl
      | some u =>
        have e' : b = a := hA b (by rw [q]; simp)
        subst e'
        rw [hK (by rw [q]; simp)] at e; cases e)
    have hM : Mod K mg (hidT s₁.heap H) := ⟨hKb, nsK hns, ⟨mb, nsK hb, hbb⟩, let ⟨mc, h1, h2⟩ := hlim; ⟨mc, nsK h1, h2⟩⟩
    have e0 : Env0 P w K mg (hidT s₁.heap H) callerA [] s₁ H := ⟨rfl, hM, fun b o e => of_hidT e, Nat.le_of_eq (hidT_size _ _), trivial, fun b hb => absurd (show b ∈ ([] : List Addr) from hb) (by simp), hok, .of_eq hg⟩
    refine codeAny_mono ((F _ hKb (nsK hns)).run callerA [] s₁ H ⟨[.ref a], []⟩ [.ref a] [.ref a] _ _ hr e0 (hbind s₁ (.ref a)) (.cons rfl .nil) (hsp H hO hS)) fun r s' h => ?_
    cases r with
    | error e => exact (hCX H e s' h).elim
    | ok fl =>
      cases fl with
      | next => exact False.elim h
      | brk => exact False.elim h
      | cont => exact False.elim h
      | ret u =>
        obtain ⟨v, H', os, bare, un, hok', r', q⟩ := h
        have q' : v = .bl true := q
        subst q'
        obtain rfl : u = Value.bool true := r'
        refine ⟨rfl, OldK.of_keep fun b o e => ?_, os, bare⟩
        cases q : H b with
        | none => exact un.keep b o e q (by intro z; exact absurd (show b ∈ ([] : List Addr) from z) (by simp)) (by simp)
        | some u =>
          rcases hO b with z | ⟨ob, xs, z⟩
          · rw [q] at z; cases z
          · have z2 := un.frzs b ob _ z
            obtain ⟨e1, _⟩ := hok b _ z
            obtain ⟨e2, _⟩ := hok' b _ z2
            rw [e] at e1; cases e1
            exact e2
  cases hk : K.lookup a with
  | some o =>
    -- the script is one of the module's own objects
    have e := KX a o hk
    rw [ha] at e
    cases e
    refine core (fun _ => none) (fun _ => .inl rfl) (.inr ⟨_, vs.toArray, _, hk, rfl, rfl, rfl, by rw [List.size_toArray, lenV]; exact hl, by simpa using rv⟩) (fun b u z => by have z' : (none : Option HO) = some u := z; cases z') (fun b z => absurd rfl z) fun z => absurd rfl z
  | none =>
    refine core (fun b => if b = a then some (.frz { cls := .type "list", data := .seq vs.toArray } (.lst (ns.map V.int))) else none) (fun b => ?_) (.inl (.inr ⟨{ cls := .type "list", data := .seq vs.toArray }, if_pos rfl⟩)) (fun b u z => ?_) (fun b z => ?_) fun _ => hk
    · by_cases hb : b = a
      · exact .inr ⟨_, _, if_pos hb⟩
      · exact .inl (if_neg hb)
    · by_cases hb : b = a
      · have z' := (if_pos hb).symm.trans z
        cases z'
        subst hb
        exact ⟨ha, by rw [List.length_map]; exact hl, vs, _, rv, ha⟩
      · have z' := (if_neg hb).symm.trans z
        cases z'
    · by_cases hb : b = a
      · exact hb
      · exact absurd (if_neg hb) z
end L2
namespace L2
open PySem PySem.Spec PyProof.Rows
theorem walk_of {l : PySem.W.OpenLaw} {n k : Nat} {q : Program} {loose : List Str} {XP : (Str → Option Value) → Heap → Prop} {YP : World → Heap → Prop} {d : DefRec} {K : Params → PySem.W.Frag} {CX : World → CXT} {sp : World → Sp} {x : Str}
    (hn : l.most = some n) (hn2 : n ≤ sizeLine) (hdf : d.params.defaults = []) (hr : Room k callerA)
    (hY : ∀ (w : World) (h : Heap), YP w h → (K w.params).In h)
    (F : ∀ (w : World) (mg : Str → Option Value) (fa : Addr) (h : Heap), (K w.params).In h → h.Ns mainGlobals mg → mg d.name = some (.ref fa) →
      ∃ fd : FuncData, (∀ (s : Shared) (u : Value), BindsTo s fd ⟨[u], []⟩ [(x, u)]) ∧
        ∀ base : Heap, (K w.params).In base → base.Ns mainGlobals mg → FnOk l.prog w (K w.params) mg base (CX w) k fa fd [x] (sp w))
    (hsp : ∀ (w : World) (H : Hp) (a : Addr) (ns : List Int), ns.length ≤ n → Only H → SqL (K w.params) H a (ns.map V.int) → sp w [.ref a] H (fun v _ => v = .bl true) fun _ _ _ => False)
    (hCX : ∀ (w : World) (H : Hp) (s : Shared) (e : Value) (s' : Shared), CX w [] H s (fun _ _ _ => False) e s' → False) :
    PySem.W.WalkO q loose XP YP l.row.toRowW d [] (fun f vs => PySem.call f vs) := by
  refine Att.attach_call hn hdf fun w s₀ s₁ mg mb fa o pm cd doc a vs ns G Y ho hd hcd hmg hobj hints hlen hg => ?_
  have KX := hY w _ Y
  obtain ⟨fd, hb, hF⟩ := F w mg fa _ KX G.T.g hmg
  exact law_call KX G.T.g G.T.b G.T.builtins G.T.nolimit hg hobj hints (Nat.le_trans hlen hn2) hr hF hb (fun H hO hS => hsp w H a ns hlen hO hS) fun H e s' => hCX w H s₁ e s'
end L2
/- THE LAST THEOREM (shape; LID, My.* are yours):
   My.Adr: a structure of the addresses that your layer names (classes, functions); My.Txt K t: a structure (Prop) of the equations over K;
   My.txt_mk : {K} {implicit addresses ..} (e1 : nsIn K mainGlobals "law" = some (some (.ref f))) (e2 : K.lookup f = some ⟨oc, od, .func (fnOf "law" "law" params body scope dV kV doc pm an cdv ct), sl⟩) (e3 : codeIn K cdv "law" = true) .. : ∃ t, My.Txt K t
(the tactic k_is has no namespace: write k_is) -/
namespace L2
open PySem PySem.Spec PyProof.Rows
noncomputable def defArgs (s : Stmt) : Arguments := match s with
  | .FunctionDef _ a _ _ _ _ _ _ _ _ => a
  | _ => { posonlyargs := [], args := [], vararg := none, kwonlyargs := [], kw_defaults := [], kwarg := none, defaults := [] }
noncomputable def defBody (s : Stmt) : List Stmt := match s with
  | .FunctionDef _ _ b _ _ _ _ _ _ _ => b
  | _ => []
noncomputable def defScope (s : Stmt) : Scope := match s with
  | .FunctionDef _ _ _ _ _ _ sc _ _ _ => sc
  | _ => { kind := .function, names := [], isGenerator := false, isCoroutine := false }

noncomputable abbrev CX0 : CXT := fun _ _ _ _ _ _ => False
noncomputable abbrev E0 : XK := fun _ _ _ => False
theorem pass0 {X : Cx} : Passes CX0 X E0 := fun _ _ _ _ _ _ _ h => h.elim

structure Fun (K : PySem.W.Frag) (x qual : Str) (st : Stmt) (f : Addr) (fd : FuncData) : Prop where
  ex : ∃ (oc : Value) (od : Option Addr) (kV doc pm : Value) (an : Option Addr) (cdv ct : Value) (osl : Array (Option Value)),
    fd = PySem.W.fnOf x qual (defArgs st) (defBody st) (defScope st) .none kV doc pm an cdv ct ∧ K.lookup f = some ⟨oc, od, .func fd, osl⟩ ∧ PySem.W.codeIn K cdv qual = true
  kp : PySem.W.keepIn K (.ref f) = true
section
variable {P : Program} {w : World} {K : PySem.W.Frag} {mg : Str → Option Value} {base : Heap}
theorem Fun.ok {x qual : Str} {st : Stmt} {f : Addr} {fd : FuncData} {N ps : List Str} {k : Nat} {sp : Sp} (F : Fun K x qual st f fd) (S : FnScope N ps (defScope st)) (len : ∀ vs H Q E, sp vs H Q E → vs.length = ps.length)
    (hbody : ∀ (cdv : Value) (A : Around) (outer : List Env) (s : Shared) (H : Hp) (vs : List V) (Q : VK) (E : XK), Room k (A.deeper (envOfC qual (defScope st) s.heap.objs.size f cdv)) → sp vs H Q E →
      ∃ t, PSs (cxOf CX0 P w K mg base N qual (defScope st) f cdv A outer s H E).nox (defBody st) t ∧ t { nx := fun _ H' => Q .non H', rt := Q } (start N vs) H) : FnOk P w K mg base CX0 (k + 1) f fd ps sp := by
  obtain ⟨oc, od, kV, doc, pm, an, cdv, ct, osl, rfl, lk, hcd⟩ := F.ex
  refine fn_of lk hcd S len fun A outer s H vs Q E hr hsp => ?_
  obtain ⟨t, h, q⟩ := hbody cdv A outer s H vs Q E hr hsp
  exact ⟨t, h.nox, q⟩
theorem Fun.okz {x qual : Str} {st : Stmt} {f : Addr} {fd : FuncData} {N ps : List Str} {k : Nat} {sp : Sp} (F : Fun K x qual st f fd) (S : FnScope N ps (defScope st)) (len : ∀ vs H Q E, sp vs H Q E → vs.length = ps.length)
    (hbody : ∀ (cdv : Value) (A : Around) (outer : List Env) (s : Shared) (H : Hp) (vs : List V) (Q : VK) (E : XK), Room k (A.deeper (envOfC qual (defScope st) s.heap.objs.size f cdv)) → sp vs H Q E →
      ∃ t, ZSs (cxOf CX0 P w K mg base N qual (defScope st) f cdv A outer s H E).nox (defBody st) t ∧ t { nx := fun _ H' => Q .non H', rt := Q } (start N vs) H) : FnOk P w K mg base CX0 (k + 1) f fd ps sp :=
  F.ok S len fun cdv A outer s H vs Q E hr h => let ⟨t, h1, h2⟩ := hbody cdv A outer s H vs Q E hr h; ⟨t, h1.p, h2⟩
theorem Fun.binds {x qual : Str} {st : Stmt} {f : Addr} {fd : FuncData} {ps : List Str} (F : Fun K x qual st f fd)
    (h : ∀ (kV doc pm : Value) (an : Option Addr) (cdv ct : Value) (us : List Value), us.length = ps.length → bindArgs (PySem.W.fnOf x qual (defArgs st) (defBody st) (defScope st) .none kV doc pm an cdv ct) ⟨us, []⟩ = pure (ps.zip us)) : Binds K fd ps [] := by
  obtain ⟨oc, od, kV, doc, pm, an, cdv, ct, osl, rfl, lk, hcd⟩ := F.ex
  exact .all (h kV doc pm an cdv ct)
theorem fun_mk {x qual : Str} {st : Stmt} {f : Addr} {oc : Value} {od an : Option Addr} {osl : Array (Option Value)} {kV doc pm cdv ct : Value} (l : K.lookup f = some ⟨oc, od, .func (PySem.W.fnOf x qual (defArgs st) (defBody st) (defScope st) .none kV doc pm an cdv ct), osl⟩)
    (c : PySem.W.codeIn K cdv qual = true) (k : PySem.W.keepIn K (.ref f) = true) : Fun K x qual st f (PySem.W.fnOf x qual (defArgs st) (defBody st) (defScope st) .none kV doc pm an cdv ct) := ⟨⟨oc, od, kV, doc, pm, an, cdv, ct, osl, rfl, l, c⟩, k⟩
end
theorem small1000 {n : Nat} (h : n ≤ 1000) : n < sizeLine := Nat.lt_of_le_of_lt h (by decide)

section
variable {X : Cx}
end
theorem iteF {A B : Prop} (h : B) : if false = true then A else B := by
  rw [if_neg Bool.false_ne_true]
  exact h
theorem iteT {A B : Prop} (h : A) : if true = true then A else B := by
  rw [if_pos rfl]
  exact h
noncomputable def Same (H H' : Hp) : Prop := ∀ b o, H b = some o → H' b = some o
theorem Same.refl (H : Hp) : Same H H := fun _ _ h => h
theorem Same.trans {H H1 H2 : Hp} (a : Same H H1) (b : Same H1 H2) : Same H H2 := fun c o h => b c o (a c o h)
end L2
set_option Elab.async false
set_option linter.all false
set_option maxRecDepth 100000
set_option maxHeartbeats 4000000
namespace L2
open PySem PySem.Spec PyProof.Rows
noncomputable def clsOf (env : Env) : List (Str × NameKind) → List (Str × Addr) → List (Str × Addr)
  | [], cs => cs
  | y :: r, cs => clsOf env r (if (y.2 == .free) = true then (y.1, (env.cells.lookup y.1).getD 0) :: cs else cs)
theorem closure_ok {env : Env} {scope : Scope} (h : ∀ y ∈ scope.names, y.2 = .free → ∃ c, env.cells.lookup y.1 = some c) : closureFor scope env = pure (clsOf env scope.names []) := by
  simp only [closureFor]
  generalize scope.names = ns at h
  have go : ∀ (ns : List (Str × NameKind)) (cs : List (Str × Addr)), (∀ y ∈ ns, y.2 = .free → ∃ c, env.cells.lookup y.1 = some c) →
      (forIn ns cs fun (x : Str × NameKind) (r : List (Str × Addr)) => (if (x.2 == NameKind.free) = true then do let a ← cellOf env x.1; pure (ForInStep.yield ((x.1, a) :: r)) else pure (ForInStep.yield r) : Sem (ForInStep (List (Str × Addr))))) = (pure (clsOf env ns cs) : Sem (List (Str × Addr))) := by
    intro ns
    induction ns with
    | nil => intro cs _; rfl
    | cons y r ih =>
      intro cs hy
      rw [List.forIn_cons]
      have hr := fun z hz => hy z (List.mem_cons_of_mem _ hz)
      by_cases hf : (y.2 == NameKind.free) = true
      · obtain ⟨c, hc⟩ := hy y List.mem_cons_self (by simpa using hf)
        have e : cellOf env y.1 = pure c := by unfold cellOf; rw [hc]
        rw [if_pos hf, e]
        refine Eq.trans (ih ((y.1, c) :: cs) hr) (congrArg pure ?_)
        show _ = clsOf env r (if (y.2 == .free) = true then (y.1, (env.cells.lookup y.1).getD 0) :: cs else cs)
        rw [if_pos hf, hc]
        rfl
      · rw [if_neg hf]
        refine Eq.trans (ih cs hr) (congrArg pure ?_)
        show _ = clsOf env r (if (y.2 == .free) = true then (y.1, (env.cells.lookup y.1).getD 0) :: cs else cs)
        rw [if_neg hf]
  have e := go ns [] h
  exact (congrArg (fun (t : Sem (List (Str × Addr))) => t >>= fun cs => pure cs) e).trans rfl
theorem clsOf_look {env : Env} : ∀ (ns : List (Str × NameKind)) (cs : List (Str × Addr)), (∀ y ∈ ns, y.2 = .free → ∃ c, env.cells.lookup y.1 = some c) → (∀ n c, cs.lookup n = some c → env.cells.lookup n = some c) →
    ∀ n c, (clsOf env ns cs).lookup n = some c → env.cells.lookup n = some c
  | [], cs, _, hc => hc
  | y :: r, cs, hy, hc => by
    refine clsOf_look r _ (fun z hz => hy z (List.mem_cons_of_mem _ hz)) fun n c e => ?_
    by_cases hf : (y.2 == NameKind.free) = true
    · rw [if_pos hf, List.lookup_cons] at e
      obtain ⟨c', hc'⟩ := hy y List.mem_cons_self (by simpa using hf)
      cases hn : n == y.1 with
      | true =>
        rw [hn] at e
        have en : n = y.1 := by simpa using hn
        rw [hc'] at e
        rw [en, hc']
        exact e
      | false => rw [hn] at e; exact hc n c e
    · rw [if_neg hf] at e
      exact hc n c e
theorem clsOf_has {env : Env} : ∀ (ns : List (Str × NameKind)) (cs : List (Str × Addr)) (n : Str), ((n, NameKind.free) ∈ ns ∨ ∃ c, cs.lookup n = some c) → ∃ c, (clsOf env ns cs).lookup n = some c
  | [], cs, n, h => by
    rcases h with h | h
    · cases h
    · exact h
  | y :: r, cs, n, h => by
    refine clsOf_has r _ n ?_
    rcases h with h | ⟨c, h⟩
    · rcases List.mem_cons.mp h with e | h
      · refine .inr ⟨(env.cells.lookup n).getD 0, ?_⟩
        have e2 : y.2 = .free := by rw [← e]
        have e1 : y.1 = n := by rw [← e]
        rw [if_pos (by rw [e2]; rfl), e1, List.lookup_cons]
        simp
      · exact .inl h
    · refine .inr ?_
      by_cases hf : (y.2 == NameKind.free) = true
      · rw [if_pos hf, List.lookup_cons]
        cases hn : n == y.1 with
        | true => exact ⟨_, rfl⟩
        | false => exact ⟨c, h⟩
      · rw [if_neg hf]; exact ⟨c, h⟩
noncomputable def rlOf (env : Env) (y : Str × NameKind) : Str × NameKind := if (y.2 == NameKind.free && env.scope.kind == .function && env.kindOf y.1 == some .cell) = true then (y.1, NameKind.cell) else (y.1, y.2)
theorem rl_look {env : Env} : ∀ {names : List (Str × NameKind)} {x : Str} {k' : NameKind}, (names.map (rlOf env)).lookup x = some k' →
    ∃ k, (x, k) ∈ names ∧ names.lookup x = some k ∧ (k' = k ∨ (k = .free ∧ k' = .cell))
  | [], _, _, h => by simp at h
  | (n, k) :: r, x, k', h => by
    have ih := @rl_look env r x k'
    rw [List.map_cons] at h
    unfold rlOf at h
    dsimp only at h
    cases hx : x == n with
    | true =>
      have en : x = n := by simpa using hx
      refine ⟨k, by rw [en]; exact List.mem_cons_self, by simp [List.lookup_cons, hx], ?_⟩
      by_cases hc : (k == NameKind.free && env.scope.kind == .function && env.kindOf n == some .cell) = true
      · rw [if_pos hc, List.lookup_cons, hx] at h
        have hk : k = .free := by
          have := (Bool.and_eq_true_iff.mp (Bool.and_eq_true_iff.mp hc).1).1
          simpa using this
        exact .inr ⟨hk, by cases h; rfl⟩
      · rw [if_neg hc, List.lookup_cons, hx] at h
        exact .inl (by cases h; rfl)
    | false =>
      have h' : (r.map (rlOf env)).lookup x = some k' := by
        by_cases hc : (k == NameKind.free && env.scope.kind == .function && env.kindOf n == some .cell) = true
        · rw [if_pos hc, List.lookup_cons, hx] at h; exact h
        · rw [if_neg hc, List.lookup_cons, hx] at h; exact h
      obtain ⟨k, h1, h2, h3⟩ := ih h'
      exact ⟨k, List.mem_cons_of_mem _ h1, by rw [List.lookup_cons, hx]; exact h2, h3⟩
theorem rl_has {env : Env} : ∀ {names : List (Str × NameKind)} {x : Str} {k : NameKind}, names.lookup x = some k → ∃ k', (names.map (rlOf env)).lookup x = some k'
  | [], _, _, h => by simp at h
  | (n, k0) :: r, x, k, h => by
    have ih := @rl_has env r x k
    rw [List.map_cons]
    have e1 : (rlOf env (n, k0)).1 = n := by unfold rlOf; split <;> rfl
    have e0 : rlOf env (n, k0) = (n, (rlOf env (n, k0)).2) := by rw [Prod.ext_iff]; exact ⟨e1, rfl⟩
    rw [e0, List.lookup_cons]
    cases hx : x == n with
    | true => exact ⟨_, rfl⟩
    | false =>
      rw [List.lookup_cons, hx] at h
      exact ih h

noncomputable def cmpX (X : Cx) (nv : List Str) (ix : List (Str × Nat)) (scope : Scope) (C : Addr) (s₀ : Shared) (H₀ : Hp) (fp : List Addr) : Cx :=
  { X with N := nv ++ ix.map (·.1), s₀ := s₀, H₀ := H₀, env := compEnvC scope (clsOf X.env scope.names []) C X.env, outer := X.stack, stack := X.stack, ex := fp, fn := fun _ => false, pn := [], xe := fun _ _ => False }
noncomputable def frV (σ : St) (ix : List (Str × Nat)) : St := ix.map fun p => (σ[p.2]?).join
noncomputable def st0 (nv : List Str) (ix : List (Str × Nat)) (σ : St) : St := nv.map (fun _ => none) ++ frV σ ix
structure CompOk (X : Cx) (nv : List Str) (ix : List (Str × Nat)) (scope : Scope) : Prop where
  kind : scope.kind = .function
  nocell : ∀ y ∈ scope.names, y.2 ≠ .cell
  names : ∀ y ∈ scope.names, y.2 = .local → scope.names.lookup y.1 = some .local
  free : (scope.names.all fun y => !(y.2 == NameKind.free) || (X.env.kindOf y.1 == some NameKind.cell || X.env.kindOf y.1 == some NameKind.free)) = true
  ix : (ix.all fun p => (scope.names.lookup p.1 == some NameKind.free) && (X.N[p.2]? == some p.1)) = true
section
variable {X : Cx} {nv : List Str} {ix : List (Str × Nat)} {scope : Scope} {pins : List (Addr × Obj)} {σ : St} {H : Hp} {s : Shared}
theorem CompOk.fk (co : CompOk X nv ix scope) {y : Str × NameKind} (hy : y ∈ scope.names) (hf : y.2 = .free) : X.env.kindOf y.1 = some .cell ∨ X.env.kindOf y.1 = some .free := by
  have q := List.all_eq_true.mp co.free y hy
  rw [hf] at q
  simpa using q
theorem CompOk.cells (co : CompOk X nv ix scope) (ok : X.Ok) : ∀ y ∈ scope.names, y.2 = .free → ∃ c, X.env.cells.lookup y.1 = some c := fun y hy hf => ok.has y.1 (co.fk hy hf)
theorem CompOk.look (co : CompOk X nv ix scope) (ok : X.Ok) {n : Str} {c : Addr} (h : (clsOf X.env scope.names []).lookup n = some c) : X.env.cells.lookup n = some c :=
  clsOf_look _ _ (co.cells ok) (fun _ _ e => by cases e) n c h
theorem CompOk.ixp (co : CompOk X nv ix scope) {p : Str × Nat} (hp : p ∈ ix) : scope.names.lookup p.1 = some .free ∧ X.N[p.2]? = some p.1 := by
  have q := Bool.and_eq_true_iff.mp (List.all_eq_true.mp co.ix p hp)
  exact ⟨by simpa using q.1, by simpa using q.2⟩
theorem lookup_mem {α : Type} : ∀ {l : List (Str × α)} {n : Str} {k : α}, l.lookup n = some k → (n, k) ∈ l
  | [], _, _, h => by cases h
  | (m, j) :: r, n, k, h => by
    rw [List.lookup_cons] at h
    cases e : n == m with
    | true => rw [e] at h; cases h; have : n = m := by simpa using e
              rw [this]; exact List.mem_cons_self
    | false => rw [e] at h; exact List.mem_cons_of_mem _ (lookup_mem h)
theorem cmpX_ok (co : CompOk X nv ix scope) (I : Inv X pins σ H s) {fp : List Addr} {C : Addr} (hC : s.heap.objs.size ≤ C) (hf : ∀ b ∈ fp, FpOk X pins H b) (hlt : ∀ b ∈ fp, b < s.heap.objs.size) : (cmpX X nv ix scope C s H fp).Ok where
  mod := I.mod
  kind := co.kind
  glob := I.ok.glob
  blt := I.ok.blt
  above := hC
  inj := fun x y c a b => I.ok.inj x y c (co.look I.ok a) (co.look I.ok b)
  has := fun x hk => by
    have z : ∃ k, (x, k) ∈ scope.names ∧ k = .free := by
      rcases hk with hk | hk
      · obtain ⟨k, h1, _, h3⟩ := rl_look (env := X.env) (names := scope.names) hk
        rcases h3 with h3 | ⟨h3, _⟩
        · exact absurd h3.symm (co.nocell _ h1)
        · exact ⟨k, h1, h3⟩
      · obtain ⟨k, h1, _, h3⟩ := rl_look (env := X.env) (names := scope.names) hk
        rcases h3 with h3 | ⟨_, h3⟩
        · exact ⟨k, h1, h3.symm⟩
        · cases h3
    obtain ⟨k, h1, rfl⟩ := z
    exact clsOf_has _ _ x (.inl h1)
  cab := fun x c h _ => by cases h
  hd := I.ok.hd
  frames := I.ok.frames
  stk := .inl rfl
  exf := fun b hb => ⟨Nat.ne_of_lt (Nat.lt_of_lt_of_le (hlt b hb) hC), fun x c e => (hf b hb).2.2.2.2.1 x c (co.look I.ok e)⟩
  bs := fun b o e => I.bs b o e
  bsz := Nat.le_trans I.ok.bsz I.sz
  noex := fun b o e hb => by
    rcases (hf b hb).2.2.2.1 with z | z
    · exact I.ok.noex b o e z
    · exact absurd (Nat.lt_of_lt_of_le (Heap.lt_size e) (Nat.le_trans I.ok.bsz z)) (Nat.lt_irrefl _)
  exfs := fun b hb hs => by
    rcases List.mem_cons.mp (I.stkSub b hs) with e | h
    · exact (hf b hb).2.1 e
    · exact (hf b hb).2.2.1 h
  funs := I.stack
  frf := I.stkFree
noncomputable abbrev lobj (its : List Value) (k : Nat) : Obj := { cls := .type "list", data := .seq its.toArray k }
theorem join_some {o : Option (Option V)} {v : V} (h : o.join = some v) : o = some (some v) := by
  cases o with
  | none => cases h
  | some o' => exact congrArg some h
theorem cmp_start (co : CompOk X nv ix scope) (I : Inv X pins σ H s) {fp : List Addr} {h₁ : Heap} {tk : Nat} {m : Str → Option Value} (hf : ∀ b ∈ fp, FpOk X pins H b) (hlt : ∀ b ∈ fp, b < s.heap.objs.size)
    (hn : h₁.Ns (s.heap.objs.size + 1) m) (old : ∀ b o, s.heap.get? b = some o → h₁.get? b = some o) (hD : h₁.get? s.heap.objs.size = some (lobj [] 0)) :
    Inv (cmpX X nv ix scope (s.heap.objs.size + 1) s H fp) [(s.heap.objs.size, lobj [] 0)] (st0 nv ix σ) H { s with heap := h₁, toks := tk } where
  ok := cmpX_ok co I (Nat.le_succ _) hf hlt
  os := rfl
  bare := I.bare
  base := Un.kept old
  loc := by
    refine ⟨m, hn, fun i x v e1 e2 hv => ?_⟩
    obtain ⟨m₀, _, hl⟩ := I.loc
    have e1' : (nv ++ ix.map (·.1))[i]? = some x := e1
    unfold st0 at e2
    by_cases hi : i < nv.length
    · rw [List.getElem?_append_left (by rw [List.length_map]; exact hi), List.getElem?_map] at e2
      cases q : nv[i]? with
      | none => rw [q] at e2; cases e2
      | some z => rw [q] at e2; cases e2
    · have hi' : nv.length ≤ i := Nat.not_lt.mp hi
      rw [List.getElem?_append_right hi', List.getElem?_map] at e1'
      rw [List.getElem?_append_right (by rw [List.length_map]; exact hi'), List.length_map] at e2
      unfold frV at e2
      rw [List.getElem?_map] at e2
      cases q : ix[i - nv.length]? with
      | none => rw [q] at e1'; cases e1'
      | some p =>
        rw [q] at e1' e2
        have hp : p ∈ ix := List.mem_of_getElem? q
        have ex : p.1 = x := Option.some.inj e1'
        have ev : σ[p.2]? = some (some v) := join_some (Option.some.inj e2)
        obtain ⟨f1, f2⟩ := co.ixp hp
        have hk := co.fk (lookup_mem f1) rfl
        obtain ⟨u, r, l⟩ := hl p.2 p.1 v f2 ev (hk.elim (fun z => .inr (.inl z)) fun z => .inr (.inr z))
        refine ⟨u, r, .inr ⟨?_, ?_⟩⟩
        · obtain ⟨k', hk'⟩ := rl_has (env := X.env) f1
          obtain ⟨k, h1, h2, h3⟩ := rl_look hk'
          rw [f1] at h2
          cases h2
          rw [← ex]
          rcases h3 with h3 | ⟨_, h3⟩
          · exact .inr (hk'.trans (congrArg some h3))
          · exact .inl (hk'.trans (congrArg some h3))
        · obtain ⟨c, hc⟩ := clsOf_has (env := X.env) scope.names [] p.1 (.inl (lookup_mem f1))
          refine ⟨c, by rw [← ex]; exact hc, ?_⟩
          have hc' := co.look I.ok hc
          rcases l with ⟨z, _⟩ | ⟨_, c', z1, o, z2, z3⟩
          · have z' : X.env.kindOf p.1 = some .local := z
            rcases hk with hk | hk
            · have hk' : X.env.kindOf p.1 = some .cell := hk
              rw [z'] at hk'; cases hk'
            · have hk' : X.env.kindOf p.1 = some .free := hk
              rw [z'] at hk'; cases hk'
          · rw [hc'] at z1
            cases z1
            exact ⟨o, old _ _ z2, z3⟩
  cell := fun x c e => by
    obtain ⟨v, o, h1, h2⟩ := I.cell x c (co.look I.ok e)
    exact ⟨v, o, old _ _ h1, h2⟩
  free := I.hok.fresh (Nat.le_succ _)
  freeC := fun x c e => I.freeC x c (co.look I.ok e)
  pin := fun p hp => by
    have e : p = (s.heap.objs.size, lobj [] 0) := by simpa [cmpX] using hp
    subst e
    refine ⟨hD, I.hok.fresh (Nat.le_refl _), Nat.ne_of_lt (Nat.lt_succ_self _), fun hb => ?_, fun v z => by cases z⟩
    rcases List.mem_cons.mp (I.stkSub _ hb) with e | h
    · exact absurd I.lt (by rw [← e]; exact Nat.lt_irrefl _)
    · exact I.nofs (Nat.le_refl _) h
  hok := I.hok.kept old
  len := by
    show (nv.map (fun _ => none) ++ frV σ ix).length = (nv ++ ix.map (·.1)).length
    unfold frV
    simp
theorem Inv.track {D : Addr} {ys its : List _} {k : Nat} (I : Inv X pins σ H s) (rv : Vals ys its) (hz : ys.length ≤ sizeLine) (e : s.heap.get? D = some (lobj its k)) (hn : H D = none) (hd : FpOk X pins H D) : Inv X pins σ (upd H D (.lst ys)) s := by
  have nD : ∀ b u, H b = some u → b ≠ D := fun b u q z => by rw [z, hn] at q; cases q
  obtain ⟨h1, h2, h3, h4, h5, h6⟩ := hd
  refine I.step (s := s) (h' := s.heap) (g' := s.gens) (t' := s.toks) (d' := s.drawn) (ch := [D]) (fun b hb => ?_) (fun b o _ _ _ q _ => q) (fun b o _ _ _ q _ => ⟨o.slots, q⟩) (fun b o hb _ q => ?_) (fun b o _ q => ⟨o, q⟩)
    (fun b xs q => by rw [upd_ne (nD b _ q)]; exact q) (fun b o u q => by rw [upd_ne (nD b _ q)]; exact q) (fun b ps q => ⟨#[], by rw [upd_ne (nD b _ q), q]; simp⟩) (fun m hm => hm) (fun b u q => ?_) I.bare
  · have e : b = D := by simpa using hb
    subst e
    exact ⟨h4, h2, h5, h6⟩
  · rw [upd_ne (fun z => hb (by simp [z]))]; exact q
  · by_cases hb : b = D
    · subst hb
      rw [upd_same] at q
      cases q
      exact ⟨hz, its, k, rv, e⟩
    · rw [upd_ne hb] at q
      exact (I.hok b u q).stay (fun c v _ r => r) (fun c r => by rw [upd_ne (nD c _ r)]; exact r) fun c xs r => by rw [upd_ne (nD c _ r)]; exact r
theorem cmp_end {ps2 : List (Addr × Obj)} {σ2 : St} {H' : Hp} {s' : Shared} {fp : List Addr} {C : Addr} (I : Inv X pins σ H s) (hf : ∀ b ∈ fp, FpOk X pins H b) (Ic : Inv (cmpX X nv ix scope C s H fp) ps2 σ2 H' s') : Inv X pins σ H' s' :=
  I.call' (ch := fp) Ic.os Ic.base Ic.hok Ic.bare fun b hb => ⟨(hf b hb).2.2.2.1, (hf b hb).2.1, (hf b hb).2.2.2.2.1, (hf b hb).2.2.2.2.2⟩

noncomputable def PIf (X : Cx) (ifs : List Expr) (t : TT) : Prop :=
  ∀ (pins : List (Addr × Obj)) (s : Shared) (σ : St) (H : Hp) (Q : Bool → Hp → Prop), Inv X pins σ H s → t σ H Q →
    wpAny (model X.prog X.w) X.A (forIn ifs true fun c r => if r = true then do let ok ← isTrue c X.env (eval c X.env); pure (ForInStep.yield ok) else pure (ForInStep.yield r)) (TP X pins σ Q) X.xe s
@[irreducible] noncomputable def ZIf (X : Cx) (ifs : List Expr) (t : TT) : Prop := PIf X ifs t
noncomputable def tYes : TT := fun _ H Q => Q true H
theorem pif_nil : PIf X [] tYes := fun _ _ _ H _ I h => wpAny_tests_nil ⟨H, I, h⟩
theorem zif_nil : ZIf X [] tYes := by with_unfolding_all exact pif_nil 
theorem pif_one {c : Expr} {t : TT} (h : PT X c t) : PIf X [c] t := fun pins s σ H Q I q => wpAny_tests_one (h pins s σ H Q I q)
theorem zif_one {c : Expr} {t : TT} (h : ZT X c t) : ZIf X [c] t := by with_unfolding_all exact pif_one h
end
section
variable {prog : Program} {w : World} {A : Around} {E : Value → Shared → Prop} {R : Result → Shared → Prop} {s : Shared}
theorem compLoop_go {elt target iter : Expr} {ifs : List Expr} {scope : Scope} {pos : Pos} {it acc : Value} {env : Env} (I : Nat → Shared → Prop)
    (turn : ∀ n s, I n s → wpAny (model prog w) A (pyNext it) (fun r s₁ => match r with
      | none => R (.ok .next) s₁
      | some v => wpAny (model prog w) A (letOwnedTupleGo target it v) (fun _ s₁' => wpAny (model prog w) A (assign target env v) (fun _ s₂ =>
          wpAny (model prog w) A (forIn ifs true fun c r => if r = true then do let ok ← isTrue c env (eval c env); pure (ForInStep.yield ok) else pure (ForInStep.yield r)) (fun ok s₃ =>
            if ok = true then wpAny (model prog w) A (eval elt env) (fun x s₄ =>
              wpAny (model prog w) A (call (.builtin "list.append") [acc, x]) (fun _ s₅ => ∃ m, m < n ∧ I m s₅) (fun _ _ => False) s₄) (fun _ _ => False) s₃
            else ∃ m, m < n ∧ I m s₃) (fun _ _ => False) s₂) (fun _ _ => False) s₁') (fun _ _ => False) s₁) (fun _ _ => False) s)
    (n : Nat) (h : I n s) :
    codeAny (model prog w) A (.compLoop (.ListComp elt [⟨target, iter, ifs, 0⟩] scope pos) 0 it acc env) R s := by
  refine codeAny_loop rfl I (fun n s hI => ?_) n h
  show wpAny _ A ((compTurn (.ListComp elt [⟨target, iter, ifs, 0⟩] scope pos) 0 it acc env).onRaise (fun x => do noteFrame x env; theTreesLotGoes x)) _ _ s
  refine wpAny_noted ?_
  rw [compTurn_list]
  refine wpAny_bind (wpAny_standAt (wpAny_bind (wpAny_mono (turn n s hI) (fun r s₁ h₁ => ?_) fun _ _ h' => h'.elim)))
  cases r with
  | none => exact wpAny_pure h₁
  | some v =>
    refine wpAny_bind (wpAny_mono h₁ (fun _ s₁' h₁' => ?_) fun _ _ h' => h'.elim)
    refine wpAny_bind (wpAny_mono h₁' (fun _ s₂ h₂ => wpAny_bind (wpAny_mono h₂ (fun ok s₃ h₃ => ?_) fun _ _ h' => h'.elim)) fun _ _ h' => h'.elim)
    cases ok with
    | false => exact wpAny_pure ⟨rfl, h₃⟩
    | true =>
      exact wpAny_bind (wpAny_bind (wpAny_mono h₃ (fun x s₄ h₄ => wpAny_bind (wpAny_mono h₄ (fun _ s₅ h₅ => wpAny_pure (wpAny_pure ⟨rfl, h₅⟩)) fun _ _ h' => h'.elim)) fun _ _ h' => h'.elim))
end
section
variable {X : Cx} {nv : List Str} {ix : List (Str × Nat)} {scope : Scope} {pins : List (Addr × Obj)} {σ : St} {H : Hp} {s : Shared} {elt tg iter : Expr} {ifs : List Expr} {pos : Pos}
noncomputable def Kp (σ σ2 : St) : Prop := σ.length = σ2.length ∧ ∀ (i : Nat) v, σ[i]? = some (some v) → σ2[i]? = some (some v)
noncomputable def KpG (nv : List Str) (g : TG) : Prop := ∀ (fr : St) (v : V) (H : Hp) (Q : St → Hp → Prop), g v (nv.map (fun _ => none) ++ fr) H Q → g v (nv.map (fun _ => none) ++ fr) H fun σ2 H2 => Kp (nv.map (fun _ => none) ++ fr) σ2 ∧ Q σ2 H2
theorem kpg_name {x : Str} : KpG [x] (gName 0) := fun fr v H Q h => by
  refine ⟨⟨by simp, fun i w e => ?_⟩, h⟩
  cases i with
  | zero => cases e
  | succ i => exact e
noncomputable def CmpW (nv : List Str) (ix : List (Str × Nat)) (g : TG) (ti : TT) (te : TE) (σ : St) (J : It) (Fin : List V → Hp → Prop) (H1 : Hp) : Prop :=
  ∃ W : Nat → Nat → List V → Hp → Prop, (∃ m, W 0 m [] H1) ∧ ∀ i m ys H, W i m ys H →
    (J.stop i H ∧ Fin ys H) ∨ (J.go i H ∧ ys.length < sizeLine ∧ ∃ N : List V → Hp → Prop, (∀ ys' H', N ys' H' → ∃ m', m' < m ∧ W (i + 1) m' ys' H') ∧
      ∀ x H', J.yld i H x H' → g x (st0 nv ix σ) H' fun σ2 H2 => ti σ2 H2 fun b H3 => if b = true then te σ2 H3 fun y H4 => N (ys ++ [y]) H4 else N ys H3)
theorem comp_run {J : It} {fp : List Addr} {it : Addr} {tn : Nat → Heap → Prop} {g : TG} {ti : TT} {te : TE} {Fin : List V → Hp → Prop} {E : Value → Shared → Prop} {RR : Value → Addr → Result → Shared → Prop}
    (co : CompOk X nv ix scope) (hc : X.calm = true) (I : Inv X pins σ H s) (T : Turn X.prog X.w X.K tg J fp it tn) (st : tn 0 s.heap) (hf : ∀ b ∈ fp, FpOk X pins H b)
    (kg : KpG nv g) (hg : ∀ C s₀ H₀ fp, PG (cmpX X nv ix scope C s₀ H₀ fp) tg g) (hi : ∀ C s₀ H₀ fp, PIf (cmpX X nv ix scope C s₀ H₀ fp) ifs ti) (he : ∀ C s₀ H₀ fp, PE (cmpX X nv ix scope C s₀ H₀ fp) elt te)
    (q : CmpW nv ix g ti te σ J Fin H)
    (fin : ∀ D C s' H' ys, Inv X pins σ (upd H' D (.lst ys)) s' → H' D = none → Fin ys H' → (∃ m, s'.heap.Ns C m) → FpOk X pins (upd H' D (.lst ys)) C → RR (.ref D) C (.ok .next) s') :
    wpAny (model X.prog X.w) X.A (newList []) (fun acc s₃ => wpAny (model X.prog X.w) X.A (newFunctionEnv scope X.env.globals (clsOf X.env scope.names []) [] X.env.qual none .none (some X.env)) (fun cenv s₄ =>
      codeAny (model X.prog X.w) X.A (.compStart (.ListComp elt [⟨tg, iter, ifs, 0⟩] scope pos) 0 (.ref it) acc { cenv with scope := relabel scope X.env }) (RR acc cenv.locals) s₄) E s₃) E s := by
  obtain ⟨W, ⟨m0, w0⟩, turn⟩ := q
  refine wpAny_newObj_type (wpAny_newFunctionEnv co.nocell (by intro y hy; simp at hy) (fun h₁ hns₁ hsb₁ => ?_) co.kind)
  dsimp only at hns₁ hsb₁ ⊢
  generalize hH2 : s.heap.push { cls := .type "list", dict := none, data := .seq ([] : List Value).toArray } = H2 at hns₁ hsb₁ ⊢
  have hC : H2.objs.size = s.heap.objs.size + 1 := by rw [← hH2, Heap.size_push]
  rw [hC] at hns₁ hsb₁ ⊢
  have hDC : s.heap.objs.size ≠ s.heap.objs.size + 1 := Nat.ne_of_lt (Nat.lt_succ_self _)
  have below : ∀ b, b < s.heap.objs.size → b ≠ s.heap.objs.size + 1 ∧ b ≠ s.heap.objs.size := fun b hb => ⟨Nat.ne_of_lt (Nat.lt_succ_of_lt hb), Nat.ne_of_lt hb⟩
  have old : ∀ b o, s.heap.get? b = some o → h₁.get? b = some o := fun b o e => hsb₁.extBut b o (below b (Heap.lt_size e)).1 (Heap.get?_push_of_some _ (hH2 ▸ Heap.get?_push_of_some _ e))
  have hacc : h₁.get? s.heap.objs.size = some (lobj [] 0) := hsb₁.extBut _ _ hDC (Heap.get?_push_of_some _ (hH2 ▸ Heap.get?_push_size _ rfl))
  have hlt : ∀ b ∈ fp, b < s.heap.objs.size := fun b hb => by
    obtain ⟨o, e, _⟩ := T.obj 0 _ st b hb
    exact Heap.lt_size e
  have I₁ := fun tk => cmp_start (tk := tk) co I hf hlt hns₁ old hacc
  have st₁ : tn 0 h₁ := T.keep 0 _ _ st fun b _ o e => old b o e
  have fpD : ∀ {H' : Hp}, H' s.heap.objs.size = none → FpOk X pins H' s.heap.objs.size := fun hn => I.fpOk (Nat.le_refl _) hn
  have loop : ∀ tk : Nat, codeAny (model X.prog X.w) X.A (.compLoop (.ListComp elt [⟨tg, iter, ifs, 0⟩] scope pos) 0 (.ref it) (.ref s.heap.objs.size) (compEnvC scope (clsOf X.env scope.names []) (s.heap.objs.size + 1) X.env))
      (RR (.ref s.heap.objs.size) (s.heap.objs.size + 1)) { s with heap := h₁, toks := tk } := by
    intro tk
    refine compLoop_go (fun n s' => ∃ i H' ys its k, Inv (cmpX X nv ix scope (s.heap.objs.size + 1) s H fp) [(s.heap.objs.size, lobj its k)] (st0 nv ix σ) H' s' ∧ Vals ys its ∧ ys.length ≤ sizeLine ∧ tn i s'.heap ∧ (∀ b ∈ fp, H' b = none) ∧ W i n ys H')
      ?_ m0 ⟨0, H, [], [], 0, I₁ tk, .nil, Nat.zero_le _, st₁, fun b hb => (hf b hb).1, w0⟩
    rintro n s3 ⟨i, H3, ys, its, k, I3, rv, hz, st3, fr3, w3⟩
    have fpc : ∀ {H' : Hp} {its : List Value} {k : Nat}, (∀ b ∈ fp, H' b = none) → ∀ b ∈ fp, FpOk (cmpX X nv ix scope (s.heap.objs.size + 1) s H fp) [(s.heap.objs.size, lobj its k)] H' b := fun {H' its k} hn b hb => by
      refine ⟨hn b hb, (below b (hlt b hb)).1, fun hs => ?_, .inl hb, fun x c e => (hf b hb).2.2.2.2.1 x c (co.look I.ok e), fun p hp z => ?_⟩
      · rcases List.mem_cons.mp (I.stkSub b hs) with e | h
        · exact (hf b hb).2.1 e
        · exact (hf b hb).2.2.1 h
      · have e : p = (s.heap.objs.size, lobj its k) := by simpa [cmpX] using hp
        subst e
        exact (below b (hlt b hb)).2 z.symm
    have pD := fun {ps : List (Addr × Obj)} {σ' : St} {H' : Hp} {s' : Shared} (I' : Inv (cmpX X nv ix scope (s.heap.objs.size + 1) s H fp) ((s.heap.objs.size, lobj its k) :: ps) σ' H' s') =>
      I'.pin (s.heap.objs.size, lobj its k) (List.mem_append_right _ List.mem_cons_self)
    rcases turn i n ys H3 w3 with ⟨stop, fin0⟩ | ⟨go, hlt', N, hN, step⟩
    · refine thn (T.done (cmpX X nv ix scope (s.heap.objs.size + 1) s H fp) rfl rfl rfl hc i _ s3 _ H3 _ I3 (fpc fr3) st3 stop) fun r s4 ⟨hr, I4⟩ => ?_
      subst hr
      obtain ⟨p1, p2, _⟩ := pD I4
      have I5 := (cmp_end I hf I4).track rv hz p1 p2 (fpD p2)
      obtain ⟨mC, hmC, _⟩ := I4.loc
      exact fin _ _ s4 H3 ys I5 p2 fin0 ⟨mC, hmC⟩ (I.fpOk (Nat.le_succ _) (by rw [upd_ne (Ne.symm hDC)]; exact I4.free))
    · refine thn (T.item (cmpX X nv ix scope (s.heap.objs.size + 1) s H fp) rfl rfl rfl hc i _ s3 _ H3 _ I3 (fpc fr3) st3 go) fun r s4 ⟨u, hr, h4⟩ => ?_
      subst hr
      refine thn h4 fun _ s5 ⟨x, H5, I5, r5, y5, st5, fr5⟩ => ?_
      have I5' := I5.pinned (fpc fr5) (T.obj _ _ st5)
      refine thn (hg _ _ _ _ _ s5 _ H5 x u _ I5' r5 (kg _ _ _ _ (step x H5 y5))) fun _ s6 ⟨σ6, H6, I6, kp, q6⟩ => ?_
      refine thn (hi _ _ _ _ _ s6 σ6 H6 _ I6 q6) fun b s7 ⟨H7, I7, q7⟩ => ?_
      have again : ∀ {s7 : Shared} {H7 : Hp} {ys' its' : List _} {k' : Nat}, Inv (cmpX X nv ix scope (s.heap.objs.size + 1) s H fp) ([(s.heap.objs.size, lobj its' k')] ++ pinsAt fp s5.heap) σ6 H7 s7 → Vals ys' its' → ys'.length ≤ sizeLine → N ys' H7 →
          ∃ m, m < n ∧ ∃ i H' ys its k, Inv (cmpX X nv ix scope (s.heap.objs.size + 1) s H fp) [(s.heap.objs.size, lobj its k)] (st0 nv ix σ) H' s7 ∧ Vals ys its ∧ ys.length ≤ sizeLine ∧ tn i s7.heap ∧ (∀ b ∈ fp, H' b = none) ∧ W i m ys H' := fun {s7 H7 ys' its' k'} I8 rv' hz' n8 => by
        obtain ⟨m', hm, w8⟩ := hN _ _ n8
        have pn := fun (b : Addr) (o : Obj) (hb : b ∈ fp) (e : s5.heap.get? b = some o) => I8.pin (b, o) (List.mem_append_right _ (List.mem_append_right _ (mem_pinsAt hb e)))
        refine ⟨m', hm, i + 1, H7, ys', its', k', (I8.unpinned).weak kp.1 kp.2, rv', hz', T.keep _ _ _ st5 fun b hb o e => (pn b o hb e).1, fun b hb => ?_, w8⟩
        obtain ⟨o, e, d⟩ := T.obj _ _ st5 b hb
        exact (pn b o hb e).2.1
      cases b with
      | false =>
        rw [if_neg Bool.false_ne_true] at q7 ⊢
        exact again I7 rv hz q7
      | true =>
        rw [if_pos rfl] at q7 ⊢
        refine thn (he _ _ _ _ _ s7 σ6 H7 _ I7 q7) fun u8 s8 ⟨y, H8, I8, r8, q8⟩ => ?_
        obtain ⟨p1, p2, p3, p4, p5⟩ := pD I8
        refine append_at (hsz := by rw [List.size_toArray, ← rv.length]; exact Nat.le_of_lt hlt') p1 fun h9 hs9 hD9 => ?_
        have I9 : Inv (cmpX X nv ix scope (s.heap.objs.size + 1) s H fp) (pinsAt fp s5.heap) σ6 H8 { s8 with heap := h9 } := by
          have Iu : Inv (cmpX X nv ix scope (s.heap.objs.size + 1) s H fp) (pinsAt fp s5.heap) σ6 H8 s8 := I8.pins_of fun p hp => I8.pin p (List.mem_append_right _ (List.mem_append_right _ hp))
          refine Iu.turned (t' := s8.toks) (it := s.heap.objs.size) (fun b o hb e => (hs9.2 b hb).trans e) p2 p3 (.inr (Nat.le_refl _)) (fun x c e z => ?_) fun p hp z => ?_
          · obtain ⟨v, o, e1, _⟩ := I.cell x c (co.look I.ok e)
            exact absurd (Heap.lt_size e1) (by rw [z]; exact Nat.lt_irrefl _)
          · have hp' : p ∈ pinsAt fp s5.heap := by simpa [cmpX] using hp
            obtain ⟨hb, _⟩ := of_pinsAt hp'
            exact (below _ (hlt _ hb)).2 z
        have I10 : Inv (cmpX X nv ix scope (s.heap.objs.size + 1) s H fp) ([(s.heap.objs.size, lobj (its ++ [u8]) (k + 1))] ++ pinsAt fp s5.heap) σ6 H8 { s8 with heap := h9 } :=
          I9.pins_of fun p hp => by
            rcases List.mem_append.mp hp with hp | hp
            · have e : p = (s.heap.objs.size, lobj (its ++ [u8]) (k + 1)) := by simpa using hp
              subst e
              refine ⟨?_, p2, p3, p4, fun v z => by cases z⟩
              rw [List.push_toArray] at hD9
              exact hD9
            · exact I9.pin p (List.mem_append_right _ hp)
        exact again I10 (rv.append (.cons r8 .nil)) (by rw [List.length_append, List.length_singleton]; exact hlt') q8
  exact codeAny_compStart_list (loop _) (T.self _ 0 _ _ _ st₁ (loop _))

noncomputable def tComp (nv : List Str) (ix : List (Str × Nat)) (wi : TI) (g : TG) (ti : TT) (te : TE) : TE := fun σ H Q => wi σ H fun J H1 => CmpW nv ix g ti te σ J (fun ys H2 => ∀ D, H2 D = none → Q (.ref D) (upd H2 D (.lst ys))) H1
theorem pe_comp {wi : TI} {g : TG} {ti : TT} {te : TE} (nv : List Str) (ix : List (Str × Nat)) (hc : X.calm = true) (co : CompOk X nv ix scope) (hit : PI X tg iter wi) (kg : KpG nv g) (hg : ∀ C s₀ H₀ fp, PG (cmpX X nv ix scope C s₀ H₀ fp) tg g)
    (hi : ∀ C s₀ H₀ fp, PIf (cmpX X nv ix scope C s₀ H₀ fp) ifs ti) (he : ∀ C s₀ H₀ fp, PE (cmpX X nv ix scope C s₀ H₀ fp) elt te)
    (hs : ∀ x, foldedSetIterable iter X.env x = pure x := by intro _; rfl) : PE X (.ListComp elt [⟨tg, iter, ifs, 0⟩] scope pos) (tComp nv ix wi g ti te) := by
  intro pins s σ H Q I h
  rw [eval_ListComp]
  refine wpAny_comprehension_free (use := none) rfl hs (closure_ok (co.cells I.ok)) co.kind co.names (thn (hit pins s σ H _ I h) fun v s1 h1 => thn h1 fun itv s2 h2 => ?_)
  obtain ⟨it, fp, tn, J, H2, e, I2, T, st2, f2, q⟩ := h2
  subst e
  refine comp_run co hc I2 T st2 f2 kg hg hi he q fun D C s' H' ys I' hD fin ⟨m, hm⟩ hC => ?_
  obtain ⟨c0, c1, c2, c3, c4, c5⟩ := hC
  exact ⟨m, hm, fun h' hs' => ⟨.ref D, _, I'.turned (t' := s'.toks) (fun b o hb e => (hs'.2 b hb).trans e) c0 c1 c3 c4 c5, rfl, fin D hD⟩⟩
theorem ze_comp {wi : TI} {g : TG} {ti : TT} {te : TE} (nv : List Str) (ix : List (Str × Nat)) (hc : X.calm = true) (co : CompOk X nv ix scope) (hit : ZI X tg iter wi) (kg : KpG nv g) (hg : ∀ C s₀ H₀ fp, ZG (cmpX X nv ix scope C s₀ H₀ fp) tg g)
    (hi : ∀ C s₀ H₀ fp, ZIf (cmpX X nv ix scope C s₀ H₀ fp) ifs ti) (he : ∀ C s₀ H₀ fp, ZE (cmpX X nv ix scope C s₀ H₀ fp) elt te)
    (hs : ∀ x, foldedSetIterable iter X.env x = pure x := by intro _; rfl) : ZE X (.ListComp elt [⟨tg, iter, ifs, 0⟩] scope pos) (tComp nv ix wi g ti te) := by with_unfolding_all exact pe_comp nv ix hc co hit kg hg hi he hs
end
section
variable {nv : List Str} {ix : List (Str × Nat)} {σ : St} {H : Hp} {g : TG} {ti : TT} {te : TE} {Fin : List V → Hp → Prop} {K : PySem.W.Frag} {a : Addr} {xs : List V}
theorem cmp_tup (Pv : Nat → List V → Hp → Prop) (h0 : Pv 0 [] H) (hl : ∀ i ys H, i ≤ xs.length → Pv i ys H → SqT K H a xs)
    (hs : ∀ i x ys H, xs[i]? = some x → Pv i ys H → ys.length < sizeLine ∧ g x (st0 nv ix σ) H fun σ2 H2 => ti σ2 H2 fun b H3 => if b = true then te σ2 H3 fun y H4 => Pv (i + 1) (ys ++ [y]) H4 else Pv (i + 1) ys H3)
    (hd : ∀ ys H, Pv xs.length ys H → Fin ys H) : CmpW nv ix g ti te σ (Itt K a) Fin H := by
  refine ⟨fun i m ys H => m = xs.length - i ∧ i ≤ xs.length ∧ Pv i ys H, ⟨xs.length, by simp, Nat.zero_le _, h0⟩, ?_⟩
  rintro i m ys H ⟨rfl, hi, p⟩
  have q := hl i ys H hi p
  by_cases hlt : i < xs.length
  · have e := hs i xs[i] ys H (by simp [hlt]) p
    refine .inr ⟨⟨xs, xs[i], q, by simp [hlt]⟩, e.1, Pv (i + 1), fun σ' H' p' => ⟨xs.length - (i + 1), by omega, rfl, hlt, p'⟩, fun x H' y => ?_⟩
    obtain ⟨e', y⟩ := y
    subst e'
    exact (hs i x ys _ (y xs q) p).2
  · have e : i = xs.length := by omega
    subst e
    exact .inl ⟨⟨xs, q, Nat.le_refl _⟩, hd ys H p⟩
theorem cmp_range {lo : Int} {n : Nat} (Pv : Nat → List V → Hp → Prop) (h0 : Pv 0 [] H)
    (hs : ∀ i ys H, i < n → Pv i ys H → ys.length < sizeLine ∧ g (.int (lo + i)) (st0 nv ix σ) H fun σ2 H2 => ti σ2 H2 fun b H3 => if b = true then te σ2 H3 fun y H4 => Pv (i + 1) (ys ++ [y]) H4 else Pv (i + 1) ys H3)
    (hd : ∀ ys H, Pv n ys H → Fin ys H) : CmpW nv ix g ti te σ (Itr lo n) Fin H := by
  refine ⟨fun i m ys H => m = n - i ∧ i ≤ n ∧ Pv i ys H, ⟨n, by simp, Nat.zero_le _, h0⟩, ?_⟩
  rintro i m ys H ⟨rfl, hi, p⟩
  by_cases hlt : i < n
  · refine .inr ⟨hlt, (hs i ys H hlt p).1, Pv (i + 1), fun σ' H' p' => ⟨n - (i + 1), by omega, rfl, hlt, p'⟩, fun x H' y => ?_⟩
    obtain ⟨e', y⟩ := y
    subst e' y
    exact (hs i ys _ hlt p).2
  · have e : i = n := by omega
    subst e
    exact .inl ⟨Nat.le_refl _, hd ys H p⟩
end
end L2
set_option Elab.async false
set_option linter.all false
set_option maxRecDepth 100000
set_option maxHeartbeats 4000000
namespace L2
open PySem PySem.Spec PyProof.Rows
theorem Same.new {H : Hp} {p : Addr} (h : H p = none) (o : HO) : Same H (upd H p o) := fun b u q => by rw [upd_ne (ne_of_none q h)]; exact q

section
variable {X : Cx} {a b c : Expr} {ta tb tc : TE} {pos : Pos}
theorem op_mulB : OpR X (binaryOp .Mult) (rI (fun i j => IntMulOk i j) fun i j => .int (i * j)) := opI fun _ _ _ _ _ _ _ hc q => mul_int q hc

end
end L2
set_option Elab.async false
set_option linter.all false
set_option maxRecDepth 100000
set_option maxHeartbeats 4000000
namespace L2
open PySem PySem.Spec PyProof.Rows
section
variable {prog : Program} {w : World} {A : Around} {E : Value → Shared → Prop} {s : Shared}
end
section
variable {X : Cx} {a b c : Expr} {ta tb tc : TE} {pos : Pos}
theorem PE.imp {e : Expr} {t t' : TE} (h : PE X e t) (i : ∀ σ H Q, t' σ H Q → t σ H Q) : PE X e t' := fun pins s σ H Q I q => h pins s σ H Q I (i σ H Q q)
theorem OpR.imp {f : Value → Value → Sem Value} {r r' : R2} (h : OpR X f r) (i : ∀ x y H Q, r' x y H Q → r x y H Q) : OpR X f r' := fun pins s σ H x y v u Q I rx ry q => h pins s σ H x y v u Q I rx ry (i x y H Q q)
noncomputable def tV (i : Nat) : TE := fun σ H Q => match σ[i]? with | some (some v) => Q v H | _ => False
theorem tV_var {i : Nat} (σ : St) (H : Hp) (Q : VK) (h : tV i σ H Q) : tVar i σ H Q := by
  unfold tV at h
  split at h
  · exact ⟨_, by assumption, h⟩
  · exact h.elim
theorem pn (i : Nat) {x : Str} {pos : Pos} (hN : X.N[i]? = some x := by rfl) (hv : Vis X.env.scope x := by first | exact Or.inl rfl | exact Or.inr (Or.inl rfl) | exact Or.inr (Or.inr rfl)) (hd : (x == ("__debug__" : Str)) = false := by decide)
    (hcd : (x == ("__classdict__" : Str)) = false := by decide) : PE X (.Name x pos) (tV i) := (pe_var hN hv hd hcd).imp tV_var
theorem zn (i : Nat) {x : Str} {pos : Pos} (hN : X.N[i]? = some x := by rfl) (hv : Vis X.env.scope x := by first | exact Or.inl rfl | exact Or.inr (Or.inl rfl) | exact Or.inr (Or.inr rfl)) (hd : (x == ("__debug__" : Str)) = false := by decide)
    (hcd : (x == ("__classdict__" : Str)) = false := by decide) : ZE X (.Name x pos) (tV i) := by with_unfolding_all exact pn i hN hv hd hcd
noncomputable def rAddP (K : PySem.W.Frag) : R2 := fun x y H Q => match x, y with
  | .int i, .int j => Q (.int (i + j)) H
  | .str i, .str j => i.length + j.length ≤ sizeLine ∧ Q (.str (i ++ j)) H
  | .ref a, .ref b => (∃ xs ys, H a = some (.lst xs) ∧ H b = some (.lst ys) ∧ xs.length + ys.length ≤ sizeLine ∧ ∀ p, H p = none → Q (.ref p) (upd H p (.lst (xs ++ ys)))) ∨
      ∃ xs ys, H a = some (.tup xs) ∧ H b = some (.tup ys) ∧ xs.length + ys.length ≤ sizeLine ∧ ∀ r H', Same H H' → H' r = some (.tup (xs ++ ys)) → Q (.ref r) H'
  | _, _ => False
theorem op_catA' : OpR X (binaryOp .Add) (fun x y H Q => ∃ a b xs ys, x = .ref a ∧ y = .ref b ∧ H a = some (.tup xs) ∧ H b = some (.tup ys) ∧ xs.length + ys.length ≤ sizeLine ∧ ∀ r H', Same H H' → H' r = some (.tup (xs ++ ys)) → Q (.ref r) H') := by
  intro pins s σ H x y v u Q I rx ry h
  obtain ⟨a, b, xs, ys, rfl, rfl, ha, hb, hz, q⟩ := h
  by_cases hx : xs = []
  · subst hx
    cases rx
    cases ry
    obtain ⟨its, r1, p1, _⟩ := I.tuple (SqT.of ha)
    obtain ⟨its2, r2, p2, _⟩ := I.tuple (SqT.of hb)
    cases r1
    obtain ⟨⟨cls, dd, data, sl⟩, ho, hc, n, hd⟩ := id p1
    obtain ⟨⟨cls2, dd2, data2, sl2⟩, ho2, hc2, n2, hd2⟩ := id p2
    simp only at hc hd hc2 hd2
    subst hc hd hc2 hd2
    exact concat_meets ⟨_, ho, rfl⟩ ⟨_, ho2, rfl⟩ noFill_tuple_add seq_tuple_add PySem.F.slot_tuple_add PySem.F.entry_tuple_add (PySem.F.args_tuple_add_2 _ _)
      (tuple_addW0 a b _ _ n n2 dd dd2 sl sl2 (by rfl)) ⟨ho, ho2, ⟨.ref b, H, I, rfl, q b H (Same.refl H) hb⟩⟩
  · refine op_catT pins s σ H _ _ v u Q I rx ry ⟨a, b, xs, ys, rfl, rfl, SqT.of ha, SqT.of hb, hx, hz, fun e => ?_, fun e p hp => ?_⟩
    · subst e
      exact q a H (Same.refl H) (by rw [List.append_nil]; exact ha)
    · exact q p _ (Same.new hp _) upd_same
theorem op_addP : OpR X (binaryOp .Add) (rAddP X.K) := by
  intro pins s σ H x y v u Q I rx ry h
  unfold rAddP at h
  split at h
  · exact op_add pins s σ H _ _ v u Q I rx ry ⟨_, _, rfl, rfl, h⟩
  · exact op_add_str pins s σ H _ _ v u Q I rx ry ⟨_, _, rfl, rfl, h⟩
  · rcases h with ⟨xs, ys, h1, h2, h3, q⟩ | ⟨xs, ys, h1, h2, h3, q⟩
    · exact op_cat pins s σ H _ _ v u Q I rx ry ⟨_, _, xs, ys, rfl, rfl, h1, h2, h3, q⟩
    · exact op_catA' pins s σ H _ _ v u Q I rx ry ⟨_, _, xs, ys, rfl, rfl, h1, h2, h3, q⟩
  · exact h.elim
noncomputable def rP (C : Int → Int → Prop) (g : Int → Int → V) : R2 := fun x y H Q => match x, y with | .int i, .int j => C i j ∧ Q (g i j) H | _, _ => False
noncomputable def rP0 (g : Int → Int → V) : R2 := fun x y H Q => match x, y with | .int i, .int j => Q (g i j) H | _, _ => False
theorem rP_rI {C : Int → Int → Prop} {g : Int → Int → V} (x y : V) (H : Hp) (Q : VK) (h : rP C g x y H Q) : rI C g x y H Q := by
  unfold rP at h
  split at h
  · exact ⟨_, _, rfl, rfl, h⟩
  · exact h.elim
theorem rP0_rI0 {g : Int → Int → V} (x y : V) (H : Hp) (Q : VK) (h : rP0 g x y H Q) : rI0 g x y H Q := by
  unfold rP0 at h
  split at h
  · exact ⟨_, _, rfl, rfl, h⟩
  · exact h.elim
theorem op_subP : OpR X (binaryOp .Sub) (rP0 fun i j => .int (i - j)) := op_sub.imp rP0_rI0
theorem op_modP : OpR X (binaryOp .Mod) (rP (fun _ j => 0 < j) fun i j => .int (i % j)) := op_mod.imp rP_rI
theorem op_fdivP : OpR X (binaryOp .FloorDiv) (rP CDiv fun i j => .int (i / j)) := op_fdiv.imp rP_rI
theorem op_powP : OpR X (binaryOp .Pow) (rP CPow fun i j => .int (i ^ j.toNat)) := op_pow.imp rP_rI
theorem op_ltP : OpR X (compareOp .Lt) (rP0 fun i j => .bl (decide (i < j))) := op_lt.imp rP0_rI0
theorem op_leP : OpR X (compareOp .LtE) (rP0 fun i j => .bl (decide (i ≤ j))) := op_le.imp rP0_rI0
theorem op_gtP : OpR X (compareOp .Gt) (rP0 fun i j => .bl (decide (j < i))) := op_gt.imp rP0_rI0
theorem op_geP : OpR X (compareOp .GtE) (rP0 fun i j => .bl (decide (j ≤ i))) := op_ge.imp rP0_rI0
noncomputable def rIsP (neg : Bool) : R2 := fun x y H Q => match y with
  | .non => Q (.bl (if neg then !decide (x = y) else decide (x = y))) H
  | .bl _ => match x with
    | .flt _ => False
    | .byt _ => False
    | .ty _ => False
    | _ => Q (.bl (if neg then !decide (x = y) else decide (x = y))) H
  | _ => False
end
end L2
set_option Elab.async false
set_option linter.all false
set_option maxRecDepth 100000
set_option maxHeartbeats 4000000
namespace L2
open PySem PySem.Spec PyProof.Rows
mutual
inductive DatV (H : Hp) : V → PyData → Prop where
  | non : DatV H .non .none
  | bl (b : Bool) : DatV H (.bl b) (.bool b)
  | int (i : Int) : DatV H (.int i) (.int i)
  | str (x : Str) : DatV H (.str x) (.str x)
  | lst {a : Addr} {xs : List V} {ds : List PyData} (e : H a = some (.lst xs)) (r : DatAll H xs ds) : DatV H (.ref a) (.list ds)
  | tup {a : Addr} {xs : List V} {ds : List PyData} (e : H a = some (.tup xs)) (r : DatAll H xs ds) : DatV H (.ref a) (.tuple ds)
inductive DatAll (H : Hp) : List V → List PyData → Prop where
  | nil : DatAll H [] []
  | cons {x : V} {d : PyData} {xs : List V} {ds : List PyData} (h : DatV H x d) (r : DatAll H xs ds) : DatAll H (x :: xs) (d :: ds)
end
theorem DatAll.ints {H : Hp} : ∀ ns : List Int, DatAll H (ns.map V.int) (ns.map PyData.int)
  | [] => .nil
  | n :: r => .cons (.int n) (DatAll.ints r)
section
variable {X : Cx} {pins : List (Addr × Obj)} {σ : St} {H : Hp} {s : Shared}
mutual
theorem DatV.reads (I : Inv X pins σ H s) : ∀ {x : V} {d : PyData} {v : Value}, DatV H x d → RelV x v → ∃ as, Reads s.heap v d as
  | _, _, _, .non, r => by cases r; exact ⟨_, .none⟩
  | _, _, _, .bl b, r => by cases r; exact ⟨_, .bool b⟩
  | _, _, _, .int i, r => by obtain ⟨t, rfl⟩ := r; exact ⟨_, .int i t⟩
  | _, _, _, .str x, r => by obtain ⟨t, rfl⟩ := r; exact ⟨_, .str x t⟩
  | _, _, _, .lst e q, r => by
    cases r
    obtain ⟨_, its, n, rv, h⟩ := I.lstM e
    obtain ⟨_, h⟩ := h
    obtain ⟨as, z⟩ := DatAll.reads I q rv
    exact ⟨_, reads_list_at h rfl rfl z⟩
  | _, _, _, .tup e q, r => by
    cases r
    obtain ⟨its, rv, ⟨o, h1, h2, n, h3⟩, _⟩ := I.tuple (SqT.of e)
    obtain ⟨as, z⟩ := DatAll.reads I q rv
    exact ⟨_, reads_tuple_at h1 h2 h3 z⟩
theorem DatAll.reads (I : Inv X pins σ H s) : ∀ {xs : List V} {ds : List PyData} {vs : List Value}, DatAll H xs ds → Vals xs vs → ∃ as, ReadsAll s.heap vs ds as
  | _, _, _, .nil, r => by cases r; exact ⟨_, .nil⟩
  | _, _, _, .cons h q, r => by
    cases r with
    | cons r1 r2 =>
      obtain ⟨as, z⟩ := DatV.reads I h r1
      obtain ⟨bs, y⟩ := DatAll.reads I q r2
      exact ⟨_, .cons z y⟩
end
end
section
variable {X : Cx} {a b c : Expr} {ta tb tc : TE} {pos : Pos}
noncomputable def rEqD (neg : Bool) : R2 := fun x y H Q => match scal x y with
  | true => Q (.bl (if neg then !decide (x = y) else decide (x = y))) H
  | false => ∃ d e, DatV H x d ∧ DatV H y e ∧ SeqAt.shaped d = true ∧ SeqAt.shaped e = true ∧ Q (.bl (if neg then !PyData.eqv d e else PyData.eqv d e)) H
theorem op_eqD (hu : X.A.units + 64 < cLine) : OpR X (compareOp .Eq) (rEqD false) := by
  intro pins s σ H x y v u Q I rx ry h
  unfold rEqD at h
  split at h
  · exact op_eq pins s σ H x y v u Q I rx ry ⟨by assumption, h⟩
  · obtain ⟨d, e, h1, h2, h3, h4, q⟩ := h
    obtain ⟨as, r1⟩ := h1.reads I rx
    obtain ⟨bs, r2⟩ := h2.reads I ry
    exact eq_dataH r1 r2 h3 h4 hu ⟨.bl _, H, I, rfl, q⟩
theorem op_neD (hu : X.A.units + 64 < cLine) : OpR X (compareOp .NotEq) (rEqD true) := by
  intro pins s σ H x y v u Q I rx ry h
  unfold rEqD at h
  split at h
  · exact op_ne pins s σ H x y v u Q I rx ry ⟨by assumption, h⟩
  · obtain ⟨d, e, h1, h2, h3, h4, q⟩ := h
    obtain ⟨as, r1⟩ := h1.reads I rx
    obtain ⟨bs, r2⟩ := h2.reads I ry
    exact ne_dataH r1 r2 h3 h4 hu ⟨.bl _, H, I, rfl, q⟩
theorem op_isP : OpR X (compareOp .Is) (rIsP false) := by
  intro pins s σ H x y v u Q I rx ry h
  unfold rIsP at h
  split at h
  · exact op_isN pins s σ H x _ v u Q I rx ry ⟨rfl, h⟩
  · rename_i k
    cases ry
    split at h
    · exact h.elim
    · exact h.elim
    · exact h.elim
    · rename_i hf hb ht
      cases x with
      | non => cases rx; exact wpAny_is_plain rfl (fin_bl I h (by simp))
      | bl j => cases rx; exact wpAny_is_plain rfl (fin_bl I h (by rw [Bool.eq_iff_iff]; simp))
      | int j => obtain ⟨t, rfl⟩ := rx; exact wpAny_is_plain rfl (fin_bl I h (by simp))
      | str j => obtain ⟨t, rfl⟩ := rx; exact wpAny_is_plain rfl (fin_bl I h (by simp))
      | byt j => exact absurd rfl (hb j)
      | flt j => exact absurd rfl (hf j)
      | ref j => cases rx; exact wpAny_is_plain rfl (fin_bl I h (by simp))
      | ty j => exact absurd rfl (ht j)
  · exact h.elim
noncomputable def tBlP (t : TE) : TT := fun σ H Q => t σ H fun x H1 => match x with | .bl c => Q c H1 | _ => False
theorem blP {x : V} {P : Bool → Prop} (h : match x with | .bl c => P c | _ => False) : ∃ c, x = .bl c ∧ P c := by
  cases x <;> first | exact ⟨_, rfl, h⟩ | exact h.elim
theorem pt_cmpP {op : CmpOp} {r : R2} (ho : OpR X (compareOp op) r) (ha : PE X a ta) (hb : PE X b tb) (hm : behindInMarks op b = false) : PT X (.Compare a [op] [b] pos) (tBlP (tOp r ta tb)) := by
  intro pins s σ H Q I h
  refine wpAny_isTrue_Compare1 (binT ha hb I h fun v u s2 x y H2 I2 rx ry q => ?_) hm
  refine thn (ho pins s2 σ H2 x y v u _ I2 rx ry q) fun z s3 ⟨w', H3, I3, r3, q3⟩ => ?_
  obtain ⟨k, rfl, q3⟩ := blP q3
  cases r3
  exact wpAny_truthy_bool ⟨H3, I3, q3⟩
theorem zt_cmpP {op : CmpOp} {r : R2} (ho : OpR X (compareOp op) r) (ha : ZE X a ta) (hb : ZE X b tb) (hm : behindInMarks op b = false) : ZT X (.Compare a [op] [b] pos) (tBlP (tOp r ta tb)) := by with_unfolding_all exact pt_cmpP ho ha hb hm
theorem pt_valP {e : Expr} {t : TE} (h : PE X e t) (he : ∀ whole, isTrue e X.env whole = (do let v ← whole; standAt e.pos; holding [v] (truthy v)) := by intro _; rfl) : PT X e (tBlP t) := by
  intro pins s σ H Q I q
  refine isTrue_plain (thn (h pins s σ H _ I q) fun v s1 ⟨x, H1, I1, r1, q1⟩ => ?_) (he _)
  obtain ⟨k, rfl, q1⟩ := blP q1
  cases r1
  exact wpAny_truthy_bool ⟨H1, I1, q1⟩
theorem zt_valP {e : Expr} {t : TE} (h : ZE X e t) (he : ∀ whole, isTrue e X.env whole = (do let v ← whole; standAt e.pos; holding [v] (truthy v)) := by intro _; rfl) : ZT X e (tBlP t) := by with_unfolding_all exact pt_valP h he
noncomputable def tAndP (ta tb : TE) : TE := fun σ H Q => ta σ H fun x H1 => match x with | .bl c => if c = true then tb σ H1 Q else Q (.bl false) H1 | _ => False
variable {rest : List Expr}
theorem pe_andP (ha : PE X a ta) (hb : PE X (.BoolOp .And (b :: rest) pos) tb) : PE X (.BoolOp .And (a :: b :: rest) pos) (tAndP ta tb) := by
  intro pins s σ H Q I h
  refine BoolOp_and (thn (ha pins s σ H _ I h) fun v s1 ⟨x, H1, I1, r1, q1⟩ => ?_)
  obtain ⟨c, rfl, q1⟩ := blP q1
  cases r1
  refine wpAny_truthy_bool ?_
  cases c with
  | true => exact hb pins s1 σ H1 Q I1 q1
  | false => exact ⟨.bl false, H1, I1, rfl, q1⟩
theorem ze_andP (ha : ZE X a ta) (hb : ZE X (.BoolOp .And (b :: rest) pos) tb) : ZE X (.BoolOp .And (a :: b :: rest) pos) (tAndP ta tb) := by with_unfolding_all exact pe_andP ha hb
noncomputable def rIxP (K : PySem.W.Frag) : R2 := fun x y H Q => match x, y with
  | .ref p, .int i => (∃ xs, (SqL K H p xs ∨ H p = some (.tup xs)) ∧ ∃ v, atI xs i = some v ∧ Q v H)
  | _, _ => False
theorem ix_P : IxR X (rIxP X.K) := by
  intro value slice pins s σ H x y v u Q I rx ry h hs
  unfold rIxP at h
  split at h
  · obtain ⟨xs, h1 | h1, w, e, q⟩ := h
    · exact ix_list value slice pins s σ H _ _ v u Q I rx ry ⟨_, xs, _, w, rfl, rfl, h1, e, q⟩ hs
    · exact ix_tup value slice pins s σ H _ _ v u Q I rx ry ⟨_, xs, _, w, rfl, rfl, SqT.of h1, e, q⟩ hs
  · exact h.elim

theorem CallR.imp {f : Value} {r r' : List V → Hp → VK → Prop} (h : CallR X f r) (i : ∀ xs H Q, r' xs H Q → r xs H Q) : CallR X f r' := fun pins s σ H xs us Q I rs q => h pins s σ H xs us Q I rs (i xs H Q q)
noncomputable def rLenP (K : PySem.W.Frag) : List V → Hp → VK → Prop := fun xs H Q => match xs with
  | [.ref p] => ∃ ys, (SqL K H p ys ∨ H p = some (.tup ys)) ∧ Q (.int ys.length) H
  | _ => False
theorem call_lenP : CallR X (.builtin "len") (rLenP X.K) := call_len_seq.imp fun xs H Q h => by
  unfold rLenP at h
  split at h
  · obtain ⟨ys, h1 | h1, q⟩ := h
    · exact ⟨_, ys, rfl, .inl h1, q⟩
    · exact ⟨_, ys, rfl, .inr (SqT.of h1), q⟩
  · exact h.elim
noncomputable def rTupP (K : PySem.W.Frag) : List V → Hp → VK → Prop := fun xs H Q => match xs with
  | [.ref p] => ∃ ys, (SqL K H p ys ∨ H p = some (.tup ys)) ∧ ∀ r H', Same H H' → H' r = some (.tup ys) → Q (.ref r) H'
  | _ => False
theorem call_tupP : CallR X (.type "tuple") (rTupP X.K) := call_tuple_of.imp fun xs H Q h => by
  unfold rTupP at h
  split at h
  · obtain ⟨ys, h1 | h1, q⟩ := h
    · exact ⟨_, ys, rfl, .inl ⟨h1, fun l hl => q l _ (Same.new hl _) upd_same⟩⟩
    · exact ⟨_, ys, rfl, .inr ⟨SqT.of h1, q _ H (Same.refl H) h1⟩⟩
  · exact h.elim
noncomputable def rLstP (K : PySem.W.Frag) : List V → Hp → VK → Prop := fun xs H Q => match xs with
  | [.ref p] => ∃ ys, (SqL K H p ys ∨ H p = some (.tup ys)) ∧ ∀ l, H l = none → Q (.ref l) (upd H l (.lst ys))
  | _ => False
theorem call_lstP : CallR X (.type "list") (rLstP X.K) := call_list_of.imp fun xs H Q h => by
  unfold rLstP at h
  split at h
  · obtain ⟨ys, h1 | h1, q⟩ := h
    · exact ⟨_, ys, rfl, .inl h1, q⟩
    · exact ⟨_, ys, rfl, .inr (SqT.of h1), q⟩
  · exact h.elim
noncomputable def rIntP : List V → Hp → VK → Prop := fun xs H Q => match xs with
  | [.int i] => Q (.int i) H
  | [.bl k] => Q (.int (if k then 1 else 0)) H
  | _ => False
theorem call_intP : CallR X (.type "int") rIntP := call_int1.imp fun xs H Q h => by
  unfold rIntP at h
  split at h
  · exact .inl ⟨_, rfl, h⟩
  · exact .inr ⟨_, rfl, h⟩
  · exact h.elim
noncomputable def rMinP : List V → Hp → VK → Prop := fun xs H Q => match xs with
  | [.int i, .int j] => Q (.int (if j < i then j else i)) H
  | _ => False
theorem call_minP (hc : X.calm = true) : CallR X (.builtin "min") rMinP := (call_min2 hc).imp fun xs H Q h => by
  unfold rMinP at h
  split at h
  · exact ⟨_, _, rfl, h⟩
  · exact h.elim

structure FnA (P : Program) (w : World) (K : PySem.W.Frag) (mg : Str → Option Value) (base : Heap) (x : Str) (k : Nat) (ps : List Str) (sp : Sp) : Prop where
  ex : ∃ f fd, FnOk P w K mg base CX0 k f fd ps sp ∧ Binds K fd ps [] ∧ PySem.W.keepIn K (.ref f) = true ∧ mg x = some (.ref f)
noncomputable def tFn (sp : Sp) (t : TA) : TE := fun σ H Q => t σ H fun vs H1 => sp vs H1 Q E0
theorem pe_fn {x : Str} {k k' : Nat} {ps : List Str} {sp : Sp} {e : Expr} {es : List Expr} {t : TA} {p : Pos} (F : FnA X.prog X.w X.K X.mg X.base x k ps sp) (hr : Room k' X.A) (hk : k ≤ k') (hg : Gl X x)
    (ha : PA X (e :: es) t) (hdb : (x == ("__debug__" : Str)) = false := by decide) (he : starEach (e :: es) X.env = (false, eval e X.env) :: starEach es X.env := by rfl) (hpl : (backTo pos (starEach es X.env)).any (·.1) = false := by rfl) :
    PE X (.Call (.Name x p) (e :: es) [] pos) (tFn sp t) := by
  obtain ⟨f, fd, F1, b1, k1, m1⟩ := F.ex
  refine (pe_call (F1.mono hk) hr hg m1 k1 b1 .nil pass0 ha hdb he hpl).imp fun σ H Q h => ?_
  have e : (fun (vs : List V) (H1 : Hp) => sp (vs ++ []) H1 Q E0) = fun vs H1 => sp vs H1 Q E0 := by
    funext vs H1
    rw [List.append_nil]
  show t σ H fun vs H1 => sp (vs ++ []) H1 Q E0
  rw [e]
  exact h
theorem ze_fn {x : Str} {k k' : Nat} {ps : List Str} {sp : Sp} {e : Expr} {es : List Expr} {t : TA} {p : Pos} (F : FnA X.prog X.w X.K X.mg X.base x k ps sp) (hr : Room k' X.A) (hk : k ≤ k') (hg : Gl X x)
    (ha : ZA X (e :: es) t) (hdb : (x == ("__debug__" : Str)) = false := by decide) (he : starEach (e :: es) X.env = (false, eval e X.env) :: starEach es X.env := by rfl) (hpl : (backTo pos (starEach es X.env)).any (·.1) = false := by rfl) :
    ZE X (.Call (.Name x p) (e :: es) [] pos) (tFn sp t) := by with_unfolding_all exact pe_fn F hr hk hg ha hdb he hpl
end
end L2
set_option Elab.async false
set_option linter.all false
set_option maxRecDepth 100000
set_option maxHeartbeats 4000000
namespace L2
open PySem PySem.Spec PyProof.Rows
theorem iteD {p : Prop} [Decidable p] {A B : Prop} (h1 : p → A) (h2 : ¬ p → B) : if decide p = true then A else B := by
  by_cases h : p
  · rw [decide_eq_true h]; exact iteT (h1 h)
  · rw [decide_eq_false h]; exact iteF (h2 h)
theorem iteB {b : Bool} {A B : Prop} (h1 : b = true → A) (h2 : b = false → B) : if b = true then A else B := by
  cases b with
  | true => exact iteT (h1 rfl)
  | false => exact iteF (h2 rfl)
theorem boot_min' : bootBuiltins "min" = some (.builtin "min") := by decide +kernel
theorem boot_int' : bootBuiltins "int" = some (.type "int") := by decide +kernel
theorem boot_tuple' : bootBuiltins "tuple" = some (.type "tuple") := by decide +kernel
theorem boot_list' : bootBuiltins "list" = some (.type "list") := by decide +kernel
end L2
namespace L2
open PySem PySem.Spec PyProof.Rows
theorem Inv.big {X : Cx} {pins : List (Addr × Obj)} {σ : St} {H : Hp} {s : Shared} (I : Inv X pins σ H s) : sysModules < s.heap.objs.size := by
  have h : mainGlobals < s.heap.objs.size := (I.mod.glob.keeps I.bk).lt
  exact Nat.lt_trans (by decide) h
end L2
namespace L2
open PySem PySem.Spec PyProof.Rows
section
variable {X : Cx} {e : Expr} {es : List Expr} {t : TA} {p pos : Pos}
theorem pcb_len (hg : Gl X "len") (hm : X.mg "len" = none) (ha : PA X (e :: es) t) (he : starEach (e :: es) X.env = (false, eval e X.env) :: starEach es X.env) (hpl : (backTo pos (starEach es X.env)).any (·.1) = false) :
    PE X (.Call (.Name "len" p) (e :: es) [] pos) (tCB (rLenP X.K) t) := pe_callB call_lenP hg hm PySem.boot_len ha (by decide) (by decide) he hpl
theorem zcb_len (hg : Gl X "len") (hm : X.mg "len" = none) (ha : ZA X (e :: es) t) (he : starEach (e :: es) X.env = (false, eval e X.env) :: starEach es X.env) (hpl : (backTo pos (starEach es X.env)).any (·.1) = false) :
    ZE X (.Call (.Name "len" p) (e :: es) [] pos) (tCB (rLenP X.K) t) := by with_unfolding_all exact pcb_len hg hm ha he hpl
theorem pcb_min (hc : X.calm = true) (hg : Gl X "min") (hm : X.mg "min" = none) (ha : PA X (e :: es) t) (he : starEach (e :: es) X.env = (false, eval e X.env) :: starEach es X.env) (hpl : (backTo pos (starEach es X.env)).any (·.1) = false) :
    PE X (.Call (.Name "min" p) (e :: es) [] pos) (tCB rMinP t) := pe_callB (call_minP hc) hg hm boot_min' ha (by decide) (by decide) he hpl
theorem zcb_min (hc : X.calm = true) (hg : Gl X "min") (hm : X.mg "min" = none) (ha : ZA X (e :: es) t) (he : starEach (e :: es) X.env = (false, eval e X.env) :: starEach es X.env) (hpl : (backTo pos (starEach es X.env)).any (·.1) = false) :
    ZE X (.Call (.Name "min" p) (e :: es) [] pos) (tCB rMinP t) := by with_unfolding_all exact pcb_min hc hg hm ha he hpl
theorem pcb_int (hg : Gl X "int") (hm : X.mg "int" = none) (ha : PA X (e :: es) t) (he : starEach (e :: es) X.env = (false, eval e X.env) :: starEach es X.env) (hpl : (backTo pos (starEach es X.env)).any (·.1) = false) :
    PE X (.Call (.Name "int" p) (e :: es) [] pos) (tCB rIntP t) := pe_callTy call_intP hg hm boot_int' ha (by decide) (by decide) he hpl
theorem zcb_int (hg : Gl X "int") (hm : X.mg "int" = none) (ha : ZA X (e :: es) t) (he : starEach (e :: es) X.env = (false, eval e X.env) :: starEach es X.env) (hpl : (backTo pos (starEach es X.env)).any (·.1) = false) :
    ZE X (.Call (.Name "int" p) (e :: es) [] pos) (tCB rIntP t) := by with_unfolding_all exact pcb_int hg hm ha he hpl
theorem pcb_tuple (hg : Gl X "tuple") (hm : X.mg "tuple" = none) (ha : PA X (e :: es) t) (he : starEach (e :: es) X.env = (false, eval e X.env) :: starEach es X.env) (hpl : (backTo pos (starEach es X.env)).any (·.1) = false) :
    PE X (.Call (.Name "tuple" p) (e :: es) [] pos) (tCB (rTupP X.K) t) := pe_callTy call_tupP hg hm boot_tuple' ha (by decide) (by decide) he hpl
theorem zcb_tuple (hg : Gl X "tuple") (hm : X.mg "tuple" = none) (ha : ZA X (e :: es) t) (he : starEach (e :: es) X.env = (false, eval e X.env) :: starEach es X.env) (hpl : (backTo pos (starEach es X.env)).any (·.1) = false) :
    ZE X (.Call (.Name "tuple" p) (e :: es) [] pos) (tCB (rTupP X.K) t) := by with_unfolding_all exact pcb_tuple hg hm ha he hpl
theorem pcb_list (hg : Gl X "list") (hm : X.mg "list" = none) (ha : PA X (e :: es) t) (he : starEach (e :: es) X.env = (false, eval e X.env) :: starEach es X.env) (hpl : (backTo pos (starEach es X.env)).any (·.1) = false) :
    PE X (.Call (.Name "list" p) (e :: es) [] pos) (tCB (rLstP X.K) t) := pe_callTy call_lstP hg hm boot_list' ha (by decide) (by decide) he hpl
theorem zcb_list (hg : Gl X "list") (hm : X.mg "list" = none) (ha : ZA X (e :: es) t) (he : starEach (e :: es) X.env = (false, eval e X.env) :: starEach es X.env) (hpl : (backTo pos (starEach es X.env)).any (·.1) = false) :
    ZE X (.Call (.Name "list" p) (e :: es) [] pos) (tCB (rLstP X.K) t) := by with_unfolding_all exact pcb_list hg hm ha he hpl
end
end L2
set_option Elab.async false
set_option linter.all false
set_option maxRecDepth 100000
set_option maxHeartbeats 4000000
namespace L2
open PySem PySem.Spec PyProof.Rows
end L2
set_option Elab.async false
set_option linter.all false
set_option maxRecDepth 100000
set_option maxHeartbeats 4000000
namespace L2
open PySem PySem.Spec PyProof.Rows
section
variable {X : Cx}
theorem Inv.moved {wr : List Addr} {pins : List (Addr × Obj)} {σ : St} {H : Hp} {s s' : Shared} {h2 : Heap} {t2 : Nat} (I : Inv X pins σ H s) (m : Moved wr (fun a b => b = a) { s with heap := h2, toks := t2 } s') (hk : ∀ b o, s.heap.get? b = some o → b ∉ wr ∧ h2.get? b = some o) : Inv X pins σ H s' := by
  have e : s' = { s with heap := s'.heap, toks := s'.toks } := by
    obtain ⟨_, h2, h3, h4, _⟩ := m
    cases s'
    simp only at h2 h3 h4
    subst h2 h3 h4
    rfl
  rw [e]
  exact I.kept fun b o q => m.heap b o (hk b o q).1 (hk b o q).2
noncomputable def rSumP (K : PySem.W.Frag) : List V → Hp → VK → Prop := fun xs H Q => match xs with
  | [.ref p] => ∃ ns : List Int, (SqL K H p (ns.map V.int) ∨ H p = some (.tup (ns.map V.int))) ∧ Q (.int ns.sum) H
  | _ => False
theorem preSum_ext {f g : Nat → Int} : ∀ n, (∀ i, i < n → f i = g i) → preSum f n = preSum g n
  | 0, _ => rfl
  | n + 1, h => by
    show preSum f n + f n = preSum g n + g n
    rw [preSum_ext n fun i hi => h i (by omega), h n (by omega)]
theorem preSum_succ (f : Nat → Int) : ∀ n, preSum f (n + 1) = f 0 + preSum (fun i => f (i + 1)) n
  | 0 => by show (0 : Int) + f 0 = f 0 + 0; omega
  | n + 1 => by
    show preSum f (n + 1) + f (n + 1) = f 0 + (preSum (fun i => f (i + 1)) n + f (n + 1))
    rw [preSum_succ f n]; omega
theorem preSum_list : ∀ ns : List Int, preSum (fun i => ns.getD i 0) ns.length = ns.sum
  | [] => rfl
  | n :: r => by
    rw [List.length_cons, preSum_succ, List.sum_cons]
    have e : preSum (fun i => (n :: r).getD (i + 1) 0) r.length = preSum (fun i => r.getD i 0) r.length := preSum_ext _ fun i _ => by simp
    rw [e, preSum_list r]
    rfl
theorem ints_at {ns : List Int} {its : List Value} (rv : Vals (ns.map V.int) its) {i : Nat} {v : Value} (h : its.toArray[i]? = some v) : ∃ t, v = .int (ns.getD i 0) t := by
  have h' : its[i]? = some v := by simpa using h
  have hl : its.length = ns.length := by rw [← rv.length, List.length_map]
  have hi : i < ns.length := by rw [← hl]; exact (List.getElem?_eq_some_iff.mp h').1
  obtain ⟨w', e1, t, e2⟩ := rv.get (i := i) (x := .int ns[i]) (by rw [List.getElem?_map, List.getElem?_eq_getElem hi]; rfl)
  rw [h'] at e1
  cases e1
  refine ⟨t, ?_⟩
  rw [e2, List.getD_eq_getElem?_getD, List.getElem?_eq_getElem hi]
  rfl
theorem call_sumP (hc : X.calm = true) : CallR X (.builtin "sum") (rSumP X.K) := by
  intro pins s σ H xs us Q I r h
  unfold rSumP at h
  split at h
  · rename_i p
    obtain ⟨ns, hq, q⟩ := h
    obtain ⟨u, rfl, rx⟩ := vals1 r
    cases rx
    have hh : X.A.in1.handled = none := I.ok.hd hc
    rcases hq with hq | hq
    · obtain ⟨its, rv, pl, hz⟩ := I.list hq
      have hlt : p < s.heap.objs.size := by
        obtain ⟨_, e, _⟩ := pl.isList
        exact Heap.lt_size e
      refine call_sum_walkAnyS (wpAny_pyIter_list pl.isList ?_)
      refine ⟨s.heap.objs.size, _, _, _, _, _, _, fun i => ns.getD i 0, rfl, (Walks.list hh s.heap.objs.size p (Nat.ne_of_lt hlt) its.toArray).toS, ⟨⟨_, Heap.get?_push_size _ rfl, rfl, rfl⟩, pl.isList.push _⟩, ?_, fun i v hv => ints_at rv hv, fun s' t' m => ?_⟩
      · intro b hb
        rw [Heap.size_push]
        rcases List.mem_cons.mp hb with rfl | hb
        · exact Nat.lt_succ_self _
        · rcases List.mem_cons.mp hb with rfl | hb
          · exact Nat.lt_succ_of_lt hlt
          · cases hb
      · have I1 : Inv X pins σ H s' := I.moved m fun b o e => ⟨by simpa using Nat.ne_of_lt (Heap.lt_size e), Heap.get?_push_of_some _ e⟩
        refine ⟨.int _, H, I1, ⟨t', rfl⟩, ?_⟩
        rw [List.size_toArray, ← rv.length, List.length_map, preSum_list]
        exact q
    · obtain ⟨its, rv, pl, hz⟩ := I.tuple (SqT.of hq)
      have hlt : p < s.heap.objs.size := pl.lt
      refine call_sum_walkAnyS (wpAny_pyIter_tuple (show s.heap.IsTuple p its.toArray from pl) ?_)
      refine ⟨s.heap.objs.size, _, _, _, _, _, _, fun i => ns.getD i 0, rfl, (Walks.tuple hh s.heap.objs.size p (Nat.ne_of_lt hlt) its.toArray).toS, ⟨⟨_, Heap.get?_push_size _ rfl, rfl, rfl⟩, ?_⟩, ?_, fun i v hv => ints_at rv hv, fun s' t' m => ?_⟩
      · exact IsTup.keeps pl fun b o e => Heap.get?_push_of_some _ e
      · intro b hb
        rw [Heap.size_push]
        rcases List.mem_cons.mp hb with rfl | hb
        · exact Nat.lt_succ_self _
        · rcases List.mem_cons.mp hb with rfl | hb
          · exact Nat.lt_succ_of_lt hlt
          · cases hb
      · have I1 : Inv X pins σ H s' := I.moved m fun b o e => ⟨by simpa using Nat.ne_of_lt (Heap.lt_size e), Heap.get?_push_of_some _ e⟩
        refine ⟨.int _, H, I1, ⟨t', rfl⟩, ?_⟩
        rw [List.size_toArray, ← rv.length, List.length_map, preSum_list]
        exact q
  · exact h.elim
theorem noFill_tuple_mul : fillsNumberSlot (.type "tuple") "mul" = pure false :=
  PySem.fillsNumberSlot_seq (id := "tuple.__mul__") (r := some (.builtin "tuple.__rmul__")) F.slot_tuple_mul.lookup (by decide +kernel) F.slot_tuple_rmul.lookup (by decide +kernel)
theorem repeat_tuple : seqRepeat? (.type "tuple") = pure (some (.builtin "tuple.__mul__")) := by
  unfold seqRepeat?
  rw [PySem.seqSlot_of (T := "tuple") (name := "__mul__") (id := "tuple.__mul__") F.slot_tuple_mul.lookup (by decide +kernel), PySem.seqSlot_of (T := "tuple") (name := "__rmul__") (id := "tuple.__rmul__") F.slot_tuple_rmul.lookup (by decide +kernel)]
  rfl

theorem int_rmul_tuple (a : Int) (t : Tok) (l : Addr) (items : Array Value) (n : Nat) :
    Meets (Builtin.«int.__rmul__» ⟨[.int a t, .ref l], []⟩) (fun _ R s => s.heap.get? l = some { cls := .type "tuple", dict := none, data := .seq items n, slots := #[] } ∧ R (.ok (.ret Value.notImplemented)) s) :=
  .of_wp fun prog w A R s h => by obtain ⟨hp, g, d, tk, os⟩ := s; obtain ⟨hl, h⟩ := h; wp_walk; exact ⟨_, rfl, h⟩
theorem tuple_mul_same (l : Addr) (items : Array Value) (n : Nat) (x : Int) (u : Tok) (h1 : (decide (x < -(2 ^ 63)) || decide (x ≥ 2 ^ 63)) = false) (h2 : (items.isEmpty || x == 1) = true) :
    Meets (Builtin.«tuple.__mul__» ⟨[.ref l, .int x u], []⟩) (fun _ R s => s.heap.get? l = some { cls := .type "tuple", dict := none, data := .seq items n, slots := #[] } ∧ R (.ok (.ret (.ref l))) s) :=
  .of_wp fun prog w A R s h => by
    obtain ⟨hp, g, d, tk, os⟩ := s; obtain ⟨hl, h⟩ := h
    wp_walk; refine wpAny_ite_false (by rw [h1]; rfl) ?_; wp_walk; exact ⟨_, rfl, h⟩
theorem tuple_mul_none (l : Addr) (items : Array Value) (n : Nat) (x : Int) (u : Tok) (h1 : (decide (x < -(2 ^ 63)) || decide (x ≥ 2 ^ 63)) = false) (h2 : (items.isEmpty || x == 1) = false) (h3 : (decide (x ≤ 0) || items.isEmpty) = true) :
    Meets (Builtin.«tuple.__mul__» ⟨[.ref l, .int x u], []⟩) (fun _ R s => s.heap.get? l = some { cls := .type "tuple", dict := none, data := .seq items n, slots := #[] } ∧ R (.ok (.ret (.ref s.heap.objs.size))) { s with heap := s.heap.push { cls := .type "tuple", data := .seq #[] } }) :=
  .of_wp fun prog w A R s h => by
    obtain ⟨hp, g, d, tk, os⟩ := s; obtain ⟨hl, h⟩ := h
    wp_walk; refine wpAny_ite_false (by rw [h1]; rfl) ?_; wp_walk; exact ⟨_, rfl, h⟩
theorem tuple_mul_many (l : Addr) (items : Array Value) (n : Nat) (x : Int) (u : Tok) (h1 : (decide (x < -(2 ^ 63)) || decide (x ≥ 2 ^ 63)) = false) (h2 : (items.isEmpty || x == 1) = false) (h3 : (decide (x ≤ 0) || items.isEmpty) = false) (h4 : decide ((items.size : Int) * x > (2 ^ 63 - 1) / 8) = false) (h5 : Builtin.Tuple.tupleTooMany ((items.size : Int) * x) = false) (hz : ((List.replicate x.toNat items).foldl (· ++ ·) #[]).size ≤ sizeLine) :
    Meets (Builtin.«tuple.__mul__» ⟨[.ref l, .int x u], []⟩) (fun _ R s => s.heap.get? l = some { cls := .type "tuple", dict := none, data := .seq items n, slots := #[] } ∧ R (.ok (.ret (.ref s.heap.objs.size))) { s with heap := s.heap.push { cls := .type "tuple", data := .seq ((List.replicate x.toNat items).foldl (· ++ ·) #[]) } }) :=
  .of_wp fun prog w A R s h => by
    obtain ⟨hp, g, d, tk, os⟩ := s; obtain ⟨hl, h⟩ := h
    wp_walk; refine wpAny_ite_false (by rw [h1]; rfl) ?_; wp_walk; refine wpAny_ite_false h4 ?_; wp_walk; exact ⟨_, rfl, h⟩
end
end L2
set_option Elab.async false
set_option linter.all false
set_option maxRecDepth 100000
set_option maxHeartbeats 4000000
namespace L2
open PySem PySem.Spec PyProof.Rows
section
variable {X : Cx}
noncomputable def rMulQ : R2 := fun x y H Q => match x, y with
  | .int i, .int j => IntMulOk i j ∧ Q (.int (i * j)) H
  | .ref a, .int k => (-(2 ^ 63) ≤ k ∧ k < 2 ^ 63) ∧ ((∃ xs, H a = some (.lst xs) ∧ xs.length * k.toNat ≤ sizeLine ∧ ∀ p, H p = none → Q (.ref p) (upd H p (.lst (List.replicate k.toNat xs).flatten))) ∨
      ∃ xs, H a = some (.tup xs) ∧ xs.length * k.toNat ≤ sizeLine ∧ ∀ r H', Same H H' → H' r = some (.tup (List.replicate k.toNat xs).flatten) → Q (.ref r) H')
  | _, _ => False
theorem op_mulQ : OpR X (binaryOp .Mult) rMulQ := by
  intro pins s σ H x y v u Q I rx ry h
  unfold rMulQ at h
  split at h
  · exact op_mulB pins s σ H _ _ v u Q I rx ry ⟨_, _, rfl, rfl, h⟩
  · obtain ⟨⟨hk1, hk2⟩, ⟨xs, h1, h4, q⟩ | ⟨xs, hH, hz, q⟩⟩ := h
    · exact op_rep pins s σ H _ _ v u Q I rx ry ⟨_, _, xs, rfl, rfl, h1, hk1, hk2, h4, q⟩
    rename_i l k
    cases rx
    obtain ⟨t, rfl⟩ := ry
    obtain ⟨z, its, r, n, e⟩ := I.hok l _ hH
    have hl : its.length = xs.length := r.length.symm
    have hemp : its.toArray.isEmpty = xs.isEmpty := by
      cases r <;> rfl
    have g1 : (decide (k < -(2 ^ 63)) || decide (k ≥ 2 ^ 63)) = false := by
      rw [Bool.or_eq_false_iff]
      exact ⟨decide_eq_false (by omega), decide_eq_false (by omega)⟩
    refine wpAny_binaryOp_repeat_ref (T := "tuple") (U := "int") (by decide) ⟨_, e, rfl⟩ (fun s' => typeIs_int s' k t) noFill_tuple_mul F.fills_int_mul F.slot_int_rmul repeat_tuple F.slot_int_index.lookup
      (call_meets F.slot_int_rmul (typeIs_int s k t) F.entry_int_rmul (F.args_int_rmul_2 _ _) (int_rmul_tuple k t l its.toArray n) ⟨e, rfl, ⟨_, e, rfl⟩, ?_⟩)
    by_cases c1 : (its.toArray.isEmpty || k == 1) = true
    · refine call_meets F.slot_tuple_mul ⟨_, e, rfl⟩ F.entry_tuple_mul (F.args_tuple_mul_2 _ _) (tuple_mul_same l its.toArray n k t g1 c1) ⟨e, ?_⟩
      refine ⟨.ref l, H, I, rfl, q l H (Same.refl H) ?_⟩
      rw [hH]
      rw [Bool.or_eq_true] at c1
      rcases c1 with c1 | c1
      · rw [hemp, List.isEmpty_iff] at c1
        subst c1
        have : (List.replicate k.toNat ([] : List V)).flatten = [] := by
          induction k.toNat with
          | zero => rfl
          | succ m ih => rw [List.replicate_succ, List.flatten_cons, ih]; rfl
        rw [this]
      · have : k = 1 := by simpa using c1
        subst this
        show some (HO.tup xs) = some (.tup (List.replicate 1 xs).flatten)
        simp
    · have c1' : (its.toArray.isEmpty || k == 1) = false := by simpa using c1
      have he : its.toArray.isEmpty = false := (Bool.or_eq_false_iff.mp c1').1
      by_cases c2 : k ≤ 0
      · refine call_meets F.slot_tuple_mul ⟨_, e, rfl⟩ F.entry_tuple_mul (F.args_tuple_mul_2 _ _) (tuple_mul_none l its.toArray n k t g1 c1' (by rw [decide_eq_true c2]; rfl)) ⟨e, ?_⟩
        have e0 : (List.replicate k.toNat xs).flatten = [] := by
          have : k.toNat = 0 := by omega
          rw [this]; rfl
        have I2 : Inv X pins σ (upd H s.heap.objs.size (.tup [])) { s with heap := s.heap.push { cls := .type "tuple", data := .seq #[] } } :=
          I.laid (t' := s.toks) (o := .tup []) (fun b ob q => Heap.get?_push_of_some _ q) (Nat.le_refl _) ⟨Nat.zero_le _, [], .nil, TupD.new _ _⟩
        exact ⟨.ref s.heap.objs.size, _, I2, rfl, q _ _ (Same.new (I.hok.fresh (Nat.le_refl _)) _) (by rw [e0]; exact upd_same)⟩
      · have hcast : (its.toArray.size : Int) * k = ((xs.length * k.toNat : Nat) : Int) := by
          rw [List.size_toArray, hl]
          have : k = (k.toNat : Int) := by omega
          conv => lhs; rw [this]
          norm_cast
        have hb : (sizeLine : Nat) ≤ (2 ^ 63 - 1) / 8 := by decide
        have g4 : decide ((its.toArray.size : Int) * k > (2 ^ 63 - 1) / 8) = false := by
          refine decide_eq_false ?_
          rw [hcast]
          omega
        have g5 : Builtin.Tuple.tupleTooMany ((its.toArray.size : Int) * k) = false := by
          unfold Builtin.Tuple.tupleTooMany
          rw [hcast]
          exact decide_eq_false (by omega)
        have f0 : List.foldl (fun x1 x2 => x1 ++ x2) #[] (List.replicate k.toNat its.toArray) = (List.replicate k.toNat its).flatten.toArray := by
          have := foldl_rep its k.toNat []
          rw [List.nil_append] at this
          exact this
        refine call_meets F.slot_tuple_mul ⟨_, e, rfl⟩ F.entry_tuple_mul (F.args_tuple_mul_2 _ _) (tuple_mul_many l its.toArray n k t g1 c1' (by rw [decide_eq_false c2, he]; rfl) g4 g5 (by rw [f0, List.size_toArray, len_rep, hl, Nat.mul_comm]; exact hz)) ⟨e, ?_⟩
        rw [f0]
        have I2 : Inv X pins σ (upd H s.heap.objs.size (.tup (List.replicate k.toNat xs).flatten)) { s with heap := s.heap.push { cls := .type "tuple", data := .seq (List.replicate k.toNat its).flatten.toArray } } :=
          I.laid (t' := s.toks) (o := .tup (List.replicate k.toNat xs).flatten) (fun b ob q => Heap.get?_push_of_some _ q) (Nat.le_refl _) ⟨by rw [len_rep, Nat.mul_comm]; exact hz, _, r.rep k.toNat, TupD.new _ _⟩
        exact ⟨.ref s.heap.objs.size, _, I2, rfl, q _ _ (Same.new (I.hok.fresh (Nat.le_refl _)) _) upd_same⟩
  · exact h.elim
noncomputable def Itrs (lo c : Int) (n : Nat) : It := ⟨fun i _ => i < n, fun i H x H' => H' = H ∧ x = .int (lo + i * c), fun i _ => n ≤ i⟩
theorem turn_rangeS {P : Program} {w : World} {K : PySem.W.Frag} {tg : Expr} (it : Addr) (lo c : Int) (n : Nat) : Turn P w K tg (Itrs lo c n) [it] it (fun i h => IsRangeIter h it (lo + (i : Nat) * c) ((n : Int) - (i : Nat)) c) where
  mem := by simp
  obj := fun i h st b hb => by
    have e : b = it := by simpa using hb
    subst e
    exact ⟨_, st, fun v z => by
      have z' : Data.fields _ = Data.cell v := z
      cases z'⟩
  keep := fun i h h' st k => k it (by simp) _ st
  item := by
    intro X hP hw hK hc i pins s σ H E I hf st hg
    subst hP hw hK
    obtain ⟨f0, f1, f2, f3, f4, f5⟩ := hf it (by simp)
    have W := Walks.range (prog := X.prog) (w := X.w) (I.ok.hd hc) it lo c n
    refine W.item i s _ _ hg st fun v h' tk hv st' kk => ?_
    obtain ⟨t, rfl⟩ := hv
    have I1 : Inv X pins σ H { s with heap := h', toks := tk } := I.turned (fun b o hb e => kk b o (by simpa using hb) e) f0 f1 f3 f4 f5
    exact ⟨_, rfl, go_of (s := { s with heap := h', toks := tk }) (n := "range_iterator") st' rfl rfl (by decide) ⟨.int (lo + i * c), H, I1, ⟨t, rfl⟩, ⟨rfl, rfl⟩, st', fun b hb => (hf b hb).1⟩⟩
  done := by
    intro X hP hw hK hc i pins s σ H E I hf st hg
    subst hP hw hK
    obtain ⟨f0, f1, f2, f3, f4, f5⟩ := hf it (by simp)
    exact wpAny_pyNext_range_end (I.ok.hd hc) st (by have : n ≤ i := hg; omega) fun h' eb => ⟨rfl, I.turned (t' := s.toks) (fun b o hb e => eb b o hb e) f0 f1 f3 f4 f5⟩
  self := fun _ _ _ _ _ st h => wpAny_pyIter_rangeiter st h
theorem size_nonneg {a b c : Int} (hc : c ≠ 0) : 0 ≤ Builtin.Range.rangeSize a b c := by
  unfold Builtin.Range.rangeSize
  split
  · split
    · have := Int.ediv_nonneg (a := b - a - 1) (b := c) (by omega) (by omega); omega
    · omega
  · split
    · have := Int.ediv_nonneg (a := a - b - 1) (b := -c) (by omega) (by omega); omega
    · omega
noncomputable def iRng3 {tg : Expr} (ta : TA) : TI := fun σ H R => ta σ H fun vs H1 => ∃ i j c : Int, vs = [.int i, .int j, .int c] ∧ (c ≠ 0 ∧ (c < 2 ^ 29 ∧ -(2 ^ 29) < c) ∧ Builtin.Range.small i j c = true) ∧ R (Itrs i c (Builtin.Range.rangeSize i j c).toNat) H1
theorem pi_range3 {tg : Expr} {a b d : Expr} {ta : TA} {p pos : Pos} (hg : Gl X "range") (hm : X.mg "range" = none) (ha : PA X [a, b, d] ta) (hs : starEach [a, b, d] X.env = [(false, eval a X.env), (false, eval b X.env), (false, eval d X.env)] := by rfl) (hs2 : starEach [b, d] X.env = [(false, eval b X.env), (false, eval d X.env)] := by rfl) :
    PI X tg (.Call (.Name "range" p) [a, b, d] [] pos) (iRng3 (tg := tg) ta) := by
  intro pins s σ H R I h
  refine Call_ (ld_blt I hg hm boot_range (PyProof.Rows.callWith_type1 (thn (ha pos pins s σ H _ I h) fun us s1 ⟨vs, H1, I1, r1, q1⟩ => ?_) (by rw [hs, hs2]) (by rw [hs2]; rfl)))
  obtain ⟨i, j, c, e, ⟨hc0, ⟨hcb, hcb2⟩, hsm⟩, q⟩ := q1
  subst e
  cases r1 with
  | cons r rr =>
    cases rr with
    | cons r' rr =>
      cases rr with
      | cons r'' rr =>
        cases rr
        obtain ⟨t, rfl⟩ := r
        obtain ⟨t', rfl⟩ := r'
        obtain ⟨t'', rfl⟩ := r''
        refine PySem.call_range_3 hc0 ?_ (Or.inl (PyProof.noPylong_small (by omega)))
        refine wpAny_pyIter_range (IsRange.new ..) hsm ?_
        have I2 : Inv X pins σ H1 { s1 with heap := s1.heap.push { cls := .type "range", data := .fields #[.int i t, .int j t', .int c t''] } } := I1.kept (t' := s1.toks) fun b o e => Heap.get?_push_of_some _ e
        refine ⟨(s1.heap.push { cls := .type "range", data := .fields #[.int i t, .int j t', .int c t''] }).objs.size, [(s1.heap.push { cls := .type "range", data := .fields #[.int i t, .int j t', .int c t''] }).objs.size], _, _, H1, rfl,
          I2.kept (t' := s1.toks) fun b o e => Heap.get?_push_of_some _ e, turn_rangeS _ i c (Builtin.Range.rangeSize i j c).toNat, ?_, fun b hb => ?_, q⟩
        · have e1 : i + ((0 : Nat) : Int) * c = i := by simp
          have e2 : (((Builtin.Range.rangeSize i j c).toNat : Nat) : Int) - ((0 : Nat) : Int) = Builtin.Range.rangeSize i j c := by have := size_nonneg (a := i) (b := j) hc0; omega
          show IsRangeIter _ _ (i + ((0 : Nat) : Int) * c) ((((Builtin.Range.rangeSize i j c).toNat : Nat) : Int) - ((0 : Nat) : Int)) c
          rw [e1, e2]
          exact Heap.get?_push_size _ rfl
        · have e : b = (s1.heap.push { cls := .type "range", data := .fields #[.int i t, .int j t', .int c t''] }).objs.size := by simpa using hb
          subst e
          exact I2.fpOk (Nat.le_refl _) (I2.hok.fresh (Nat.le_refl _))
theorem zi_range3 {tg : Expr} {a b d : Expr} {ta : TA} {p pos : Pos} (hg : Gl X "range") (hm : X.mg "range" = none) (ha : ZA X [a, b, d] ta) (hs : starEach [a, b, d] X.env = [(false, eval a X.env), (false, eval b X.env), (false, eval d X.env)] := by rfl) (hs2 : starEach [b, d] X.env = [(false, eval b X.env), (false, eval d X.env)] := by rfl) :
    ZI X tg (.Call (.Name "range" p) [a, b, d] [] pos) (iRng3 (tg := tg) ta) := by with_unfolding_all exact pi_range3 hg hm ha hs hs2
theorem for_rangeS {lo c : Int} {n : Nat} {g : TG} {tb : TS} {D : Ends} {σ : St} {H : Hp} (Pv : Nat → St → Hp → Prop) (h0 : Pv 0 σ H)
    (hs : ∀ i σ H, i < n → Pv i σ H → g (.int (lo + i * c)) σ H fun σ2 H2 => tb { D with nx := Pv (i + 1), ct := Pv (i + 1), bk := D.nx } σ2 H2) (hd : ∀ σ H, Pv n σ H → D.nx σ H) :
    ∃ W : Nat → Nat → St → Hp → Prop, (∃ m, W 0 m σ H) ∧ ∀ i m σ H, W i m σ H →
      ((Itrs lo c n).stop i H ∧ D.nx σ H) ∨ ((Itrs lo c n).go i H ∧ ∃ N : St → Hp → Prop, (∀ σ' H', N σ' H' → ∃ m', m' < m ∧ W (i + 1) m' σ' H') ∧ ∀ x H', (Itrs lo c n).yld i H x H' → g x σ H' fun σ2 H2 => tb { D with nx := N, ct := N, bk := D.nx } σ2 H2) := by
  refine ⟨fun i m σ H => m = n - i ∧ i ≤ n ∧ Pv i σ H, ⟨n, by simp, Nat.zero_le _, h0⟩, ?_⟩
  rintro i m σ H ⟨rfl, hi, p⟩
  by_cases hlt : i < n
  · refine .inr ⟨hlt, Pv (i + 1), fun σ' H' p' => ⟨n - (i + 1), by omega, rfl, hlt, p'⟩, fun x H' y => ?_⟩
    obtain ⟨e, y⟩ := y
    subst e y
    exact hs i σ _ hlt p
  · have e : i = n := by omega
    subst e
    exact .inl ⟨Nat.le_refl _, hd σ H p⟩
theorem size_down {a b : Int} : (Builtin.Range.rangeSize a b (-1)).toNat = (a - b).toNat := by
  unfold Builtin.Range.rangeSize
  rw [if_neg (by decide)]
  split
  · have : (- -1 : Int) = 1 := by decide
    rw [this, Int.ediv_one]; omega
  · omega
theorem small_down {a b : Int} (ha : -(2 ^ 62) ≤ a) (ha' : a < 2 ^ 62) (hb : -(2 ^ 62) ≤ b) (hb' : b < 2 ^ 62) : Builtin.Range.small a b (-1) = true := by
  have e : Builtin.Range.rangeSize a b (-1) = if a > b then a - b else 0 := by
    unfold Builtin.Range.rangeSize
    rw [if_neg (by decide)]
    have : (- -1 : Int) = 1 := by decide
    rw [this]
    split
    · rw [Int.ediv_one]; omega
    · rfl
  unfold Builtin.Range.small
  rw [e]
  simp only [Builtin.Range.rangeFitsLong, Bool.and_eq_true, Bool.or_eq_true, decide_eq_true_eq, beq_iff_eq, show ¬ ((-1 : Int) > 0) by decide, if_false]
  split <;> omega
end
section
variable {X : Cx} {e : Expr} {es : List Expr} {t : TA} {p pos : Pos}
theorem boot_sum' : bootBuiltins "sum" = some (.builtin "sum") := by decide +kernel
theorem boot_abs' : bootBuiltins "abs" = some (.builtin "abs") := by decide +kernel
theorem pcb_sum (hc : X.calm = true) (hg : Gl X "sum") (hm : X.mg "sum" = none) (ha : PA X (e :: es) t) (he : starEach (e :: es) X.env = (false, eval e X.env) :: starEach es X.env) (hpl : (backTo pos (starEach es X.env)).any (·.1) = false) :
    PE X (.Call (.Name "sum" p) (e :: es) [] pos) (tCB (rSumP X.K) t) := pe_callB (call_sumP hc) hg hm boot_sum' ha (by decide) (by decide) he hpl
theorem zcb_sum (hc : X.calm = true) (hg : Gl X "sum") (hm : X.mg "sum" = none) (ha : ZA X (e :: es) t) (he : starEach (e :: es) X.env = (false, eval e X.env) :: starEach es X.env) (hpl : (backTo pos (starEach es X.env)).any (·.1) = false) :
    ZE X (.Call (.Name "sum" p) (e :: es) [] pos) (tCB (rSumP X.K) t) := by with_unfolding_all exact pcb_sum hc hg hm ha he hpl
noncomputable def rAbsP : List V → Hp → VK → Prop := fun xs H Q => match xs with
  | [.int i] => Q (.int (if i < 0 then -i else i)) H
  | _ => False
theorem call_absP : CallR X (.builtin "abs") rAbsP := call_abs.imp fun xs H Q h => by
  unfold rAbsP at h
  split at h
  · exact ⟨_, rfl, h⟩
  · exact h.elim
theorem pcb_abs (hg : Gl X "abs") (hm : X.mg "abs" = none) (ha : PA X (e :: es) t) (he : starEach (e :: es) X.env = (false, eval e X.env) :: starEach es X.env) (hpl : (backTo pos (starEach es X.env)).any (·.1) = false) :
    PE X (.Call (.Name "abs" p) (e :: es) [] pos) (tCB rAbsP t) := pe_callB call_absP hg hm boot_abs' ha (by decide) (by decide) he hpl
noncomputable def rAppP : V → List V → Hp → VK → Prop := fun x vs H Q => match x, vs with
  | .ref l, [y] => ∃ xs, H l = some (.lst xs) ∧ xs.length < sizeLine ∧ Q .non (upd H l (.lst (xs ++ [y])))
  | _, _ => False
theorem mt_appP : MtM X "list.append" rAppP := fun pins s σ H x vs v us Q I rx rv h => by
  unfold rAppP at h
  split at h
  · obtain ⟨xs, h1, h2, q⟩ := h
    exact mt_append pins s σ H _ _ v us Q I rx rv ⟨_, xs, _, rfl, rfl, h1, h2, q⟩
  · exact h.elim
variable {o : Expr} {to : TE} {apos cpos : Pos}
theorem pm_append (ho : PE X o to) (ha : PA X (e :: es) t) (hbase : attributeBase o "append" X.env (eval o X.env) = eval o X.env := by rfl)
    (hfew : ((backTo cpos (starEach (e :: es) X.env)).all (fun x => !x.1) && (backToKw cpos (keywordEach [] X.env)).all (fun x => x.1.isSome)
      && decide ((e :: es).length + ([] : List Keyword).length + (if ([] : List Keyword).isEmpty then 0 else 1) < 30)) = true := by rfl)
    (hline : (apos.endLine == cpos.line) = true := by rfl) (hs : starEach (e :: es) X.env = (false, eval e X.env) :: starEach es X.env := by rfl) (hplain : (backTo cpos (starEach es X.env)).any (·.1) = false := by rfl) :
    PE X (.Call (.Attribute o "append" apos) (e :: es) [] cpos) (fun σ H Q => to σ H fun x H1 => tyV X.K "list" x H1 ∧ t σ H1 fun xs H2 => rAppP x xs H2 Q) :=
  pe_bm PySem.F.plainAttrs_list PySem.F.slot_list_append PySem.F.type_list_append mt_appP ho ha hbase hfew hline hs hplain
theorem zm_append (ho : ZE X o to) (ha : ZA X (e :: es) t) (hbase : attributeBase o "append" X.env (eval o X.env) = eval o X.env := by rfl)
    (hfew : ((backTo cpos (starEach (e :: es) X.env)).all (fun x => !x.1) && (backToKw cpos (keywordEach [] X.env)).all (fun x => x.1.isSome)
      && decide ((e :: es).length + ([] : List Keyword).length + (if ([] : List Keyword).isEmpty then 0 else 1) < 30)) = true := by rfl)
    (hline : (apos.endLine == cpos.line) = true := by rfl) (hs : starEach (e :: es) X.env = (false, eval e X.env) :: starEach es X.env := by rfl) (hplain : (backTo cpos (starEach es X.env)).any (·.1) = false := by rfl) :
    ZE X (.Call (.Attribute o "append" apos) (e :: es) [] cpos) (fun σ H Q => to σ H fun x H1 => tyV X.K "list" x H1 ∧ t σ H1 fun xs H2 => rAppP x xs H2 Q) := by with_unfolding_all exact pm_append ho ha hbase hfew hline hs hplain
theorem tyL {K : PySem.W.Frag} {H : Hp} {l : Addr} {xs : List V} (h : H l = some (.lst xs)) : tyV K "list" (.ref l) H := .inl ⟨rfl, xs, SqL.of h⟩
end
end L2
set_option Elab.async false
set_option linter.all false
set_option maxRecDepth 100000
set_option maxHeartbeats 4000000
namespace L2
open PySem PySem.Spec PyProof.Rows
theorem DatV.ints {H : Hp} {a : Addr} {ns : List Int} (e : H a = some (.tup (ns.map V.int))) : DatV H (.ref a) (.tuple (ns.map PyData.int)) := .tup e (DatAll.ints ns)
noncomputable def PrAt (H : Hp) (v : V) (p : Int × Int) : Prop := ∃ b, v = .ref b ∧ H b = some (.tup [.int p.1, .int p.2])
inductive Prs (H : Hp) : List V → List (Int × Int) → Prop where
  | nil : Prs H [] []
  | cons {v p vs ps} : PrAt H v p → Prs H vs ps → Prs H (v :: vs) (p :: ps)
theorem Prs.same {H H' : Hp} (y : Same H H') : ∀ {vs ps}, Prs H vs ps → Prs H' vs ps
  | _, _, .nil => .nil
  | _, _, .cons ⟨b, e, h⟩ r => .cons ⟨b, e, y _ _ h⟩ (Prs.same y r)
theorem Prs.length {H : Hp} : ∀ {vs ps}, Prs H vs ps → vs.length = ps.length
  | _, _, .nil => rfl
  | _, _, .cons _ r => by rw [List.length_cons, List.length_cons, Prs.length r]
theorem Prs.snoc {H : Hp} {v : V} {p : Int × Int} (h : PrAt H v p) : ∀ {vs ps}, Prs H vs ps → Prs H (vs ++ [v]) (ps ++ [p])
  | _, _, .nil => .cons h .nil
  | _, _, .cons q r => .cons q (Prs.snoc h r)
theorem Same.updN {H H' : Hp} {t : Addr} {o : HO} (y : Same H H') (h : H t = none) : Same H (upd H' t o) := fun b u e => by
  rw [upd_ne (ne_of_none e h)]
  exact y b u e
theorem Prs.updL {H : Hp} {t : Addr} {xs ys : List V} (h : H t = some (.lst xs)) : ∀ {us ps}, Prs H us ps → Prs (upd H t (.lst ys)) us ps
  | _, _, .nil => .nil
  | _, _, .cons ⟨b, e, hb⟩ r => .cons ⟨b, e, by rw [upd_ne (ne_of hb h (by intro z; cases z))]; exact hb⟩ (Prs.updL h r)
end L2
namespace L2
open PySem PySem.Spec PyProof.Rows
theorem canInts : ∀ ns : List Int, PyData.canLayAll0 (ns.map PyData.int) = true ∧ PyData.depthAll (ns.map PyData.int) ≤ 1
  | [] => ⟨by simp [PyData.canLayAll0], by simp [PyData.depthAll]⟩
  | n :: r => by
    obtain ⟨h1, h2⟩ := canInts r
    refine ⟨by simp only [List.map_cons, PyData.canLayAll0, PyData.canLay0, h1, Bool.and_self], ?_⟩
    simp only [List.map_cons, PyData.depthAll, PyData.depth]
    omega
theorem shaped_ints (ns : List Int) : SeqAt.shaped (.tuple (ns.map PyData.int)) = true := by
  obtain ⟨h1, h2⟩ := canInts ns
  unfold SeqAt.shaped
  rw [Bool.and_eq_true]
  exact ⟨by simp only [PyData.canLay0]; exact h1, decide_eq_true (by simp only [PyData.depth]; omega)⟩
theorem eqv_self {d : PyData} (h : SeqAt.shaped d = true) : PyData.eqv d d = true := SeqAt.eqv_refl d (SeqAt.canLay_of_shaped h)
end L2
namespace L2
open PySem PySem.Spec PyProof.Rows
theorem SqL.same {K : PySem.W.Frag} {H H' : Hp} {a : Addr} {xs : List V} (e : Same H H') (h : SqL K H a xs) : SqL K H' a xs := by
  rcases h with (h | ⟨o, h⟩) | h
  · exact .inl (.inl (e _ _ h))
  · exact .inl (.inr ⟨o, e _ _ h⟩)
  · exact .inr h
end L2
namespace L2
open PySem PySem.Spec PyProof.Rows
theorem while_by2 {c : TT} {tb : TS} {D : Ends} {σ : St} {H : Hp} (Pv : Nat → St → Hp → Prop) (m0 : Nat) (h0 : Pv m0 σ H)
    (hs : ∀ m σ H, Pv m σ H → c σ H fun b H1 => if b = true then ∃ N : St → Hp → Prop, (∀ σ' H', N σ' H' → ∃ m', m' < m ∧ Pv m' σ' H') ∧ tb { D with nx := N, ct := N, bk := D.nx } σ H1 else D.nx σ H1) : tWhile c tb D σ H := ⟨Pv, ⟨m0, h0⟩, hs⟩
end L2
set_option Elab.async false
set_option linter.all false
set_option maxRecDepth 100000
set_option maxHeartbeats 4000000
namespace L2
open PySem PySem.Spec PyProof.Rows
section
variable {X : Cx}
noncomputable def rGetL (K : PySem.W.Frag) : V → V → Hp → VK → Prop := fun x y H Q => match x, y with
  | .ref p, .int i => ∃ xs v, SqL K H p xs ∧ 0 ≤ i ∧ xs[i.toNat]? = some v ∧ Q v H
  | _, _ => False
theorem get_list : PGet X (rGetL X.K) := by
  intro pins s σ H x y v u Q I rx ry h
  unfold rGetL at h
  split at h
  · rename_i p i
    obtain ⟨xs, z, hq, h0, he, q⟩ := h
    cases rx
    obtain ⟨t, rfl⟩ := ry
    obtain ⟨its, r, pl, hz⟩ := I.list hq
    obtain ⟨w, ew, rw'⟩ := r.get he
    have hl := r.length
    have hn := line63
    have hi : i.toNat < its.length := (List.getElem?_eq_some_iff.mp ew).1
    exact wpAny_getItem_list pl.isList h0 (by omega) (by simpa using ew) ⟨z, H, I, rw', q⟩
  · exact h.elim
noncomputable def ipP (f : Int → Int → Int) : TIp := fun x y H Q => match x, y with
  | .int i, .int j => Q (.int (f i j)) H
  | _, _ => False
theorem ipP_I {f : Int → Int → Int} {x y : V} {H : Hp} {Q : VK} (h : ipP f x y H Q) : ipI f x y H Q := by
  unfold ipP at h
  split at h
  · exact ⟨_, _, rfl, rfl, h⟩
  · exact h.elim
theorem ip_addP : PIp X .Add (ipP fun i j => i + j) := fun pins s σ H x y v u Q I r1 r2 h => ip_add pins s σ H x y v u Q I r1 r2 (ipP_I h)
theorem ip_subP : PIp X .Sub (ipP fun i j => i - j) := fun pins s σ H x y v u Q I r1 r2 h => ip_sub pins s σ H x y v u Q I r1 r2 (ipP_I h)
noncomputable def rSetP : V → V → V → Hp → (Hp → Prop) → Prop := fun o i v H Q => match o, i with
  | .ref p, .int k => ∃ xs, H p = some (.lst xs) ∧ 0 ≤ k ∧ k.toNat < xs.length ∧ Q (upd H p (.lst (xs.set k.toNat v)))
  | _, _ => False
theorem set_listP : PSet X rSetP := fun pins s σ H o i v ov iv u Q I r1 r2 r3 h => by
  unfold rSetP at h
  split at h
  · obtain ⟨xs, h1, h2, h3, q⟩ := h
    refine set_list pins s σ H _ _ v ov iv u Q I r1 r2 r3 ⟨_, xs, _, _, rfl, rfl, h1, ?_, q⟩
    unfold ixN
    rw [if_pos h2, if_pos (by omega)]
  · exact h.elim
end
section
variable {X : Cx} {e : Expr} {es : List Expr} {t : TA} {o : Expr} {to : TE} {apos cpos : Pos}
end
end L2
namespace L2
open PySem PySem.Spec PyProof.Rows
end L2
namespace L2
open PySem PySem.Spec PyProof.Rows
section
variable {X : Cx} {e : Expr} {es : List Expr} {t : TA} {p pos : Pos} {K : PySem.W.Frag} {o : Expr} {to : TE} {apos cpos : Pos}
end
end L2
namespace L2
open PySem
noncomputable def forBody : Stmt → List Stmt
  | .For _ _ b _ _ => b
  | .While _ b _ _ => b
  | _ => []
end L2
set_option Elab.async false
set_option linter.all false
set_option maxRecDepth 100000
set_option maxHeartbeats 4000000
namespace L2
open PySem PySem.Spec PyProof.Rows
section
variable {prog : Program} {w : World} {A : Around} {E : Value → Shared → Prop} {s : Shared}
theorem nextOf_tup_item {it t : Addr} {i : Nat} {items : Array Value} {x : Value} {Q : Value → Shared → Prop} (hit : s.heap.IsTupleIter it t i) (ht : s.heap.IsTuple t items) (hx : items[i]? = some x)
    (hQ : ∀ h', h'.IsTupleIter it t (i + 1) → Heap.SameBut it s.heap h' → Q x { s with heap := h' }) : wpAny (model prog w) A (Builtin.SmallTypes.nextOf (.ref it)) Q E s := by
  obtain ⟨ot, h1, c1, d1⟩ := id hit
  obtain ⟨og, h2, c2, n2, d2⟩ := ht
  unfold Builtin.SmallTypes.nextOf
  refine wpAny_bind (wpAny_callSpecial?_slot hit.typeIs F.slot_tuple_iterator_next (wpAny_call_entry F.slot_tuple_iterator_next hit.typeIs F.entry_tuple_iterator_next ?_ (F.args_tuple_iterator_next_1 _)))
  refine wpAny_bind (m := field (.ref it) 0) (wpAny_field h1 d1 (x := .ref t) rfl ?_)
  have hnn : ¬ ((Value.ref t == Value.none) = true) := fun z => Bool.false_ne_true z
  show wpAny _ _ (if (Value.ref t == Value.none) = true then _ else _) _ _ _
  rw [if_neg hnn]
  refine wpAny_bind (m := field (.ref it) 1) (wpAny_field h1 d1 (x := .int i 0) rfl (wpAny_bind (m := seqItems? (.ref t)) (wpAny_seqItems h2 d2 ?_)))
  simp only [Int.toNat_natCast, hx]
  refine wpAny_bind (wpAny_setField h1 d1 (by simp) (wpAny_pure ⟨_, rfl, wpAny_pure (hQ _ ⟨_, Heap.get?_update_self _ h1 (Obj.isFreed_of_fields (Obj.data_mapFields d1 _)), (Obj.cls_mapFields ..).trans c1, ?_⟩ (Heap.SameBut.update ..))⟩))
  rw [Obj.data_mapFields d1]
  simp [rawInt]
theorem nextOf_tup_end {it t : Addr} {i : Nat} {items : Array Value} {Q : Value → Shared → Prop} (hh : A.handled = none) (hit : s.heap.IsTupleIter it t i) (ht : s.heap.IsTuple t items) (hx : items[i]? = none)
    (hE : ∀ h' e, Heap.ExtBut it s.heap h' → (∃ o, h'.get? e = some o ∧ o.cls = .type "StopIteration") → E (.ref e) { s with heap := h' }) : wpAny (model prog w) A (Builtin.SmallTypes.nextOf (.ref it)) Q E s := by
  obtain ⟨ot, h1, c1, d1⟩ := id hit
  obtain ⟨og, h2, c2, n2, d2⟩ := ht
  unfold Builtin.SmallTypes.nextOf
  refine wpAny_bind (wpAny_callSpecial?_slot hit.typeIs F.slot_tuple_iterator_next (wpAny_call_entry F.slot_tuple_iterator_next hit.typeIs F.entry_tuple_iterator_next ?_ (F.args_tuple_iterator_next_1 _)))
  refine wpAny_bind (m := field (.ref it) 0) (wpAny_field h1 d1 (x := .ref t) rfl ?_)
  have hnn : ¬ ((Value.ref t == Value.none) = true) := fun z => Bool.false_ne_true z
  show wpAny _ _ (if (Value.ref t == Value.none) = true then _ else _) _ _ _
  rw [if_neg hnn]
  refine wpAny_bind (m := field (.ref it) 1) (wpAny_field h1 d1 (x := .int i 0) rfl (wpAny_bind (m := seqItems? (.ref t)) (wpAny_seqItems h2 d2 ?_)))
  simp only [Int.toNat_natCast, hx]
  refine wpAny_bind (wpAny_rule (wpAny_bind (wpAny_setField h1 d1 (by simp) (wpAny_bind (m := newExc (.type "StopIteration") []) ?_))))
  simp only [newExc, newTuple, raiseNew]
  refine wpAny_bind (wpAny_newObj_type (wpAny_bind (m := firstArgMember _ _) (wpAny_of_eq (a := Value.none) (by first | rfl | (simp only [firstArgMember]; rfl)) (wpAny_newObj_type (wpAny_bind (wpAny_handled ?_)) (by size_fits)))) (by size_fits))
  first | rw [show A.in1.handled = none from hh] | rw [hh]
  exact wpAny_bind (wpAny_pure (wpAny_throw (hE _ _ (((Heap.SameBut.update ..).extBut.push _).push _) ⟨_, Heap.get?_push_size _ rfl, rfl⟩)))
end
section
variable {X : Cx} {pins : List (Addr × Obj)} {σ : St} {H : Hp} {s : Shared}
theorem Inv.turned2 {h' : Heap} {t' : Nat} {e it : Addr} (I : Inv X pins σ H s) (hk : ∀ b o, b ≠ e → b ≠ it → s.heap.get? b = some o → h'.get? b = some o) (fe : FpOk X pins H e) (fi : FpOk X pins H it) : Inv X pins σ H { s with heap := h', toks := t' } := by
  have ne : ∀ {b}, b ∉ [e, it] → b ≠ e ∧ b ≠ it := fun {b} hb => ⟨fun z => hb (by simp [z]), fun z => hb (by simp [z])⟩
  refine I.step (g' := s.gens) (d' := s.drawn) (ch := [e, it]) (fun b hb => ?_) (fun b o _ _ hb q _ => hk b o (ne hb).1 (ne hb).2 q) (fun b o _ _ hb q _ => ⟨o.slots, hk b o (ne hb).1 (ne hb).2 q⟩) (fun b o _ _ n => n) (fun b o hb q => ⟨o, hk b o (ne hb).1 (ne hb).2 q⟩)
    (fun _ _ q => q) (fun _ _ _ q => q) (fun b ps q => ⟨#[], by rw [q]; simp⟩) (fun m hm => ?_) (fun b u q => ?_) I.bare
  · rcases List.mem_cons.mp hb with rfl | hb
    · exact ⟨fe.2.2.2.1, fe.2.1, fe.2.2.2.2.1, fe.2.2.2.2.2⟩
    · have : b = it := by simpa using hb
      subst this
      exact ⟨fi.2.2.2.1, fi.2.1, fi.2.2.2.2.1, fi.2.2.2.2.2⟩
  · obtain ⟨o, es, ep, ho, r⟩ := hm
    exact ⟨o, es, ep, hk _ o (Ne.symm fe.2.1) (Ne.symm fi.2.1) ho, r⟩
  · refine (I.hok b u q).stay (fun c v hc r => ?_) (fun c r => r) fun c xs r => r
    have nn : ∀ x, FpOk X pins H x → c ≠ x := fun x fx z => by
      subst z
      rcases hc with rfl | hc
      · rw [fx.1] at q; cases q
      · rw [fx.1] at hc; cases hc
    exact hk c v (nn e fe) (nn it fi) r
theorem Inv.trackT {D : Addr} {ys : List V} {its : List Value} (I : Inv X pins σ H s) (rv : Vals ys its) (hz : ys.length ≤ sizeLine) (e : TupD s.heap D its.toArray) (hd : FpOk X pins H D) : Inv X pins σ (upd H D (.tup ys)) s := by
  obtain ⟨h1, h2, h3, h4, h5, h6⟩ := hd
  have nD : ∀ b u, H b = some u → b ≠ D := fun b u q z => by rw [z, h1] at q; cases q
  refine I.step (s := s) (h' := s.heap) (g' := s.gens) (t' := s.toks) (d' := s.drawn) (ch := [D]) (fun b hb => ?_) (fun b o _ _ _ q _ => q) (fun b o _ _ _ q _ => ⟨o.slots, q⟩) (fun b o hb _ q => ?_) (fun b o _ q => ⟨o, q⟩)
    (fun b xs q => (upd_ne (nD b _ q)).trans q) (fun b o u q => (upd_ne (nD b _ q)).trans q) (fun b ps q => ⟨#[], by rw [upd_ne (nD b _ q), q]; simp⟩) (fun m hm => hm) (fun b u q => ?_) I.bare
  · have : b = D := by simpa using hb
    subst this
    exact ⟨h4, h2, h5, h6⟩
  · rw [upd_ne (fun z => hb (by simp [z]))]; exact q
  · by_cases hb : b = D
    · subst hb
      rw [upd_same] at q
      cases q
      exact ⟨hz, its, rv, e⟩
    · rw [upd_ne hb] at q
      exact (I.hok b u q).stay (fun c v _ r => r) (fun c r => (upd_ne (nD c _ r)).trans r) fun c xs r => (upd_ne (nD c _ r)).trans r
theorem boot_enumerate' : bootBuiltins "enumerate" = some (.type "enumerate") := by decide +kernel
noncomputable def rngO (p : Addr) (i j c : Int) : HO := .ext fun h => ∃ t u v, IsRange h p i j c t u v
theorem rng_laid {pins : List (Addr × Obj)} {σ : St} {H : Hp} {s : Shared} {i j c : Int} {t u v : Tok} {tk : Nat} (I : Inv X pins σ H s) : Inv X pins σ (upd H s.heap.objs.size (rngO s.heap.objs.size i j c)) { s with heap := s.heap.push { cls := .type "range", data := .fields #[.int i t, .int j u, .int c v] }, toks := tk } := by
  refine I.laid (fun b o e => Heap.get?_push_of_some _ e) (Nat.le_refl _) ⟨⟨t, u, v, IsRange.new ..⟩, ⟨_, Heap.get?_push_size _ rfl⟩, ?_⟩
  rintro h1 h2 ⟨t, u, v, e⟩ k
  exact ⟨t, u, v, k _ e⟩
noncomputable def rRng : List V → Hp → VK → Prop := fun vs H1 Q => match vs with
  | [.int i, .int j] => ∀ p, H1 p = none → Q (.ref p) (upd H1 p (rngO p i j 1))
  | [.int i, .int j, .int c] => (c ≠ 0 ∧ c < 2 ^ 29 ∧ -(2 ^ 29) < c) ∧ ∀ p, H1 p = none → Q (.ref p) (upd H1 p (rngO p i j c))
  | _ => False
theorem call_rng : CallR X (.type "range") rRng := by
  intro pins s σ H xs us Q I r h
  unfold rRng at h
  split at h
  · obtain ⟨u1, u2, rfl, ⟨t1, rfl⟩, t2, rfl⟩ := vals2 r
    exact call_range_2 ⟨.ref s.heap.objs.size, _, rng_laid I, rfl, h _ (I.hok.fresh (Nat.le_refl _))⟩
  · obtain ⟨⟨h1, h2, h3⟩, q⟩ := h
    cases r with
    | cons a1 r =>
      cases r with
      | cons a2 r =>
        cases r with
        | cons a3 r =>
          cases r
          obtain ⟨t1, rfl⟩ := a1
          obtain ⟨t2, rfl⟩ := a2
          obtain ⟨t3, rfl⟩ := a3
          exact PySem.call_range_3 h1 ⟨.ref s.heap.objs.size, _, rng_laid I, rfl, q _ (I.hok.fresh (Nat.le_refl _))⟩ (Or.inl (PyProof.noPylong_small (by omega)))
  · exact h.elim
noncomputable def rLstR : List V → Hp → VK → Prop := fun vs H Q => match vs with
  | [.ref p] => ∃ i j c, H p = some (rngO p i j c) ∧ Builtin.Range.small i j c = true ∧ c ≠ 0 ∧ (Builtin.Range.rangeSize i j c).toNat ≤ 1000000 ∧ ∀ l, H l = none → Q (.ref l) (upd H l (.lst (((List.range (Builtin.Range.rangeSize i j c).toNat).map fun (k : Nat) => i + (k : Int) * c).map V.int)))
  | _ => False
theorem vals_of_items {F : Nat → Int} : ∀ (n : Nat) {us : List Value}, us.length = n → (∀ (j : Nat) (v : Value), us[j]? = some v → ∃ t, v = .int (F j) t) → Vals (((List.range n).map F).map V.int) us := by
  intro n us hl h
  have : ∀ (us : List Value) (G : Nat → Int), (∀ (j : Nat) (v : Value), us[j]? = some v → ∃ t, v = .int (G j) t) → Vals (((List.range us.length).map G).map V.int) us := by
    intro us
    induction us with
    | nil => intro G _; exact .nil
    | cons u r ih =>
      intro G hG
      rw [List.length_cons, List.range_succ_eq_map, List.map_cons, List.map_cons]
      refine .cons (hG 0 u rfl) ?_
      have := ih (fun j => G (j + 1)) fun j v e => hG (j + 1) v (by simpa using e)
      have e : ((List.range r.length).map Nat.succ).map G = (List.range r.length).map (fun j => G (j + 1)) := by rw [List.map_map]; rfl
      rw [e]
      exact this
  have := this us F h
  rw [hl] at this
  exact this
theorem call_lrng (hc : X.calm = true) : CallR X (.type "list") rLstR := by
  intro pins s σ H xs us Q I r h
  unfold rLstR at h
  split at h
  · rename_i p
    obtain ⟨i, j, c, hp, hs, hc0, hn, q⟩ := h
    obtain ⟨u, rfl, rx⟩ := vals1 r
    cases rx
    obtain ⟨⟨t, u, v, hr⟩, _⟩ := I.hok p _ hp
    have h0 := size_nonneg (a := i) (b := j) hc0
    refine call_list_range (I.ok.hd hc) hr hs (n := (Builtin.Range.rangeSize i j c).toNat) (by omega) (by omega) fun h' tk acc' c' hk hS hit => ?_
    have rv : Vals (((List.range (Builtin.Range.rangeSize i j c).toNat).map fun (k : Nat) => i + (k : Int) * c).map V.int) acc'.toList := vals_of_items _ (by rw [Array.length_toList]; exact hit.1) fun k v e => hit.2 k v (by simpa using e)
    refine ⟨.ref s.heap.objs.size, _, I.laid (t' := tk) hk (Nat.le_refl _) (show ObjOk X.prog X.w _ h' _ (.lst (((List.range (Builtin.Range.rangeSize i j c).toNat).map fun (k : Nat) => i + (k : Int) * c).map V.int)) from ⟨?_, acc'.toList, c', rv, hS⟩), rfl, q _ (I.hok.fresh (Nat.le_refl _))⟩
    rw [List.length_map, List.length_map, List.length_range, sizeLine_eq]
    omega
  · exact h.elim
theorem boot_list'' : bootBuiltins "list" = some (.type "list") := by decide +kernel
variable {e : Expr} {es : List Expr} {t : TA} {p pos : Pos}
theorem pcb_range (hg : Gl X "range") (hm : X.mg "range" = none) (ha : PA X (e :: es) t) (he : starEach (e :: es) X.env = (false, eval e X.env) :: starEach es X.env) (hpl : (backTo pos (starEach es X.env)).any (·.1) = false) :
    PE X (.Call (.Name "range" p) (e :: es) [] pos) (tCB rRng t) := pe_callTy call_rng hg hm boot_range ha (by decide) (by decide) he hpl
theorem zcb_range (hg : Gl X "range") (hm : X.mg "range" = none) (ha : ZA X (e :: es) t) (he : starEach (e :: es) X.env = (false, eval e X.env) :: starEach es X.env) (hpl : (backTo pos (starEach es X.env)).any (·.1) = false) :
    ZE X (.Call (.Name "range" p) (e :: es) [] pos) (tCB rRng t) := by with_unfolding_all exact pcb_range hg hm ha he hpl
theorem pcb_lrange (hc : X.calm = true) (hg : Gl X "list") (hm : X.mg "list" = none) (ha : PA X (e :: es) t) (he : starEach (e :: es) X.env = (false, eval e X.env) :: starEach es X.env) (hpl : (backTo pos (starEach es X.env)).any (·.1) = false) :
    PE X (.Call (.Name "list" p) (e :: es) [] pos) (tCB rLstR t) := pe_callTy (call_lrng hc) hg hm boot_list'' ha (by decide) (by decide) he hpl
theorem zcb_lrange (hc : X.calm = true) (hg : Gl X "list") (hm : X.mg "list" = none) (ha : ZA X (e :: es) t) (he : starEach (e :: es) X.env = (false, eval e X.env) :: starEach es X.env) (hpl : (backTo pos (starEach es X.env)).any (·.1) = false) :
    ZE X (.Call (.Name "list" p) (e :: es) [] pos) (tCB rLstR t) := by with_unfolding_all exact pcb_lrange hc hg hm ha he hpl
end
end L2
set_option Elab.async false
set_option linter.all false
set_option maxRecDepth 100000
set_option maxHeartbeats 4000000
namespace L2
open PySem PySem.Spec PyProof.Rows
section
variable {X : Cx} {pins : List (Addr × Obj)} {σ : St} {H : Hp} {s : Shared}
end
section
variable {X : Cx}
end
end L2
set_option Elab.async false
set_option linter.all false
set_option maxRecDepth 100000
set_option maxHeartbeats 4000000
namespace L2
open PySem PySem.Spec PyProof.Rows
section
variable {M : Model} {A : Around} {E : Value → Shared → Prop} {s : Shared}
end
section
variable {X : Cx} {x : Str} {nv : List Str} {ix : List (Str × Nat)} {scope : Scope} {pins : List (Addr × Obj)} {σ : St} {H : Hp} {s : Shared}
end
section
variable {X : Cx} {x : Str} {nv : List Str} {ix : List (Str × Nat)} {scope : Scope} {pins : List (Addr × Obj)} {σ : St} {H : Hp} {s : Shared} {elt tg iter : Expr} {ifs : List Expr} {pos : Pos}
end
end L2
namespace L2
open PySem PySem.Spec PyProof.Rows
section
variable {X : Cx} {K : PySem.W.Frag}
theorem ix_P' (h : X.K = K) : IxR X (rIxP K) := by subst h; exact ix_P
end
end L2
set_option Elab.async false
set_option linter.all false
set_option maxRecDepth 100000
set_option maxHeartbeats 4000000
namespace L2
open PySem PySem.Spec PyProof.Rows
section
variable {κ : Type} [DecidableEq κ]
noncomputable def valV (kvs : List (κ × V)) (k : κ) : Option V := (kvs.find? fun kv => decide (kv.1 = k)).map (·.2)
noncomputable def putK (kvs : List (κ × V)) (k : κ) (v : V) : List (κ × V) :=
  if (kvs.any fun kv => decide (kv.1 = k)) = true then kvs.map (fun kv => if kv.1 = k then (kv.1, v) else kv) else kvs ++ [(k, v)]
theorem valV_pos {p : κ × V} {r : List (κ × V)} {k : κ} (e : p.1 = k) : valV (p :: r) k = some p.2 := by simp [valV, List.find?_cons, e]
theorem valV_neg {p : κ × V} {r : List (κ × V)} {k : κ} (e : ¬ p.1 = k) : valV (p :: r) k = valV r k := by simp [valV, List.find?_cons, e]
theorem valV_any (k : κ) : ∀ kvs : List (κ × V), (kvs.any fun kv => decide (kv.1 = k)) = (valV kvs k).isSome
  | [] => rfl
  | p :: r => by
    rw [List.any_cons]
    by_cases e : p.1 = k
    · simp only [valV_pos e, decide_eq_true e, Bool.true_or, Option.isSome_some]
    · rw [valV_neg e, decide_eq_false e, Bool.false_or]; exact valV_any k r
theorem valV_map (k j : κ) (y : V) : ∀ kvs : List (κ × V), valV (kvs.map fun kv => if kv.1 = k then (kv.1, y) else kv) j = (valV kvs j).map fun x => if j = k then y else x
  | [] => rfl
  | p :: r => by
    have ih := valV_map k j y r
    rw [List.map_cons]
    by_cases h : p.1 = k
    · rw [if_pos h]
      by_cases e : p.1 = j
      · rw [valV_pos (p := (p.1, y)) e, valV_pos e, Option.map_some, if_pos (e.symm.trans h)]
      · rw [valV_neg (p := (p.1, y)) e, valV_neg e, ih]
    · rw [if_neg h]
      by_cases e : p.1 = j
      · rw [valV_pos (p := p) e, valV_pos e, Option.map_some, if_neg (fun z => h (e.trans z))]
      · rw [valV_neg (p := p) e, valV_neg e, ih]
theorem valV_snoc (k j : κ) (y : V) : ∀ kvs : List (κ × V), valV kvs k = none → valV (kvs ++ [(k, y)]) j = if j = k then some y else valV kvs j
  | [], _ => by
    by_cases e : k = j
    · rw [if_pos e.symm]; exact valV_pos (p := (k, y)) e
    · rw [if_neg (fun z => e z.symm)]; exact valV_neg (p := (k, y)) e
  | p :: r, hn => by
    rw [List.cons_append]
    have hk : ¬ p.1 = k := fun z => by rw [valV_pos z] at hn; cases hn
    rw [valV_neg hk] at hn
    have ih := valV_snoc k j y r hn
    by_cases e : p.1 = j
    · rw [valV_pos e, valV_pos e, if_neg (fun z => hk (e.trans z))]
    · rw [valV_neg e, valV_neg e, ih]
theorem valV_put (kvs : List (κ × V)) (k j : κ) (y : V) : valV (putK kvs k y) j = if j = k then some y else valV kvs j := by
  unfold putK
  by_cases a : (kvs.any fun kv => decide (kv.1 = k)) = true
  · rw [if_pos a, valV_map]
    rw [valV_any] at a
    by_cases e : j = k
    · obtain ⟨x, hx⟩ := Option.isSome_iff_exists.mp a
      rw [if_pos e, e, hx, Option.map_some, if_pos rfl]
    · rw [if_neg e]
      cases valV kvs j with
      | none => rfl
      | some x => rw [Option.map_some, if_neg e]
  · rw [if_neg a]
    refine valV_snoc k j y kvs ?_
    rw [valV_any] at a
    cases q : valV kvs k with
    | none => rfl
    | some x => rw [q] at a; exact (a rfl).elim
theorem length_putK (kvs : List (κ × V)) (k : κ) (v : V) : (putK kvs k v).length ≤ kvs.length + 1 := by
  unfold putK
  split
  · rw [List.length_map]; omega
  · rw [List.length_append, List.length_cons, List.length_nil]; omega
theorem RelO.getD {o : Option V} {u : Option Value} {d : V} {d' : Value} (r : RelO o u) (rd : RelV d d') : RelV (o.getD d) (u.getD d') := by
  cases o with
  | none => cases u with
    | none => exact rd
    | some _ => exact (show False from r).elim
  | some _ => cases u with
    | none => exact (show False from r).elim
    | some _ => exact r

theorem KV.val {kvs : List (κ × V)} {vs : List (κ × Value)} (r : KV kvs vs) (k : κ) : RelO (valV kvs k) (valueAt vs k) := by
  unfold KV at r
  induction r with
  | nil => exact True.intro
  | @cons p q ps qs h t ih =>
    obtain ⟨h1, h2⟩ := h
    by_cases e : p.1 = k
    · have e' : q.1 = k := h1.symm.trans e
      have b : valueAt (q :: qs) k = some q.2 := by simp [valueAt, List.find?_cons, e']
      rw [valV_pos e, b]; exact h2
    · have e' : ¬ q.1 = k := fun z => e (h1.trans z)
      have b : valueAt (q :: qs) k = valueAt qs k := by simp [valueAt, List.find?_cons, e']
      rw [valV_neg e, b]; exact ih
theorem KV.any {kvs : List (κ × V)} {vs : List (κ × Value)} (r : KV kvs vs) (k : κ) : (kvs.any fun kv => decide (kv.1 = k)) = vs.any fun kv => decide (kv.1 = k) := by
  unfold KV at r
  induction r with
  | nil => rfl
  | cons h t ih => rw [List.any_cons, List.any_cons, ih, h.1]
theorem KV.repl {kvs : List (κ × V)} {vs : List (κ × Value)} (r : KV kvs vs) (k : κ) {y : V} {u : Value} (ry : RelV y u) :
    KV (kvs.map fun kv => if kv.1 = k then (kv.1, y) else kv) (vs.map fun kv => if kv.1 = k then (kv.1, u) else kv) := by
  unfold KV at r ⊢
  induction r with
  | nil => exact .nil
  | @cons p q ps qs h t ih =>
    rw [List.map_cons, List.map_cons]
    refine .cons ?_ ih
    obtain ⟨h1, h2⟩ := h
    by_cases e : p.1 = k
    · rw [if_pos e, if_pos (h1.symm.trans e)]; exact ⟨h1, ry⟩
    · rw [if_neg e, if_neg (fun z => e (h1.trans z))]; exact ⟨h1, h2⟩
theorem KV.put {kvs : List (κ × V)} {vs : List (κ × Value)} (r : KV kvs vs) (k : κ) {y : V} {u : Value} (ry : RelV y u) : KV (putK kvs k y) (stored vs k u) := by
  unfold putK stored
  rw [r.any k]
  by_cases e : (vs.any fun kv => decide (kv.1 = k)) = true
  · rw [if_pos e, if_pos e]; exact r.repl k ry
  · rw [if_neg e, if_neg e]; exact Paired.snoc r ⟨rfl, ry⟩
theorem KV.length {kvs : List (κ × V)} {vs : List (κ × Value)} (r : KV kvs vs) : kvs.length = vs.length := Paired.length r
end
theorem kV_is {P : Program} {w : World} {k : Key} {u : Value} (r : RelV (kV k) u) : (mixKind P w).is k u = true := by
  cases k with
  | inl i => obtain ⟨t, e⟩ := (show ∃ t, u = Value.int i t from r); subst e; exact mixKind_int P w i t
  | inr x => obtain ⟨t, e⟩ := (show ∃ t, u = Value.str x t from r); subst e; exact mixKind_str P w x t
theorem items_are {P : Program} {w : World} : ∀ {ks : List Key} {us : List Value}, Vals (ks.map kV) us → ItemsAre (mixKind P w) ks us
  | [], _, r => by rw [List.map_nil] at r; cases r; exact .nil
  | k :: ks, _, r => by
    rw [List.map_cons] at r
    cases r with
    | cons h t => exact .cons (kV_is h) (items_are t)

noncomputable abbrev KT (H : Hp) : List (List Key × V) → List (List Key × Addr × Value) → Prop := Paired fun p q => p.1 = q.1 ∧ H q.2.1 = some (.tup (p.1.map kV)) ∧ RelV p.2 q.2.2
theorem KT.val {H : Hp} {kvs : List (List Key × V)} {xs : List (List Key × Addr × Value)} (r : KT H kvs xs) (k : List Key) : RelO (valV kvs k) ((atKey xs k).map (·.2)) := by
  induction r with
  | nil => exact True.intro
  | @cons p q ps qs h t ih =>
    obtain ⟨h1, _, h2⟩ := h
    by_cases e : p.1 = k
    · have e' : q.1 = k := h1.symm.trans e
      have b : atKey (q :: qs) k = some q.2 := by simp [atKey, List.find?_cons, e']
      rw [valV_pos e, b]; exact h2
    · have e' : ¬ q.1 = k := fun z => e (h1.trans z)
      have b : atKey (q :: qs) k = atKey qs k := by simp [atKey, List.find?_cons, e']
      rw [valV_neg e, b]; exact ih
section
variable {P : Program} {w : World} {H : Hp} {h : Heap} {a : Addr}
theorem rd_of {u : HO} (ok : HOk P w H h) (e : Rd H a u) : ObjOk P w H h a u := e.ok ok
theorem dk_rd {kvs : List (Key × V)} (ok : HOk P w H h) (e : Rd H a (.dK kvs)) : kvs.length ≤ sizeLine ∧ (a == sysModules) = false ∧ ∃ vs, KV kvs vs ∧ h.DictOf (mixKind P w) a vs :=
  show ObjOk P w H h a (.dK kvs) from rd_of ok e
theorem key_of {ks : List Key} (ok : HOk P w H h) (e : H a = some (.tup (ks.map kV))) : (tupleKind (mixKind P w)).is h ks a := by
  obtain ⟨_, its, r, pT⟩ := (show ObjOk P w H h a (.tup (ks.map kV)) from ok a _ e)
  obtain ⟨o, h1, h2, n, h3⟩ := pT.tup
  exact ⟨o, its.toArray, n, h1, h2, h3, by simpa using items_are r⟩
theorem dt_rd {kvs : List (List Key × V)} (ok : HOk P w H h) (e : Rd H a (.dT kvs)) : kvs.length ≤ sizeLine ∧ (a == sysModules) = false ∧
    ∃ xs, KT H kvs xs ∧ h.DictOfH (tupleKind (mixKind P w)) a xs := by
  obtain ⟨z, y, xs, r, o, es, ep, h1, h2, h3, h4, h5⟩ := (show ObjOk P w H h a (.dT kvs) from rd_of ok e)
  refine ⟨z, y, xs, r, o, es, ep, h1, h2, h3, h4, fun x hx => ?_, h5⟩
  have all : ∀ {l : List (List Key × V)} {m : List (List Key × Addr × Value)}, KT H l m → ∀ x ∈ m, (tupleKind (mixKind P w)).is h x.1 x.2.1 := by
    intro l m q
    induction q with
    | nil => intro x hx; exact nomatch hx
    | @cons p q ps qs hq t ih =>
      intro x hx
      rcases List.mem_cons.mp hx with e | hx
      · subst e
        exact key_of ok (by rw [← hq.1]; exact hq.2.1)
      · exact ih x hx
  exact all r x hx
end
noncomputable def DGet (H : Hp) (a : Addr) (y : V) (r : Option V) : Prop :=
  (∃ kvs k, Rd H a (.dK kvs) ∧ y = kV k ∧ r = valV kvs k) ∨ ∃ kvs k b, Rd H a (.dT kvs) ∧ y = .ref b ∧ H b = some (.tup (k.map kV)) ∧ r = valV kvs k
theorem DGet.k {H : Hp} {a : Addr} {kvs : List (Key × V)} {k : Key} (e : H a = some (.dK kvs)) : DGet H a (kV k) (valV kvs k) := .inl ⟨kvs, k, .inl e, rfl, rfl⟩
section
variable {X : Cx} {pins : List (Addr × Obj)} {σ : St} {H : Hp} {s : Shared} {a : Addr} {y v : V} {u r : Value} {o : Option V} {A : Around} {E : Value → Shared → Prop}
end
section
variable {X : Cx} {pins : List (Addr × Obj)} {σ : St} {H : Hp} {s : Shared} {a : Addr} {kvs : List (Key × V)} {k : Key} {u : Value} {A : Around} {E : Value → Shared → Prop}
end
section
variable {X : Cx} {o i e value : Expr} {pos pos' tpos : Pos} {td ty tv : TE}
end
section
variable {X : Cx} {pos : Pos}
end
noncomputable def mergeK (kvs more : List (Key × V)) : List (Key × V) := more.foldl (fun acc kv => putK acc kv.1 kv.2) kvs
theorem KV.merge : ∀ {more : List (Key × V)} {rs : List (Key × Value)} {kvs : List (Key × V)} {vs : List (Key × Value)}, KV more rs → KV kvs vs → KV (mergeK kvs more) (merged vs rs) := by
  intro more rs kvs vs r
  unfold KV at r
  induction r generalizing kvs vs with
  | nil => intro q; exact q
  | @cons p q ps qs h t ih =>
    intro r0
    have e : KV (putK kvs p.1 p.2) (stored vs q.1 q.2) := by
      have := r0.put p.1 h.2
      rw [← h.1]; exact this
    exact ih e
theorem length_mergeK : ∀ (more kvs : List (Key × V)), (mergeK kvs more).length ≤ kvs.length + more.length
  | [], kvs => by show kvs.length ≤ kvs.length + 0; omega
  | p :: r, kvs => by
    have h1 := length_mergeK r (putK kvs p.1 p.2)
    have h2 := length_putK kvs p.1 p.2
    show (mergeK (putK kvs p.1 p.2) r).length ≤ _
    rw [List.length_cons]; omega
end L2
set_option Elab.async false
set_option linter.all false
set_option maxRecDepth 100000
set_option maxHeartbeats 4000000
namespace SRT
open PySem PyProof.Rows
section
variable {prog : Program} {w : World} {A : Around} {E : Value → Shared → Prop} {s : Shared}
end
end SRT
set_option Elab.async false
set_option linter.all false
set_option maxRecDepth 100000
set_option maxHeartbeats 4000000
namespace SRT
open PySem PyProof.Rows
end SRT
set_option Elab.async false
set_option linter.all false
set_option maxRecDepth 100000
set_option maxHeartbeats 4000000
namespace SRT
open PySem PyProof.Rows
section
variable {A B : List Keyed} {o : List Keyed} {ia ib : Nat}
end
section
variable {prog : Program} {w : World} {A : Around} {E : Value → Shared → Prop} {s : Shared}
end
end SRT
set_option Elab.async false
set_option linter.all false
set_option maxRecDepth 100000
set_option maxHeartbeats 4000000
namespace SRT
open PySem PyProof.Rows
section
variable {prog : Program} {w : World} {A : Around} {E : Value → Shared → Prop} {s : Shared}
end
end SRT
set_option Elab.async false
set_option linter.all false
set_option maxRecDepth 100000
set_option maxHeartbeats 4000000
namespace SRT
open PySem PyProof.Rows
section
variable {xa xb ou : Array Keyed} {na nb : Nat}
end
end SRT
set_option Elab.async false
set_option linter.all false
set_option maxRecDepth 100000
set_option maxHeartbeats 4000000
namespace SRT
open PySem PyProof.Rows
section
variable {prog : Program} {w : World} {A : Around} {E : Value → Shared → Prop} {s : Shared}
end
end SRT
set_option Elab.async false
set_option linter.all false
set_option maxRecDepth 100000
set_option maxHeartbeats 4000000
namespace SRT
open PySem PyProof.Rows
end SRT
set_option Elab.async false
set_option linter.all false
set_option maxRecDepth 100000
set_option maxHeartbeats 4000000
namespace SRT
open PySem PyProof.Rows
section
variable {prog : Program} {w : World} {A : Around} {E : Value → Shared → Prop} {s : Shared}
end
end SRT
set_option Elab.async false
set_option linter.all false
set_option maxRecDepth 100000
set_option maxHeartbeats 4000000
namespace SRT
open PySem PyProof.Rows
section
variable {prog : Program} {w : World} {A : Around} {E : Value → Shared → Prop} {s : Shared} {a₀ : Array Keyed} {lo : Nat} {st₀ : SortSt}
end
end SRT
set_option Elab.async false
set_option linter.all false
set_option maxRecDepth 100000
set_option maxHeartbeats 4000000
namespace SRT
open PySem PyProof.Rows
section
variable {prog : Program} {w : World} {A : Around} {E : Value → Shared → Prop} {s : Shared} {a₀ : Array Keyed} {lo : Nat} {st₀ : SortSt}
end
end SRT
set_option Elab.async false
set_option linter.all false
set_option maxRecDepth 100000
set_option maxHeartbeats 4000000
namespace SRT
open PySem PyProof.Rows
section
variable {prog : Program} {w : World} {A : Around} {E : Value → Shared → Prop} {s : Shared} {a₀ : Array Keyed}
end
end SRT
set_option Elab.async false
set_option linter.all false
set_option maxRecDepth 100000
set_option maxHeartbeats 4000000
namespace SRT
open PySem PyProof.Rows
section
variable {prog : Program} {w : World} {A : Around} {E : Value → Shared → Prop} {s : Shared} {a₀ : Array Keyed}
end
end SRT
set_option Elab.async false
set_option linter.all false
set_option maxRecDepth 100000
set_option maxHeartbeats 4000000
namespace SRT
open PySem PyProof.Rows
section
variable {prog : Program} {w : World} {A : Around} {E : Value → Shared → Prop} {s : Shared}
end
end SRT
set_option Elab.async false
set_option linter.all false
set_option maxRecDepth 100000
set_option maxHeartbeats 4000000
namespace L2
open PySem PySem.Spec PyProof.Rows
section
variable {X : Cx}
variable {e : Expr} {es : List Expr} {t : TA} {p pos : Pos}
variable {o : Expr} {to : TE} {apos cpos : Pos}
end
end L2
set_option Elab.async false
set_option linter.all false
set_option maxRecDepth 100000
set_option maxHeartbeats 4000000
namespace MXD
open PySem
section
variable {prog : Program} {w : World} {A : Around} {R : Result → Shared → Prop} {I : Addr} {fp wr : List Addr} {n : Nat} {P : Nat → Value → Prop} {St : Nat → Heap → Prop}
end
section
variable {prog : Program} {w : World} {A : Around} {E : Value → Shared → Prop} {s : Shared}
end
end MXD
namespace L2
open PySem PySem.Spec PyProof.Rows
section
variable {X : Cx}
variable {e : Expr} {es : List Expr} {t : TA} {p pos : Pos}
noncomputable def rIntT : List V → Hp → VK → Prop := fun xs H Q => match xs with
  | [.str x] => ∃ n, intText? x = some n ∧ x.length ≤ 640 ∧ Q (.int n) H
  | _ => False
theorem call_intT : CallR X (.type "int") rIntT := by
  intro pins s σ H xs us Q I r h
  unfold rIntT at h
  split at h
  · obtain ⟨n, h1, h2, q⟩ := h
    obtain ⟨u, rfl, r1⟩ := vals1 r
    obtain ⟨t, rfl⟩ := r1
    exact PySem.W.KIN.call_text h1 h2 ⟨.int n, H, I.tok _, ⟨_, rfl⟩, q⟩
  · exact h.elim
theorem pcb_intT (hg : Gl X "int") (hm : X.mg "int" = none) (ha : PA X (e :: es) t) (he : starEach (e :: es) X.env = (false, eval e X.env) :: starEach es X.env) (hpl : (backTo pos (starEach es X.env)).any (·.1) = false) :
    PE X (.Call (.Name "int" p) (e :: es) [] pos) (tCB rIntT t) := pe_callTy call_intT hg hm boot_int' ha (by decide) (by decide) he hpl
noncomputable def strMul (x : Str) (n : Nat) : Str := ⟨(List.replicate n x.cps).foldl (· ++ ·) #[]⟩
theorem cat_size : ∀ (l : List (Array Nat)) (a : Array Nat), (l.foldl (· ++ ·) a).size = a.size + (l.map (·.size)).sum
  | [], a => by simp
  | x :: l, a => by
    rw [List.foldl_cons, cat_size l, Array.size_append, List.map_cons, List.sum_cons]
    omega
theorem strMul_len (z : Str) (n : Nat) : (strMul z n).length = z.length * n := by
  show ((List.replicate n z.cps).foldl (· ++ ·) #[]).size = _
  rw [cat_size, List.map_replicate, List.sum_replicate_nat]
  show 0 + n * z.length = _
  rw [Nat.zero_add, Nat.mul_comm]
noncomputable def rMulS : R2 := fun x y H Q => match x, y with
  | .str z, .int k => (2 ≤ k ∧ 1 ≤ z.length ∧ z.length * k.toNat ≤ sizeLine) ∧ Q (.str (strMul z k.toNat)) H
  | _, _ => False
theorem op_mulS : OpR X (binaryOp .Mult) rMulS := by
  intro pins s σ H x y v u Q I rx ry h
  unfold rMulS at h
  split at h
  · rename_i z k
    obtain ⟨⟨h1, h2, h3⟩, q⟩ := h
    obtain ⟨t, rfl⟩ := rx
    obtain ⟨t', rfl⟩ := ry
    have hz : (z.length == 0) = false := by
      have : z.length ≠ 0 := by omega
      simpa using this
    have hk1 : (k == 1) = false := by
      have : k ≠ 1 := by omega
      simpa using this
    have hs := sizeLine_eq
    have hkk : k.toNat ≤ z.length * k.toNat := Nat.le_mul_of_pos_left _ (by omega)
    have hzz : z.length ≤ z.length * k.toNat := Nat.le_mul_of_pos_right _ (by omega)
    refine P.mul_str ?_ (fun _ _ => ?_) (fun _ _ => ?_) ?_
    · rw [decide_eq_false (by omega), decide_eq_false (by omega)]; rfl
    · have : (z.length : Int) ≤ (2 ^ 63 - 1) / k := by
        rw [Int.le_ediv_iff_mul_le (by omega)]
        have : (z.length : Int) * k = ((z.length * k.toNat : Nat) : Int) := by
          rw [Int.natCast_mul, Int.toNat_of_nonneg (by omega)]
        omega
      omega
    · unfold Builtin.Str.tooLong
      exact decide_eq_false (by omega)
    · rw [if_neg (by omega), hk1, hz]
      exact ⟨Nat.le_trans (Nat.le_of_eq (strMul_len z k.toNat)) h3, ⟨.str _, H, I.tok _, ⟨_, rfl⟩, q⟩⟩
  · exact h.elim
variable {o : Expr} {to : TE} {apos cpos : Pos}
end
end L2
set_option Elab.async false
set_option linter.all false
set_option maxRecDepth 100000
set_option maxHeartbeats 4000000
namespace L2
open PySem PySem.Spec PyProof.Rows
section
variable {prog : Program} {w : World} {A : Around} {E : Value → Shared → Prop} {s : Shared}
end
section
variable {prog : Program} {w : World} {A : Around} {E : Value → Shared → Prop} {s : Shared}
end
section
variable {X : Cx} {pins : List (Addr × Obj)} {σ : St} {H : Hp} {s : Shared}
end
end L2
set_option Elab.async false
set_option linter.all false
set_option maxRecDepth 100000
set_option maxHeartbeats 4000000
namespace L2
open PySem PySem.Spec PyProof.Rows
section
variable {X : Cx} {e : Expr} {es : List Expr} {t : TA} {p pos : Pos}
end
end L2
set_option Elab.async false
set_option linter.all false
set_option maxRecDepth 100000
set_option maxHeartbeats 4000000
namespace L2
open PySem PySem.Spec PyProof.Rows
section
variable {X : Cx} {e : Expr} {es : List Expr} {t : TA} {p pos : Pos} {o : Expr} {to : TE} {apos cpos : Pos}
noncomputable def tNo : TS := fun _ _ _ => False
theorem ps_no {st : Stmt} : PS X st tNo := fun _ _ _ _ _ _ h => h.elim
theorem zs_no {st : Stmt} : ZS X st tNo := by with_unfolding_all exact ps_no 
end
end L2
set_option Elab.async false
set_option linter.all false
set_option maxRecDepth 100000
set_option maxHeartbeats 4000000
namespace L2
open PySem PySem.Spec PyProof.Rows
section
variable {prog : Program} {w : World} {A : Around} {E : Value → Shared → Prop} {R : Result → Shared → Prop} {s : Shared}
end
section
variable {X : Cx} {nv : List Str} {ix : List (Str × Nat)} {scope : Scope} {pins : List (Addr × Obj)} {σ : St} {H : Hp} {s : Shared} {elt t1 i1 t2 i2 : Expr} {c1 c2 : List Expr} {pos : Pos}
end
end L2
set_option Elab.async false
set_option linter.all false
set_option maxRecDepth 100000
set_option maxHeartbeats 4000000
namespace L2
open PySem PySem.Spec PyProof.Rows
section
variable {X : Cx} {e v₁ v₂ : Expr} {es : List Expr} {te : TE} {pos : Pos}
end
end L2
set_option Elab.async false
set_option linter.all false
set_option maxRecDepth 100000
set_option maxHeartbeats 4000000
namespace DCT
open PySem PyProof.Rows SRT L2
section
variable {prog : Program} {w : World} {A : Around} {E : Value → Shared → Prop} {s : Shared} {K : Type} [DecidableEq K] {knd : KeyKind prog w K}
end
end DCT
namespace L2
open PySem PySem.Spec PyProof.Rows
section
variable {X : Cx}
variable {e : Expr} {es : List Expr} {t : TA} {p pos : Pos}
end
end L2
set_option Elab.async false
set_option linter.all false
set_option maxRecDepth 100000
set_option maxHeartbeats 4000000
namespace PySem
open Sem (wp)
theorem plain_upd : plainId "dict.update.loop" = true := by decide +kernel
theorem entry_upd : entryFor table "dict.update.loop" = some Builtin.«dict.update.loop» := entryFor_of_tree (by kernel_rfl)
section
variable {prog : Program} {w : World} {A : Around} {E : Value → Shared → Prop} {K : Type} [DecidableEq K] {knd : KeyKind prog w K}
noncomputable def PairAt (knd : KeyKind prog w K) (h : Heap) (items : Array Value) (ps : List (K × Value)) (it d : Addr) (j : Nat) : Prop :=
  ∃ p o n k key v, items[j]? = some (.ref p) ∧ h.get? p = some o ∧ o.cls = .type "tuple" ∧ o.data = .seq #[key, v] n ∧ ps[j]? = some (k, v) ∧ knd.is k key = true ∧ p ≠ it ∧ p ≠ d
theorem stored_le (kvs : List (K × Value)) (k : K) (v : Value) : (stored kvs k v).length ≤ kvs.length + 1 := by
  unfold stored
  split
  · rw [List.length_map]; omega
  · rw [List.length_append]; exact Nat.le_refl _
end
end PySem
namespace L2
open PySem PySem.Spec PyProof.Rows
section
variable {X : Cx}
theorem pairs_raw {P : Program} {w : World} {H : Hp} {h : Heap} (ok : HOk P w H h) : ∀ (ps : List (Key × V)) (cs : List Addr), cs.length = ps.length → (∀ (j : Nat) c kv, cs[j]? = some c → ps[j]? = some kv → H c = some (.tup [kV kv.1, kv.2])) →
    ∃ vs : List (Key × Value), KV ps vs ∧ ∀ (j : Nat) c, cs[j]? = some c → ∃ o n k key v, h.get? c = some o ∧ o.cls = .type "tuple" ∧ o.data = .seq #[key, v] n ∧ vs[j]? = some (k, v) ∧ (mixKind P w).is k key = true
  | [], [], _, _ => ⟨[], .nil, fun j c e => by cases e⟩
  | [], _ :: _, hl, _ => by cases hl
  | _ :: _, [], hl, _ => by cases hl
  | kv :: ps, c :: cs, hl, g => by
    obtain ⟨vs, h1, h2⟩ := pairs_raw ok ps cs (Nat.succ.inj hl) fun j c' kv' e1 e2 => g (j + 1) c' kv' e1 e2
    obtain ⟨_, its, r, pT⟩ := ok c _ (g 0 c kv rfl rfl)
    obtain ⟨o, g1, g2, n, g3⟩ := pT.tup
    cases r with
    | cons r1 r2 =>
      cases r2 with
      | cons r3 r4 =>
        cases r4
        rename_i key v
        refine ⟨(kv.1, v) :: vs, .cons ⟨rfl, r3⟩ h1, fun j c' e => ?_⟩
        cases j with
        | zero =>
          cases e
          exact ⟨o, n, kv.1, key, v, g1, g2, g3, rfl, kV_is r1⟩
        | succ j => exact h2 j c' e
theorem refs_of : ∀ (cs : List Addr) (its : List Value), Vals (cs.map V.ref) its → its = cs.map Value.ref
  | [], _, r => by cases r; rfl
  | c :: cs, _, r => by
    cases r with
    | cons a b =>
      cases a
      rw [refs_of cs _ b]
      rfl
variable {e : Expr} {es : List Expr} {t : TA} {p pos : Pos}
theorem boot_dict' : bootBuiltins "dict" = some (.type "dict") := by decide +kernel
end
end L2
set_option Elab.async false
set_option linter.all false
set_option maxRecDepth 100000
set_option maxHeartbeats 4000000
namespace PySem
open Sem (wp)
theorem keysT_miss : typeLookup (.type "tuple") "keys" = pure none := by rw [typeLookup_type, builtinLookup_eq_fast]; kernel_rfl
theorem keysT_none {prog : Program} {w : World} {A : Around} {E : Value → Shared → Prop} {s : Shared} {a : Addr} {xs : Array Value} {k : Nat} {sl : Array (Option Value)} {Q : Option Value → Shared → Prop}
    (hx : s.heap.get? a = some { cls := .type "tuple", dict := none, data := .seq xs k, slots := sl }) (hA : A.handled = none)
    (h : ∀ h' tk, (∀ b o, s.heap.get? b = some o → h'.get? b = some o) → Q none { s with heap := h', toks := tk }) :
    wpAny (model prog w) A (getAttr? (.ref a) "keys") Q E s := by
  obtain ⟨hp, g, d, tk, os⟩ := s
  have hT : ∀ tk', (⟨hp, g, d, tk', os⟩ : Shared).TypeIs (.ref a) "tuple" := fun _ => ⟨_, hx, rfl⟩
  have f1 := sub_AttributeError
  have f3 := F.slot_tuple_getattribute.lookup
  have f4 := F.slot_tuple_getattribute.bind (.ref a)
  have f5 := am_tuple_getattr_none
  have hmiss := keysT_miss
  have hname : (["__module__", "__name__", "__qualname__", "__doc__", "__annotations__"] : List Str).contains "keys" = false := by decide +kernel
  have hsz : ("keys" : Str).length + 100 ≤ sizeLine := by rw [sizeLine_eq]; decide +kernel
  unfold getAttr? getAttrBy? getAttrBy
  repeat (any_goals (first | assumption | exact hT _ | ((with_reducible show wpAny _ _ (call (Value.builtin "tuple.__getattribute__") _ _) _ _ _); refine call_meets F.slot_tuple_getattribute (hT _) am_entry_tuple_getattribute (F.args_tuple_getattribute_2 _ _) (meets_getattribute_miss_tuple a xs k sl "keys" _ hmiss hname hsz) ⟨hx, hA, fun h' tk' e hx' => ?_⟩) | wp_step))
  obtain ⟨t', u', he⟩ := hx'.there
  show wpAny _ _ (getattributeRaised _ _ _ _ _ _ _) _ _ _
  unfold getattributeRaised
  repeat (any_goals (first | assumption | wp_step))
  exact h _ _ hx'.keeps

section
variable {prog : Program} {w : World} {A : Around} {E : Value → Shared → Prop} {K : Type} [DecidableEq K] {knd : KeyKind prog w K}
theorem updT_loop {R : Result → Shared → Prop} {it l d : Addr} {items : Array Value} {ps : List (K × Value)} (hh : A.handled = none) (hsize : items.size = ps.length) (hdi : d ≠ it) (hli : l ≠ it) (hld : l ≠ d) :
    ∀ (m i : Nat) (s : Shared) (kvs : List (K × Value)), ps.length - i = m → i ≤ ps.length → s.heap.IsTupleIter it l i → s.heap.IsTuple l items → s.heap.DictOf knd d kvs → kvs.length + m ≤ sizeLine →
    (∀ j, i ≤ j → j < ps.length → PairAt knd s.heap items ps it d j) →
    (∀ h' tk, (∀ b o, b ≠ d → b ≠ it → s.heap.get? b = some o → h'.get? b = some o) → h'.DictOf knd d (merged kvs (ps.drop i)) → R (.ok (.ret .none)) { s with heap := h', toks := tk }) →
    codeAny (model prog w) A (.builtin "dict.update.loop" ⟨[.ref d, .ref it, rawInt i, .none], []⟩) R s := by
  intro m
  induction m with
  | zero =>
    intro i s kvs hm hi st hl hd hz hp hR
    have hin : i = ps.length := by omega
    subst hin
    refine codeAny_builtin entry_upd ?_
    rw [Around.under_plainId plain_upd _]
    unfold Builtin.«dict.update.loop»
    show wpAny _ A.in1 (pyNext (.ref it) >>= _) _ _ s
    refine wpAny_bind (wpAny_pyNext_tuple_end hh st hl (by rw [Array.getElem?_eq_none]; omega) fun h' he => ?_)
    show wpAny _ A.in1 (Builtin.Dict.addKeywords d [] >>= _) _ _ _
    refine wpAny_bind (wpAny_pure (wpAny_pure ?_))
    refine hR h' s.toks (fun b o _ hb e => he b o hb e) ?_
    rw [List.drop_length]
    exact hd.extBut he hdi
  | succ m ih =>
    intro i s kvs hm hi st hl hd hz hp hR
    have hlt : i < ps.length := by omega
    obtain ⟨p, o, n, k, key, v, e1, e2, e3, e4, e5, e6, hpi, hpd⟩ := hp i (Nat.le_refl _) hlt
    refine codeAny_builtin entry_upd ?_
    rw [Around.under_plainId plain_upd _]
    unfold Builtin.«dict.update.loop»
    show wpAny _ A.in1 (pyNext (.ref it) >>= _) _ _ s
    refine wpAny_bind (wpAny_pyNext_tuple_item st hl e1 fun h1 st1 sb1 => ?_)
    have g2 : h1.get? p = some o := (sb1.2 p hpi).trans e2
    refine wpAny_bind (wpAny_holding ?_)
    refine wpAny_bind (wpAny_tryCatch ?_)
    show wpAny _ A.in1 (Builtin.Dict.pairItems (.ref p)) _ _ _
    unfold Builtin.Dict.pairItems
    refine wpAny_bind (wpAny_typeOf (T := "tuple") ⟨o, g2, e3⟩ ?_)
    refine wpAny_ite_split (fun _ => ?_) (fun hab => absurd (by decide) hab)
    show wpAny _ A.in1 (seqItems? (.ref p) >>= fun z => pure (z.getD #[]).toList) _ _ _
    unfold seqItems?
    refine wpAny_bind (wpAny_bind (wpAny_load g2 ?_))
    rw [e4]
    refine wpAny_pure (wpAny_pure ?_)
    show wpAny _ A.in1 (holding [key, v] (dictSet d key v)) _ _ _
    refine wpAny_holding (wpAny_dictSet_pairs (hsz := by omega) e6 (hd.sameBut sb1 hdi) fun h2 hd2 sb2 => ?_)
    have keep : ∀ b o, b ≠ d → b ≠ it → s.heap.get? b = some o → h2.get? b = some o := fun b o hb1 hb2 e => (sb2.2 b hb1).trans ((sb1.2 b hb2).trans e)
    have hit2 : h2.IsTupleIter it l (i + 1) := st1.at fun o e => (sb2.2 it (Ne.symm hdi)).trans e
    have hl2 : h2.IsTuple l items := hl.at fun o e => (sb2.2 l hld).trans ((sb1.2 l hli).trans e)
    refine wpAny_pure ⟨plainId_quiet plain_upd _, ?_⟩
    have := ih (i + 1) { s with heap := h2, toks := s.toks + 1 } (stored kvs k v) (by omega) hlt hit2 hl2 hd2 (by have := stored_le kvs k v; omega) (fun j hj hj2 => ?_) fun h' tk kp hd' => ?_
    · exact this
    · obtain ⟨p', o', n', k', key', v', a1, a2, a3, a4, a5, a6, a7, a8⟩ := hp j (by omega) hj2
      exact ⟨p', o', n', k', key', v', a1, keep _ _ a8 a7 a2, a3, a4, a5, a6, a7, a8⟩
    · refine hR h' tk (fun b o hb1 hb2 e => kp b o hb1 hb2 (keep b o hb1 hb2 e)) ?_
      have ed : ps.drop i = (k, v) :: ps.drop (i + 1) := by
        rw [List.drop_eq_getElem_cons hlt]
        congr 1
        rw [List.getElem?_eq_getElem hlt] at e5
        exact Option.some.inj e5
      rw [ed]
      exact hd'
theorem call_dict_pairsT {s : Shared} {l : Addr} {items : Array Value} {n : Nat} {sl : Array (Option Value)} {ps : List (K × Value)} {Q : Value → Shared → Prop} (hh : A.handled = none) (hl : s.heap.get? l = some { cls := .type "tuple", dict := none, data := .seq items n, slots := sl }) (hsize : items.size = ps.length) (hz : ps.length ≤ sizeLine)
    (hp : ∀ j, j < ps.length → ∃ p o n k key v, items[j]? = some (.ref p) ∧ s.heap.get? p = some o ∧ o.cls = .type "tuple" ∧ o.data = .seq #[key, v] n ∧ ps[j]? = some (k, v) ∧ knd.is k key = true)
    (h : ∀ h' tk, (∀ b o, s.heap.get? b = some o → h'.get? b = some o) → h'.DictOf knd s.heap.objs.size (merged [] ps) → Q (.ref s.heap.objs.size) { s with heap := h', toks := tk }) :
    wpAny (model prog w) A (call (.type "dict") [.ref l]) Q E s := by
  refine callType_codes (Q₁ := fun obj s₁ => obj = .ref s.heap.objs.size ∧ s₁ = { s with heap := s.heap.push { cls := .type "dict", data := .dict #[] } }) F.kt_called_dict (F.kt_typeCall_dict_1 _) F.entry_dict_init (kt_code_dict_new _ ⟨rfl, rfl⟩) ?_
  rintro obj s₁ ⟨rfl, rfl⟩
  have hnew : (s.heap.push { cls := .type "dict", data := .dict #[] }).DictOf knd s.heap.objs.size [] := Heap.DictOf.new s.heap
  have keep0 : ∀ b o, s.heap.get? b = some o → (s.heap.push { cls := .type "dict", data := .dict #[] }).get? b = some o := fun b o e => Heap.get?_push_of_some _ e
  have lt : ∀ b o, s.heap.get? b = some o → b ≠ s.heap.objs.size := fun b o e => Nat.ne_of_lt (Heap.lt_size e)
  refine ⟨hnew.typeIs, F.args_dict_init_2 _ _, ?_⟩
  unfold Builtin.«dict.__init__»
  refine wpAny_bind ?_
  unfold Builtin.Dict.selfAndRest
  refine wpAny_bind (wpAny_notOrdered_dict hnew.typeIs ?_)
  show wpAny _ _ (pure (s.heap.objs.size, [Value.ref l])) _ _ _
  refine wpAny_pure ?_
  show wpAny _ _ (Builtin.Dict.updateFrom "dict.__init__" s.heap.objs.size (.ref l) [] .none) _ _ _
  unfold Builtin.Dict.updateFrom
  refine wpAny_bind (wpAny_typeOf (T := "tuple") ⟨_, keep0 _ _ hl, rfl⟩ ?_)
  refine wpAny_ite_split (fun _ => ?_) (fun hab => absurd (by decide) hab)
  refine wpAny_bind (keysT_none (keep0 _ _ hl) hh fun h1 tk1 keep1 => ?_)
  refine wpAny_ite_split (fun _ => ?_) (fun hab => absurd (by rfl) hab)
  refine wpAny_bind (wpAny_rule ?_)
  have hl1 : h1.IsTuple l items := ⟨_, keep1 _ _ (keep0 _ _ hl), rfl, n, rfl⟩
  refine wpAny_bind (wpAny_pyIter_tuple hl1 ?_)
  have sz1 : s.heap.objs.size < h1.objs.size := Heap.lt_size (keep1 _ _ (show (s.heap.push { cls := .type "dict", data := .dict #[] }).get? s.heap.objs.size = some _ from Heap.get?_push_size _ rfl))
  have keep2 : ∀ b o, h1.get? b = some o → (h1.push { cls := .type "tuple_iterator", data := .fields #[.ref l, .int 0 0] }).get? b = some o := fun b o e => Heap.get?_push_of_some _ e
  have hd2 : (h1.push { cls := .type "tuple_iterator", data := .fields #[.ref l, .int 0 0] }).DictOf knd s.heap.objs.size [] := by
    obtain ⟨ep, hat⟩ := hnew.dictAt
    exact (hat.at' fun o e => keep2 _ _ (keep1 _ _ e)).dictOf
  have hlt1 : ∀ b o, h1.get? b = some o → b ≠ h1.objs.size := fun b o e => Nat.ne_of_lt (Heap.lt_size e)
  refine wpAny_pure ⟨plainId_quiet plain_upd _, ?_⟩
  refine updT_loop (A := A.in1) (it := h1.objs.size) (l := l) (d := s.heap.objs.size) (ps := ps) hh hsize (Nat.ne_of_lt sz1) (hlt1 _ _ (keep1 _ _ (keep0 _ _ hl))) (lt _ _ hl) ps.length 0 { s with heap := h1.push { cls := .type "tuple_iterator", data := .fields #[.ref l, .int 0 0] }, toks := tk1 } [] rfl (Nat.zero_le _)
    ⟨_, Heap.get?_push_size _ rfl, rfl, rfl⟩ (hl1.push _) hd2 (by show 0 + ps.length ≤ _; omega) (fun j _ hj => ?_) fun h' tk kp hd' => ?_
  · obtain ⟨p, o, n', k, key, v, a1, a2, a3, a4, a5, a6⟩ := hp j hj
    have b2 := keep1 _ _ (keep0 _ _ a2)
    exact ⟨p, o, n', k, key, v, a1, keep2 _ _ b2, a3, a4, a5, a6, hlt1 _ _ b2, lt _ _ a2⟩
  · refine ⟨rfl, h h' tk (fun b o e => ?_) hd'⟩
    have b2 := keep1 _ _ (keep0 _ _ e)
    exact kp b o (lt _ _ e) (hlt1 _ _ b2) (keep2 _ _ b2)
end
end PySem
namespace L2
open PySem PySem.Spec PyProof.Rows
section
variable {X : Cx}
noncomputable def rDictT : List V → Hp → VK → Prop := fun xs H Q => match xs with
  | [.ref l] => ∃ (ps : List (Key × V)) (cs : List Addr), H l = some (.tup (cs.map V.ref)) ∧ cs.length = ps.length ∧ ps.length ≤ sizeLine ∧ (∀ (j : Nat) c kv, cs[j]? = some c → ps[j]? = some kv → H c = some (.tup [kV kv.1, kv.2])) ∧ ∀ p, H p = none → Q (.ref p) (upd H p (.dK (mergeK [] ps)))
  | _ => False
theorem call_dictT (hc : X.calm = true) : CallR X (.type "dict") rDictT := by
  intro pins s σ H xs us Q I r h
  unfold rDictT at h
  split at h
  · rename_i l
    obtain ⟨ps, cs, e, hl, hz, hp, q⟩ := h
    obtain ⟨u, rfl, rx⟩ := vals1 r
    cases rx
    obtain ⟨_, its, rv, n, hO⟩ := I.hok l _ e
    obtain ⟨vs, kv, hv⟩ := pairs_raw I.hok ps cs hl hp
    have refs : its = cs.map Value.ref := refs_of cs its rv
    have ln : its.length = cs.length := by rw [refs, List.length_map]
    have lv : vs.length = ps.length := (KV.length kv).symm
    refine call_dict_pairsT (knd := mixKind X.prog X.w) (ps := vs) (I.ok.hd hc) hO (by rw [List.size_toArray, ln, hl, lv]) (by rw [lv]; exact hz) (fun j hj => ?_) fun h' tk keep hd => ?_
    · have hjc : j < cs.length := by omega
      obtain ⟨o, n', k, key, v, a1, a2, a3, a4, a5⟩ := hv j cs[j] (List.getElem?_eq_getElem hjc)
      refine ⟨cs[j], o, n', k, key, v, ?_, a1, a2, a3, a4, a5⟩
      rw [refs, List.getElem?_toArray, List.getElem?_map, List.getElem?_eq_getElem hjc]
      rfl
    · refine ⟨.ref s.heap.objs.size, _, I.laid (t' := tk) (a := s.heap.objs.size) (o := .dK (mergeK [] ps)) keep (Nat.le_refl _) ⟨?_, beq_eq_false_iff_ne.mpr (Ne.symm (Nat.ne_of_lt I.big)), _, KV.merge kv (show KV [] [] from .nil), hd⟩, rfl, q _ (I.hok.fresh (Nat.le_refl _))⟩
      have := length_mergeK ps []
      have : ([] : List (Key × V)).length = 0 := rfl
      omega
  · exact h.elim
theorem zcb_dictT {e : Expr} {es : List Expr} {t : TA} {p pos : Pos} (hc : X.calm = true) (hg : Gl X "dict") (hm : X.mg "dict" = none) (ha : ZA X (e :: es) t) (he : starEach (e :: es) X.env = (false, eval e X.env) :: starEach es X.env) (hpl : (backTo pos (starEach es X.env)).any (·.1) = false) :
    ZE X (.Call (.Name "dict" p) (e :: es) [] pos) (tCB rDictT t) := by with_unfolding_all exact pe_callTy (call_dictT hc) hg hm boot_dict' ha (by decide) (by decide) he hpl
end
end L2
set_option Elab.async false
set_option linter.all false
set_option maxRecDepth 100000
set_option maxHeartbeats 4000000
namespace L2
open PySem PySem.Spec PyProof.Rows
structure M2 (X : Cx) (o : Expr) (m : Str) (apos : Pos) (e f : Expr) (cpos : Pos) : Prop where
  base : attributeBase o m X.env (eval o X.env) = eval o X.env
  few : ((backTo cpos (starEach [e, f] X.env)).all (fun x => !x.1) && (backToKw cpos (keywordEach [] X.env)).all (fun x => x.1.isSome)
    && decide (([e, f] : List Expr).length + ([] : List Keyword).length + (if ([] : List Keyword).isEmpty then 0 else 1) < 30)) = true
  line : (apos.endLine == cpos.line) = true
  trees : backTo cpos (starEach [e, f] X.env) = [(false, eval e X.env), (false, eval f X.env)]

noncomputable def IsD (H : Hp) (a : Addr) : Prop := (∃ kvs, Rd H a (.dK kvs)) ∨ ∃ kvs, Rd H a (.dT kvs)
theorem isD_at {X : Cx} {pins : List (Addr × Obj)} {σ : St} {H : Hp} {s : Shared} {a : Addr} (I : Inv X pins σ H s) (d : IsD H a) :
    s.TypeIs (.ref a) "dict" ∧ (∀ b, Value.ref a = .ref b → ∃ ob, s.heap.get? b = some ob ∧ ob.dict = none) ∧ (a == sysModules) = false := by
  rcases d with ⟨kvs, e⟩ | ⟨kvs, e⟩
  · obtain ⟨_, hd, vs, _, dd⟩ := dk_rd I.hok e
    refine ⟨dd.typeIs, fun b q => ?_, hd⟩
    cases q
    obtain ⟨ob, _, _, h1, h2, _⟩ := dd
    exact ⟨ob, h1, h2.2.1⟩
  · obtain ⟨_, hd, xs, _, dd⟩ := dt_rd I.hok e
    refine ⟨dd.typeIs, fun b q => ?_, hd⟩
    cases q
    obtain ⟨ob, _, _, h1, h2, _⟩ := dd
    exact ⟨ob, h1, h2.2.1⟩

section
variable {X : Cx} {pins : List (Addr × Obj)} {σ : St} {H : Hp} {s : Shared} {a : Addr} {y d : V} {u r : Value} {o : Option V} {A : Around} {E : Value → Shared → Prop}
theorem d_get2 {Q : Value → Shared → Prop} (hu : A.units + 1 < cLine) (I : Inv X pins σ H s) (g : DGet H a y o) (ry : RelV y u) (rd : RelV d r) (h : ∀ w' s', Inv X pins σ H s' → RelV (o.getD d) w' → Q w' s') :
    wpAny (model X.prog X.w) A (call (.builtin "dict.get") [.ref a, u, r]) Q E s := by
  rcases g with ⟨kvs, k, e, ey, l⟩ | ⟨kvs, k, b, e, ey, eb, l⟩
  · subst ey
    obtain ⟨z, hd, vs, rel, dd⟩ := dk_rd I.hok e
    refine call_meetsIn PySem.F.slot_dict_get dd.typeIs PySem.F.entry_dict_get (PySem.F.args_dict_get_3 _ _ _) (meets_dict_get_default (mixKind X.prog X.w) a (kV_is ry) hd r) ⟨_, dd.mapOf, h _ _ (I.tok _) ?_⟩
    rw [l]
    exact (rel.val k).getD rd
  · subst ey
    cases (show u = Value.ref b from ry)
    obtain ⟨z, hd, xs, rel, dd⟩ := dt_rd I.hok e
    refine call_meetsIn PySem.F.slot_dict_get dd.typeIs PySem.F.entry_dict_get (PySem.F.args_dict_get_3 _ _ _) (meetsH_dict_get_default (tupleKind (mixKind X.prog X.w)) a b hd r) ⟨tupleKind_room_in1 hu, k, xs, key_of I.hok eb, dd, h _ _ (I.tok _) ?_⟩
    rw [l]
    exact (rel.val k).getD rd
end
noncomputable def tDGet2 (td ty tx : TE) : TE := fun σ H Q => td σ H fun x H1 => ∃ a, x = .ref a ∧ IsD H1 a ∧ ty σ H1 fun y H2 => tx σ H2 fun z H3 => ∃ o, DGet H3 a y o ∧ Q (o.getD z) H3
section
variable {X : Cx} {o e f : Expr} {apos cpos : Pos} {td ty tx : TE}
theorem pe_dget2 (hu : X.A.units + 1 < cLine) (ho : PE X o td) (he : PE X e ty) (hf : PE X f tx) (m : M2 X o "get" apos e f cpos) : PE X (.Call (.Attribute o "get" apos) [e, f] [] cpos) (tDGet2 td ty tx) := by
  intro pins s σ H Q I h
  refine wpAny_Call_method m.base m.few m.line PySem.F.plainAttrs_dict PySem.F.slot_dict_get PySem.F.type_dict_get (thn (ho pins s σ H _ I h) fun u s1 ⟨x, H1, I1, rx, a, ex, d, q1⟩ => ?_)
  subst ex
  obtain rfl : u = Value.ref a := rx
  obtain ⟨t1, t2, _⟩ := isD_at I1 d
  refine ⟨t1, t2, ?_⟩
  rw [m.trees]
  refine Calls.callWith_builtin rfl (Calls.evalArgs_plain (Calls.spliced_cons (thn (he pins s1 σ H1 _ I1 q1) fun iv s2 ⟨y, H2, I2, ry, q2⟩ =>
    Calls.spliced_cons (thn (hf pins s2 σ H2 _ I2 q2) fun fv s3 ⟨z, H3, I3, rz, ov, g, q3⟩ => Calls.spliced_nil ?_))))
  exact d_get2 hu I3 g ry rz fun w' s4 I4 rw' => ⟨_, H3, I4, rw', q3⟩
theorem ze_dget2 (hu : X.A.units + 1 < cLine) (ho : ZE X o td) (he : ZE X e ty) (hf : ZE X f tx) (m : M2 X o "get" apos e f cpos) : ZE X (.Call (.Attribute o "get" apos) [e, f] [] cpos) (tDGet2 td ty tx) := by with_unfolding_all exact pe_dget2 hu ho he hf m
end
end L2
set_option Elab.async false
set_option linter.all false
set_option maxRecDepth 100000
set_option maxHeartbeats 4000000
namespace L2
open PySem PySem.Spec PyProof.Rows
section
variable {X : Cx}
end
end L2
set_option Elab.async false
set_option linter.all false
set_option maxRecDepth 100000
set_option maxHeartbeats 4000000
namespace L2
open PySem PySem.Spec PyProof.Rows
section
variable {X : Cx}
variable {e : Expr} {es : List Expr} {t : TA} {p pos : Pos}
end
end L2
set_option Elab.async false
set_option linter.all false
set_option maxRecDepth 100000
set_option maxHeartbeats 4000000
namespace L2
open PySem PySem.Spec PyProof.Rows
section
variable {X : Cx}
variable {e : Expr} {es : List Expr} {t : TA} {p pos : Pos}
end
end L2
set_option Elab.async false
set_option linter.all false
set_option maxRecDepth 100000
set_option maxHeartbeats 4000000
namespace L2
open PySem PySem.Spec PyProof.Rows
section
variable {prog : Program} {w : World} {A : Around} {E : Value → Shared → Prop} {s : Shared}
variable {z TI TO i1 i2 i3 l1 l2 l3 : Addr} {k1 k2 k3 : Nat} {xs ys zs : Array Value}
end
section
variable {prog : Program} {w : World} {A : Around} {E : Value → Shared → Prop} {s : Shared}
end
section
variable {X : Cx} {pins : List (Addr × Obj)} {σ : St} {H : Hp} {s : Shared}
end
end L2
set_option Elab.async false
set_option linter.all false
set_option maxRecDepth 100000
set_option maxHeartbeats 4000000
namespace L2
open PySem PySem.Spec PyProof.Rows
section
variable {X : Cx}
variable {e : Expr} {es : List Expr} {t : TA} {p pos : Pos}
end
end L2
set_option Elab.async false
set_option linter.all false
set_option maxRecDepth 100000
set_option maxHeartbeats 4000000
namespace L2
open PySem PySem.Spec PyProof.Rows
section
variable {X : Cx} {e : Expr} {es : List Expr} {t : TA} {p pos : Pos}
end
end L2
set_option Elab.async false
set_option linter.all false
set_option maxRecDepth 100000
set_option maxHeartbeats 4000000
namespace L2
open PySem PySem.Spec PyProof.Rows
end L2
set_option Elab.async false
set_option linter.all false
set_option maxRecDepth 100000
set_option maxHeartbeats 4000000
namespace L2
open PySem PySem.Spec PyProof.Rows
section
variable {X : Cx}
variable {e : Expr} {es : List Expr} {t : TA} {p pos : Pos}
end
end L2
set_option Elab.async false
set_option linter.all false
set_option maxRecDepth 100000
set_option maxHeartbeats 4000000
namespace HT
open PySem PyProof.Rows PySem.SeqAt
variable {prog : Program} {w : World} {A : Around} {E : Value → Shared → Prop} {s : Shared}
end HT
namespace L2
open PySem PySem.Spec PyProof.Rows
section
variable {X : Cx} {e lo hi : Expr} {te tl tk : TE} {pos p2 : Pos}
end
end L2
set_option Elab.async false
set_option linter.all false
set_option maxRecDepth 100000
set_option maxHeartbeats 4000000
namespace EN1
open PySem PyProof.Rows
section
variable {prog : Program} {w : World} {A : Around} {E : Value → Shared → Prop} {s : Shared}
theorem callType_kw {T newId initId : String} {Bn Bi : Builtin} {args : List Value} {kw : List (Str × Value)} {S : PySem.Spec} {Q Q₁ : Value → Shared → Prop} (ft : TypeCalled T newId initId)
    (hct : checkTypeCall T ⟨args, kw⟩ = pure ()) (hcn : checkBuiltinCall newId ⟨.type T :: args, kw⟩ = pure ())
    (entryN : entryFor table newId = some Bn) (entryI : entryFor table initId = some Bi) (g : Meets (Bn ⟨.type T :: args, kw⟩) S)
    (h : S A.in1 (wants Q₁ E) s)
    (hnext : ∀ obj s₁, Q₁ obj s₁ → s₁.TypeIs obj T ∧ argsOk initId ⟨obj :: args, kw⟩ ∧ ∃ Si, Meets (Bi ⟨obj :: args, kw⟩) Si ∧ Si A.in1 (wants (fun r s₂ => r = .none ∧ Q obj s₂) E) s₁) :
    wpAny (model prog w) A (call (.type T) args kw) Q E s := by
  obtain ⟨c, tl, hmro⟩ := ft.mro
  have hmade := ft.made
  have hsub := ft.sub
  refine wpAny_call (codeAny_of_tree ?_)
  show wpAny _ _ (callAny (.type T) _) _ _ _
  refine wpAny_pure ⟨Code.quiet_builtin _ (by decide +kernel), codeAny_builtin PySem.F.entry_type_call ?_⟩
  rw [Around.under_plain (weight_type_call_type T args kw) (units_type_call_type T args kw)]
  have h1 := ft.notType
  have h2 := ft.canCreate
  repeat (any_goals (first | assumption | wp_step))
  refine codeAny_mono (codeAny_call_builtin ft.plain entryN (wpAny_of_eq hcn (g prog w A.in1 _ s h))) fun r s₁ hr => ?_
  cases r with
  | error e => exact hr
  | ok fl =>
    cases fl with
    | ret obj =>
      obtain ⟨hT, hok, Si, gi, hsi⟩ := hnext _ _ hr
      have hli := ft.init.lookup
      have hbi := ft.init.bind obj
      repeat (any_goals (first | assumption | wp_step))
      refine codeAny_mono (codeAny_call_builtin ft.init.plain entryI (ft.init.check _ _ _ _ _ _ _ _ hT hok (gi prog w A.in1 _ s₁ hsi))) fun r₂ s₂ hr₂ => ?_
      cases r₂ with
      | error e => exact hr₂
      | ok fl₂ =>
        cases fl₂ with
        | ret r =>
          obtain ⟨rfl, hq⟩ := hr₂
          repeat (any_goals (first | assumption | wp_step))
        | _ => exact hr₂.elim
    | _ => exact hr.elim
theorem init_kw {T newId : String} {self : Value} {a : Value} {rest : List Value} {kw : List (Str × Value)} (hl : typeLookup (.type T) "__init__" = pure (some (.builtin "object.__init__")))
    (hm : Bind.madeBy (.type T) = pure (some newId)) (hne : (some newId != some "object.__new__") = true) :
    Meets (Builtin.«object.__init__» ⟨self :: a :: rest, kw⟩) (fun _ R s => s.TypeIs self T ∧ R (.ok (.ret .none)) s) := by
  refine Meets.of_wp fun prog w A R s hs => ?_
  obtain ⟨hT, hq⟩ := hs
  repeat (any_goals (first | assumption | wp_step))
  exact ⟨_, rfl, hq⟩
theorem typeCall_1 (a b : Value) : checkTypeCall "enumerate" ⟨[a], [("start", b)]⟩ = pure () := by kernel_rfl
theorem newCall_1 (a b : Value) : checkBuiltinCall "enumerate.__new__" ⟨[.type "enumerate", a], [("start", b)]⟩ = pure () := by kernel_rfl
theorem init_1 (o a b : Value) : argsOk "object.__init__" ⟨[o, a], [("start", b)]⟩ := by unfold argsOk; kernel_rfl
theorem meets_new1 (l : Addr) (items : Array Value) (n : Nat) (dct : Option Addr) (sl : Array (Option Value)) (t : Tok) :
    Meets (Builtin.«enumerate.__new__» ⟨[.type "enumerate", .ref l], [("start", .int 1 t)]⟩) (fun _ R s => s.heap.get? l = some { cls := .type "tuple", dict := dct, data := .seq items n, slots := sl } ∧
      R (.ok (.ret (.ref (s.heap.push { cls := .type "tuple_iterator", data := .fields #[.ref l, .int 0 0] }).objs.size)))
        { s with heap := (s.heap.push { cls := .type "tuple_iterator", data := .fields #[.ref l, .int 0 0] }).push { cls := .type "enumerate", data := .fields #[.none, .bool false, .ref s.heap.objs.size, rawInt 1, .none, .none] } }) :=
  .of_wp fun prog w A R s h => by
    obtain ⟨hp, g, d, tk, os⟩ := s
    obtain ⟨hl, h⟩ := h
    have hsub := sub_enumerate
    have hT : Heap.IsTuple (Shared.heap ⟨hp, g, d, tk, os⟩) l items := ⟨_, hl, rfl, n, rfl⟩
    wp_walk using AutoSeq1.wpAny_loadPart' hl
    refine wpAny_stack_any fun st => wpAny_pure ?_
    split
    · rename_i c _ _ _ _ _
      cases (c == Value.type "enumerate") <;> (wp_walk using AutoSeq1.wpAny_loadPart' hl, wpAny_pyIter_tuple hT) <;> first | exact ⟨_, rfl, h⟩ | trace_state
    · wp_walk using AutoSeq1.wpAny_loadPart' hl, wpAny_pyIter_tuple hT
      first | exact ⟨_, rfl, h⟩ | trace_state
end
end EN1
set_option Elab.async false
set_option linter.all false
set_option maxRecDepth 100000
set_option maxHeartbeats 4000000
namespace EN1
open PySem PyProof.Rows
section
theorem draws1 {prog : Program} {w : World} {A : Around} (hh : A.handled = none) (it l : Addr) (hne : l ≠ it) (items : Array Value) :
    Draws prog w A it [it, l] (items.size + 1) (fun i v => 1 ≤ i ∧ items[i - 1]? = some v) (fun i h => 1 ≤ i ∧ h.IsTupleIter it l (i - 1) ∧ h.IsTuple l items) where
  live := fun _ _ st => let ⟨o, ho, _⟩ := st.2.1; ⟨o, ho⟩
  frame := fun _ _ _ st k => ⟨st.1, st.2.1.at fun o e => k it (List.mem_cons_self ..) o e, st.2.2.at fun o e => k l (by simp) o e⟩
  item := fun i s Q E hi st hQ => by
    have h1 := st.1
    have hlt : i - 1 < items.size := by omega
    exact L2.nextOf_tup_item st.2.1 st.2.2 (x := items[i - 1]) (by simp [hlt]) fun h' a b => hQ _ h' s.toks ⟨h1, by simp [hlt]⟩ ⟨by omega, by rw [show i + 1 - 1 = i - 1 + 1 by omega]; exact a, st.2.2.extBut b.extBut hne⟩ b
  done := fun s Q E st hE => L2.nextOf_tup_end hh st.2.1 st.2.2 (by simp) hE
theorem callWith_ty_kw {M : Model} {A : Around} {E : Value → Shared → Prop} {s : Shared} {env : Env} {pos : Pos} {T : String} {e : Expr} {rest : List Expr} {kws : List Keyword} {Q : Value → Shared → Prop}
    (h : wpAny M A (spliced (backTo pos (starEach (e :: rest) env))) (fun vs s₁ => wpAny M A (evalAll ((backToKw pos (keywordEach kws env)).map (·.2)))
      (fun kvs s₂ => wpAny M A (call (.type T) vs (((backToKw pos (keywordEach kws env)).filterMap (·.1)).zip kvs)) Q E s₂) E s₁) E s)
    (he : backTo pos (starEach (e :: rest) env) = (false, eval e env) :: backTo pos (starEach rest env) := by rfl)
    (hplain : (backTo pos (starEach (e :: rest) env)).any (·.1) = false := by rfl)
    (hall : (backToKw pos (keywordEach kws env)).all (·.1.isSome) = true := by rfl)
    (hkw : (backToKw pos (keywordEach kws env)).any (·.1.isNone) = false := by rfl) :
    wpAny M A (callWith pos (.type T) [] (backTo pos (starEach (e :: rest) env)) (backToKw pos (keywordEach kws env))) Q E s := by
  have h2 : wpAny M A (evalArgs (.type T) true (backTo pos (starEach (e :: rest) env)) (backToKw pos (keywordEach kws env))) (fun a s₁ => wpAny M A (call (.type T) ([] ++ a.pos) a.kw) Q E s₁) E s := by
    rw [he] at h ⊢
    exact evalArgs_kwB hall h
  unfold callWith
  refine wpAny_bind (wpAny_holding (wpAny_mono h2 (fun a s₁ h₁ => wpAny_bind (wpAny_standAt ?_)) fun _ _ x => x))
  simp only [hplain, hkw, Bool.or_false]
  refine wpAny_bind (wpAny_pure ?_)
  exact wpAny_bind (wpAny_mono h₁ (fun r s₂ hr => wpAny_bind (wpAny_holding (wpAny_point (wpAny_pure hr)))) fun _ _ x => x)
end
end EN1
namespace L2
open PySem PySem.Spec PyProof.Rows
section
variable {X : Cx}
noncomputable def Ite1 (a : Addr) : It := ⟨fun i H => ∃ xs x, H a = some (.tup xs) ∧ xs[i]? = some x, fun i H v H' => ∃ p, H p = none ∧ v = .ref p ∧ ∀ xs, H a = some (.tup xs) → ∃ y, xs[i]? = some y ∧ H' = upd H p (.tup [.int ((i + 1 : Nat) : Int), y]), fun i H => ∃ xs, H a = some (.tup xs) ∧ xs.length = i⟩
theorem turn_enum1 {P : Program} {w : World} {K : PySem.W.Frag} {elts : List Expr} {k : Nat} {pos : Pos} {e it a : Addr} (hei : e ≠ it) :
    Turn P w K (.Tuple elts k pos) (Ite1 a) [e, it] e (fun i h => (∃ old, IsEnum h e it ((i + 1 : Nat) : Int) old) ∧ h.IsTupleIter it a i) where
  mem := List.mem_cons_self ..
  obj := fun i h st b hb => by
    obtain ⟨⟨old, he⟩, ⟨o, ho, hc, hd⟩⟩ := st
    rcases List.mem_cons.mp hb with rfl | hb
    · exact ⟨_, he, fun v z => by cases z⟩
    · have : b = it := by simpa using hb
      subst this
      exact ⟨o, ho, fun v z => by rw [hd] at z; cases z⟩
  keep := fun i h h' st k => ⟨let ⟨old, he⟩ := st.1; ⟨old, k e (by simp) _ he⟩, st.2.at fun o q => k it (by simp) o q⟩
  item := by
    intro X hP hw hK hc i pins s σ H E I hf st hg
    subst hP hw hK
    obtain ⟨xs, x, hq, hx⟩ := hg
    obtain ⟨⟨old, he⟩, hit⟩ := st
    obtain ⟨its, rv, p, hz⟩ := I.tuple (SqT.of hq)
    obtain ⟨u, hu, ru⟩ := rv.get hx
    have fe := hf e (by simp)
    have fi := hf it (by simp)
    have hae : a ≠ e := fun z => by rw [z, fe.1] at hq; cases hq
    have hai : a ≠ it := fun z => by rw [z, fi.1] at hq; cases hq
    have hlt : i < its.toArray.size := by rw [List.size_toArray]; exact (List.getElem?_eq_some_iff.mp hu).1
    have hT : s.heap.IsTuple a its.toArray := p
    refine wpAny_pyNext_enum_itemD (i := i + 1) (EN1.draws1 (A := X.A.in1) (I.ok.hd hc) it a hai its.toArray) he ⟨Nat.succ_pos i, hit, hT⟩ (Nat.succ_lt_succ hlt) hei (by simp [hei, Ne.symm hae]) fun x' h' tk hPx ho hst' hTup hsz hk => ?_
    have ex : x' = u := by
      have : its[i]? = some x' := by simpa using hPx.2
      rw [hu] at this
      exact (Option.some.inj this).symm
    subst ex
    refine ⟨_, rfl, wpAny_letOwnedTupleGo_enum ho fun h2 he2 hs2 => ?_⟩
    have hel : e < s.heap.objs.size := Heap.lt_size he
    have I1 : Inv X pins σ H { s with heap := h2, toks := tk + 1 } := I.turned2 (fun b o n1 n2 q => (hs2.2 b n1).trans (hk b o n1 n2 q)) fe fi
    have hTd : TupD h2 s.heap.objs.size [.int ((i + 1 : Nat) : Int) tk, x'].toArray := ⟨0, (hs2.2 _ (Nat.ne_of_gt hel)).trans hTup⟩
    have hn : H s.heap.objs.size = none := I.hok.fresh (Nat.le_refl _)
    have I2 := I1.trackT (ys := [.int ((i + 1 : Nat) : Int), x]) (.cons ⟨tk, rfl⟩ (.cons ru .nil)) (by show 2 ≤ sizeLine; decide) hTd (I.fpOk (Nat.le_refl _) hn)
    have hil : it < s.heap.objs.size := by obtain ⟨o, q, _⟩ := hit; exact Heap.lt_size q
    refine ⟨.ref s.heap.objs.size, _, I2, rfl, ⟨_, hn, rfl, fun ys hy => ?_⟩, ⟨⟨x', by simpa using he2⟩, hst'.2.1.at fun o q => (hs2.2 it (Ne.symm hei)).trans q⟩, fun b hb => ?_⟩
    · rw [hq] at hy
      cases hy
      exact ⟨x, hx, rfl⟩
    · rcases List.mem_cons.mp hb with rfl | hb
      · rw [upd_ne (Nat.ne_of_lt hel)]; exact fe.1
      · have : b = it := by simpa using hb
        subst this
        rw [upd_ne (Nat.ne_of_lt hil)]; exact fi.1
  done := by
    intro X hP hw hK hc i pins s σ H E I hf st hg
    subst hP hw hK
    obtain ⟨xs, hq, hx⟩ := hg
    obtain ⟨⟨old, he⟩, hit⟩ := st
    obtain ⟨its, rv, p, hz⟩ := I.tuple (SqT.of hq)
    have fe := hf e (by simp)
    have fi := hf it (by simp)
    have hai : a ≠ it := fun z => by rw [z, fi.1] at hq; cases hq
    have hn : its.toArray.size = i := by rw [List.size_toArray, ← rv.length]; exact hx
    have hT : s.heap.IsTuple a its.toArray := p
    refine wpAny_pyNext_enum_endD (EN1.draws1 (A := X.A.in1) (I.ok.hd hc) it a hai its.toArray) he ⟨Nat.succ_pos _, by rw [hn]; exact hit, hT⟩ fun h' hb => ⟨rfl, I.turned (t' := s.toks) (it := it) (fun b o n q => hb b o n q) fi.1 fi.2.1 fi.2.2.2.1 fi.2.2.2.2.1 fi.2.2.2.2.2⟩
  self := fun A i s Q E st h => let ⟨⟨_, he⟩, _⟩ := st; wpAny_pyIter_enum he h
theorem call_enum1 {prog : Program} {w : World} {A : Around} {E : Value → Shared → Prop} {s : Shared} {l : Addr} {tt : Tok} {items : Array Value} {Q : Value → Shared → Prop} (hL : s.heap.IsTuple l items)
    (h : ∀ h', IsEnum h' (s.heap.objs.size + 1) s.heap.objs.size 1 .none → h'.IsTupleIter s.heap.objs.size l 0 → (∀ b o, s.heap.get? b = some o → h'.get? b = some o) → Q (.ref (s.heap.objs.size + 1)) { s with heap := h' }) :
    wpAny (model prog w) A (call (.type "enumerate") [.ref l] [("start", .int 1 tt)]) Q E s := by
  obtain ⟨⟨c, dct, dt, sl⟩, hl, hc, n, hd⟩ := hL
  cases (show c = .type "tuple" from hc)
  cases (show dt = .seq items n from hd)
  have hz : (s.heap.push { cls := .type "tuple_iterator", data := .fields #[.ref l, .int 0 0] }).objs.size = s.heap.objs.size + 1 := Heap.size_push ..
  refine EN1.callType_kw (Q₁ := fun obj s₁ => s₁.TypeIs obj "enumerate" ∧ Q obj s₁) F.called_enumerate (EN1.typeCall_1 _ _) (EN1.newCall_1 _ _) F.entry_enumerate_new F.entry_object_init (EN1.meets_new1 l items n dct sl tt) ⟨hl, ?_⟩ fun obj s₁ hq => ⟨hq.1, EN1.init_1 obj _ _, _, EN1.init_kw F.called_enumerate.init.lookup F.called_enumerate.made (by decide), hq.1, rfl, hq.2⟩
  have g := Heap.get?_push_size (s.heap.push { cls := .type "tuple_iterator", data := .fields #[.ref l, .int 0 0] }) (o := { cls := .type "enumerate", data := .fields #[.none, .bool false, .ref s.heap.objs.size, rawInt 1, .none, .none] }) rfl
  rw [hz] at g
  show _ ∧ _
  rw [hz]
  exact ⟨⟨_, g, rfl⟩, h _ g ⟨_, Heap.get?_push_of_some _ (Heap.get?_push_size _ rfl), rfl, rfl⟩ fun b o q => Heap.get?_push_of_some _ (Heap.get?_push_of_some _ q)⟩
noncomputable def iEnum1 (ta : TA) : TI := fun σ H R => ta σ H fun vs H1 => match vs with
  | [.ref a] => ∃ xs, H1 a = some (.tup xs) ∧ R (Ite1 a) H1
  | _ => False
theorem pi_enum1 {l : Expr} {ta : TA} {elts : List Expr} {k : Nat} {kk : Nat} {tp p p2 p3 pos : Pos} (hg : Gl X "enumerate") (hm : X.mg "enumerate" = none) (ha : PA X [l] ta) (hs : starEach [l] X.env = [(false, eval l X.env)] := by rfl) :
    PI X (.Tuple elts k tp) (.Call (.Name "enumerate" p) [l] [⟨some "start", .Constant (.int 1) kk p2, p3⟩] pos) (iEnum1 ta) := by
  intro pins s σ H R I h
  refine wpAny_Call_Name_kw (ld_blt I hg hm boot_enumerate' ?_ (by decide) (by decide))
  refine EN1.callWith_ty_kw (thn (ha pos pins s σ H _ I h) fun us s1 ⟨vs, H1, I1, r1, q1⟩ => ?_) (by rw [hs]; rfl) (by rw [hs]; rfl) rfl rfl
  refine kws_cons (wpAny_Constant_int (kws_nil ?_))
  dsimp only at q1
  split at q1
  · rename_i a
    obtain ⟨xs, hx, q⟩ := q1
    obtain ⟨u, rfl, rx⟩ := vals1 r1
    cases rx
    obtain ⟨its, rv, pt, hz⟩ := I1.tuple (SqT.of hx)
    refine call_enum1 (show s1.heap.IsTuple a its.toArray from pt) fun h' he hit hk => ?_
    have I2 : Inv X pins σ H1 { s1 with heap := h', toks := s1.toks + 1 } := I1.kept (t' := s1.toks + 1) hk
    refine wpAny_pyIter_enum (s := { s1 with heap := h', toks := s1.toks + 1 }) he ⟨s1.heap.objs.size + 1, [s1.heap.objs.size + 1, s1.heap.objs.size], _, _, H1, rfl, I2, turn_enum1 (Nat.succ_ne_self _), ⟨⟨_, he⟩, hit⟩, fun b hb => ?_, q⟩
    have hb' : s1.heap.objs.size ≤ b := by
      rcases List.mem_cons.mp hb with rfl | hb
      · exact Nat.le_succ _
      · have : b = s1.heap.objs.size := by simpa using hb
        exact Nat.le_of_eq this.symm
    exact I1.fpOk hb' (I1.hok.fresh hb')
  · exact q1.elim
theorem zi_enum1 {l : Expr} {ta : TA} {elts : List Expr} {k : Nat} {kk : Nat} {tp p p2 p3 pos : Pos} (hg : Gl X "enumerate") (hm : X.mg "enumerate" = none) (ha : ZA X [l] ta) (hs : starEach [l] X.env = [(false, eval l X.env)] := by rfl) :
    ZI X (.Tuple elts k tp) (.Call (.Name "enumerate" p) [l] [⟨some "start", .Constant (.int 1) kk p2, p3⟩] pos) (iEnum1 ta) := by with_unfolding_all exact pi_enum1 hg hm ha hs
theorem for_enum1 {a : Addr} {xs : List V} {g : TG} {tb : TS} {D : Ends} {σ : St} {H : Hp} (Pv : Nat → St → Hp → Prop) (h0 : Pv 0 σ H) (hl : ∀ i σ H, i ≤ xs.length → Pv i σ H → H a = some (.tup xs))
    (hs : ∀ i x σ H p, xs[i]? = some x → Pv i σ H → H p = none → g (.ref p) σ (upd H p (.tup [.int ((i + 1 : Nat) : Int), x])) fun σ2 H2 => tb { D with nx := Pv (i + 1), ct := Pv (i + 1), bk := D.nx } σ2 H2) (hd : ∀ σ H, Pv xs.length σ H → D.nx σ H) :
    ∃ W : Nat → Nat → St → Hp → Prop, (∃ m, W 0 m σ H) ∧ ∀ i m σ H, W i m σ H →
      ((Ite1 a).stop i H ∧ D.nx σ H) ∨ ((Ite1 a).go i H ∧ ∃ N : St → Hp → Prop, (∀ σ' H', N σ' H' → ∃ m', m' < m ∧ W (i + 1) m' σ' H') ∧ ∀ x H', (Ite1 a).yld i H x H' → g x σ H' fun σ2 H2 => tb { D with nx := N, ct := N, bk := D.nx } σ2 H2) := by
  refine ⟨fun i m σ H => m = xs.length - i ∧ i ≤ xs.length ∧ Pv i σ H, ⟨xs.length, by simp, Nat.zero_le _, h0⟩, ?_⟩
  rintro i m σ H ⟨rfl, hi, p⟩
  have q := hl i σ H hi p
  by_cases hlt : i < xs.length
  · refine .inr ⟨⟨xs, xs[i], q, by simp [hlt]⟩, Pv (i + 1), fun σ' H' p' => ⟨xs.length - (i + 1), by omega, rfl, hlt, p'⟩, fun x H' y => ?_⟩
    obtain ⟨pp, hn, rfl, hy⟩ := y
    obtain ⟨z, hz, rfl⟩ := hy xs q
    exact hs i z σ H pp hz p hn
  · have e : i = xs.length := by omega
    subst e
    exact .inl ⟨⟨xs, q, rfl⟩, hd σ H p⟩
end
end L2
set_option Elab.async false
set_option linter.all false
set_option maxRecDepth 100000
set_option maxHeartbeats 4000000
namespace PySem
open PyProof.Rows
section
variable {prog : Program} {w : World} {A : Around} {E : Value → Shared → Prop} {s : Shared}
end
end PySem
namespace L2
open PySem PySem.Spec PyProof.Rows
section
variable {X : Cx}
theorem op_in_seq' {K : PySem.W.Frag} (h : X.K = K) : OpR X (compareOp .In) (rIn K false) := by subst h; exact op_in_seq
variable {e : Expr} {es : List Expr} {t : TA} {p pos : Pos}
end
end L2
namespace MRow
noncomputable def putN : Nat → (Nat → Int) → Nat → Nat → Int
  | 0, f, _, n => f n
  | k + 1, f, s, n => f n + (if s ≤ n then putN k f s (n - s) else 0)
noncomputable def put (f : Nat → Int) (s n : Nat) : Int := putN n f s n
theorem putN_more {f : Nat → Int} {s : Nat} (hs : 0 < s) : ∀ (k n : Nat), n ≤ k → putN k f s n = putN n f s n
  | 0, n, h => by have : n = 0 := by omega
                  subst this; rfl
  | k + 1, 0, _ => by
    show f 0 + (if s ≤ 0 then _ else 0) = f 0
    rw [if_neg (by omega)]; omega
  | k + 1, n + 1, h => by
    show f (n + 1) + (if s ≤ n + 1 then putN k f s (n + 1 - s) else 0) = f (n + 1) + (if s ≤ n + 1 then putN n f s (n + 1 - s) else 0)
    by_cases hn : s ≤ n + 1
    · rw [if_pos hn, if_pos hn, putN_more hs k _ (by omega), putN_more hs n _ (by omega)]
    · rw [if_neg hn, if_neg hn]
theorem put_eq (f : Nat → Int) {s : Nat} (hs : 0 < s) (n : Nat) : put f s n = f n + (if s ≤ n then put f s (n - s) else 0) := by
  unfold put
  rw [← putN_more hs (n + 1) n (by omega)]
  show f n + (if s ≤ n then putN n f s (n - s) else 0) = _
  by_cases hn : s ≤ n
  · rw [if_pos hn, if_pos hn, putN_more hs n _ (by omega)]
  · rw [if_neg hn, if_neg hn]
noncomputable def dl : Nat → Int := fun n => if n = 0 then 1 else 0
noncomputable def R : Nat → Nat → Int
  | 0 => dl
  | s + 1 => put (R s) (s + 1)
noncomputable def tb (f : Nat → Int) (L : Nat) : List Int := (List.range L).map f
theorem tb_len (f : Nat → Int) (L : Nat) : (tb f L).length = L := by simp [tb]
theorem tb_at {f : Nat → Int} {L j : Nat} (h : j < (tb f L).length) : (tb f L)[j] = f j := by simp [tb]
theorem tb_get {f : Nat → Int} {L j : Nat} (h : j < L) : (tb f L)[j]? = some (f j) := by
  rw [List.getElem?_eq_getElem (by rw [tb_len]; exact h), tb_at]
theorem tb_succ (f : Nat → Int) (L : Nat) : tb f (L + 1) = tb f L ++ [f L] := by simp [tb, List.range_succ]
theorem tb_ext {f g : Nat → Int} {L : Nat} (h : ∀ j, j < L → f j = g j) : tb f L = tb g L := by
  unfold tb
  exact List.map_congr_left fun j hj => h j (List.mem_range.mp hj)
theorem tb_dl (n : Nat) : tb dl (n + 1) = 1 :: List.replicate n 0 := by
  refine List.ext_getElem (by simp [tb]) fun i h1 h2 => ?_
  rw [tb_at]
  cases i with
  | zero => rfl
  | succ i => simp [dl]
noncomputable def up (f g : Nat → Int) (k : Nat) : Nat → Int := fun j => if j < k then g j else f j
theorem tb_set {f g : Nat → Int} {L k : Nat} (h : k < L) : (tb (up f g k) L).set k (g k) = tb (up f g (k + 1)) L := by
  refine List.ext_getElem (by rw [List.length_set, tb_len, tb_len]) fun i h1 h2 => ?_
  rw [List.getElem_set, tb_at h2]
  unfold up
  by_cases hk : k = i
  · subst hk; simp
  · rw [if_neg hk, tb_at]
    by_cases hi : i < k
    · rw [if_pos hi, if_pos (by omega)]
    · rw [if_neg hi, if_neg (by omega)]
theorem put_low (f : Nat → Int) {s n : Nat} (hs : 0 < s) (h : n < s) : put f s n = f n := by rw [put_eq f hs, if_neg (by omega)]; omega
theorem up_start (f : Nat → Int) {s : Nat} (hs : 0 < s) (L : Nat) : tb (up f (put f s) s) L = tb f L := tb_ext fun j _ => by
  unfold up
  by_cases h : j < s
  · rw [if_pos h, put_low f hs h]
  · rw [if_neg h]
theorem up_all (f g : Nat → Int) {k L : Nat} (h : L ≤ k) : tb (up f g k) L = tb g L := tb_ext fun j hj => by
  unfold up
  rw [if_pos (by omega)]
end MRow
set_option Elab.async false
set_option linter.all false
set_option maxRecDepth 100000
set_option exponentiation.threshold 3000
set_option maxHeartbeats 4000000
namespace M27
open PySem L2 MRow
theorem size_up {a b m : Int} (hm : 1 ≤ m) : Builtin.Range.rangeSize a b m = if a < b then (b - a - 1) / m + 1 else 0 := by
  unfold Builtin.Range.rangeSize
  rw [if_pos (by omega)]
theorem size_lt {a b m : Int} {i : Nat} (hm : 1 ≤ m) (h : i < (Builtin.Range.rangeSize a b m).toNat) : a + (i : Int) * m < b := by
  rw [size_up hm] at h
  by_cases hab : a < b
  · rw [if_pos hab] at h
    have h0 : 0 ≤ (b - a - 1) / m := Int.ediv_nonneg (by omega) (by omega)
    have h1 : (i : Int) ≤ (b - a - 1) / m := by omega
    have h2 : (i : Int) * m ≤ (b - a - 1) / m * m := Int.mul_le_mul_of_nonneg_right h1 (by omega)
    have h3 := Int.ediv_mul_le (b - a - 1) (b := m) (by omega)
    omega
  · rw [if_neg hab] at h
    simp at h
theorem size_all {a b m : Int} (hm : 1 ≤ m) {j : Int} (h : j < b) : j < a + ((Builtin.Range.rangeSize a b m).toNat : Int) * m := by
  rw [size_up hm]
  by_cases hab : a < b
  · rw [if_pos hab]
    have h0 : 0 ≤ (b - a - 1) / m := Int.ediv_nonneg (by omega) (by omega)
    have e : (((b - a - 1) / m + 1).toNat : Int) = (b - a - 1) / m + 1 := by omega
    rw [e]
    have := Int.lt_ediv_add_one_mul_self (b - a - 1) (b := m) (by omega)
    omega
  · rw [if_neg hab]
    simp
    omega
theorem small_up {a b m : Int} (hm : 1 ≤ m) (hm' : m ≤ 1000000) (ha : 0 ≤ a) (ha' : a ≤ 1000000) (hb : 0 ≤ b) (hb' : b ≤ 1000000) : Builtin.Range.small a b m = true := by
  have e := size_up (a := a) (b := b) hm
  unfold Builtin.Range.small
  rw [e]
  by_cases hab : a < b
  · rw [if_pos hab]
    have h0 : 0 ≤ (b - a - 1) / m := Int.ediv_nonneg (by omega) (by omega)
    have h1 : (b - a - 1) / m ≤ b - a - 1 := Int.ediv_le_self _ (by omega)
    simp only [Builtin.Range.rangeFitsLong, Bool.and_eq_true, Bool.or_eq_true, decide_eq_true_eq, beq_iff_eq, show m > 0 by omega, if_true]
    generalize (b - a - 1) / m = k at h0 h1
    omega
  · rw [if_neg hab]
    simp only [Builtin.Range.rangeFitsLong, Bool.and_eq_true, Bool.or_eq_true, decide_eq_true_eq, beq_iff_eq, show m > 0 by omega, if_true]
    omega
noncomputable def bnd : Nat → Nat
  | 0 => 1
  | s + 1 => (600 / (s + 1) + 1) * bnd s
theorem put_in {f : Nat → Int} {s B : Nat} (hs : 0 < s) (h : ∀ n, n ≤ 600 → 0 ≤ f n ∧ f n ≤ (B : Int)) : ∀ (k n : Nat), n ≤ k → n ≤ 600 → 0 ≤ put f s n ∧ put f s n ≤ (((n / s + 1) * B : Nat) : Int) := by
  intro k
  induction k with
  | zero =>
    intro n hk hn
    have : n = 0 := by omega
    subst this
    rw [put_eq f hs, if_neg (by omega), Nat.zero_div]
    have := h 0 (by omega)
    omega
  | succ k ih =>
    intro n hk hn
    rw [put_eq f hs]
    have := h n hn
    by_cases hsn : s ≤ n
    · rw [if_pos hsn]
      have h2 := ih (n - s) (by omega) (by omega)
      have e : n / s = (n - s) / s + 1 := Nat.div_eq_sub_div hs hsn
      rw [e, Nat.succ_mul]
      omega
    · rw [if_neg hsn, Nat.div_eq_of_lt (by omega)]
      omega
theorem R_in : ∀ (s n : Nat), n ≤ 600 → 0 ≤ R s n ∧ R s n ≤ (bnd s : Int)
  | 0, n, _ => by
    show 0 ≤ dl n ∧ dl n ≤ ((1 : Nat) : Int)
    unfold dl
    split <;> omega
  | s + 1, n, hn => by
    have h := put_in (f := R s) (s := s + 1) (B := bnd s) (Nat.succ_pos s) (R_in s) n n (Nat.le_refl _) hn
    refine ⟨h.1, Int.le_trans h.2 ?_⟩
    show (((n / (s + 1) + 1) * bnd s : Nat) : Int) ≤ (((600 / (s + 1) + 1) * bnd s : Nat) : Int)
    have h1 : n / (s + 1) ≤ 600 / (s + 1) := Nat.div_le_div_right hn
    have := Nat.mul_le_mul_right (bnd s) (Nat.succ_le_succ h1)
    exact Int.ofNat_le.mpr this
theorem bnd_mono : ∀ (d s : Nat), bnd s ≤ bnd (s + d)
  | 0, s => Nat.le_refl _
  | d + 1, s => by
    refine Nat.le_trans (bnd_mono d s) ?_
    show bnd (s + d) ≤ (600 / (s + d + 1) + 1) * bnd (s + d)
    exact Nat.le_mul_of_pos_left _ (Nat.succ_pos _)
theorem bnd_600 : bnd 600 < 2 ^ 1300 := by decide +kernel
theorem R_small {s n : Nat} (hs : s ≤ 600) (hn : n ≤ 600) : (R s n).natAbs < 2 ^ 1300 := by
  have h := R_in s n hn
  have h1 : bnd s ≤ bnd 600 := by have := bnd_mono (600 - s) s; rwa [Nat.add_sub_cancel' hs] at this
  have h2 := bnd_600
  have h3 : (R s n).natAbs ≤ bnd s := by omega
  exact Nat.lt_of_le_of_lt (Nat.le_trans h3 h1) h2
end M27
set_option linter.all false
set_option maxRecDepth 100000
set_option maxHeartbeats 4000000
namespace M80
open MRow
noncomputable def off (g : Nat → Int) (s n : Nat) : Int := g n - if s ≤ n then g (n - s) else 0
theorem put_of {F c : Nat → Int} {s : Nat} (hs : 0 < s) (h : off F s = c) : F = put c s := by
  funext n
  induction n using Nat.strongRecOn with
  | ind n ih =>
    have e := congrFun h n
    unfold off at e
    rw [put_eq c hs]
    by_cases hn : s ≤ n
    · rw [if_pos hn] at e ⊢
      rw [← ih (n - s) (by omega)]
      omega
    · rw [if_neg hn] at e ⊢
      omega
theorem off_put (g : Nat → Int) {s : Nat} (hs : 0 < s) : off (put g s) s = g := by
  funext n
  unfold off
  rw [put_eq g hs n]
  omega
theorem put_off (g : Nat → Int) {s : Nat} (hs : 0 < s) : put (off g s) s = g := (put_of hs rfl).symm
theorem off_comm (g : Nat → Int) (a b : Nat) : off (off g a) b = off (off g b) a := by
  funext n
  unfold off
  by_cases ha : a ≤ n
  · by_cases hb : b ≤ n
    · by_cases hab : a + b ≤ n
      · rw [if_pos hb, if_pos ha, if_pos (show a ≤ n - b by omega), if_pos (show b ≤ n - a by omega), show n - b - a = n - a - b by omega]
        omega
      · rw [if_pos hb, if_pos ha, if_neg (show ¬ a ≤ n - b by omega), if_neg (show ¬ b ≤ n - a by omega)]
        omega
    · rw [if_neg hb, if_pos ha, if_neg (show ¬ b ≤ n - a by omega)]
      omega
  · by_cases hb : b ≤ n
    · rw [if_pos hb, if_neg ha, if_neg (show ¬ a ≤ n - b by omega)]
      omega
    · simp only [if_neg hb, if_neg ha]
theorem off_put_comm (g : Nat → Int) {a : Nat} (b : Nat) (ha : 0 < a) : off (put g a) b = put (off g b) a := by
  refine put_of ha ?_
  rw [off_comm, off_put g ha]
theorem put_comm (g : Nat → Int) {a b : Nat} (ha : 0 < a) (hb : 0 < b) : put (put g a) b = put (put g b) a := by
  refine put_of ha ?_
  rw [off_put_comm _ _ hb, off_put _ ha]
noncomputable def PL (g : Nat → Int) (ss : List Nat) : Nat → Int := ss.foldl put g
noncomputable def OL (g : Nat → Int) (ss : List Nat) : Nat → Int := ss.foldl off g
theorem PL_cons (g : Nat → Int) (s : Nat) (ss : List Nat) : PL g (s :: ss) = PL (put g s) ss := rfl
theorem OL_cons (g : Nat → Int) (s : Nat) (ss : List Nat) : OL g (s :: ss) = OL (off g s) ss := rfl
theorem PL_app (g : Nat → Int) (a b : List Nat) : PL g (a ++ b) = PL (PL g a) b := by unfold PL; rw [List.foldl_append]
theorem OL_app (g : Nat → Int) (a b : List Nat) : OL g (a ++ b) = OL (OL g a) b := by unfold OL; rw [List.foldl_append]
theorem PL_off : ∀ (ss : List Nat) (g : Nat → Int) (s : Nat), (∀ x ∈ ss, 0 < x) → PL (off g s) ss = off (PL g ss) s
  | [], _, _, _ => rfl
  | x :: ss, g, s, h => by rw [PL_cons, PL_cons, ← off_put_comm g s (h x List.mem_cons_self), PL_off ss (put g x) s fun y hy => h y (List.mem_cons_of_mem _ hy)]
theorem PL_perm {a b : List Nat} (p : a.Perm b) : ∀ (g : Nat → Int), (∀ x ∈ a, 0 < x) → PL g a = PL g b := by
  induction p with
  | nil => intro g _; rfl
  | cons x _ ih => intro g h; rw [PL_cons, PL_cons]; exact ih _ fun y hy => h y (List.mem_cons_of_mem _ hy)
  | swap x y l => intro g h; rw [PL_cons, PL_cons, PL_cons, PL_cons, put_comm g (h _ List.mem_cons_self) (h _ (List.mem_cons_of_mem _ List.mem_cons_self))]
  | trans p1 _ ih1 ih2 => intro g h; rw [ih1 g h]; exact ih2 g fun x hx => h x (p1.mem_iff.mpr hx)
theorem cancel : ∀ (ss : List Nat) (g : Nat → Int), (∀ x ∈ ss, 0 < x) → OL (PL g ss) ss = g
  | [], _, _ => rfl
  | x :: ss, g, h => by
    have h' : ∀ y ∈ ss, 0 < y := fun y hy => h y (List.mem_cons_of_mem _ hy)
    rw [PL_cons, OL_cons, ← PL_off ss _ _ h', off_put g (h x List.mem_cons_self)]
    exact cancel ss g h'
noncomputable def ups (n : Nat) : List Nat := (List.range n).map (· + 1)
theorem ups_succ (n : Nat) : ups (n + 1) = ups n ++ [n + 1] := by unfold ups; rw [List.range_succ, List.map_append]; rfl
theorem ups_pos {n x : Nat} (h : x ∈ ups n) : 0 < x ∧ x ≤ n := by
  obtain ⟨i, hi, rfl⟩ := List.mem_map.mp h
  have := List.mem_range.mp hi
  omega
theorem PL_ups : ∀ n, PL dl (ups n) = R n
  | 0 => rfl
  | n + 1 => by rw [ups_succ, PL_app, PL_ups n]; rfl
theorem filt_perm {α : Type} (p : α → Bool) : ∀ l : List α, List.Perm (l.filter (fun x => !p x) ++ l.filter p) l
  | [] => .nil
  | x :: l => by
    by_cases h : p x = true
    · rw [List.filter_cons_of_neg (by simp [h]), List.filter_cons_of_pos h]
      exact List.perm_middle.trans (.cons x (filt_perm p l))
    · rw [List.filter_cons_of_pos (by simp [h]), List.filter_cons_of_neg h]
      exact .cons x (filt_perm p l)
theorem R_less (far : Nat) (p : Nat → Bool) : OL (R far) ((ups far).filter p) = PL dl ((ups far).filter fun x => !p x) := by
  have h := PL_perm (filt_perm p (ups far)) dl fun x hx => by
    rcases List.mem_append.mp hx with h | h
    · exact (ups_pos (List.mem_filter.mp h).1).1
    · exact (ups_pos (List.mem_filter.mp h).1).1
  rw [← PL_ups, ← h, PL_app]
  exact cancel _ _ fun x hx => (ups_pos (List.mem_filter.mp hx).1).1
noncomputable def below (m : Nat) (ss : List Nat) (g : Nat → Int) : Nat → Int := ss.foldl (fun g s => off (put g s) (m * s)) g
theorem below_is (m : Nat) : ∀ (ss : List Nat) (g : Nat → Int), (∀ x ∈ ss, 0 < x) → below m ss g = OL (PL g ss) (ss.map (m * ·))
  | [], _, _ => rfl
  | s :: ss, g, h => by
    have h' : ∀ y ∈ ss, 0 < y := fun y hy => h y (List.mem_cons_of_mem _ hy)
    show below m ss (off (put g s) (m * s)) = OL (PL (put g s) ss) (m * s :: ss.map (m * ·))
    rw [below_is m ss _ h', PL_off ss _ _ h', OL_cons]
noncomputable def Al (N : Nat) (f g : Nat → Int) : Prop := ∀ j, j ≤ N → f j = g j
theorem Al.great {N : Nat} {f g : Nat → Int} (h : Al N f g) {s : Nat} (hs : N < s) : Al N (M80.off f s) g := fun j hj => by
  unfold M80.off
  rw [if_neg (by omega), h j hj, Int.sub_zero]
theorem OL_great {N : Nat} : ∀ (ss : List Nat) {f g : Nat → Int}, Al N f g → (∀ x ∈ ss, N < x) → Al N (OL f ss) g
  | [], _, _, h, _ => h
  | s :: ss, f, g, h, hs => OL_great ss (h.great (hs s List.mem_cons_self)) fun y hy => hs y (List.mem_cons_of_mem _ hy)
theorem Al.refl (N : Nat) (f : Nat → Int) : Al N f f := fun _ _ => rfl
theorem mults {m k far : Nat} (hm : 0 < m) (h1 : m * k ≤ far) (h2 : far < m * (k + 1)) : (ups far).filter (fun x => decide (x % m = 0)) = (ups k).map (m * ·) := by
  have key : ∀ far k, m * k ≤ far → far < m * (k + 1) → (ups far).filter (fun x => decide (x % m = 0)) = (ups k).map (m * ·) := by
    intro far
    induction far with
    | zero =>
      intro k h1 h2
      have hk : k = 0 := by
        cases k with
        | zero => rfl
        | succ k => rw [Nat.mul_succ] at h1; omega
      subst hk; rfl
    | succ far ih =>
      intro k h1 h2
      rw [ups_succ, List.filter_append]
      by_cases e : m * k = far + 1
      · obtain ⟨k', rfl⟩ : ∃ k', k = k' + 1 := ⟨k - 1, by cases k with
          | zero => rw [Nat.mul_zero] at e; omega
          | succ k => omega⟩
        rw [ih k' (by rw [Nat.mul_succ] at e; omega) (by omega), ups_succ, List.map_append, ← e]
        congr 1
        rw [List.filter_cons_of_pos (by simp)]
        rfl
      · rw [ih k (by omega) (by omega), List.filter_cons_of_neg, List.filter_nil, List.append_nil]
        intro z
        have z' := of_decide_eq_true z
        have : far + 1 = m * ((far + 1) / m) := by have := Nat.div_add_mod (far + 1) m; omega
        have h3 : (far + 1) / m = k := by
          have a1 : m * ((far + 1) / m) < m * (k + 1) := by omega
          have a2 : (far + 1) / m < k + 1 := Nat.lt_of_mul_lt_mul_left a1
          have a3 : m * k < m * ((far + 1) / m + 1) := by rw [Nat.mul_succ]; omega
          have a4 : k < (far + 1) / m + 1 := Nat.lt_of_mul_lt_mul_left a3
          omega
        rw [h3] at this
        exact e this.symm
  exact key far k h1 h2
theorem sieve0 {m k far : Nat} (hm : 0 < m) (h1 : m * k ≤ far) (h2 : far < m * (k + 1)) : OL (R far) ((ups k).map (m * ·)) = PL dl ((ups far).filter fun x => !decide (x % m = 0)) := by
  rw [← mults hm h1 h2, R_less]
theorem sieve1 {m k far : Nat} (hm : 0 < m) (hk : k ≤ far) (h2 : far < m * (k + 1)) : Al far (below m (ups far) dl) (OL (R far) ((ups k).map (m * ·))) := by
  rw [below_is m (ups far) dl fun x hx => (ups_pos hx).1, PL_ups]
  have e : ups far = ups k ++ (List.range (far - k)).map fun i => k + (i + 1) := by
    obtain ⟨d, rfl⟩ : ∃ d, far = k + d := ⟨far - k, by omega⟩
    rw [Nat.add_sub_cancel_left]
    clear h2 hk
    induction d with
    | zero => simp [ups]
    | succ d ih => rw [show k + (d + 1) = (k + d) + 1 by omega, ups_succ, ih, List.range_succ, List.map_append, ← List.append_assoc]; rfl
  rw [e, List.map_append, OL_app]
  refine OL_great _ (Al.refl _ _) fun x hx => ?_
  obtain ⟨y, hy, rfl⟩ := List.mem_map.mp hx
  obtain ⟨i, _, rfl⟩ := List.mem_map.mp hy
  have : m * (k + 1) ≤ m * (k + (i + 1)) := Nat.mul_le_mul_left _ (by omega)
  omega
end M80
set_option Elab.async false
set_option linter.all false
set_option maxRecDepth 100000
set_option maxHeartbeats 4000000
namespace M17
open MRow M80
noncomputable def bx (l k : Nat) : Nat → Int := (ups k).foldl (fun g i => off (put g i) (l + i)) dl
theorem bx_succ (l k : Nat) : bx l (k + 1) = off (put (bx l k) (k + 1)) (l + (k + 1)) := by unfold bx; rw [ups_succ, List.foldl_append]; rfl
theorem fold_is (f : Nat → Nat) : ∀ (ss : List Nat) (g : Nat → Int), (∀ x ∈ ss, 0 < x) → ss.foldl (fun g s => off (put g s) (f s)) g = OL (PL g ss) (ss.map f)
  | [], _, _ => rfl
  | s :: ss, g, h => by
    have h1 := fun x hx => h x (List.mem_cons_of_mem s hx)
    rw [List.foldl_cons, fold_is f ss _ h1, PL_cons, List.map_cons, OL_cons, PL_off ss _ _ h1]
theorem bx_is (l k : Nat) : bx l k = OL (PL dl (ups k)) ((ups k).map (l + ·)) := fold_is (l + ·) (ups k) dl fun x hx => (ups_pos hx).1
theorem ups_add (l : Nat) : ∀ k, ups (l + k) = ups l ++ (ups k).map (l + ·)
  | 0 => by simp [ups]
  | k + 1 => by rw [← Nat.add_assoc, ups_succ, ups_add l k, ups_succ, List.map_append, List.append_assoc]; rfl
theorem bx_both (l k : Nat) : bx l k = OL (PL (PL dl (ups k)) (ups l)) (ups (l + k)) := by
  rw [ups_add, OL_app, cancel (ups l) _ fun x hx => (ups_pos hx).1, bx_is]
theorem bx_turn (l k : Nat) : bx l k = bx k l := by
  rw [bx_both, bx_both, ← PL_app, ← PL_app, PL_perm List.perm_append_comm dl fun x hx => ?_, Nat.add_comm]
  rcases List.mem_append.mp hx with h | h <;> exact (ups_pos h).1
theorem bx_big {l k j : Nat} (h : j ≤ l) : bx l k j = PL dl (ups k) j := by
  rw [bx_is]
  exact OL_great _ (Al.refl l _) (fun x hx => by obtain ⟨y, hy, rfl⟩ := List.mem_map.mp hx; have := ups_pos hy; show l < l + y; omega) j h
theorem R_succ (k : Nat) : PL dl (ups (k + 1)) = put (PL dl (ups k)) (k + 1) := by rw [ups_succ, PL_app]; rfl
theorem R_low {k j : Nat} (h : j ≤ k) : PL dl (ups (k + 1)) j = PL dl (ups k) j := by rw [R_succ, put_low _ (by omega) (by omega)]
theorem R_zero : ∀ k, PL dl (ups k) 0 = 1
  | 0 => rfl
  | k + 1 => by rw [R_low (Nat.zero_le _), R_zero k]
noncomputable def Ls (d : Nat) : Nat → Nat
  | 0 => 0
  | m + 1 => Ls d m + 1 + d * m
theorem Ls_ge (d : Nat) : ∀ m, m ≤ Ls d m
  | 0 => Nat.le_refl _
  | m + 1 => by have := Ls_ge d m; show m + 1 ≤ Ls d m + 1 + d * m; omega
theorem Ls_up (d : Nat) (m : Nat) : ∀ e, Ls d m ≤ Ls d (m + e)
  | 0 => Nat.le_refl _
  | e + 1 => Nat.le_trans (Ls_up d m e) (by show Ls d (m + e) ≤ Ls d (m + e) + 1 + d * (m + e); omega)
noncomputable def fq (d : Nat) : Nat → Nat → Int
  | 0, _ => 0
  | m + 1, j => fq d m j + if Ls d m ≤ j then PL dl (ups m) (j - Ls d m) else 0
theorem fq_far {d m n j : Nat} (hm : n < Ls d m) (h : j ≤ n) : ∀ e, fq d (m + e) j = fq d m j
  | 0 => rfl
  | e + 1 => by
    show (fq d (m + e) j + if Ls d (m + e) ≤ j then PL dl (ups (m + e)) (j - Ls d (m + e)) else 0) = _
    have := Ls_up d m e
    rw [if_neg (show ¬ Ls d (m + e) ≤ j by omega), fq_far hm h e, Int.add_zero]
noncomputable def fow (d : Nat) : Nat → Int := fq d 602
theorem fow_is {d m n j : Nat} (hm : n < Ls d m) (hm2 : m ≤ 602) (h : j ≤ n) : fq d m j = fow d j := by
  have := fq_far hm h (602 - m)
  rw [show m + (602 - m) = 602 by omega] at this
  exact this.symm
noncomputable def rsz (m : Nat) (rs : List Int) (n : Nat) : List Nat := (ups n).filter fun s => decide ((s : Int) % (m : Int) ∈ rs)
theorem rsz_far {m : Nat} {rs : List Int} {n j : Nat} (h : j ≤ n) : ∀ e, PL dl (rsz m rs (n + e)) j = PL dl (rsz m rs n) j
  | 0 => rfl
  | e + 1 => by
    have : rsz m rs (n + (e + 1)) = rsz m rs (n + e) ++ [n + e + 1].filter (fun (s : Nat) => decide ((s : Int) % (m : Int) ∈ rs)) := by
      unfold rsz; rw [← Nat.add_assoc, ups_succ, List.filter_append]
    rw [this, PL_app, ← rsz_far h e]
    by_cases c : (((n + e + 1 : Nat) : Int) % (m : Int) ∈ rs)
    · rw [List.filter_cons_of_pos (p := fun s : Nat => decide ((s : Int) % (m : Int) ∈ rs)) (decide_eq_true c)]
      show put (PL dl (rsz m rs (n + e))) (n + e + 1) j = _
      rw [put_low _ (by omega) (by omega)]
    · rw [List.filter_cons_of_neg (p := fun s : Nat => decide ((s : Int) % (m : Int) ∈ rs)) (by simpa using c)]
      rfl
theorem times_is {m n : Nat} (hm : 0 < m) {rs : List Int} (hrs : ∀ x : Nat, (((x : Int) % (m : Int)) ∈ rs ↔ ¬ x % m = 0)) {j : Nat} (h : j ≤ n) : below m (ups n) dl j = PL dl (rsz m rs n) j := by
  have h1 : m * (n / m) ≤ n := Nat.mul_div_le n m
  have h2 : n < m * (n / m + 1) := by have := Nat.lt_mul_div_succ n hm; omega
  have s1 := sieve1 hm (Nat.div_le_self n m) h2 j h
  rw [s1, show R n = R n from rfl, sieve0 hm h1 h2]
  have e : ((ups n).filter fun x => !decide (x % m = 0)) = rsz m rs n := by
    unfold rsz
    refine List.filter_congr fun x _ => ?_
    by_cases c : x % m = 0
    · rw [decide_eq_true c, decide_eq_false (fun z => ((hrs x).mp z) c)]; rfl
    · rw [decide_eq_false c, decide_eq_true ((hrs x).mpr c)]; rfl
  rw [e]
end M17
set_option Elab.async false
set_option linter.all false
set_option maxRecDepth 100000
set_option maxHeartbeats 4000000
namespace M17
open MRow M80
noncomputable def blk (s : Nat) : Nat → List Int → List Int → List Int
  | 0, _, _ => []
  | f + 1, prev, l => match l with
    | [] => []
    | _ => List.zipWith (· + ·) (l.take s) prev ++ blk s f (List.zipWith (· + ·) (l.take s) prev) (l.drop s)
noncomputable def putL (L s : Nat) (l : List Int) : List Int := blk s (L / s + 1) (List.replicate s 0) l
noncomputable def tbf (g : Nat → Int) (p L : Nat) : List Int := (List.range L).map fun j => g (p + j)
theorem tbf_len (g : Nat → Int) (p L : Nat) : (tbf g p L).length = L := by unfold tbf; simp
theorem tbf_at {g : Nat → Int} {p L i : Nat} (h : i < (tbf g p L).length) : (tbf g p L)[i] = g (p + i) := by simp [tbf]
theorem tbf_take (g : Nat → Int) (p L s : Nat) : (tbf g p L).take s = tbf g p (min s L) := by
  unfold tbf; rw [← List.map_take, List.take_range]
theorem tbf_drop (g : Nat → Int) (p L s : Nat) : (tbf g p L).drop s = tbf g (p + s) (L - s) := by
  refine List.ext_getElem (by simp [tbf]) fun i h1 h2 => ?_
  rw [List.getElem_drop, tbf_at, tbf_at, Nat.add_assoc]
theorem tbf_app (g : Nat → Int) (p a b : Nat) : tbf g p a ++ tbf g (p + a) b = tbf g p (a + b) := by
  refine List.ext_getElem (by simp [tbf]) fun i h1 h2 => ?_
  rw [List.getElem_append]
  split
  · rw [tbf_at, tbf_at]
  · rename_i c
    have c' : ¬ i < a := by rw [tbf_len] at c; exact c
    rw [tbf_at, tbf_at]
    congr 1
    rw [tbf_len]
    omega
theorem zip_is {g : Nat → Int} {s p k : Nat} {prev : List Int} (hs : 0 < s) (hk : k ≤ s) (hl : prev.length = s) (hp : ∀ j, j < k → prev.getD j 0 = if s ≤ p + j then put g s (p + j - s) else 0) :
    List.zipWith (· + ·) (tbf g p k) prev = tbf (put g s) p k := by
  refine List.ext_getElem (by rw [List.length_zipWith, tbf_len, tbf_len]; omega) fun i h1 h2 => ?_
  have hi : i < k := by rw [tbf_len] at h2; exact h2
  rw [List.getElem_zipWith]
  have e := hp i hi
  rw [List.getD_eq_getElem?_getD, List.getElem?_eq_getElem (by omega)] at e
  have e : prev[i] = if s ≤ p + i then put g s (p + i - s) else 0 := e
  rw [e, tbf_at, tbf_at, put_eq g hs (p + i)]
theorem blk_ok {g : Nat → Int} {s : Nat} (hs : 0 < s) : ∀ (f p L : Nat) (prev : List Int), L < f * s → prev.length = s → (∀ j, j < min s L → prev.getD j 0 = if s ≤ p + j then put g s (p + j - s) else 0) → blk s f prev (tbf g p L) = tbf (put g s) p L
  | 0, p, L, prev, h, _, _ => by omega
  | f + 1, p, 0, prev, _, _, _ => rfl
  | f + 1, p, L + 1, prev, h, hl, hp => by
    have e0 : ∃ x r, tbf g p (L + 1) = x :: r := by
      cases e : tbf g p (L + 1) with
      | nil => have := tbf_len g p (L + 1); rw [e] at this; cases this
      | cons x r => exact ⟨x, r, rfl⟩
    obtain ⟨x, r, e0⟩ := e0
    have e1 : blk s (f + 1) prev (tbf g p (L + 1)) = List.zipWith (· + ·) ((tbf g p (L + 1)).take s) prev ++ blk s f (List.zipWith (· + ·) ((tbf g p (L + 1)).take s) prev) ((tbf g p (L + 1)).drop s) := by rw [e0]; rfl
    rw [e1, tbf_take, tbf_drop, zip_is hs (Nat.min_le_left _ _) hl hp]
    by_cases c : L + 1 ≤ s
    · have z : L + 1 - s = 0 := by omega
      rw [z, Nat.min_eq_right c]
      have : blk s f (tbf (put g s) p (L + 1)) (tbf g (p + s) 0) = [] := by cases f <;> rfl
      rw [this, List.append_nil]
    · rw [Nat.min_eq_left (by omega), blk_ok hs f (p + s) (L + 1 - s) (tbf (put g s) p s) (by rw [Nat.succ_mul] at h; omega) (tbf_len _ _ _) fun j hj => ?_, tbf_app, show s + (L + 1 - s) = L + 1 by omega]
      have hj' : j < s := by omega
      unfold tbf
      rw [List.getD_eq_getElem?_getD, List.getElem?_map, List.getElem?_range hj', if_pos (by omega), show p + s + j - s = p + j by omega]
      rfl
theorem tb_tbf (g : Nat → Int) (L : Nat) : tb g L = tbf g 0 L := by unfold tb tbf; exact List.map_congr_left fun j _ => by rw [Nat.zero_add]
theorem putL_ok (g : Nat → Int) {s : Nat} (hs : 0 < s) (L : Nat) : putL L s (tb g L) = tb (put g s) L := by
  unfold putL
  rw [tb_tbf, tb_tbf]
  refine blk_ok hs _ 0 L _ ?_ (List.length_replicate ..) fun j hj => ?_
  · have := Nat.lt_mul_div_succ L hs
    rw [Nat.mul_comm]
    exact this
  · rw [if_neg (by omega), List.getD_eq_getElem?_getD, List.getElem?_replicate, if_pos (by omega)]
    rfl
noncomputable def PLL (L : Nat) (l : List Int) (ss : List Nat) : List Int := ss.foldl (fun l s => putL L s l) l
theorem PLL_ok (L : Nat) : ∀ (ss : List Nat) (g : Nat → Int), (∀ x ∈ ss, 0 < x) → PLL L (tb g L) ss = tb (PL g ss) L
  | [], _, _ => rfl
  | s :: ss, g, h => by
    show PLL L (putL L s (tb g L)) ss = _
    rw [putL_ok g (h s List.mem_cons_self), PLL_ok L ss _ fun x hx => h x (List.mem_cons_of_mem s hx)]
    rfl
noncomputable def shf (k : Nat) (a : List Int) : List Int → List Int := fun r => a.take k ++ List.zipWith (· + ·) (a.drop k) r
theorem shf_ok (f r : Nat → Int) {k L : Nat} (hk : k ≤ L) : shf k (tb f L) (tb r L) = tb (fun j => f j + if k ≤ j then r (j - k) else 0) L := by
  unfold shf
  refine List.ext_getElem ?_ fun i h1 h2 => ?_
  · simp [tb]; omega
  · have hi : i < L := by rw [tb_len] at h2; exact h2
    rw [List.getElem_append]
    split
    · rename_i c
      have c' : i < k := by simp [tb] at c; omega
      rw [List.getElem_take, tb_at, tb_at, if_neg (by omega), Int.add_zero]
    · rename_i c
      have c' : ¬ i < k := fun z => c (by simp [tb]; omega)
      have el : ((tb f L).take k).length = k := by simp [tb]; omega
      rw [List.getElem_zipWith, List.getElem_drop, tb_at, tb_at, tb_at, if_pos (by omega)]
      simp only [el]
      rw [show k + (i - k) = i by omega]
noncomputable def foL (d L : Nat) : Nat → Nat → Nat → List Int → List Int → List Int
  | 0, _, _, told, _ => told
  | f + 1, m, le, told, row => if le < L then foL d L f (m + 1) (le + 1 + d * m) (shf le told row) (putL L (m + 1) row) else told
theorem fq_next (d m : Nat) : fq d (m + 1) = fun j => fq d m j + if Ls d m ≤ j then PL dl (ups m) (j - Ls d m) else 0 := rfl
theorem foL_ok (d L : Nat) : ∀ (f m : Nat), ∃ M, foL d L f m (Ls d m) (tb (fq d m) L) (tb (PL dl (ups m)) L) = tb (fq d M) L ∧ m ≤ M ∧ M ≤ m + f ∧ (L ≤ Ls d M ∨ M = m + f)
  | 0, m => ⟨m, rfl, Nat.le_refl _, Nat.le_refl _, .inr rfl⟩
  | f + 1, m => by
    by_cases c : Ls d m < L
    · obtain ⟨M, e, h1, h2, h3⟩ := foL_ok d L f (m + 1)
      refine ⟨M, ?_, by omega, by omega, h3.imp id fun z => by omega⟩
      show (if Ls d m < L then _ else _) = _
      rw [if_pos c, shf_ok _ _ (by omega), ← fq_next, putL_ok _ (by omega), ← R_succ]
      exact e
    · refine ⟨m, ?_, Nat.le_refl _, by omega, .inl (by omega)⟩
      show (if Ls d m < L then _ else _) = _
      rw [if_neg c]
theorem foL_fow (d : Nat) : foL d 601 602 0 0 (tb (fun _ => 0) 601) (tb dl 601) = tb (fow d) 601 := by
  obtain ⟨M, e, h1, h2, h3⟩ := foL_ok d 601 602 0
  have e' : foL d 601 602 0 0 (tb (fun _ => 0) 601) (tb dl 601) = tb (fq d M) 601 := e
  rw [e']
  refine tb_ext fun j hj => ?_
  rcases h3 with h | h
  · exact fow_is (n := 600) (by omega) (by omega) (by omega)
  · have hM : M = 602 := by omega
    subst hM
    rfl
end M17
set_option Elab.async false
set_option linter.all false
set_option maxRecDepth 100000
set_option maxHeartbeats 4000000
namespace M17
open MRow M80
theorem rsz_pos {m : Nat} {rs : List Int} {n : Nat} : ∀ x ∈ rsz m rs n, 0 < x := fun x hx => (ups_pos (List.mem_filter.mp hx).1).1
theorem PLL_app (L : Nat) (l : List Int) (a b : List Nat) : PLL L l (a ++ b) = PLL L (PLL L l a) b := by unfold PLL; rw [List.foldl_append]
theorem PLL_cut (L : Nat) (l : List Int) (ss : List Nat) (k : Nat) : PLL L l ss = PLL L (PLL L l (ss.take k)) (ss.drop k) := by rw [← PLL_app, List.take_append_drop]
noncomputable def odd1 : List Int := [1, 1, 1, 2, 2, 3, 4, 5, 6, 8, 10, 12, 15, 18, 22, 27, 32, 38, 46, 54, 64, 76, 89, 104, 122, 142, 165, 192, 222, 256, 296, 340, 390, 448, 512, 585, 668, 760, 864, 982, 1113, 1260, 1426, 1610, 1816, 2048, 2304, 2590, 2910, 3264, 3658, 4097, 4582, 5120, 5718, 6378, 7108, 7917, 8808, 9792, 10880, 12076, 13394, 14848, 16444, 18200, 20132, 22250, 24576, 27130, 29927, 32992, 36352, 40026, 44046, 48446, 53250, 58499, 64234, 70488, 77312, 84756, 92864, 101698, 111322, 121792, 133184, 145578, 159046, 173682, 189586, 206848, 225585, 245920, 267968, 291874, 317788, 345856, 376256, 409174, 444793, 483329, 525015, 570076, 618781, 671414, 728254, 789632, 855895, 927392, 1004525, 1087720, 1177407, 1274079, 1378255, 1490467, 1611312, 1741428, 1881464, 2032151, 2194264, 2368597, 2556040, 2757534, 2974052, 3206672, 3456537, 3724831, 4012862, 4322015, 4653732, 5009591, 5391272, 5800521, 6239248, 6709481, 7213333, 7753109, 8331255, 8950325, 9613097, 10322512, 11081655, 11893864, 12762679, 13691813, 14685273, 15747312, 16882391, 18095318, 19391191, 20775362, 22253590, 23831978, 25516940, 27315363, 29234540, 31282148, 33466409, 35796034, 38280191, 40928686, 43751905, 46760784, 49967003, 53382932, 57021591, 60896880, 65023505, 69416958, 74093751, 79071349, 84368157, 90003767, 95998899, 102375389, 109156452, 116366641, 124031826, 132179493, 140838696, 150040047, 159816048, 170201039, 181231206, 192944935, 205382766, 218587424, 232604190, 247480879, 263267872, 280018525, 297789170, 316639148, 336631272, 357831828, 380310636, 404141558, 429402514, 456175568, 484547484, 514609757, 546458744, 580196255, 615929627, 653771872, 693842338, 736266816, 781177723, 828714828, 879025405, 932264443, 988595477, 1048190755, 1111231526, 1177908936, 1248424254, 1322989232, 1401827076, 1485172758, 1573273422, 1666389478, 1764794982, 1868778126, 1978642449, 2094707306, 2217308439, 2346799349, 2483551839, 2627956713, 2780425286, 2941390043, 3111305478, 3290649759, 3479925537, 3679660911, 3890411295, 4112760389, 4347321300, 4594738632, 4855689634, 5130885502, 5421073743, 5727039493, 6049607070, 6389642591, 6748055536, 7125800557, 7523880403, 7943347756, 8385307330, 8850919133, 9341400651, 9858029231, 10402145786, 10975157297, 11578539592, 12213841505, 12882687773, 13586782255, 14327912593, 15107953568, 15928870831, 16792726116, 17701681144, 18658001897, 19664064483, 20722359661, 21835497726, 23006215136, 24237379695, 25531996176, 26893213782, 28324332105, 29828807568, 31410261833, 33072488619, 34819461131, 36655341467, 38584488495, 40611466300, 42741054805, 44978258796, 47328317565, 49796716877, 52389199295, 55111775167, 57970736156, 60972666979, 64124457997, 67433320397, 70906799637, 74552789772, 78379550565, 82395722812, 86610344657, 91032870844, 95673190227, 100541644268, 105649048777, 111006713794, 116626464636, 122520666390, 128702246507, 135184718719, 141982210607, 149109489271, 156581988499, 164415839774, 172627901448, 181235789525, 190257912572, 199713504846, 209622661127, 220006376066, 230886581691, 242286186867, 254229121595, 266740379477, 279846062379, 293573430271, 307950949272, 323008342215, 338776644646, 355288259234, 372577012855, 390678219605, 409628742314, 429467056988, 450233323694, 471969456012, 494719193784, 518528182829, 543444053300, 569516501792, 596797380888, 625340787577, 655203155843, 686443357241, 719122800611, 753305536394, 789058369576, 826450972105, 865556000309, 906449221764, 949209641847, 993919635925, 1040665091773, 1089535551988, 1140624362727, 1194028833495, 1249850397332, 1308194778131, 1369172169780, 1432897416363, 1499490200111, 1569075242335, 1641782505917, 1717747406437, 1797111037401, 1880020397691, 1966628628560, 2057095266107, 2151586496508, 2250275422089, 2353342344024, 2460975048806, 2573369106670, 2690728188158, 2813264385394, 2941198546681, 3074760630808, 3214190067296, 3359736131258, 3511658339957, 3670226856368, 3835722909121, 4008439236094, 4188680536358, 4376763940393, 4573019506076, 4777790724617, 4991435046850, 5214324437576, 5446845941741, 5689402273139, 5942412433818, 6206312347408, 6481555517304, 6768613718627, 7067977706190, 7380157950202, 7705685408919, 8045112319771, 8399013021346, 8767984815812, 9152648852591, 9553651046450, 9971663039648, 10407383188775, 10861537589483, 11334881149792, 11828198691454, 12342306093472, 12878051488794, 13436316493123, 14018017480336, 14624106916500, 15255574730085, 15913449734219, 16598801112922, 17312739948696, 18056420807669, 18831043395048, 19637854257330, 20478148548411, 21353271872749, 22264622181644, 23213651739967, 24201869177906, 25230841602267, 26302196786120, 27417625451703, 28578883620436, 29787795049705, 31046253772141, 32356226710297, 33719756387601, 35138963751674, 36616051082604, 38153305007540, 39753099638998, 41417899808367, 43150264417037, 44952849923625, 46828413937722, 48779818943835, 50810036175058, 52922149605698, 55119360088151, 57404989654209, 59782485949432, 62255426827056, 64827525122592, 67502633577120, 70284749936820, 73178022251293, 76186754337759, 79315411439906, 82568626105503, 85951204248712, 89468131427535, 93124579361956, 96925912657467, 100877695766516, 104985700214403, 109255912053816, 113694539582118, 118308021349339, 123103034420413, 128086502927448, 133265606941643, 138647791627818, 144240776718693, 150052566341090, 156091459155373, 162366058848107, 168885285011436, 175658384370017, 182694942397530, 190004895358467, 197598542734999, 205486560083878, 213680012360326, 222190367669108, 231029511489173, 240209761412139, 249743882353389, 259645102285401, 269927128535632, 280604164607634, 291690927577300, 303202666110090, 315155179056257, 327564834680368, 340448590572530, 353824014199108, 367709304151651, 382123312145036, 397085565721975, 412616291726477, 428736440600088, 445467711458666, 462832578014947, 480854315405513, 499557027878672, 518965677413626, 539106113332594, 560005102862872, 581690362723410, 604190591801782, 627535504878604, 651755867479122, 676883531921447, 702951474519921, 729993834027436, 758045951391642, 787144410783898, 817327081990025, 848633164243302, 881103231459047, 914779278965990, 949704771820261, 985924694662353, 1023485603218777, 1062435677539926, 1102824776936077, 1144704496720213, 1188128226854862, 1233151212467672, 1279830616350592, 1328225583547656, 1378397307997683, 1430409101354735, 1484326464098679, 1540217158904984, 1598151286404418, 1658201363454005, 1720442403889958, 1784952001903924, 1851810418170867, 1921100668704447, 1992908616589613, 2067323066730978, 2144435863596299, 2224341992115785, 2307139681885188, 2392930514657842, 2481819535295937, 2573915366341873, 2669330326198243, 2768180551100634, 2870586121054527, 2976671189731864, 3086564118523758, 3200397614934248, 3318308875316549, 3440439732163678, 3566936806150459, 3697951662938057, 3833640974966122, 3974166688446382, 4119696195576085, 4270402512213658, 4426464461246021, 4588066861676310, 4755400723691236, 4928663449956348, 5108059043177020, 5293798320205509, 5486099132959417, 5685186596203142, 5891293322492124, 6104659664566416, 6325533965258248, 6554172815236031, 6790841318893123, 7035813368461800, 7289371926697619, 7551809318468190, 7823427531341785, 8104538525548303, 8395464553671941, 8696538490189369, 9008104171254427, 9330516745116445, 9664143033306553, 10009361903023513, 10366564651136100, 10736155399959545, 11118551505269754, 11514183977005782, 11923497912842844, 12346952945134342, 12785023701710311, 13238200280740389, 13706988740199462, 14191911602461229, 14693508374257974, 15212336082586086, 15748969827124768, 16304003349438315, 16878049619587792, 17471741440762750, 18085732072241870, 18720695871354417, 19377328955104493, 20056349881804644, 20758500353444481, 21484545939508346, 22235276822632953]
noncomputable def odd2 : List Int := [1, 1, 1, 2, 2, 3, 4, 5, 6, 8, 10, 12, 15, 18, 22, 27, 32, 38, 46, 54, 64, 76, 89, 104, 122, 142, 165, 192, 222, 256, 296, 340, 390, 448, 512, 585, 668, 760, 864, 982, 1113, 1260, 1426, 1610, 1816, 2048, 2304, 2590, 2910, 3264, 3658, 4097, 4582, 5120, 5718, 6378, 7108, 7917, 8808, 9792, 10880, 12076, 13394, 14848, 16444, 18200, 20132, 22250, 24576, 27130, 29927, 32992, 36352, 40026, 44046, 48446, 53250, 58499, 64234, 70488, 77312, 84756, 92864, 101698, 111322, 121792, 133184, 145578, 159046, 173682, 189586, 206848, 225585, 245920, 267968, 291874, 317788, 345856, 376256, 409174, 444793, 483330, 525016, 570078, 618784, 671418, 728260, 789640, 855906, 927406, 1004544, 1087744, 1177438, 1274118, 1378304, 1490528, 1611388, 1741521, 1881578, 2032290, 2194432, 2368800, 2556284, 2757826, 2974400, 3207086, 3457027, 3725410, 4013544, 4322816, 4654670, 5010688, 5392550, 5802008, 6240974, 6711480, 7215644, 7755776, 8334326, 8953856, 9617150, 10327156, 11086968, 11899934, 12769602, 13699699, 14694244, 15757502, 16893952, 18108418, 19406016, 20792120, 22272512, 23853318, 25540982, 27342421, 29264960, 31316314, 33504746, 35839008, 38328320, 40982540, 43812110, 46828032, 50042056, 53466624, 57114844, 61000704, 65139008, 69545358, 74236384, 79229676, 84543782, 90198446, 96214550, 102614114, 109420549, 116658616, 124354422, 132535702, 141231780, 150473568, 160293888, 170727424, 181810744, 193582642, 206084096, 219358315, 233451098, 248410816, 264288462, 281138048, 299016608, 317984256, 338104630, 359444904, 382075868, 406072422, 431513602, 458482688, 487067746, 517361669, 549462335, 583473182, 619503293, 657667580, 698087418, 740890778, 786212435, 834194686, 884987510, 938748828, 995645305, 1055852551, 1119555439, 1186948995, 1258238644, 1333640617, 1413382912, 1497705629, 1586861438, 1681116649, 1780751639, 1886061392, 1997356708, 2114964706, 2239229470, 2370513407, 2509197846, 2655683807, 2810393516, 2973771115, 3146283592, 3328422449, 3520704578, 3723673327, 3937900377, 4163986791, 4402564253, 4654297175, 4919883939, 5200058332, 5495591935, 5807295562, 6136020951, 6482663436, 6848163633, 7233509429, 7639738961, 8067942612, 8519265303, 8994909844, 9496139286, 10024279550, 10580723222, 11166932280, 11784441128, 12434860898, 13119882591, 13841280608, 14600917576, 15400748002, 16242822355, 17129292496, 18062415921, 19044560454, 20078210367, 21165971312, 22310575689, 23514889584, 24781918437, 26114813213, 27516878257, 28991577807, 30542543087, 32173581179, 33888682503, 35692028985, 37588004046, 39581201231, 41676433540, 43878744719, 46193419192, 48625992709, 51182265134, 53868311815, 56690495754, 59655482096, 62770251116, 66042112151, 69478719964, 73088089597, 76878612306, 80859074028, 85038672392, 89427034864, 94034239636, 98870835074, 103947860368, 109276869178, 114869951802, 120739758694, 126899527224, 133363106919, 140144986260, 147260322905, 154724972448, 162555518917, 170769308914, 179384484363, 188420017170, 197895747789, 207832422512, 218251732795, 229176358874, 240630012121, 252637479684, 265224673799, 278418679859, 292247807093, 306741644239, 321931114101, 337848531057, 354527663875, 372003797647, 390313798925, 409496186643, 429591202358, 450640883993, 472689145914, 495781858486, 519966931552, 545294404831, 571816537952, 599587904949, 628665496204, 659108820339, 690980011114, 724343942351, 759268343218, 795823919029, 834084480808, 874127075653, 916032123170, 959883561533, 1005768994759, 1053779846762, 1104011525972, 1156563591598, 1211539927556, 1269048927858, 1329203684276, 1392122182610, 1457927511390, 1526748073640, 1598717808170, 1673976424499, 1752669641704, 1834949437789, 1920974314102, 2010909564507, 2104927556338, 2203208027899, 2305938391666, 2413314050735, 2525538733346, 2642824834321, 2765393771340, 2893476360951, 3027313202956, 3167155081251, 3313263386412, 3465910548213, 3625380486430, 3791969085641, 3965984681626, 4147748568194, 4337595530489, 4535874391727, 4742948582837, 4959196741185, 5185013324945, 5420809253085, 5667012577285, 5924069172089, 6192443453543, 6472619133063, 6765099992417, 7070410690332, 7389097608109, 7721729719388, 8068899495237, 8431223852351, 8809345128799, 9203932099298, 9615681037979, 10045316812688, 10493594023423, 10961298193102, 11449246994429, 11958291525840, 12489317645339, 13043247345462, 13621040182811, 14223694771719, 14852250324502, 15507788252582, 16191433838568, 16904357961043, 17647778887274, 18422964144324, 19231232449838, 20073955718585, 20952561155574, 21868533416762, 22823416854017, 23818817855918, 24856407264917, 25937922888153, 27065172114499, 28240034617537, 29464465162849, 30740496532968, 32070242548922, 33455901208006, 34899757951723, 36404189042358, 37971665069006, 39604754597506, 41306127942628, 43078561084095, 44924939742030, 46848263589675, 48851650625914, 50938341724518, 53111705337134, 55375242374078, 57732591280856, 60187533286799, 62743997851493, 65406068327861, 68177987817931, 71064165248559, 74069181686866, 77197796871423, 80454955987650, 83845796708782, 87375656478029, 91050080061904, 94874827397751, 98855881710605, 102999457931212, 107312011439980, 111800247111328, 116471128692679, 121331888544136, 126390037713380, 131653376382134, 137130004711781, 142828334062912, 148757098627108, 154925367500666, 161342557175127, 168018444484950, 174963180044674, 182187302150055, 189701751186417, 197517884578883, 205647492258876, 214102812693336, 222896549513481, 232041888718060, 241552516500594, 251442637739885, 261726995129594, 272420888999337, 283540197869727, 295101399717899, 307121594009127, 319618524540698, 332610603074928, 346116933821094, 360157338815928, 374752384180334, 389923407316589, 405692545099258, 422082763038821, 439117885486972, 456822626940521, 475222624424982, 494344471031177, 514215750666672, 534865074004924, 556322115710446, 578617653007180, 601783605574753, 625853076856806, 650860396854192, 676841166389664, 703832302935144, 731872088079670, 761000216627928, 791257847427191, 822687656006884, 855333889024462, 889242420622374, 924460810787616, 961038365711450, 999026200261637, 1038477302666924, 1079446601415227, 1121991034486880, 1166169621031084, 1212043535491612, 1259676184313094, 1309133285344730, 1360482949953393, 1413795767987840, 1469144895720421, 1526606146785196, 1586258086264942, 1648182128064585, 1712462635597318, 1779187025947593, 1848445877661093, 1920333042195486, 1994945759209815, 2072384775855718, 2152754470112922, 2236162978361977, 2322722327371159, 2412548570750466, 2505761930081647, 2602486940916149, 2702852603706127, 2806992539893971, 2915045153369728, 3027153797374286, 3143466947092193, 3264138378162614, 3389327351200062, 3519198802589555, 3653923541805169, 3793678455358881, 3938646717667512, 4089018009108234, 4244988741387672, 4406762290536762, 4574549237825715, 4748567618744296, 4929043180385698, 5116209647555197, 5310308997770715, 5511591745522020, 5720317236139516, 5936753949463254, 6161179813710977, 6393882529927948, 6635159907235396, 6885320209311693, 7144682512523099, 7413577075950809, 7692345723786394, 7981342240549664, 8280932779409287, 8591496284118732, 8913424925063470, 9247124549735975, 9593015148195497, 9951531334054669, 10323122841348652, 10708255037893388, 11107409455724609, 11521084339016724, 11949795210142622, 12394075454519395, 12854476924688159, 13331570564347600, 13825947053044772, 14338217472025697, 14869013992028516, 15418990583787877, 15988823751812033, 16579213292284644, 17190883075931321, 17824581856476604, 18481084105619894, 19161190875447759, 19865730688978858, 20595560459854133, 21351566442173166, 22134665211251899, 22945804676405193, 23785965126846582, 24656160311567496, 25557438554397740, 26490883905440622, 27457617329839928, 28458797935187769, 29495624238877714, 30569335476463397]
noncomputable def odd3 : List Int := [1, 1, 1, 2, 2, 3, 4, 5, 6, 8, 10, 12, 15, 18, 22, 27, 32, 38, 46, 54, 64, 76, 89, 104, 122, 142, 165, 192, 222, 256, 296, 340, 390, 448, 512, 585, 668, 760, 864, 982, 1113, 1260, 1426, 1610, 1816, 2048, 2304, 2590, 2910, 3264, 3658, 4097, 4582, 5120, 5718, 6378, 7108, 7917, 8808, 9792, 10880, 12076, 13394, 14848, 16444, 18200, 20132, 22250, 24576, 27130, 29927, 32992, 36352, 40026, 44046, 48446, 53250, 58499, 64234, 70488, 77312, 84756, 92864, 101698, 111322, 121792, 133184, 145578, 159046, 173682, 189586, 206848, 225585, 245920, 267968, 291874, 317788, 345856, 376256, 409174, 444793, 483330, 525016, 570078, 618784, 671418, 728260, 789640, 855906, 927406, 1004544, 1087744, 1177438, 1274118, 1378304, 1490528, 1611388, 1741521, 1881578, 2032290, 2194432, 2368800, 2556284, 2757826, 2974400, 3207086, 3457027, 3725410, 4013544, 4322816, 4654670, 5010688, 5392550, 5802008, 6240974, 6711480, 7215644, 7755776, 8334326, 8953856, 9617150, 10327156, 11086968, 11899934, 12769602, 13699699, 14694244, 15757502, 16893952, 18108418, 19406016, 20792120, 22272512, 23853318, 25540982, 27342421, 29264960, 31316314, 33504746, 35839008, 38328320, 40982540, 43812110, 46828032, 50042056, 53466624, 57114844, 61000704, 65139008, 69545358, 74236384, 79229676, 84543782, 90198446, 96214550, 102614114, 109420549, 116658616, 124354422, 132535702, 141231780, 150473568, 160293888, 170727424, 181810744, 193582642, 206084096, 219358315, 233451098, 248410816, 264288462, 281138048, 299016608, 317984256, 338104630, 359444904, 382075868, 406072422, 431513602, 458482688, 487067746, 517361670, 549462336, 583473184, 619503296, 657667584, 698087424, 740890786, 786212446, 834194700, 884987529, 938748852, 995645336, 1055852590, 1119555488, 1186949056, 1258238720, 1333640710, 1413383026, 1497705768, 1586861606, 1681116852, 1780751883, 1886061684, 1997357056, 2114965120, 2239229960, 2370513986, 2509198528, 2655684608, 2810394454, 2973772212, 3146284870, 3328423936, 3520706304, 3723675326, 3937902688, 4163989458, 4402567324, 4654300706, 4919887992, 5200062976, 5495597248, 5807301632, 6136027874, 6482671322, 6848172604, 7233519619, 7639750522, 8067955712, 8519280128, 8994926602, 9496158208, 10024300890, 10580747264, 11166959338, 11784471548, 12434895064, 13119920928, 13841323582, 14600965705, 15400801856, 16242882560, 17129359744, 18062490974, 19044644146, 20078303620, 21166075136, 22310691192, 23515017984, 24782061070, 26114971540, 27517053882, 28991772486, 30542758738, 32173819904, 33888946600, 35692320960, 37588326642, 39581557440, 41676826624, 43879178240, 46193897032, 48626519094, 51182844672, 53868949522, 56691197084, 59656252987, 62771098024, 66043042088, 69479740554, 73089209120, 76879839744, 80860419136, 85040145750, 89428647940, 94036004868, 98872765938, 103949971456, 109279176298, 114872472064, 120742510606, 126902530815, 133366383846, 140148559927, 147264218614, 154729217530, 162560142882, 170774343631, 179389964228, 188425979285, 197902232188, 207839472359, 218259394617, 229184682821, 240639052225, 252647294132, 265235325259, 278430235790, 292260340085, 306755232406, 321945841461, 337864487948, 354544947430, 372022512260, 390334056758, 409518108200, 429614917053, 450666530768, 472716873931, 495811827821, 519999313943, 545329384514, 571854312503, 599628686192, 628709511217, 659156312477, 691031241103, 724399189505, 759327906669, 795888119057, 834153660296, 874201601577, 916112388200, 959969985781, 1005862027575, 1053879968661, 1104119250728, 1156679468409, 1211664543354, 1269182909823, 1329347702432, 1392276952598, 1458093797476, 1526926691826, 1598909629520, 1674182378728, 1752890720906, 1835186700415, 1921228889242, 2011182656349, 2105220448918, 2203522090205, 2306275082962, 2413674926225, 2525925450254, 2643239158235, 2765837582960, 2893951663319, 3027822129008, 3167699901847, 3313846518921, 3466534565493, 3626048126369, 3792683261341, 3966748492069, 4148565309562, 4338468708231, 4536807733212, 4743946050767, 4960262547884, 5186151947343, 5422025448596, 5668311400707, 5925455993326, 6193923976387, 6474199415150, 6766786466173, 7072210185156, 7391017373917, 7723777451346, 8071083359921, 8433552515509, 8811827784506, 9206578500792, 9618501530348, 10048322367212, 10496796273872, 10964709474192, 11452880382224, 11962160880444, 12493437656087, 13047633578406, 13625709130879, 14228663907768, 14857538157081, 15513414384796, 16197419030309, 16910724194400, 17654549435551, 18430163644970, 19238886981093, 20082092880330, 20961210154715, 21877725156964, 22833184030323, 23829195054624, 24867431068525, 25949631986011, 27077607419509, 28253239388817, 29478485134965, 30755380052217, 32086040716537, 33472668030993, 34917550501850, 36423067623207, 37991693391862, 39625999966689, 41328661450182, 43102457814733, 44950278988972, 46875129081373, 48880130764634, 50968529837511, 53143699940448, 55409147450063, 57768516570224, 60225594595321, 62784317372538, 65448774981711, 68223217608068, 71112061636220, 74119895984980, 77251488658147, 80511793541026, 83905957463694, 87439327505852, 91117458574482, 94946121277086, 98931310064738, 103079251678156, 107396413921234, 111889514735646, 116565531612108, 121431711364136, 126495580237783, 131764954395280, 137247950799819, 142952998475262, 148888850180669, 155064594529042, 161489668524081, 168173870557006, 175127373895409, 182360740637594, 189884936177357, 197711344213580, 205851782277873, 214318517828582, 223124284947655, 232282301614124, 241806287605681, 251710483067284, 262009667721345, 272719180774064, 283854941559965, 295433470899886, 307471913230287, 319988059549599, 333000371157273, 346528004247549, 360590835407289, 375209487994139, 390405359461755, 406200649684945, 422618390262347, 439682474868155, 457417690709532, 475849751069253, 495005329009756, 514912092299965, 535598739546342, 557095037609355, 579431860372188, 602641228844864, 626756352691032, 651811673249863, 677842908038148, 704887096826877, 732982649370158, 762169394774683, 792488632611102, 823983185851153, 856697455622638, 890677477890651, 925970982156296, 962627452168795, 1000698188767238, 1040236374951421, 1081297143181580, 1123937645032468, 1168217123309708, 1214196986632804, 1261940886620450, 1311514797794876, 1362987100215452, 1416428664987906, 1471912942775484, 1529516055329184, 1589316890194546, 1651397198732452, 1715841697478518, 1782738173010523, 1852177590473984, 1924254205798079, 1999065681785258, 2076713208237969, 2157301626163264, 2240939556254175, 2327739531825098, 2417818136252487, 2511296145136123, 2608298673373301, 2708955327209460, 2813400361497567, 2921772842376110, 3034216815442183, 3150881479670716, 3271921367309113, 3397496529837594, 3527772730267597, 3662921642028168, 3803121054546059, 3948555085815514, 4099414402229511, 4255896445796348, 4418205669062627, 4586553778038453, 4761159983269179, 4942251259401469, 5130062613566658, 5324837362747885, 5526827420507945, 5736293593430887, 5953505887467721, 6178743824595887, 6412296770177849, 6654464271235607, 6905556406086935, 7165894145763283, 7435809727456344, 7715647040478041, 8005762025191558, 8306523085194419, 8618311513279910, 8941521931676839, 9276562746885498, 9623856619681477, 9983840950834178, 10356968382897649, 10743707318696080, 11144542457101269, 11559975346503650, 11990524956655053, 12436728269534672, 12899140889689653, 13378337674788488, 13874913387098171, 14389483366391734, 14922684225089075, 15475174566408194, 16047635726093453, 16640772538594646, 17255314128546583, 17892014728181166, 18551654521624077, 19235040517004574, 19943007447082218, 20676418699428714, 21436167277178545, 22223176791132404, 23038402484344898, 23882832290303200, 24757487925569470, 25663426018119252, 26601739272585474, 27573557673377670, 28580049727018580, 29622423745020870, 30701929168378780]
noncomputable def odd4 : List Int := [1, 1, 1, 2, 2, 3, 4, 5, 6, 8, 10, 12, 15, 18, 22, 27, 32, 38, 46, 54, 64, 76, 89, 104, 122, 142, 165, 192, 222, 256, 296, 340, 390, 448, 512, 585, 668, 760, 864, 982, 1113, 1260, 1426, 1610, 1816, 2048, 2304, 2590, 2910, 3264, 3658, 4097, 4582, 5120, 5718, 6378, 7108, 7917, 8808, 9792, 10880, 12076, 13394, 14848, 16444, 18200, 20132, 22250, 24576, 27130, 29927, 32992, 36352, 40026, 44046, 48446, 53250, 58499, 64234, 70488, 77312, 84756, 92864, 101698, 111322, 121792, 133184, 145578, 159046, 173682, 189586, 206848, 225585, 245920, 267968, 291874, 317788, 345856, 376256, 409174, 444793, 483330, 525016, 570078, 618784, 671418, 728260, 789640, 855906, 927406, 1004544, 1087744, 1177438, 1274118, 1378304, 1490528, 1611388, 1741521, 1881578, 2032290, 2194432, 2368800, 2556284, 2757826, 2974400, 3207086, 3457027, 3725410, 4013544, 4322816, 4654670, 5010688, 5392550, 5802008, 6240974, 6711480, 7215644, 7755776, 8334326, 8953856, 9617150, 10327156, 11086968, 11899934, 12769602, 13699699, 14694244, 15757502, 16893952, 18108418, 19406016, 20792120, 22272512, 23853318, 25540982, 27342421, 29264960, 31316314, 33504746, 35839008, 38328320, 40982540, 43812110, 46828032, 50042056, 53466624, 57114844, 61000704, 65139008, 69545358, 74236384, 79229676, 84543782, 90198446, 96214550, 102614114, 109420549, 116658616, 124354422, 132535702, 141231780, 150473568, 160293888, 170727424, 181810744, 193582642, 206084096, 219358315, 233451098, 248410816, 264288462, 281138048, 299016608, 317984256, 338104630, 359444904, 382075868, 406072422, 431513602, 458482688, 487067746, 517361670, 549462336, 583473184, 619503296, 657667584, 698087424, 740890786, 786212446, 834194700, 884987529, 938748852, 995645336, 1055852590, 1119555488, 1186949056, 1258238720, 1333640710, 1413383026, 1497705768, 1586861606, 1681116852, 1780751883, 1886061684, 1997357056, 2114965120, 2239229960, 2370513986, 2509198528, 2655684608, 2810394454, 2973772212, 3146284870, 3328423936, 3520706304, 3723675326, 3937902688, 4163989458, 4402567324, 4654300706, 4919887992, 5200062976, 5495597248, 5807301632, 6136027874, 6482671322, 6848172604, 7233519619, 7639750522, 8067955712, 8519280128, 8994926602, 9496158208, 10024300890, 10580747264, 11166959338, 11784471548, 12434895064, 13119920928, 13841323582, 14600965705, 15400801856, 16242882560, 17129359744, 18062490974, 19044644146, 20078303620, 21166075136, 22310691192, 23515017984, 24782061070, 26114971540, 27517053882, 28991772486, 30542758738, 32173819904, 33888946600, 35692320960, 37588326642, 39581557440, 41676826624, 43879178240, 46193897032, 48626519094, 51182844672, 53868949522, 56691197084, 59656252987, 62771098024, 66043042088, 69479740554, 73089209120, 76879839744, 80860419136, 85040145750, 89428647940, 94036004868, 98872765938, 103949971456, 109279176298, 114872472064, 120742510607, 126902530816, 133366383848, 140148559930, 147264218618, 154729217536, 162560142890, 170774343642, 179389964242, 188425979304, 197902232212, 207839472390, 218259394656, 229184682870, 240639052286, 252647294208, 265235325352, 278430235904, 292260340224, 306755232574, 321945841664, 337864488192, 354544947722, 372022512608, 390334057172, 409518108690, 429614917632, 450666531450, 472716874732, 495811828759, 519999315040, 545329385792, 571854313990, 599628687918, 628709513216, 659156314788, 691031243770, 724399192576, 759327910200, 795888123110, 834153664940, 874201606890, 916112394270, 959969992704, 1005862035461, 1053879977632, 1104119260918, 1156679479970, 1211664556454, 1269182924648, 1329347719190, 1392276971520, 1458093818816, 1526926715868, 1598909656578, 1674182409148, 1752890755072, 1835186738752, 1921228932216, 2011182704478, 2105220502772, 2203522150410, 2306275150210, 2413675001278, 2525925533946, 2643239251488, 2765837686784, 2893951778822, 3027822257408, 3167700044480, 3313846677248, 3466534741118, 3626048321048, 3792683476992, 3966748730794, 4148565573659, 4338469000206, 4536808055808, 4743946406976, 4960262940968, 5186152380864, 5422025926436, 5668311927092, 5925456572864, 6193924614094, 6474200116480, 6766787237064, 7072211032064, 7391018303854, 7723778471936, 8071084479444, 8433553742947, 8811829129614, 9206579974150, 9618503143424, 10048324132444, 10496798204736, 10964711585280, 11452882689344, 11962163400706, 12493440407999, 13047636581997, 13625712407806, 14228667481435, 14857542052790, 15513418629878, 16197423654274, 16910729229117, 17654554915416, 18430169607085, 19238893465492, 20082099930177, 20961217816537, 21877733480911, 22833193070427, 23829204869072, 24867441719985, 25949643541942, 27077619952501, 28253252976984, 29478499862325, 30755396009108, 32086058000092, 33472686745606, 34917570759683, 36423089544764, 37991717106557, 39626025613464, 41328689178199, 43102487784068, 44950311371363, 46875164061056, 48880168539185, 50968570618754, 53143743955461, 55409194942201, 57768567800213, 60225649842475, 62784376935989, 65448839181739, 68223286787556, 71112136162144, 74119976250010, 77251575082395, 80511886573842, 83906057585593, 87439435230608, 91117574451293, 94946245892884, 98931444046703, 103079395696312, 107396568691222, 111889681021732, 116565710230294, 121431903185486, 126495786192012, 131765175474482, 137248188062445, 142953253050402, 148889123272511, 155064887421622, 161489982586387, 168174207248302, 175127734770899, 182361127354502, 189885350501271, 197711788025200, 205852257580241, 214319026754634, 223124829768251, 232282884746633, 241806911622961, 251711150707223, 262010381897045, 272719944584507, 283855758301333, 295434344077628, 307472846571772, 319989057017529, 333001436963972, 346529142869947, 360592051602800, 375210786817561, 390406746282992, 406202130207789, 422619970544434, 439684161341911, 457419490204356, 475851670835061, 495007376741714, 514914276164649, 535601068209500, 557097520265062, 579434506773682, 602644049337233, 626759358245556, 651814875500312, 677846319319238, 704890730214672, 732986518724762, 762173514785431, 792493018844046, 823987854799221, 856702424758688, 890682765723231, 925976608288512, 962633437360539, 1000704555000600, 1040243145499705, 1081304342682236, 1123945299563737, 1168225260471472, 1214205635631971, 1261950078360686, 1311524564971227, 1362997477414216, 1416439688791589, 1471924651873437, 1529528490634315, 1589330094965977, 1651411218704757, 1715856580998001, 1782753971178427, 1852194357297325, 1924271998348639, 1999084560366633, 2076733236561462, 2157322871533215, 2240962089762652, 2327763428556841, 2417843475500748, 2511323010629390, 2608327153513882, 2708985515324655, 2813432356103478, 2921806747455151, 3034252740735138, 3150919540983439, 3271961686835066, 3397539236497167, 3527817960064392, 3662969538423561, 3803171768853134, 3948608777612605, 4099471239794858, 4255956606565062, 4418269340106334, 4586621156569284, 4761231277169456, 4942326687779594, 5130142407341047, 5324921765260492, 5526916688168030, 5736387996391066, 5953605710334088, 6178849367172983, 6412408348250804, 6654582217391453, 6905681070576072, 7166025897403703, 7435948954582866, 7715794151937777, 8005917451388530, 8306687279185867, 8618484951925800, 8941705116845809, 9276756206720164, 9624060909924879, 9984056656221028, 10357196118613677, 10743947731907616, 11144796228559161, 11560243192225286, 11990807629686985, 12437026561800496, 12899455633927375, 13378669746580363, 13875263706998237, 14389852902155829, 14923073994010879, 15475585637767133, 16048069223719929, 16641229643556729, 17255796081964729, 17892522834177177, 18552190150409103, 19235605108113573, 19943602512761916, 20677045828184639, 21436828137489515, 22223873135340421, 23039136152726940, 23883605215334353, 24758302136386392, 25664283645191525, 26602642552605432, 27574508954378943, 28581051473732054, 29623478544479997, 30703039735785864]
noncomputable def odd5 : List Int := [1, 1, 1, 2, 2, 3, 4, 5, 6, 8, 10, 12, 15, 18, 22, 27, 32, 38, 46, 54, 64, 76, 89, 104, 122, 142, 165, 192, 222, 256, 296, 340, 390, 448, 512, 585, 668, 760, 864, 982, 1113, 1260, 1426, 1610, 1816, 2048, 2304, 2590, 2910, 3264, 3658, 4097, 4582, 5120, 5718, 6378, 7108, 7917, 8808, 9792, 10880, 12076, 13394, 14848, 16444, 18200, 20132, 22250, 24576, 27130, 29927, 32992, 36352, 40026, 44046, 48446, 53250, 58499, 64234, 70488, 77312, 84756, 92864, 101698, 111322, 121792, 133184, 145578, 159046, 173682, 189586, 206848, 225585, 245920, 267968, 291874, 317788, 345856, 376256, 409174, 444793, 483330, 525016, 570078, 618784, 671418, 728260, 789640, 855906, 927406, 1004544, 1087744, 1177438, 1274118, 1378304, 1490528, 1611388, 1741521, 1881578, 2032290, 2194432, 2368800, 2556284, 2757826, 2974400, 3207086, 3457027, 3725410, 4013544, 4322816, 4654670, 5010688, 5392550, 5802008, 6240974, 6711480, 7215644, 7755776, 8334326, 8953856, 9617150, 10327156, 11086968, 11899934, 12769602, 13699699, 14694244, 15757502, 16893952, 18108418, 19406016, 20792120, 22272512, 23853318, 25540982, 27342421, 29264960, 31316314, 33504746, 35839008, 38328320, 40982540, 43812110, 46828032, 50042056, 53466624, 57114844, 61000704, 65139008, 69545358, 74236384, 79229676, 84543782, 90198446, 96214550, 102614114, 109420549, 116658616, 124354422, 132535702, 141231780, 150473568, 160293888, 170727424, 181810744, 193582642, 206084096, 219358315, 233451098, 248410816, 264288462, 281138048, 299016608, 317984256, 338104630, 359444904, 382075868, 406072422, 431513602, 458482688, 487067746, 517361670, 549462336, 583473184, 619503296, 657667584, 698087424, 740890786, 786212446, 834194700, 884987529, 938748852, 995645336, 1055852590, 1119555488, 1186949056, 1258238720, 1333640710, 1413383026, 1497705768, 1586861606, 1681116852, 1780751883, 1886061684, 1997357056, 2114965120, 2239229960, 2370513986, 2509198528, 2655684608, 2810394454, 2973772212, 3146284870, 3328423936, 3520706304, 3723675326, 3937902688, 4163989458, 4402567324, 4654300706, 4919887992, 5200062976, 5495597248, 5807301632, 6136027874, 6482671322, 6848172604, 7233519619, 7639750522, 8067955712, 8519280128, 8994926602, 9496158208, 10024300890, 10580747264, 11166959338, 11784471548, 12434895064, 13119920928, 13841323582, 14600965705, 15400801856, 16242882560, 17129359744, 18062490974, 19044644146, 20078303620, 21166075136, 22310691192, 23515017984, 24782061070, 26114971540, 27517053882, 28991772486, 30542758738, 32173819904, 33888946600, 35692320960, 37588326642, 39581557440, 41676826624, 43879178240, 46193897032, 48626519094, 51182844672, 53868949522, 56691197084, 59656252987, 62771098024, 66043042088, 69479740554, 73089209120, 76879839744, 80860419136, 85040145750, 89428647940, 94036004868, 98872765938, 103949971456, 109279176298, 114872472064, 120742510607, 126902530816, 133366383848, 140148559930, 147264218618, 154729217536, 162560142890, 170774343642, 179389964242, 188425979304, 197902232212, 207839472390, 218259394656, 229184682870, 240639052286, 252647294208, 265235325352, 278430235904, 292260340224, 306755232574, 321945841664, 337864488192, 354544947722, 372022512608, 390334057172, 409518108690, 429614917632, 450666531450, 472716874732, 495811828759, 519999315040, 545329385792, 571854313990, 599628687918, 628709513216, 659156314788, 691031243770, 724399192576, 759327910200, 795888123110, 834153664940, 874201606890, 916112394270, 959969992704, 1005862035461, 1053879977632, 1104119260918, 1156679479970, 1211664556454, 1269182924648, 1329347719190, 1392276971520, 1458093818816, 1526926715868, 1598909656578, 1674182409148, 1752890755072, 1835186738752, 1921228932216, 2011182704478, 2105220502772, 2203522150410, 2306275150210, 2413675001278, 2525925533946, 2643239251488, 2765837686784, 2893951778822, 3027822257408, 3167700044480, 3313846677248, 3466534741118, 3626048321048, 3792683476992, 3966748730794, 4148565573659, 4338469000206, 4536808055808, 4743946406976, 4960262940968, 5186152380864, 5422025926436, 5668311927092, 5925456572864, 6193924614094, 6474200116480, 6766787237064, 7072211032064, 7391018303854, 7723778471936, 8071084479444, 8433553742947, 8811829129614, 9206579974150, 9618503143424, 10048324132444, 10496798204736, 10964711585280, 11452882689344, 11962163400706, 12493440408000, 13047636581998, 13625712407808, 14228667481438, 14857542052794, 15513418629884, 16197423654282, 16910729229128, 17654554915430, 18430169607104, 19238893465516, 20082099930208, 20961217816576, 21877733480960, 22833193070488, 23829204869148, 24867441720078, 25949643542056, 27077619952640, 28253252977152, 29478499862528, 30755396009352, 32086058000384, 33472686745954, 34917570760097, 36423089545254, 37991717107136, 39626025614146, 41328689179000, 43102487785006, 44950311372460, 46875164062334, 48880168540672, 50968570620480, 53143743957460, 55409194944512, 57768567802880, 60225649845546, 62784376939520, 65448839185792, 68223286792200, 71112136167457, 74119976256080, 77251575089318, 80511886581728, 83906057594564, 87439435240798, 91117574462854, 94946245905984, 98931444061528, 103079395713070, 107396568710144, 111889681043072, 116565710254336, 121431903212544, 126495786222432, 131765175508648, 137248188100782, 142953253093376, 148889123320640, 155064887475476, 161489982646592, 168174207315550, 175127734845952, 182361127438194, 189885350594524, 197711788129024, 205852257695744, 214319026883034, 223124829910884, 232282884904960, 241806911798586, 251711150901902, 262010382112696, 272719944823232, 283855758565430, 295434344369603, 307472846894368, 319989057373738, 333001437357056, 346529143303468, 360592052080640, 375210787343946, 390406746862530, 406202130845496, 422619971245764, 439684162112802, 457419491051264, 475851671764998, 495007377762304, 514914277284172, 535601069436938, 557097521610170, 579434508247040, 602644050950309, 626759360010788, 651814877431176, 677846321430326, 704890732521792, 732986521245024, 762173517537343, 792493021847637, 823987858076148, 856702428332355, 890682769618940, 925976612533594, 962633441984504, 1000704560035317, 1040243150979570, 1081304348644351, 1123945306048136, 1168225267521319, 1214205643293793, 1261950086684633, 1311524574011331, 1362997487228664, 1416439699443049, 1471924663429368, 1529528503167307, 1589330108554144, 1651411233432117, 1715856596954892, 1782753988461982, 1852194376011938, 1924272018606472, 1999084582288190, 2076733260276157, 2157322897179990, 2240962117490669, 2327763458526176, 2417843507883139, 2511323045609073, 2608327191288433, 2708985556105898, 2813432400118491, 2921806794947289, 3034252791965127, 3150919596230593, 3271961746398517, 3397539300697195, 3527818029243880, 3662969612949485, 3803171849118164, 3948608864036853, 4099471332827674, 4255956706686961, 4418269447831090, 4586621272446095, 4761231401785254, 4942326821761559, 5130142551359203, 5324921920030480, 5526916854454116, 5736388175009252, 5953605902155438, 6178849573127212, 6412408569330006, 6654582454654079, 6905681325151212, 7166026170495545, 7435949247475446, 7715794466000083, 8005917788079826, 8306687640061357, 8618485338642708, 8941705531169723, 9276756650531784, 9624061385227247, 9984057165147080, 10357196663434273, 10743948315040125, 11144796852576441, 11560243859865225, 11990808343862685, 12437027325610939, 12899456450668743, 13378670619758105, 13875264640339722, 14389853899623759, 14923075059817578, 15475586776389531, 16048070439915440, 16641230942380151, 17255797468785966, 17892524314700021, 18552191730691190, 19235606794587329, 19943604312256740, 20677047747950447, 21436830185221473, 22223875319205105, 23039138481390098, 23883607697990060, 24758304782787886, 25664286465683894, 26602645558159956, 27574512156629392, 28581054885013144, 29623482177867792, 30703043605140468]
noncomputable def odd6 : List Int := [1, 1, 1, 2, 2, 3, 4, 5, 6, 8, 10, 12, 15, 18, 22, 27, 32, 38, 46, 54, 64, 76, 89, 104, 122, 142, 165, 192, 222, 256, 296, 340, 390, 448, 512, 585, 668, 760, 864, 982, 1113, 1260, 1426, 1610, 1816, 2048, 2304, 2590, 2910, 3264, 3658, 4097, 4582, 5120, 5718, 6378, 7108, 7917, 8808, 9792, 10880, 12076, 13394, 14848, 16444, 18200, 20132, 22250, 24576, 27130, 29927, 32992, 36352, 40026, 44046, 48446, 53250, 58499, 64234, 70488, 77312, 84756, 92864, 101698, 111322, 121792, 133184, 145578, 159046, 173682, 189586, 206848, 225585, 245920, 267968, 291874, 317788, 345856, 376256, 409174, 444793, 483330, 525016, 570078, 618784, 671418, 728260, 789640, 855906, 927406, 1004544, 1087744, 1177438, 1274118, 1378304, 1490528, 1611388, 1741521, 1881578, 2032290, 2194432, 2368800, 2556284, 2757826, 2974400, 3207086, 3457027, 3725410, 4013544, 4322816, 4654670, 5010688, 5392550, 5802008, 6240974, 6711480, 7215644, 7755776, 8334326, 8953856, 9617150, 10327156, 11086968, 11899934, 12769602, 13699699, 14694244, 15757502, 16893952, 18108418, 19406016, 20792120, 22272512, 23853318, 25540982, 27342421, 29264960, 31316314, 33504746, 35839008, 38328320, 40982540, 43812110, 46828032, 50042056, 53466624, 57114844, 61000704, 65139008, 69545358, 74236384, 79229676, 84543782, 90198446, 96214550, 102614114, 109420549, 116658616, 124354422, 132535702, 141231780, 150473568, 160293888, 170727424, 181810744, 193582642, 206084096, 219358315, 233451098, 248410816, 264288462, 281138048, 299016608, 317984256, 338104630, 359444904, 382075868, 406072422, 431513602, 458482688, 487067746, 517361670, 549462336, 583473184, 619503296, 657667584, 698087424, 740890786, 786212446, 834194700, 884987529, 938748852, 995645336, 1055852590, 1119555488, 1186949056, 1258238720, 1333640710, 1413383026, 1497705768, 1586861606, 1681116852, 1780751883, 1886061684, 1997357056, 2114965120, 2239229960, 2370513986, 2509198528, 2655684608, 2810394454, 2973772212, 3146284870, 3328423936, 3520706304, 3723675326, 3937902688, 4163989458, 4402567324, 4654300706, 4919887992, 5200062976, 5495597248, 5807301632, 6136027874, 6482671322, 6848172604, 7233519619, 7639750522, 8067955712, 8519280128, 8994926602, 9496158208, 10024300890, 10580747264, 11166959338, 11784471548, 12434895064, 13119920928, 13841323582, 14600965705, 15400801856, 16242882560, 17129359744, 18062490974, 19044644146, 20078303620, 21166075136, 22310691192, 23515017984, 24782061070, 26114971540, 27517053882, 28991772486, 30542758738, 32173819904, 33888946600, 35692320960, 37588326642, 39581557440, 41676826624, 43879178240, 46193897032, 48626519094, 51182844672, 53868949522, 56691197084, 59656252987, 62771098024, 66043042088, 69479740554, 73089209120, 76879839744, 80860419136, 85040145750, 89428647940, 94036004868, 98872765938, 103949971456, 109279176298, 114872472064, 120742510607, 126902530816, 133366383848, 140148559930, 147264218618, 154729217536, 162560142890, 170774343642, 179389964242, 188425979304, 197902232212, 207839472390, 218259394656, 229184682870, 240639052286, 252647294208, 265235325352, 278430235904, 292260340224, 306755232574, 321945841664, 337864488192, 354544947722, 372022512608, 390334057172, 409518108690, 429614917632, 450666531450, 472716874732, 495811828759, 519999315040, 545329385792, 571854313990, 599628687918, 628709513216, 659156314788, 691031243770, 724399192576, 759327910200, 795888123110, 834153664940, 874201606890, 916112394270, 959969992704, 1005862035461, 1053879977632, 1104119260918, 1156679479970, 1211664556454, 1269182924648, 1329347719190, 1392276971520, 1458093818816, 1526926715868, 1598909656578, 1674182409148, 1752890755072, 1835186738752, 1921228932216, 2011182704478, 2105220502772, 2203522150410, 2306275150210, 2413675001278, 2525925533946, 2643239251488, 2765837686784, 2893951778822, 3027822257408, 3167700044480, 3313846677248, 3466534741118, 3626048321048, 3792683476992, 3966748730794, 4148565573659, 4338469000206, 4536808055808, 4743946406976, 4960262940968, 5186152380864, 5422025926436, 5668311927092, 5925456572864, 6193924614094, 6474200116480, 6766787237064, 7072211032064, 7391018303854, 7723778471936, 8071084479444, 8433553742947, 8811829129614, 9206579974150, 9618503143424, 10048324132444, 10496798204736, 10964711585280, 11452882689344, 11962163400706, 12493440408000, 13047636581998, 13625712407808, 14228667481438, 14857542052794, 15513418629884, 16197423654282, 16910729229128, 17654554915430, 18430169607104, 19238893465516, 20082099930208, 20961217816576, 21877733480960, 22833193070488, 23829204869148, 24867441720078, 25949643542056, 27077619952640, 28253252977152, 29478499862528, 30755396009352, 32086058000384, 33472686745954, 34917570760097, 36423089545254, 37991717107136, 39626025614146, 41328689179000, 43102487785006, 44950311372460, 46875164062334, 48880168540672, 50968570620480, 53143743957460, 55409194944512, 57768567802880, 60225649845546, 62784376939520, 65448839185792, 68223286792200, 71112136167457, 74119976256080, 77251575089318, 80511886581728, 83906057594564, 87439435240798, 91117574462854, 94946245905984, 98931444061528, 103079395713070, 107396568710144, 111889681043072, 116565710254336, 121431903212544, 126495786222432, 131765175508648, 137248188100782, 142953253093376, 148889123320640, 155064887475476, 161489982646592, 168174207315550, 175127734845952, 182361127438194, 189885350594524, 197711788129024, 205852257695744, 214319026883034, 223124829910884, 232282884904960, 241806911798586, 251711150901902, 262010382112696, 272719944823232, 283855758565430, 295434344369603, 307472846894368, 319989057373738, 333001437357056, 346529143303468, 360592052080640, 375210787343946, 390406746862530, 406202130845496, 422619971245764, 439684162112802, 457419491051264, 475851671764998, 495007377762304, 514914277284172, 535601069436938, 557097521610170, 579434508247040, 602644050950309, 626759360010788, 651814877431176, 677846321430326, 704890732521792, 732986521245024, 762173517537344, 792493021847638, 823987858076150, 856702428332358, 890682769618944, 925976612533600, 962633441984512, 1000704560035328, 1040243150979584, 1081304348644370, 1123945306048160, 1168225267521350, 1214205643293832, 1261950086684682, 1311524574011392, 1362997487228740, 1416439699443142, 1471924663429482, 1529528503167446, 1589330108554312, 1651411233432320, 1715856596955136, 1782753988462274, 1852194376012286, 1924272018606886, 1999084582288680, 2076733260276736, 2157322897180672, 2240962117491470, 2327763458527114, 2417843507884236, 2511323045610351, 2608327191289920, 2708985556107624, 2813432400120490, 2921806794949600, 3034252791967794, 3150919596233664, 3271961746402048, 3397539300701248, 3527818029248524, 3662969612954798, 3803171849124234, 3948608864043776, 4099471332835560, 4255956706695932, 4418269447841280, 4586621272457656, 4761231401798354, 4942326821776384, 5130142551375961, 5324921920049402, 5526916854475456, 5736388175033294, 5953605902182496, 6178849573157632, 6412408569364172, 6654582454692416, 6905681325194186, 7166026170543674, 7435949247529300, 7715794466060288, 8005917788147074, 8306687640136410, 8618485338726400, 8941705531262976, 9276756650635608, 9624061385342750, 9984057165275480, 10357196663576906, 10743948315198452, 11144796852752066, 11560243860059904, 11990808344078336, 12437027325849664, 12899456450932840, 13378670620050080, 13875264640662318, 14389853899979968, 14923075060210662, 15475586776823052, 16048070440393280, 16641230942906536, 17255797469365504, 17892524315337728, 18552191731392520, 19235606795358220, 19943604313103648, 20677047748880384, 21436830186242063, 22223875320324628, 23039138482617536, 23883607699335168, 24758304784261244, 25664286467296970, 26602645559925188, 27574512158560256, 28581054887124232, 29623482180174912, 30703043607660730]
theorem odd_c0 : PLL 601 (tb dl 601) (((rsz 2 [1] 600).drop 0).take 50) = odd1 := by decide +kernel
theorem odd_c1 : PLL 601 odd1 (((rsz 2 [1] 600).drop 50).take 50) = odd2 := by decide +kernel
theorem odd_c2 : PLL 601 odd2 (((rsz 2 [1] 600).drop 100).take 50) = odd3 := by decide +kernel
theorem odd_c3 : PLL 601 odd3 (((rsz 2 [1] 600).drop 150).take 50) = odd4 := by decide +kernel
theorem odd_c4 : PLL 601 odd4 (((rsz 2 [1] 600).drop 200).take 50) = odd5 := by decide +kernel
theorem odd_c5 : PLL 601 odd5 (((rsz 2 [1] 600).drop 250).take 50) = odd6 := by decide +kernel
theorem odd_end : (rsz 2 [1] 600).drop 300 = [] := by decide +kernel
theorem odd_fo : foL 1 601 602 0 0 (tb (fun _ => 0) 601) (tb dl 601) = odd6 := by decide +kernel
theorem odd_list : foL 1 601 602 0 0 (tb (fun _ => 0) 601) (tb dl 601) = PLL 601 (tb dl 601) (rsz 2 [1] 600) := by
  have h0 : (rsz 2 [1] 600) = (rsz 2 [1] 600).drop 0 := rfl
  rw [odd_fo, h0]
  rw [PLL_cut 601 _ ((rsz 2 [1] 600).drop 0) 50, odd_c0, List.drop_drop]
  rw [show 0 + 50 = 50 from rfl]
  rw [PLL_cut 601 _ ((rsz 2 [1] 600).drop 50) 50, odd_c1, List.drop_drop]
  rw [show 50 + 50 = 100 from rfl]
  rw [PLL_cut 601 _ ((rsz 2 [1] 600).drop 100) 50, odd_c2, List.drop_drop]
  rw [show 100 + 50 = 150 from rfl]
  rw [PLL_cut 601 _ ((rsz 2 [1] 600).drop 150) 50, odd_c3, List.drop_drop]
  rw [show 150 + 50 = 200 from rfl]
  rw [PLL_cut 601 _ ((rsz 2 [1] 600).drop 200) 50, odd_c4, List.drop_drop]
  rw [show 200 + 50 = 250 from rfl]
  rw [PLL_cut 601 _ ((rsz 2 [1] 600).drop 250) 50, odd_c5, List.drop_drop]
  rw [show 250 + 50 = 300 from rfl]
  rw [odd_end]
  rfl
noncomputable def five1 : List Int := [1, 1, 1, 1, 2, 2, 3, 3, 4, 5, 6, 7, 9, 10, 12, 14, 17, 19, 23, 26, 31, 35, 41, 46, 54, 61, 70, 79, 91, 102, 117, 131, 149, 167, 189, 211, 239, 266, 299, 333, 374, 415, 465, 515, 575, 637, 709, 783, 871, 961, 1065, 1174, 1299, 1429, 1579, 1735, 1913, 2100, 2311, 2533, 2785, 3049, 3345, 3659, 4010, 4380, 4794, 5231, 5717, 6233, 6804, 7409, 8080, 8790, 9573, 10406, 11322, 12294, 13363, 14498, 15742, 17066, 18512, 20050, 21732, 23519, 25466, 27540, 29796, 32196, 34806, 37582, 40594, 43802, 47276, 50974, 54979, 59239, 63843, 68747, 74040, 79672, 85749, 92214, 99180, 106595, 114573, 123061, 132193, 141904, 152337, 163437, 175351, 188019, 201611, 216059, 231545, 248009, 265639, 284375, 304433, 325739, 348526, 372737, 398611, 426088, 455442, 486605, 519872, 555188, 592861, 632841, 675476, 720704, 768902, 820030, 874484, 932226, 993701, 1058869, 1128209, 1201706, 1279865, 1362682, 1450725, 1543983, 1643071, 1748018, 1859472, 1977474, 2102751, 2235351, 2376060, 2524968, 2682909, 2850004, 3027182, 3214572, 3413182, 3623203, 3845710, 4080930, 4330057, 4593347, 4872093, 5166628, 5478334, 5807607, 6155977, 6523876, 6912968, 7323795, 7758139, 8216619, 8701204, 9212588, 9752909, 10322994, 10925139, 11560292, 12230986, 12938266, 13684886, 14472077, 15302800, 16178444, 17102272, 18075825, 19102647, 20184514, 21325247, 22526851, 23793524, 25127473, 26533263, 28013424, 29572884, 31214465, 32943575, 34763334, 36679622, 38695969, 40818729, 43051839, 45402261, 47874326, 50475610, 53210992, 56088659, 59114021, 62296042, 65640685, 69157695, 72853731, 76739341, 80821904, 85112955, 89620593, 94357357, 99332273, 104558917, 110047250, 115812100, 121864402, 128220273, 134891834, 141896546, 149247770, 156964552, 165061525, 173559391, 182474340, 191828796, 201640542, 211934025, 222728724, 234051197, 245922907, 258372626, 271423913, 285108107, 299450959, 314486503, 330243064, 346757509, 364060861, 382193246, 401188554, 421090335, 441935765, 463772028, 486639799, 510590381, 535668134, 561928722, 589420745, 618204493, 648333032, 679871870, 712878851, 747425017, 783573602, 821401532, 860977791, 902385897, 945700943, 991013467, 1038405453, 1087974898, 1139811109, 1194020414, 1250699964, 1309964952, 1371921260, 1436693543, 1504397041, 1575166901, 1649128334, 1726427683, 1807201271, 1891607396, 1979794234, 2071933293, 2168185458, 2268736342, 2373760865, 2483459726, 2598022892, 2717667655, 2842600063, 2973055166, 3109256768, 3251458898, 3399904341, 3554867959, 3716612915, 3885436353, 4061623772, 4245496176, 4437363032, 4637571441, 4846456528, 5064393339, 5291745122, 5528916834, 5776301845, 6034337758, 6303450267, 6584111937, 6876783711, 7181975615, 7500186431, 7831966952, 8177856495, 8538449539, 8914329599, 9306137939, 9714505425, 10140124173, 10583675865, 11045907093, 11527554729, 12029423737, 12552310223, 13097082447, 13664599986, 14255798940, 14871607783, 15513035285, 16181083763, 16876840686, 17601387586, 18355896244, 19141533942, 19959562804, 20811242097, 21697931610, 22620989167, 23581879214, 24582066214, 25623126699, 26706639392, 27834301873, 29007815380, 30229007158, 31499710692, 32821892108, 34197526687, 35628730322, 37117630181, 38666502576, 40277638542, 41953486152, 43696511970, 45509349134, 47394652280, 49355252683, 51394007549, 53513960289, 55718185160, 58009953842, 60392572954, 62869558568, 65444467445, 68121077208, 70903212395, 73794931846, 76800346836, 79923817158, 83169762322, 86542864125, 90047872078, 93689813872, 97473792121, 101405204610, 105489533309, 109732571819, 114140207988, 118718660305, 123474250898, 128413652643, 133543653696, 138871412828, 144404216784, 150149745446, 156115818659, 162310673468, 168742701533, 175420735449, 182353778237, 189551300765, 197022959663, 204778907973, 212829502720, 221185625905, 229858383239, 238859437398, 248200694079, 257894650088, 267954067938, 278392335366, 289223130249, 300460793944, 312119982238, 324216054947, 336764714321, 349782407677, 363285955036, 377292966959, 391821456934, 406890277437, 422518718501, 438726958196, 455535649365, 472966387206, 491041279271, 509783433106, 529216511153, 549365234699, 570254925670, 591912029454, 614363638493, 637638037550, 661764210661, 686772404451, 712693620760, 739560201196, 767405299858, 796263492512, 826170231167, 857162473704, 889278122657, 922556678304, 957038655776, 992766265662, 1029782811256, 1068133391810, 1107864282610, 1149023664511, 1191660980327, 1235827694713, 1281576628935, 1328962746381, 1378042468414, 1428874488885, 1481519064403, 1536038862681, 1592498229264, 1650964064227, 1711505068311, 1774192652245, 1839100154985, 1906303790385, 1975881839858, 2047915630985, 2122488707755, 2199687845180, 2279602189473, 2362324314294, 2447949333058, 2536575990702, 2628305751689, 2723243932201, 2821498755481, 2923182529905, 3028410674325, 3137302936112, 3249982390094, 3366576701287, 3487217088660, 3612039639132, 3741184238798, 3874795931365, 4013023820895, 4156022480283, 4303950816078, 4456973533549, 4615259966560, 4778985592597, 4948330831812, 5123482617541, 5304633154698, 5491981553450, 5685732549900, 5886098195299, 6093296543730, 6307553403514, 6529100981182, 6758179702669, 6995036816972, 7239928279824, 7493117321904, 7754876401456, 8025485725887, 8305235282276, 8594423315740, 8893358429557, 9202358025750, 9521750482451, 9851873544669, 10193076587861, 10545718962841, 10910172337531, 11286819001575, 11676054293894, 12078284854463, 12493931148198, 12923425667826, 13367215544924, 13825760710258, 14299536600943, 14789032264778, 15294753174086, 15817219278517, 16356967916891, 16914551824999, 17490542154429, 18085526421354, 18700111644576, 19334922239942, 19990603267685, 20667818279921, 21367252687810, 22089611546973, 22835623057043, 23606036290259, 24401624814014, 25223184370304, 26071536631799, 26947526816655, 27852027592499, 28785936632043, 29750180654348, 30745712929866, 31773517471504, 32834606472316, 33930024661149, 35060846679183, 36228181590081, 37433170204590, 38676989757702, 39960851164090, 41286003879288, 42653733092326, 44065364759791, 45522262745921, 47025834044219, 48577525846512, 50178830969590, 51831284860781, 53536471219084, 55296018948036, 57111607986294, 58984966188836, 60917875387224, 62912168206886, 64969734345293, 67092517337510, 69282521069697, 71541806472866, 73872498292576, 76276781719769, 78756909405843, 81315198043503, 83954035645238, 86675878053646, 89483256507125, 92378774089055, 95365113568768, 98445033804303, 101621377879547, 104897069438640, 108275121144107, 111758630953867, 115350790889698, 119054883272514, 122874289822640, 126812487831180, 130873059620629, 135059688663975, 139376169393969, 143826403287509, 148414409048472, 153144318634154, 158020387841558, 163046992289450, 168228638397710, 173569959343883, 179075726461850, 184750845149456, 190600366720694, 196629484278704, 202843545010291, 209248046045907, 215848647226711, 222651166927193, 229661595330510, 236886090230409, 244330990805938, 252002813425875, 259908265954776]
noncomputable def five2 : List Int := [1, 1, 1, 1, 2, 2, 3, 3, 4, 5, 6, 7, 9, 10, 12, 14, 17, 19, 23, 26, 31, 35, 41, 46, 54, 61, 70, 79, 91, 102, 117, 131, 149, 167, 189, 211, 239, 266, 299, 333, 374, 415, 465, 515, 575, 637, 709, 783, 871, 961, 1065, 1174, 1299, 1429, 1579, 1735, 1913, 2100, 2311, 2533, 2785, 3049, 3345, 3659, 4010, 4380, 4794, 5231, 5717, 6233, 6804, 7409, 8080, 8790, 9573, 10406, 11322, 12294, 13363, 14498, 15742, 17066, 18512, 20050, 21732, 23519, 25466, 27540, 29796, 32196, 34806, 37582, 40594, 43802, 47276, 50974, 54979, 59239, 63843, 68747, 74040, 79672, 85749, 92214, 99180, 106595, 114573, 123061, 132193, 141904, 152337, 163437, 175351, 188019, 201611, 216059, 231545, 248009, 265639, 284375, 304433, 325740, 348527, 372738, 398613, 426091, 455446, 486610, 519878, 555196, 592872, 632854, 675492, 720724, 768926, 820060, 874520, 932269, 993752, 1058930, 1128282, 1201792, 1279966, 1362800, 1450863, 1544145, 1643259, 1748235, 1859723, 1977764, 2103085, 2235735, 2376499, 2525470, 2683483, 2850658, 3027926, 3215417, 3414139, 3624287, 3846936, 4082314, 4331616, 4595102, 4874066, 5168844, 5480820, 5810390, 6159090, 6527357, 6916854, 7328129, 7762967, 8221992, 8707179, 9219227, 9760277, 10331164, 10934191, 11570313, 12242071, 12950519, 13698416, 14487007, 15319265, 16196588, 17122250, 18097808, 19126818, 20211076, 21354418, 22558864, 23828633, 25165957, 26575419, 28059577, 29623383, 31269686, 33003926, 34829259, 36751595, 38774504, 40904379, 43145200, 45503978, 47985097, 50596176, 53342158, 56231292, 59269053, 62464475, 65823597, 69356239, 73069154, 76972981, 81075195, 85387435, 89917918, 94679295, 99680730, 104935934, 110455009, 116252940, 122340836, 128734984, 135447703, 142496649, 149895397, 157663227, 165815024, 174371737, 183349841, 192772053, 202656472, 213027880, 223906118, 235318108, 247285728, 259838176, 272999466, 286801421, 301270311, 316440702, 332341515, 349010231, 366478524, 384787212, 403970931, 424074002, 445134447, 467200321, 490313232, 514525473, 539882466, 566440973, 594250785, 623373438, 653863319, 685787341, 719204845, 754188427, 790803002, 829127252, 869232026, 911202821, 955116828, 1001066771, 1049136991, 1099427955, 1152031579, 1207056956, 1264604164, 1324791466, 1387728026, 1453541939, 1522352080, 1594297444, 1669507314, 1748132301, 1830313274, 1916213308, 2005985612, 2099807024, 2197844056, 2300288230, 2407320733, 2519148854, 2635969503, 2758007318, 2885476085, 3018618981, 3157668416, 3302887477, 3454528474, 3612876335, 3778204813, 3950822194, 4131025738, 4319148829, 4515513940, 4720481911, 4934402306, 5157665354, 5390650314, 5633778992, 5887462438, 6152156924, 6428307737, 6716408063, 7016940537, 7330438011, 7657423211, 7998472188, 8354150750, 8725081239, 9111876448, 9515208457, 9935740415, 10374198472, 10831299978, 11307829037, 11804561894, 12322344925, 12862017604, 13424493882, 14010681175, 14621565888, 15258129236, 15921435451, 16612544887, 17332606110, 18082764596, 18864259336, 19678328010, 20526306734, 21409532169, 22329445530, 23287489800, 24285218888, 25324190900, 26406080756, 27532570027, 28705464420, 29926578198, 31197857301, 32521259367, 33898880886, 35332833361, 36825375799, 38378784894, 39995493905, 41677957930, 43428797237, 45250658219, 47146362824, 49118762885, 51170896548, 53305837150, 55526854801, 57837260435, 60240574083, 62740361614, 65340410928, 68044562634, 70856891941, 73781533949, 76822873155, 79985360664, 83273712392, 86692719550, 90247453419, 93943069824, 97785022269, 101778857527, 105930438595, 110245732821, 114731042124, 119392784439, 124237733434, 129272790156, 134505233542, 139942483799, 145592361264, 151462842346, 157562328849, 163899393153, 170483059684, 177322540957, 184427528293, 191807919636, 199474122108, 207436767976, 215707030581, 224296330217, 233216660655, 242480285895, 252100079733, 262089209520, 272461490788, 283231059883, 294412740339, 306021705422, 318073859249, 330585485085, 343573643036, 357055806117, 371050271338, 385575784623, 400651968184, 416298929851, 432537709092, 449389872864, 466877976514, 485025147374, 503855564039, 523394022905, 543666437989, 564699392694, 586520656576, 609158723619, 632643349318, 657005070330, 682275764636, 708488154996, 735676387968, 763875522567, 793122132173, 823453772875, 854909610853, 887529873049, 921356495963, 956432560090, 992802964057, 1030513836964, 1069613241145, 1110150565181, 1152177250495, 1195746166645, 1240912366476, 1287732437386, 1336265288118, 1386571478986, 1438714035699, 1492757760273, 1548770076510, 1606820314873, 1666980593454, 1729325079957, 1793930902833, 1860877392269, 1930247026971, 2002124646927, 2076598439483, 2153759127328, 2233700988769, 2316521022918, 2402320009533, 2491201643739, 2583273639984, 2678646839957, 2777436354699, 2879760647892, 2985742722512, 3095509171267, 3209191412203, 3326924710245, 3448849456024, 3575110160829, 3705856784992, 3841243697588, 3981431059749, 4126583753263, 4276872812205, 4432474323032, 4593570912026, 4760350607568, 4933008388604, 5111745013621, 5296768623858, 5488293541771, 5686541936422, 5891742581554, 6104132589519, 6323956133818, 6551466244343, 6786923497443, 7030597881188, 7282767442420, 7543720228337, 7813752895839, 8093172722548, 8382296181668, 8681451031192, 8990974843231, 9311217179024, 9642538078348, 9985310312403, 10339917836936, 10706758133278, 11086240613418, 11478789056740, 11884839973166, 12304845128108, 12739269867623, 13188595742005, 13653318780531, 14133952222750, 14631024749370, 15145083312737, 15676691328330, 16226431616510, 16794904541427, 17382731073142, 17990550881180, 18619025509113, 19268836427524, 19940688333324, 20635307148333, 21353443454258, 22095870444675, 22863387486636, 23656818031396, 24477013316937, 25324850222890, 26201235125099, 27107101703296, 28043414939304, 29011168883311, 30011390810440, 31045138930483, 32113506715990, 33217620564661, 34358644289519, 35537776740622, 36756256474412, 38015359318771, 39316403234999, 40660745836433, 42049789434557, 43484978518524, 44967805003024, 46499805652119, 48082567544826, 49717725454410, 51406967522172, 53152032600523, 54954716155312, 56816867555351, 58740396219897, 60727268867034, 62779515897933, 64899228613227, 67088565855282, 69349751174854, 71685079750886, 74096915521001, 76587698369494, 79159941232123, 81816237576897, 84559258464755, 87391760343614, 90316582080025, 93336653058665, 96454990196726, 99674706374700, 102999007414780, 106431200866851, 109974692967553, 113632997773051, 117409734112224, 121308635095985, 125333545045331, 129488429402550, 133777371652927, 138204583631411, 142774402453024, 147491301246514, 152359886074204, 157384907122316, 162571255631095, 167923975534968, 173448260420244, 179149465651415, 185033105337061, 191104864974035, 197370598445040, 203836341176464, 210508307187187, 217392902798962, 224496723717487, 231826569332255, 239389439856055, 247192551210255, 255243332245341, 263549440256407, 272118758266022, 280959411209686, 290079763310765, 299488434935429, 309194300085361, 319206503970361]
noncomputable def five3 : List Int := [1, 1, 1, 1, 2, 2, 3, 3, 4, 5, 6, 7, 9, 10, 12, 14, 17, 19, 23, 26, 31, 35, 41, 46, 54, 61, 70, 79, 91, 102, 117, 131, 149, 167, 189, 211, 239, 266, 299, 333, 374, 415, 465, 515, 575, 637, 709, 783, 871, 961, 1065, 1174, 1299, 1429, 1579, 1735, 1913, 2100, 2311, 2533, 2785, 3049, 3345, 3659, 4010, 4380, 4794, 5231, 5717, 6233, 6804, 7409, 8080, 8790, 9573, 10406, 11322, 12294, 13363, 14498, 15742, 17066, 18512, 20050, 21732, 23519, 25466, 27540, 29796, 32196, 34806, 37582, 40594, 43802, 47276, 50974, 54979, 59239, 63843, 68747, 74040, 79672, 85749, 92214, 99180, 106595, 114573, 123061, 132193, 141904, 152337, 163437, 175351, 188019, 201611, 216059, 231545, 248009, 265639, 284375, 304433, 325740, 348527, 372738, 398613, 426091, 455446, 486610, 519878, 555196, 592872, 632854, 675492, 720724, 768926, 820060, 874520, 932269, 993752, 1058930, 1128282, 1201792, 1279966, 1362800, 1450863, 1544145, 1643259, 1748235, 1859723, 1977764, 2103085, 2235735, 2376499, 2525470, 2683483, 2850658, 3027926, 3215417, 3414139, 3624287, 3846936, 4082314, 4331616, 4595102, 4874066, 5168844, 5480820, 5810390, 6159090, 6527357, 6916854, 7328129, 7762967, 8221992, 8707179, 9219227, 9760277, 10331164, 10934191, 11570313, 12242071, 12950519, 13698416, 14487007, 15319265, 16196588, 17122250, 18097808, 19126818, 20211076, 21354418, 22558864, 23828633, 25165957, 26575419, 28059577, 29623383, 31269686, 33003926, 34829259, 36751595, 38774504, 40904379, 43145200, 45503978, 47985097, 50596176, 53342158, 56231292, 59269053, 62464475, 65823597, 69356239, 73069154, 76972981, 81075195, 85387435, 89917918, 94679295, 99680730, 104935934, 110455009, 116252940, 122340836, 128734984, 135447703, 142496649, 149895397, 157663227, 165815024, 174371737, 183349841, 192772053, 202656472, 213027880, 223906118, 235318108, 247285728, 259838176, 272999466, 286801421, 301270312, 316440703, 332341516, 349010233, 366478527, 384787216, 403970936, 424074008, 445134455, 467200332, 490313245, 514525489, 539882486, 566440997, 594250815, 623373474, 653863362, 685787392, 719204906, 754188500, 790803088, 829127353, 869232144, 911202959, 955116990, 1001066959, 1049137208, 1099428206, 1152031869, 1207057290, 1264604548, 1324791905, 1387728528, 1453542513, 1522352734, 1594298188, 1669508159, 1748133258, 1830314358, 1916214534, 2005986996, 2099808583, 2197845811, 2300290203, 2407322949, 2519151340, 2635972286, 2758010431, 2885479566, 3018622867, 3157672750, 3302892305, 3454533847, 3612882310, 3778211452, 3950829562, 4131033908, 4319157881, 4515523961, 4720492996, 4934414559, 5157678884, 5390665244, 5633795457, 5887480582, 6152176902, 6428329720, 6716432234, 7016967099, 7330467182, 7657455224, 7998507297, 8354189234, 8725123395, 9111922601, 9515258956, 9935795636, 10374258823, 10831365903, 11307901010, 11804640429, 12322430575, 12862110965, 13424595599, 14010791946, 14621686454, 15258260402, 15921578084, 16612699919, 17332774543, 18082947508, 18864457880, 19678543433, 20526540374, 21409785460, 22329720010, 23287787125, 24285540826, 25324539357, 26406457773, 27532977786, 28705905260, 29927054632, 31198372012, 32521815236, 33899480989, 35333480988, 36826074474, 38379538393, 39996306251, 41678833431, 43429740494, 45251674149, 47147456679, 49119940279, 51172163459, 53307199971, 55528320351, 57838835988, 60242267397, 62742180966, 65342365127, 68046661085, 70859144663, 73783951613, 76825467122, 79988143043, 83276696061, 86695918235, 90250881717, 93946743264, 97788957369, 101783071870, 105934950860, 110250562880, 114736211093, 119398314756, 124243648941, 129279116196, 134511997008, 139949713269, 145600087067, 151471096682, 157571145894, 163908809185, 170493113163, 177333272703, 184438981594, 191820140397, 199487158991, 207450672579, 215721857563, 224312137530, 233233509687, 242498241676, 252119211133, 262109589492, 272483196546, 283254173202, 294437347761, 306047898535, 318101734960, 330615145948, 343605197504, 357089368929, 371085963809, 385613735032, 400692312145, 416341810745, 432583278411, 449438290731, 466929412097, 485079779399, 503913581285, 523455624779, 543731835016, 564768807204, 586594323265, 609236890237, 632726277336, 657093035707, 682369058496, 708587084536, 735781277220, 763986713310, 793239984829, 823578667539, 855041948225, 887670075610, 921505009005, 956589852937, 992969531277, 1030690199732, 1069799948487, 1110348195524, 1152386413066, 1195967503093, 1241146552482, 1287980184462, 1336527345283, 1386848634802, 1439007120148, 1493067646907, 1549097684589, 1607166611722, 1667346596715, 1729711860266, 1794339586331, 1861309163422, 1930703131387, 2002606394475, 2077107207303, 2154296363328, 2234268214943, 2317119839054, 2402952096947, 2491868769367, 2583977660368, 2679389705804, 2778220115274, 2880587455879, 2986614838929, 3096428970825, 3210161388566, 3327947481961, 3449927772310, 3576246907944, 3707054992690, 3842506546093, 3982761886661, 4127986061285, 4278350276758, 4434030800552, 4595210448384, 4762077447153, 4934826983387, 5113660033190, 5298784965366, 5490416340725, 5688776577661, 5894094711044, 6106608126197, 6326561282593, 6554207509063, 6789807694873, 7033632155289, 7285959279644, 7547077473056, 7817283767122, 8096885831003, 8386200547549, 8685556102931, 8995290517197, 9315753819518, 9647306539251, 9990321959019, 10345184569369, 10712292410383, 11092055478275, 11484898162536, 11891257611047, 12311586255424, 12746350138026, 13196031536349, 13661127239628, 14142151280758, 14639633169605, 15154120724066, 15686178263832, 16236389553218, 16805355942385, 17393699430413, 18002060761717, 18631102601533, 19281507591674, 19953981651310, 20649251978400, 21368070485974, 22111211757610, 22879476610351, 23673690008844, 24494704769817, 25343399420519, 26220682055077, 27127488146396, 28064784546216, 29033567255602, 30034865584069, 31069739863615, 32139285779259, 33244632036606, 34386944854566, 35567425592204, 36787315421414, 38047892897320, 39350478823540, 40696433777080, 42087163157870, 43524114674601, 45008783596934, 46542710185916, 48127485163902, 49764747101527, 51456188096027, 53203551122063, 55008635939680, 56873296391967, 58799446558220, 60789058011658, 62844166209652, 64966867719694, 67159326868884, 69423772920597, 71762507001644, 74177899244208, 76672395981663, 79248516865101, 81908862353372, 84656110786113, 87493026187311, 90422455310961, 93447335750662, 96570692968495, 99795648737557, 103125418135584, 106563318343170, 110112765619998, 113777284450606, 117560504515337, 121466170214601, 125498137615737, 129660384379826, 133957006704389, 138392229646656, 142970404075872, 147696017425870, 152573690638067, 157608189371600, 162804420959219, 168167446068564, 173702475686788, 179414883270711, 185310201741262, 191394136152735, 197672560721918, 204151532012705, 210837286018048, 217736251900301, 224855049107395, 232200501704300, 239779635551275, 247599693222926, 255668131269440, 263992635769630, 272581119657059, 281441738945224, 290582890149964, 300013227186845, 309741658913909, 319777366751253]
noncomputable def five4 : List Int := [1, 1, 1, 1, 2, 2, 3, 3, 4, 5, 6, 7, 9, 10, 12, 14, 17, 19, 23, 26, 31, 35, 41, 46, 54, 61, 70, 79, 91, 102, 117, 131, 149, 167, 189, 211, 239, 266, 299, 333, 374, 415, 465, 515, 575, 637, 709, 783, 871, 961, 1065, 1174, 1299, 1429, 1579, 1735, 1913, 2100, 2311, 2533, 2785, 3049, 3345, 3659, 4010, 4380, 4794, 5231, 5717, 6233, 6804, 7409, 8080, 8790, 9573, 10406, 11322, 12294, 13363, 14498, 15742, 17066, 18512, 20050, 21732, 23519, 25466, 27540, 29796, 32196, 34806, 37582, 40594, 43802, 47276, 50974, 54979, 59239, 63843, 68747, 74040, 79672, 85749, 92214, 99180, 106595, 114573, 123061, 132193, 141904, 152337, 163437, 175351, 188019, 201611, 216059, 231545, 248009, 265639, 284375, 304433, 325740, 348527, 372738, 398613, 426091, 455446, 486610, 519878, 555196, 592872, 632854, 675492, 720724, 768926, 820060, 874520, 932269, 993752, 1058930, 1128282, 1201792, 1279966, 1362800, 1450863, 1544145, 1643259, 1748235, 1859723, 1977764, 2103085, 2235735, 2376499, 2525470, 2683483, 2850658, 3027926, 3215417, 3414139, 3624287, 3846936, 4082314, 4331616, 4595102, 4874066, 5168844, 5480820, 5810390, 6159090, 6527357, 6916854, 7328129, 7762967, 8221992, 8707179, 9219227, 9760277, 10331164, 10934191, 11570313, 12242071, 12950519, 13698416, 14487007, 15319265, 16196588, 17122250, 18097808, 19126818, 20211076, 21354418, 22558864, 23828633, 25165957, 26575419, 28059577, 29623383, 31269686, 33003926, 34829259, 36751595, 38774504, 40904379, 43145200, 45503978, 47985097, 50596176, 53342158, 56231292, 59269053, 62464475, 65823597, 69356239, 73069154, 76972981, 81075195, 85387435, 89917918, 94679295, 99680730, 104935934, 110455009, 116252940, 122340836, 128734984, 135447703, 142496649, 149895397, 157663227, 165815024, 174371737, 183349841, 192772053, 202656472, 213027880, 223906118, 235318108, 247285728, 259838176, 272999466, 286801421, 301270312, 316440703, 332341516, 349010233, 366478527, 384787216, 403970936, 424074008, 445134455, 467200332, 490313245, 514525489, 539882486, 566440997, 594250815, 623373474, 653863362, 685787392, 719204906, 754188500, 790803088, 829127353, 869232144, 911202959, 955116990, 1001066959, 1049137208, 1099428206, 1152031869, 1207057290, 1264604548, 1324791905, 1387728528, 1453542513, 1522352734, 1594298188, 1669508159, 1748133258, 1830314358, 1916214534, 2005986996, 2099808583, 2197845811, 2300290203, 2407322949, 2519151340, 2635972286, 2758010431, 2885479566, 3018622867, 3157672750, 3302892305, 3454533847, 3612882310, 3778211452, 3950829562, 4131033908, 4319157881, 4515523961, 4720492996, 4934414559, 5157678884, 5390665244, 5633795457, 5887480582, 6152176902, 6428329720, 6716432234, 7016967099, 7330467182, 7657455224, 7998507297, 8354189234, 8725123395, 9111922601, 9515258956, 9935795636, 10374258823, 10831365903, 11307901010, 11804640429, 12322430575, 12862110965, 13424595599, 14010791946, 14621686454, 15258260402, 15921578084, 16612699919, 17332774543, 18082947508, 18864457880, 19678543433, 20526540374, 21409785460, 22329720010, 23287787125, 24285540826, 25324539357, 26406457773, 27532977786, 28705905260, 29927054632, 31198372012, 32521815236, 33899480989, 35333480988, 36826074474, 38379538393, 39996306251, 41678833431, 43429740494, 45251674149, 47147456679, 49119940279, 51172163459, 53307199971, 55528320351, 57838835988, 60242267397, 62742180967, 65342365128, 68046661086, 70859144665, 73783951616, 76825467126, 79988143048, 83276696067, 86695918243, 90250881728, 93946743277, 97788957385, 101783071890, 105934950884, 110250562910, 114736211129, 119398314799, 124243648992, 129279116257, 134511997081, 139949713355, 145600087168, 151471096800, 157571146032, 163908809347, 170493113351, 177333272920, 184438981845, 191820140687, 199487159325, 207450672963, 215721858002, 224312138032, 233233510261, 242498242330, 252119211877, 262109590337, 272483197503, 283254174286, 294437348987, 306047899919, 318101736519, 330615147703, 343605199477, 357089371145, 371085966295, 385613737815, 400692315258, 416341814226, 432583282297, 449438295065, 466929416925, 485079784772, 503913587260, 523455631418, 543731842384, 564768815374, 586594332317, 609236900258, 632726288421, 657093047960, 682369072026, 708587099466, 735781293685, 763986731454, 793240004807, 823578689522, 855041972396, 887670102172, 921505038176, 956589884950, 992969566386, 1030690238216, 1069799990643, 1110348241677, 1152386463565, 1195967558314, 1241146612833, 1287980250387, 1336527417256, 1386848713337, 1439007205798, 1493067740268, 1549097786306, 1607166722493, 1667346717281, 1729711991432, 1794339728964, 1861309318454, 1930703299820, 2002606577387, 2077107405847, 2154296578751, 2234268448583, 2317120092345, 2402952371427, 2491869066692, 2583977982306, 2679390054261, 2778220492291, 2880587863638, 2986615279769, 3096429447259, 3210161903277, 3327948037830, 3449928372413, 3576247555571, 3707055691365, 3842507299592, 3982762699007, 4127986936786, 4278351220015, 4434031816482, 4595211542239, 4762078624547, 4934828250298, 5113661396011, 5298786430916, 5490417916278, 5688778270975, 5894096530396, 6106610080396, 6326563381044, 6554209761785, 6789810112537, 7033634749256, 7285962062023, 7547080456725, 7817286965807, 8096889259301, 8386204220989, 8685560038031, 8995294731540, 9315758331783, 9647311369310, 9990327127988, 10345190099686, 10712298325890, 11092061804315, 11484904926002, 11891264840517, 12311593981227, 12746358392362, 13196040353394, 13661136655660, 14142161334237, 14639643901351, 15154132177367, 15686190484593, 16236402590101, 16805369846988, 17393714257395, 18002076569030, 18631119450565, 19281525547455, 19954000782710, 20649272358372, 21368092191732, 22111234870929, 22879501217773, 23673716201957, 24494732645528, 25343429081382, 26220713609545, 27127521709208, 28064820238687, 29033605206011, 30034905928030, 31069782744509, 32139331348578, 33244680454473, 34386996290149, 35567480224229, 36787373438660, 38047954499194, 39350544220567, 40696503191590, 42087236824559, 43524192841219, 45008866524952, 46542798151293, 48127578457762, 49764846031067, 51456292985279, 53203662312806, 55008753792336, 56873421286631, 58799578895592, 60789198214219, 62844314722694, 64967025012541, 67159493436104, 69423949283365, 71762693708986, 74178096874551, 76672605144234, 79248738201549, 81909096539378, 84656358533189, 87493288244476, 90422732466777, 93447628835111, 96571002855129, 99795976345636, 103125764432433, 106563684346431, 110113152400307, 113777693134104, 117560936286490, 121466626319017, 125498619363285, 129660893147646, 133957543940389, 138392796872830, 142971002892008, 147696649513284, 152574357763695, 157608893391984, 162805163825066, 168168229829139, 173703302494775, 179415755387128, 185311121540820, 191395106129098, 197673583493634, 204152610328991, 210838422765163, 217737450107999, 224856311955900, 232201832531212, 239781037859297, 247601170687479, 255669687746960, 263994275305988, 272582846496644, 281443557540007, 290584805169533, 300015243528353, 309743781712863, 319779601392492]
noncomputable def five5 : List Int := [1, 1, 1, 1, 2, 2, 3, 3, 4, 5, 6, 7, 9, 10, 12, 14, 17, 19, 23, 26, 31, 35, 41, 46, 54, 61, 70, 79, 91, 102, 117, 131, 149, 167, 189, 211, 239, 266, 299, 333, 374, 415, 465, 515, 575, 637, 709, 783, 871, 961, 1065, 1174, 1299, 1429, 1579, 1735, 1913, 2100, 2311, 2533, 2785, 3049, 3345, 3659, 4010, 4380, 4794, 5231, 5717, 6233, 6804, 7409, 8080, 8790, 9573, 10406, 11322, 12294, 13363, 14498, 15742, 17066, 18512, 20050, 21732, 23519, 25466, 27540, 29796, 32196, 34806, 37582, 40594, 43802, 47276, 50974, 54979, 59239, 63843, 68747, 74040, 79672, 85749, 92214, 99180, 106595, 114573, 123061, 132193, 141904, 152337, 163437, 175351, 188019, 201611, 216059, 231545, 248009, 265639, 284375, 304433, 325740, 348527, 372738, 398613, 426091, 455446, 486610, 519878, 555196, 592872, 632854, 675492, 720724, 768926, 820060, 874520, 932269, 993752, 1058930, 1128282, 1201792, 1279966, 1362800, 1450863, 1544145, 1643259, 1748235, 1859723, 1977764, 2103085, 2235735, 2376499, 2525470, 2683483, 2850658, 3027926, 3215417, 3414139, 3624287, 3846936, 4082314, 4331616, 4595102, 4874066, 5168844, 5480820, 5810390, 6159090, 6527357, 6916854, 7328129, 7762967, 8221992, 8707179, 9219227, 9760277, 10331164, 10934191, 11570313, 12242071, 12950519, 13698416, 14487007, 15319265, 16196588, 17122250, 18097808, 19126818, 20211076, 21354418, 22558864, 23828633, 25165957, 26575419, 28059577, 29623383, 31269686, 33003926, 34829259, 36751595, 38774504, 40904379, 43145200, 45503978, 47985097, 50596176, 53342158, 56231292, 59269053, 62464475, 65823597, 69356239, 73069154, 76972981, 81075195, 85387435, 89917918, 94679295, 99680730, 104935934, 110455009, 116252940, 122340836, 128734984, 135447703, 142496649, 149895397, 157663227, 165815024, 174371737, 183349841, 192772053, 202656472, 213027880, 223906118, 235318108, 247285728, 259838176, 272999466, 286801421, 301270312, 316440703, 332341516, 349010233, 366478527, 384787216, 403970936, 424074008, 445134455, 467200332, 490313245, 514525489, 539882486, 566440997, 594250815, 623373474, 653863362, 685787392, 719204906, 754188500, 790803088, 829127353, 869232144, 911202959, 955116990, 1001066959, 1049137208, 1099428206, 1152031869, 1207057290, 1264604548, 1324791905, 1387728528, 1453542513, 1522352734, 1594298188, 1669508159, 1748133258, 1830314358, 1916214534, 2005986996, 2099808583, 2197845811, 2300290203, 2407322949, 2519151340, 2635972286, 2758010431, 2885479566, 3018622867, 3157672750, 3302892305, 3454533847, 3612882310, 3778211452, 3950829562, 4131033908, 4319157881, 4515523961, 4720492996, 4934414559, 5157678884, 5390665244, 5633795457, 5887480582, 6152176902, 6428329720, 6716432234, 7016967099, 7330467182, 7657455224, 7998507297, 8354189234, 8725123395, 9111922601, 9515258956, 9935795636, 10374258823, 10831365903, 11307901010, 11804640429, 12322430575, 12862110965, 13424595599, 14010791946, 14621686454, 15258260402, 15921578084, 16612699919, 17332774543, 18082947508, 18864457880, 19678543433, 20526540374, 21409785460, 22329720010, 23287787125, 24285540826, 25324539357, 26406457773, 27532977786, 28705905260, 29927054632, 31198372012, 32521815236, 33899480989, 35333480988, 36826074474, 38379538393, 39996306251, 41678833431, 43429740494, 45251674149, 47147456679, 49119940279, 51172163459, 53307199971, 55528320351, 57838835988, 60242267397, 62742180967, 65342365128, 68046661086, 70859144665, 73783951616, 76825467126, 79988143048, 83276696067, 86695918243, 90250881728, 93946743277, 97788957385, 101783071890, 105934950884, 110250562910, 114736211129, 119398314799, 124243648992, 129279116257, 134511997081, 139949713355, 145600087168, 151471096800, 157571146032, 163908809347, 170493113351, 177333272920, 184438981845, 191820140687, 199487159325, 207450672963, 215721858002, 224312138032, 233233510261, 242498242330, 252119211877, 262109590337, 272483197503, 283254174286, 294437348987, 306047899919, 318101736519, 330615147703, 343605199477, 357089371145, 371085966295, 385613737815, 400692315258, 416341814226, 432583282297, 449438295065, 466929416925, 485079784772, 503913587260, 523455631418, 543731842384, 564768815374, 586594332317, 609236900258, 632726288421, 657093047960, 682369072026, 708587099466, 735781293685, 763986731454, 793240004807, 823578689522, 855041972396, 887670102172, 921505038176, 956589884950, 992969566386, 1030690238216, 1069799990643, 1110348241677, 1152386463565, 1195967558314, 1241146612833, 1287980250387, 1336527417256, 1386848713337, 1439007205798, 1493067740268, 1549097786306, 1607166722493, 1667346717281, 1729711991432, 1794339728964, 1861309318454, 1930703299820, 2002606577387, 2077107405847, 2154296578751, 2234268448583, 2317120092345, 2402952371427, 2491869066692, 2583977982306, 2679390054261, 2778220492291, 2880587863638, 2986615279769, 3096429447259, 3210161903277, 3327948037830, 3449928372413, 3576247555571, 3707055691365, 3842507299592, 3982762699007, 4127986936786, 4278351220015, 4434031816482, 4595211542239, 4762078624547, 4934828250298, 5113661396011, 5298786430916, 5490417916278, 5688778270975, 5894096530397, 6106610080397, 6326563381045, 6554209761787, 6789810112540, 7033634749260, 7285962062028, 7547080456731, 7817286965815, 8096889259312, 8386204221002, 8685560038047, 8995294731560, 9315758331807, 9647311369340, 9990327128024, 10345190099729, 10712298325941, 11092061804376, 11484904926075, 11891264840603, 12311593981328, 12746358392480, 13196040353532, 13661136655822, 14142161334425, 14639643901568, 15154132177618, 15686190484883, 16236402590435, 16805369847372, 17393714257834, 18002076569532, 18631119451139, 19281525548109, 19954000783454, 20649272359217, 21368092192689, 22111234872013, 22879501218999, 23673716203341, 24494732647087, 25343429083137, 26220713611518, 27127521711424, 28064820241173, 29033605208794, 30034905931143, 31069782747990, 32139331352464, 33244680458807, 34386996294977, 35567480229602, 36787373444635, 38047954505833, 39350544227935, 40696503199760, 42087236833611, 43524192851240, 45008866536037, 46542798163546, 48127578471292, 49764846045997, 51456293001744, 53203662330950, 55008753812314, 56873421308614, 58799578919763, 60789198240781, 62844314751865, 64967025044554, 67159493471213, 69423949321849, 71762693751142, 74178096920704, 76672605194733, 79248738256770, 81909096599729, 84656358599114, 87493288316449, 90422732545312, 93447628920761, 96571002948490, 99795976447353, 103125764543204, 106563684466997, 110113152531473, 113777693276737, 117560936441522, 121466626487450, 125498619546197, 129660893346190, 133957544155812, 138392797106470, 142971003145299, 147696649787764, 152574358061020, 157608893713922, 162805164173523, 168168230206156, 173703302902534, 179415755827968, 185311122017254, 191395106643809, 197673584049503, 204152610929094, 210838423412790, 217737450806674, 224856312709399, 232201833343558, 239781038734798, 247601171630736, 255669688762890, 263994276399843, 272582847674038, 281443558806918, 290584806532354, 300015244993903, 309743783288416, 319779603085806]
theorem five_c0 : PLL 601 (tb dl 601) (((rsz 5 [1, 4] 600).drop 0).take 48) = five1 := by decide +kernel
theorem five_c1 : PLL 601 five1 (((rsz 5 [1, 4] 600).drop 48).take 48) = five2 := by decide +kernel
theorem five_c2 : PLL 601 five2 (((rsz 5 [1, 4] 600).drop 96).take 48) = five3 := by decide +kernel
theorem five_c3 : PLL 601 five3 (((rsz 5 [1, 4] 600).drop 144).take 48) = five4 := by decide +kernel
theorem five_c4 : PLL 601 five4 (((rsz 5 [1, 4] 600).drop 192).take 48) = five5 := by decide +kernel
theorem five_end : (rsz 5 [1, 4] 600).drop 240 = [] := by decide +kernel
theorem five_fo : foL 2 601 602 0 0 (tb (fun _ => 0) 601) (tb dl 601) = five5 := by decide +kernel
theorem five_list : foL 2 601 602 0 0 (tb (fun _ => 0) 601) (tb dl 601) = PLL 601 (tb dl 601) (rsz 5 [1, 4] 600) := by
  have h0 : (rsz 5 [1, 4] 600) = (rsz 5 [1, 4] 600).drop 0 := rfl
  rw [five_fo, h0]
  rw [PLL_cut 601 _ ((rsz 5 [1, 4] 600).drop 0) 48, five_c0, List.drop_drop]
  rw [show 0 + 48 = 48 from rfl]
  rw [PLL_cut 601 _ ((rsz 5 [1, 4] 600).drop 48) 48, five_c1, List.drop_drop]
  rw [show 48 + 48 = 96 from rfl]
  rw [PLL_cut 601 _ ((rsz 5 [1, 4] 600).drop 96) 48, five_c2, List.drop_drop]
  rw [show 96 + 48 = 144 from rfl]
  rw [PLL_cut 601 _ ((rsz 5 [1, 4] 600).drop 144) 48, five_c3, List.drop_drop]
  rw [show 144 + 48 = 192 from rfl]
  rw [PLL_cut 601 _ ((rsz 5 [1, 4] 600).drop 192) 48, five_c4, List.drop_drop]
  rw [show 192 + 48 = 240 from rfl]
  rw [five_end]
  rfl
theorem tb_one {f g : Nat → Int} {L : Nat} (h : tb f L = tb g L) {j : Nat} (hj : j < L) : f j = g j := by
  have h1 := tb_get (f := f) hj
  have h2 := tb_get (f := g) hj
  rw [h, h2] at h1
  exact (Option.some.inj h1).symm
theorem odd_is {n j : Nat} (hn : n ≤ 600) (h : j ≤ n) : fow 1 j = PL dl (rsz 2 [1] n) j := by
  have e := foL_fow 1
  rw [odd_list, PLL_ok 601 _ _ rsz_pos] at e
  have := tb_one e (show j < 601 by omega)
  rw [← this, ← rsz_far h (600 - n), show n + (600 - n) = 600 by omega]
theorem five_is {n j : Nat} (hn : n ≤ 600) (h : j ≤ n) : fow 2 j = PL dl (rsz 5 [1, 4] n) j := by
  have e := foL_fow 2
  rw [five_list, PLL_ok 601 _ _ rsz_pos] at e
  have := tb_one e (show j < 601 by omega)
  rw [← this, ← rsz_far h (600 - n), show n + (600 - n) = 600 by omega]
end M17
set_option Elab.async false
set_option linter.all false
set_option maxRecDepth 100000
set_option maxHeartbeats 4000000
namespace M21
open MRow
noncomputable def sm (n : Nat) (f : Nat → Int) : Int := ((List.range n).map f).sum
theorem sm_zero (f : Nat → Int) : sm 0 f = 0 := rfl
theorem sm_succ (n : Nat) (f : Nat → Int) : sm (n + 1) f = sm n f + f n := by
  unfold sm
  rw [List.range_succ, List.map_append, List.sum_append_int]
  show _ + (f n + 0) = _
  omega
theorem sm_congr {n : Nat} {f g : Nat → Int} (h : ∀ i, i < n → f i = g i) : sm n f = sm n g := by
  unfold sm
  rw [List.map_congr_left fun i hi => h i (List.mem_range.mp hi)]
theorem sm_add (n : Nat) (f g : Nat → Int) : sm n (fun i => f i + g i) = sm n f + sm n g := by
  induction n with
  | zero => rfl
  | succ n ih => rw [sm_succ, sm_succ, sm_succ, ih]; omega
theorem sm_sub (n : Nat) (f g : Nat → Int) : sm n (fun i => f i - g i) = sm n f - sm n g := by
  induction n with
  | zero => rfl
  | succ n ih => rw [sm_succ, sm_succ, sm_succ, ih]; omega
theorem sm_shift (m n : Nat) (f : Nat → Int) : sm (m + n) f = sm m f + sm n fun i => f (m + i) := by
  induction n with
  | zero => rw [sm_zero, Nat.add_zero]; omega
  | succ n ih => rw [← Nat.add_assoc, sm_succ, sm_succ, ih]; omega
theorem sm_none {n : Nat} {f : Nat → Int} (h : ∀ i, i < n → f i = 0) : sm n f = 0 := by
  rw [sm_congr h]
  induction n with
  | zero => rfl
  | succ n ih => rw [sm_succ, ih fun i hi => h i (by omega)]; rfl
noncomputable def cv (s g : Nat → Int) (n : Nat) : Int := sm n fun i => s (i + 1) * g (n - 1 - i)
noncomputable def StpTo (N : Nat) (g s : Nat → Int) : Prop := ∀ n : Nat, n ≤ N → (n : Int) * g n = cv s g n
theorem cv_ext {s t g h : Nat → Int} {n : Nat} (hs : ∀ j, 1 ≤ j → j ≤ n → s j = t j) (hg : ∀ j, j < n → g j = h j) : cv s g n = cv t h n := sm_congr fun i hi => by
  rw [hs (i + 1) (by omega) (by omega), hg (n - 1 - i) (by omega)]
theorem steps_one {N : Nat} {g h s t : Nat → Int} (g0 : g 0 = 1) (e : ∀ j, j ≤ N → g j = h j) (hs : StpTo N g s) (ht : StpTo N h t) : ∀ j, 1 ≤ j → j ≤ N → s j = t j := by
  intro j
  induction j using Nat.strongRecOn with
  | _ j ih =>
    intro j1 jN
    obtain ⟨m, rfl⟩ : ∃ m, j = m + 1 := ⟨j - 1, by omega⟩
    have a := hs (m + 1) jN
    have b := ht (m + 1) jN
    rw [e (m + 1) jN, b] at a
    unfold cv at a
    rw [sm_succ, sm_succ] at a
    have c : sm m (fun i => t (i + 1) * h (m + 1 - 1 - i)) = sm m (fun i => s (i + 1) * g (m + 1 - 1 - i)) := sm_congr fun i hi => by
      rw [ih (i + 1) (by omega) (by omega) (by omega), e (m + 1 - 1 - i) (by omega)]
    rw [c] at a
    have h0 : m + 1 - 1 - m = 0 := by omega
    rw [h0, ← e 0 (by omega), g0, Int.mul_one, Int.mul_one] at a
    omega
theorem steps_are (g : Nat → Int) (g0 : g 0 = 1) : ∀ N, ∃ s, StpTo N g s
  | 0 => ⟨fun _ => 0, fun n hn => by
    have : n = 0 := by omega
    subst this
    show (0 : Int) * _ = 0
    omega⟩
  | N + 1 => by
    obtain ⟨s, hs⟩ := steps_are g g0 N
    refine ⟨fun j => if j ≤ N then s j else ((N + 1 : Nat) : Int) * g (N + 1) - sm N fun i => s (i + 1) * g (N - i), fun n hn => ?_⟩
    by_cases h : n ≤ N
    · rw [hs n h]
      exact cv_ext (fun j j1 jn => by rw [if_pos (by omega)]) fun _ _ => rfl
    · have : n = N + 1 := by omega
      subst this
      unfold cv
      rw [sm_succ]
      dsimp only
      rw [if_neg (show ¬ N + 1 ≤ N by omega)]
      have e : sm N (fun i => (if i + 1 ≤ N then s (i + 1) else ((N + 1 : Nat) : Int) * g (N + 1) - sm N fun i => s (i + 1) * g (N - i)) * g (N + 1 - 1 - i)) = sm N fun i => s (i + 1) * g (N - i) := sm_congr fun i hi => by
        rw [if_pos (by omega), show N + 1 - 1 - i = N - i by omega]
      rw [e, show N + 1 - 1 - N = 0 by omega, g0, Int.mul_one]
      omega
noncomputable def ind (d j : Nat) : Int := if j % d = 0 then (d : Int) else 0
theorem put_diff {g : Nat → Int} {d : Nat} (hd : 0 < d) (n : Nat) (h : d ≤ n) : put g d n - put g d (n - d) = g n := by
  rw [put_eq g hd n, if_pos h]
  omega
noncomputable def en (d : Nat) (G : Nat → Int) (n : Nat) : Int := sm n fun i => ind d (i + 1) * G (n - 1 - i)
theorem en_low {d n : Nat} {G : Nat → Int} (h : n < d) : en d G n = 0 := sm_none fun i hi => by
  unfold ind
  rw [if_neg (by rw [Nat.mod_eq_of_lt (by omega)]; omega)]
  omega
theorem en_up {d n : Nat} {G : Nat → Int} (hd : 0 < d) (h : d ≤ n) : en d G n = (d : Int) * G (n - d) + en d G (n - d) := by
  obtain ⟨m, rfl⟩ : ∃ m, n = d + m := ⟨n - d, by omega⟩
  unfold en
  rw [sm_shift, show d + m - d = m by omega]
  congr 1
  · obtain ⟨c, rfl⟩ : ∃ c, d = c + 1 := ⟨d - 1, by omega⟩
    rw [sm_succ, sm_none]
    · unfold ind
      rw [if_pos (Nat.mod_self _), show c + 1 + m - 1 - c = m by omega]
      omega
    · intro i hi
      unfold ind
      rw [if_neg (by rw [Nat.mod_eq_of_lt (by omega)]; omega)]
      omega
  · refine sm_congr fun i hi => ?_
    unfold ind
    rw [show d + i + 1 = (i + 1) + d by omega, Nat.add_mod_right, show d + m - 1 - (d + i) = m - 1 - i by omega]
theorem cv_diff {g s : Nat → Int} {d : Nat} (hd : 0 < d) (n : Nat) (h : d ≤ n) : cv s (put g d) n - cv s (put g d) (n - d) = cv s g n := by
  obtain ⟨m, rfl⟩ : ∃ m, n = m + d := ⟨n - d, by omega⟩
  rw [show m + d - d = m by omega]
  unfold cv
  rw [sm_shift m d, sm_shift m d]
  have e1 : sm m (fun i => s (i + 1) * g (m + d - 1 - i)) = sm m (fun i => s (i + 1) * put g d (m + d - 1 - i)) - sm m (fun i => s (i + 1) * put g d (m - 1 - i)) := by
    rw [← sm_sub]
    refine sm_congr fun i hi => ?_
    rw [← Int.mul_sub]
    congr 1
    rw [← put_diff (g := g) hd (m + d - 1 - i) (by omega), show m + d - 1 - i - d = m - 1 - i by omega]
  have e2 : sm d (fun i => s (m + i + 1) * g (m + d - 1 - (m + i))) = sm d (fun i => s (m + i + 1) * put g d (m + d - 1 - (m + i))) := sm_congr fun i hi => by
    rw [put_low g hd (show m + d - 1 - (m + i) < d by omega)]
  rw [e1, e2]
  omega
theorem put_steps {g s : Nat → Int} {d : Nat} (hd : 0 < d) {N : Nat} (h : StpTo N g s) : StpTo N (put g d) fun j => s j + ind d j := by
  have split : ∀ n, cv (fun j => s j + ind d j) (put g d) n = cv s (put g d) n + en d (put g d) n := fun n => by
    unfold cv en
    rw [← sm_add]
    exact sm_congr fun i _ => Int.add_mul _ _ _
  intro n
  induction n using Nat.strongRecOn with
  | _ n ih =>
    intro hn
    rw [split]
    by_cases hdn : d ≤ n
    · have a := ih (n - d) (by omega) (by omega)
      rw [split] at a
      have b := cv_diff (g := g) (s := s) hd n hdn
      have c := en_up (G := put g d) hd hdn
      have e := h n hn
      rw [← b, ← put_diff (g := g) hd n hdn, Int.mul_sub] at e
      have f : ((n - d : Nat) : Int) = (n : Int) - (d : Int) := by omega
      rw [f, Int.sub_mul] at a
      rw [c]
      omega
    · rw [en_low (by omega), put_low g hd (by omega), h n hn, Int.add_zero]
      exact cv_ext (fun _ _ _ => rfl) fun j hj => (put_low g hd (by omega)).symm
noncomputable def off (g : Nat → Int) (s n : Nat) : Int := g n - if s ≤ n then g (n - s) else 0
theorem put_off {g : Nat → Int} {d : Nat} (hd : 0 < d) : ∀ n, put (off g d) d n = g n := by
  intro n
  induction n using Nat.strongRecOn with
  | _ n ih =>
    rw [put_eq _ hd]
    unfold off
    by_cases h : d ≤ n
    · rw [if_pos h, if_pos h]
      have := ih (n - d) (by omega)
      unfold off at this
      rw [this]
      omega
    · rw [if_neg h, if_neg h]
      omega
theorem off_low {g : Nat → Int} {d n : Nat} (h : n < d) : off g d n = g n := by
  unfold off
  rw [if_neg (by omega)]
  omega
theorem off_self {g : Nat → Int} {d : Nat} : off g d d = g d - g 0 := by
  unfold off
  rw [if_pos (Nat.le_refl _), Nat.sub_self]
theorem off_zero {g : Nat → Int} {d : Nat} (hd : 0 < d) : off g d 0 = g 0 := by
  unfold off
  rw [if_neg (by omega)]
  omega
theorem off_steps {g s : Nat → Int} {d : Nat} (hd : 0 < d) (g0 : g 0 = 1) {N : Nat} (h : StpTo N g s) : StpTo N (off g d) fun j => s j - ind d j := by
  obtain ⟨t, ht⟩ := steps_are (off g d) (by rw [off_zero hd, g0]) N
  have p := put_steps hd ht
  have same := steps_one (N := N) (s := s) (t := fun j => t j + ind d j) g0 (fun j _ => (put_off hd j).symm) h p
  intro n hn
  rw [ht n hn]
  refine cv_ext (fun j j1 jn => ?_) fun _ _ => rfl
  have := same j j1 (by omega)
  omega
noncomputable def iter (k : Nat) (f : (Nat → Int) → Nat → Int) (g : Nat → Int) : Nat → Int := match k with
  | 0 => g
  | k + 1 => f (iter k f g)
noncomputable def pw (g : Nat → Int) (d : Nat) (p : Int) : Nat → Int := if 0 ≤ p then iter p.toNat (fun h => put h d) g else iter (-p).toNat (fun h => off h d) g
theorem put_zero (g : Nat → Int) {d : Nat} (hd : 0 < d) : put g d 0 = g 0 := put_low g hd hd
theorem iter_put {g s : Nat → Int} {d N : Nat} (hd : 0 < d) (g0 : g 0 = 1) (h : StpTo N g s) : ∀ k, iter k (fun h => put h d) g 0 = 1 ∧ StpTo N (iter k (fun h => put h d) g) fun j => s j + (k : Int) * ind d j
  | 0 => ⟨g0, fun n hn => by
    show (n : Int) * g n = _
    rw [h n hn]
    exact cv_ext (fun j _ _ => by show s j = s j + (0 : Int) * ind d j; omega) fun _ _ => rfl⟩
  | k + 1 => by
    obtain ⟨a, b⟩ := iter_put hd g0 h k
    refine ⟨by show put _ d 0 = 1; rw [put_zero _ hd]; exact a, fun n hn => ?_⟩
    have c := put_steps hd b n hn
    show (n : Int) * put _ d n = _
    rw [c]
    refine cv_ext (fun j _ _ => ?_) fun _ _ => rfl
    show s j + (k : Int) * ind d j + ind d j = s j + ((k + 1 : Nat) : Int) * ind d j
    rw [show ((k + 1 : Nat) : Int) = (k : Int) + 1 by omega, Int.add_mul, Int.one_mul]
    omega
theorem iter_off {g s : Nat → Int} {d N : Nat} (hd : 0 < d) (g0 : g 0 = 1) (h : StpTo N g s) : ∀ k, iter k (fun h => off h d) g 0 = 1 ∧ StpTo N (iter k (fun h => off h d) g) fun j => s j - (k : Int) * ind d j
  | 0 => ⟨g0, fun n hn => by
    show (n : Int) * g n = _
    rw [h n hn]
    exact cv_ext (fun j _ _ => by show s j = s j - (0 : Int) * ind d j; omega) fun _ _ => rfl⟩
  | k + 1 => by
    obtain ⟨a, b⟩ := iter_off hd g0 h k
    refine ⟨by show off _ d 0 = 1; rw [off_zero hd]; exact a, fun n hn => ?_⟩
    have c := off_steps hd a b n hn
    show (n : Int) * off _ d n = _
    rw [c]
    refine cv_ext (fun j _ _ => ?_) fun _ _ => rfl
    show s j - (k : Int) * ind d j - ind d j = s j - ((k + 1 : Nat) : Int) * ind d j
    rw [show ((k + 1 : Nat) : Int) = (k : Int) + 1 by omega, Int.add_mul, Int.one_mul]
    omega
theorem pw_steps {g s : Nat → Int} {d N : Nat} (hd : 0 < d) (g0 : g 0 = 1) (h : StpTo N g s) (p : Int) : pw g d p 0 = 1 ∧ StpTo N (pw g d p) fun j => s j + p * ind d j := by
  unfold pw
  split
  · rename_i hp
    have := iter_put hd g0 h p.toNat
    rw [Int.toNat_of_nonneg hp] at this
    exact this
  · rename_i hp
    obtain ⟨a, b⟩ := iter_off hd g0 h (-p).toNat
    refine ⟨a, fun n hn => ?_⟩
    rw [b n hn]
    refine cv_ext (fun j _ _ => ?_) fun _ _ => rfl
    show s j - ((-p).toNat : Int) * ind d j = s j + p * ind d j
    rw [Int.toNat_of_nonneg (by omega), Int.neg_mul]
    omega
theorem iter_put_at {g : Nat → Int} {d : Nat} (hd : 0 < d) (g0 : g 0 = 1) : ∀ k, (∀ n, n < d → iter k (fun h => put h d) g n = g n) ∧ iter k (fun h => put h d) g d = g d + (k : Int)
  | 0 => ⟨fun _ _ => rfl, by show g d = g d + 0; omega⟩
  | k + 1 => by
    obtain ⟨a, b⟩ := iter_put_at hd g0 k
    refine ⟨fun n hn => by show put _ d n = g n; rw [put_low _ hd hn]; exact a n hn, ?_⟩
    show put _ d d = _
    rw [put_eq _ hd, if_pos (Nat.le_refl _), Nat.sub_self, put_zero _ hd, b, a 0 hd, g0]
    omega
theorem iter_off_at {g : Nat → Int} {d : Nat} (hd : 0 < d) (g0 : g 0 = 1) : ∀ k, (∀ n, n < d → iter k (fun h => off h d) g n = g n) ∧ iter k (fun h => off h d) g d = g d - (k : Int)
  | 0 => ⟨fun _ _ => rfl, by show g d = g d - 0; omega⟩
  | k + 1 => by
    obtain ⟨a, b⟩ := iter_off_at hd g0 k
    refine ⟨fun n hn => by show off (iter k (fun h => off h d) g) d n = g n; rw [off_low hn]; exact a n hn, ?_⟩
    show off (iter k (fun h => off h d) g) d d = _
    rw [off_self, b, a 0 hd, g0]
    omega
theorem pw_at {g : Nat → Int} {d : Nat} (hd : 0 < d) (g0 : g 0 = 1) (p : Int) : (∀ n, n < d → pw g d p n = g n) ∧ pw g d p d = g d + p := by
  unfold pw
  split
  · rename_i hp
    have := iter_put_at hd g0 p.toNat
    rw [Int.toNat_of_nonneg hp] at this
    exact this
  · rename_i hp
    obtain ⟨a, b⟩ := iter_off_at hd g0 (-p).toNat
    refine ⟨a, ?_⟩
    rw [b, Int.toNat_of_nonneg (by omega)]
    omega
noncomputable def pd : List Int → Nat → (Nat → Int) → Nat → Int
  | [], _, g => g
  | p :: ps, d, g => pd ps (d + 1) (pw g d p)
noncomputable def prod (ps : List Int) : Nat → Int := pd ps 1 dl
theorem pd_app (as bs : List Int) : ∀ (d : Nat) (g : Nat → Int), pd (as ++ bs) d g = pd bs (d + as.length) (pd as d g) := by
  induction as with
  | nil => intro d g; rfl
  | cons a as ih =>
    intro d g
    show pd (as ++ bs) (d + 1) (pw g d a) = pd bs (d + (as.length + 1)) (pd as (d + 1) (pw g d a))
    rw [ih, show d + 1 + as.length = d + (as.length + 1) by omega]
theorem prod_snoc (ps : List Int) (p : Int) : prod (ps ++ [p]) = pw (prod ps) (ps.length + 1) p := by
  unfold prod
  rw [pd_app, Nat.add_comm 1]
  rfl
noncomputable def sv (ps : List Int) (j : Nat) : Int := sm ps.length fun i => ps.getD i 0 * ind (i + 1) j
theorem sv_snoc (ps : List Int) (p : Int) (j : Nat) : sv (ps ++ [p]) j = sv ps j + p * ind (ps.length + 1) j := by
  unfold sv
  rw [List.length_append]
  show sm (ps.length + 1) _ = _
  rw [sm_succ]
  congr 1
  · refine sm_congr fun i hi => ?_
    rw [List.getD_eq_getElem?_getD, List.getElem?_append_left hi, ← List.getD_eq_getElem?_getD]
  · rw [List.getD_eq_getElem?_getD, List.getElem?_append_right (Nat.le_refl _), Nat.sub_self]
    rfl
theorem dl_steps (N : Nat) : StpTo N dl fun _ => 0 := fun n _ => by
  have : cv (fun _ => 0) dl n = 0 := sm_none fun i _ => Int.zero_mul _
  rw [this]
  unfold dl
  by_cases h : n = 0
  · rw [h]; omega
  · rw [if_neg h]; omega
theorem prod_steps (N : Nat) (ps : List Int) : prod ps 0 = 1 ∧ StpTo N (prod ps) (sv ps) := by
  obtain ⟨n, hn⟩ : ∃ n, n = ps.length := ⟨_, rfl⟩
  induction n generalizing ps with
  | zero =>
    have : ps = [] := List.length_eq_zero_iff.mp hn.symm
    subst this
    exact ⟨rfl, fun n h => by
      have := dl_steps N n h
      show (n : Int) * dl n = _
      rw [this]
      exact cv_ext (fun _ _ _ => rfl) fun _ _ => rfl⟩
  | succ n ih =>
    rcases List.eq_nil_or_concat ps with rfl | ⟨qs, p, rfl⟩
    · cases hn
    · rw [List.concat_eq_append] at hn ⊢
      rw [List.length_append] at hn
      have hn' : n = qs.length := by
        have : n + 1 = qs.length + 1 := hn
        omega
      obtain ⟨a, b⟩ := ih qs hn'
      obtain ⟨c, e⟩ := pw_steps (d := qs.length + 1) (by omega) a b p
      rw [prod_snoc]
      refine ⟨c, fun m hm => ?_⟩
      rw [e m hm]
      exact cv_ext (fun j _ _ => (sv_snoc qs p j).symm) fun _ _ => rfl
theorem prod_of (g : Nat → Int) (g0 : g 0 = 1) : ∀ N, ∃ ps : List Int, ps.length = N ∧ ∀ n, n ≤ N → prod ps n = g n
  | 0 => ⟨[], rfl, fun n hn => by
    have : n = 0 := by omega
    subst this
    exact g0.symm⟩
  | N + 1 => by
    obtain ⟨ps, l, h⟩ := prod_of g g0 N
    have p0 := (prod_steps 0 ps).1
    refine ⟨ps ++ [g (N + 1) - prod ps (N + 1)], by rw [List.length_append, l]; rfl, fun n hn => ?_⟩
    rw [prod_snoc, l]
    obtain ⟨a, b⟩ := pw_at (d := N + 1) (by omega) p0 (g (N + 1) - prod ps (N + 1))
    by_cases e : n ≤ N
    · rw [a n (by omega)]; exact h n e
    · have : n = N + 1 := by omega
      subst this
      rw [b]
      omega
end M21
set_option Elab.async false
set_option linter.all false
set_option maxRecDepth 100000
set_option maxHeartbeats 4000000
namespace M12
open MRow M80 M17
noncomputable def sh (e : Nat) (g : Nat → Int) (i : Nat) : Int := if e ≤ i then g (i - e) else 0
theorem sh_sh (a b : Nat) (g : Nat → Int) (i : Nat) : sh a (sh b g) i = sh (a + b) g i := by
  unfold sh
  by_cases h1 : a ≤ i
  · rw [if_pos h1]
    by_cases h2 : a + b ≤ i
    · rw [if_pos (by omega), if_pos h2, Nat.sub_sub]
    · rw [if_neg (by omega), if_neg h2]
  · rw [if_neg h1, if_neg (by omega)]
noncomputable def ex (d m j : Nat) : Nat := m * j + d * (m * (m - 1) / 2)
theorem tri (m : Nat) : (m + 1) * (m + 1 - 1) / 2 = m * (m - 1) / 2 + m := by
  cases m with
  | zero => rfl
  | succ k =>
    rw [Nat.add_sub_cancel, Nat.add_sub_cancel]
    have : (k + 1 + 1) * (k + 1) = (k + 1) * k + (k + 1) * 2 := by grind
    rw [this, Nat.add_mul_div_right _ _ (by decide)]
theorem ex_up (d m j : Nat) : ex d m (j + 1) = ex d m j + m := by unfold ex; rw [Nat.mul_add]; omega
theorem ex_in (d m j : Nat) : ex d (m + 1) j = j + ex d m (j + d) := by
  unfold ex
  rw [tri, Nat.mul_add d, Nat.mul_add m, Nat.add_mul, Nat.mul_comm m d]
  omega
theorem ls_ex (d : Nat) : ∀ m, Ls d m = ex d m 1
  | 0 => by unfold ex; simp [Ls]
  | m + 1 => by
    show Ls d m + 1 + d * m = _
    rw [ls_ex d m]
    unfold ex
    rw [tri, Nat.mul_add d]
    omega
end M12
set_option Elab.async false
set_option linter.all false
set_option maxRecDepth 100000
set_option maxHeartbeats 4000000
namespace M12
open MRow M80 M17
noncomputable def odds (n : Nat) : List Nat := (List.range ((n + 1) / 2)).map fun k => 2 * k + 1
theorem odds_pos {n x : Nat} (h : x ∈ odds n) : 0 < x ∧ x ≤ n := by
  unfold odds at h
  obtain ⟨k, hk, rfl⟩ := List.mem_map.mp h
  have := List.mem_range.mp hk
  omega
theorem one_two (g : Nat → Int) {s : Nat} (hs : 0 < s) (j : Nat) : off (put g s) (2 * s) j = g j + if s ≤ j then g (j - s) else 0 := by
  unfold off
  rw [put_eq g hs j]
  by_cases h : s ≤ j
  · rw [if_pos h, if_pos h, put_eq g hs (j - s)]
    by_cases h2 : 2 * s ≤ j
    · rw [if_pos h2, if_pos (show s ≤ j - s by omega), show j - s - s = j - 2 * s by omega]; omega
    · rw [if_neg h2, if_neg (show ¬ s ≤ j - s by omega)]; omega
  · rw [if_neg h, if_neg h, if_neg (show ¬ 2 * s ≤ j by omega)]; omega
theorem odds_split {n M : Nat} (h : n ≤ M) : ∃ r, odds M = odds n ++ r ∧ ∀ x ∈ r, n < x := by
  refine ⟨((List.range ((M + 1) / 2 - (n + 1) / 2)).map fun k => (n + 1) / 2 + k).map fun k => 2 * k + 1, ?_, ?_⟩
  · unfold odds
    rw [← List.map_append]
    congr 1
    have e : (M + 1) / 2 = (n + 1) / 2 + ((M + 1) / 2 - (n + 1) / 2) := by omega
    rw [e, List.range_add, Nat.add_sub_cancel_left]
  · intro x hx
    obtain ⟨k, hk, rfl⟩ := List.mem_map.mp hx
    obtain ⟨t, ht, rfl⟩ := List.mem_map.mp hk
    omega
noncomputable def sS (p : Nat → Bool) : Nat → Nat → Int
  | 0, _ => 0
  | i + 1, j => sS p i j + if p (i + 1) = true then M21.ind (i + 1) j else 0
noncomputable def fl (p : Nat → Bool) (n : Nat) : List Nat := (ups n).filter p
theorem fl_succ (p : Nat → Bool) (n : Nat) : fl p (n + 1) = fl p n ++ if p (n + 1) = true then [n + 1] else [] := by
  unfold fl
  rw [ups_succ, List.filter_append]
  congr 1
  by_cases h : p (n + 1) = true
  · rw [if_pos h, List.filter_cons_of_pos h]; rfl
  · rw [if_neg h, List.filter_cons_of_neg h]; rfl
theorem fl_steps (p : Nat → Bool) (N : Nat) : ∀ i, PL dl (fl p i) 0 = 1 ∧ M21.StpTo N (PL dl (fl p i)) (sS p i)
  | 0 => ⟨rfl, M21.dl_steps N⟩
  | i + 1 => by
    obtain ⟨h1, h2⟩ := fl_steps p N i
    rw [fl_succ, PL_app]
    by_cases h : p (i + 1) = true
    · rw [if_pos h]
      have e : sS p (i + 1) = fun j => sS p i j + M21.ind (i + 1) j := by
        funext j
        show sS p i j + (if p (i + 1) = true then M21.ind (i + 1) j else 0) = _
        rw [if_pos h]
      rw [e]
      refine ⟨?_, M21.put_steps (by omega) h2⟩
      show put (PL dl (fl p i)) (i + 1) 0 = 1
      rw [put_low _ (by omega) (by omega)]
      exact h1
    · rw [if_neg h]
      have e : sS p (i + 1) = sS p i := by
        funext j
        show sS p i j + (if p (i + 1) = true then M21.ind (i + 1) j else 0) = _
        rw [if_neg h]
        omega
      rw [e]
      exact ⟨h1, h2⟩
theorem fl_most (k : Nat) : ∀ n, fl (fun s => decide (s ≤ k)) n = ups (min k n)
  | 0 => by rw [Nat.min_zero]; rfl
  | n + 1 => by
    rw [fl_succ, fl_most k n]
    by_cases h : n + 1 ≤ k
    · rw [if_pos (decide_eq_true h), Nat.min_eq_right h, Nat.min_eq_right (by omega), ups_succ]
    · rw [if_neg (by simpa using h), List.append_nil, Nat.min_eq_left (by omega), Nat.min_eq_left (by omega)]
theorem fl_all (n : Nat) : fl (fun _ => true) n = ups n := by
  unfold fl
  exact List.filter_eq_self.mpr fun _ _ => rfl
theorem fl_times {m n : Nat} (hm : 0 < m) {j : Nat} (h : j ≤ n) : below m (ups n) dl j = PL dl (fl (fun s => decide (0 < (s : Int) % (m : Int))) n) j := by
  have hrs : ∀ x : Nat, (((x : Int) % (m : Int)) ∈ (List.range (m - 1)).map (fun k : Nat => ((k : Int) + 1)) ↔ ¬ x % m = 0) := fun x => by
    have e : (x : Int) % (m : Int) = ((x % m : Nat) : Int) := (Int.natCast_emod x m).symm
    have hl := Nat.mod_lt x hm
    rw [e]
    constructor
    · intro h h0
      obtain ⟨k, _, hk⟩ := List.mem_map.mp h
      omega
    · intro h0
      exact List.mem_map.mpr ⟨x % m - 1, List.mem_range.mpr (by omega), by omega⟩
  rw [times_is hm hrs h]
  congr 2
  unfold rsz fl
  refine List.filter_congr fun x _ => ?_
  have e : (x : Int) % (m : Int) = ((x % m : Nat) : Int) := (Int.natCast_emod x m).symm
  have := hrs x
  by_cases h0 : x % m = 0
  · have a : ¬ ((x : Int) % (m : Int)) ∈ (List.range (m - 1)).map (fun k : Nat => ((k : Int) + 1)) := fun z => this.mp z h0
    have b : ¬ 0 < (x : Int) % (m : Int) := by rw [e]; omega
    rw [decide_eq_false a, decide_eq_false b]
  · have a := this.mpr h0
    have b : 0 < (x : Int) % (m : Int) := by rw [e]; omega
    rw [decide_eq_true a, decide_eq_true b]
theorem ups_map_split (l : Nat) {c k : Nat} (h : c ≤ k) : (ups k).map (l + ·) = (ups c).map (l + ·) ++ ((List.range (k - c)).map fun t => l + (c + t + 1)) := by
  have e : ups k = ups c ++ (List.range (k - c)).map fun t => c + t + 1 := by
    unfold ups
    have e : List.range k = List.range c ++ (List.range (k - c)).map (c + ·) := by rw [← List.range_add, show c + (k - c) = k by omega]
    rw [e, List.map_append, List.map_map]
    rfl
  rw [e, List.map_append, List.map_map]
  rfl
end M12
set_option Elab.async false
set_option linter.all false
set_option maxRecDepth 100000
set_option maxHeartbeats 4000000
namespace M12
open MRow M80 M17
end M12
set_option Elab.async false
set_option linter.all false
set_option maxRecDepth 100000
set_option maxHeartbeats 4000000
namespace M24
open MRow M80 M17 M12
theorem off_sh (g : Nat → Int) (s n : Nat) : off g s n = g n - sh s g n := rfl
theorem sh_sub (e : Nat) (f g : Nat → Int) (n : Nat) : sh e (fun i => f i - g i) n = sh e f n - sh e g n := by
  unfold sh
  by_cases h : e ≤ n
  · rw [if_pos h, if_pos h, if_pos h]
  · rw [if_neg h, if_neg h, if_neg h]; omega
theorem off_of_sh (e m : Nat) (g : Nat → Int) : off (sh e g) m = sh e (off g m) := by
  funext n
  rw [off_sh, sh_sh]
  show _ = sh e (fun i => g i - sh m g i) n
  rw [sh_sub, sh_sh, Nat.add_comm]
theorem off_add (f g : Nat → Int) (m : Nat) : off (fun n => f n + g n) m = fun n => off f m n + off g m n := by
  funext n
  unfold off
  split <;> dsimp only <;> omega
theorem bx_a (l k : Nat) : off (bx l (k + 1)) (k + 1) = off (bx l k) (l + (k + 1)) := by rw [bx_succ, off_comm, off_put _ (by omega)]
theorem bx_b (l k : Nat) : off (bx (l + 1) k) (l + 1) = off (bx l k) (l + (k + 1)) := by
  rw [bx_turn (l + 1) k, bx_a k l, bx_turn k l, show k + (l + 1) = l + (k + 1) by omega]
theorem off_inj {f g : Nat → Int} {s : Nat} (hs : 0 < s) (h : off f s = off g s) : f = g := by rw [← put_off f hs, h, put_off g hs]
theorem pascal (k l : Nat) : bx (l + 1) (k + 1) = fun n => bx (l + 1) k n + sh (k + 1) (bx l (k + 1)) n := by
  refine off_inj (s := k + 1) (by omega) (off_inj (s := l + 1) (by omega) ?_)
  rw [bx_a, off_comm, bx_b, off_add, off_add, off_comm (bx (l + 1) k), bx_b, off_of_sh, bx_a, off_of_sh]
  generalize off (bx l k) (l + (k + 1)) = Y
  funext n
  rw [off_sh, off_sh]
  show _ = Y n - sh (k + 1) Y n + sh (k + 1) (fun i => Y i - sh (l + 1) Y i) n
  rw [sh_sub, sh_sh, show k + 1 + (l + 1) = l + 1 + (k + 1) by omega]
  omega
theorem bx_none (l : Nat) : bx l 0 = dl := rfl
theorem bx_none' (k : Nat) : bx 0 k = dl := by rw [bx_turn]; rfl
noncomputable def pwl (a b : Nat → Bool) (n : Nat) : List Int := (List.range n).map fun i => (if a (i + 1) = true then 1 else 0) - (if b (i + 1) = true then 1 else 0)
theorem pwl_len (a b : Nat → Bool) (n : Nat) : (pwl a b n).length = n := by unfold pwl; simp
theorem pwl_succ (a b : Nat → Bool) (n : Nat) : pwl a b (n + 1) = pwl a b n ++ [(if a (n + 1) = true then 1 else 0) - (if b (n + 1) = true then 1 else 0)] := by unfold pwl; rw [List.range_succ, List.map_append]; rfl
theorem OL_put (ss : List Nat) (g : Nat → Int) {s : Nat} (hs : 0 < s) : OL (put g s) ss = put (OL g ss) s := by
  induction ss generalizing g with
  | nil => rfl
  | cons x ss ih => rw [OL_cons, off_put_comm g x hs, ih, OL_cons]
theorem pwl_prod (a b : Nat → Bool) : ∀ n, M21.prod (pwl a b n) = OL (PL dl (fl a n)) (fl b n)
  | 0 => rfl
  | n + 1 => by
    rw [pwl_succ, M21.prod_snoc, pwl_len, pwl_prod a b n, fl_succ, fl_succ]
    generalize fl a n = A
    generalize fl b n = B
    cases ha : a (n + 1) with
    | true =>
      rw [if_pos rfl, if_pos rfl, PL_app]
      show M21.pw _ _ _ = OL (put (PL dl A) (n + 1)) _
      rw [OL_app, OL_put _ _ (by omega)]
      cases hb : b (n + 1) with
      | true =>
        rw [if_pos rfl, if_pos rfl]
        show _ = off (put (OL (PL dl A) B) (n + 1)) (n + 1)
        rw [off_put _ (by omega)]
        rfl
      | false => rfl
    | false =>
      rw [if_neg (by decide : ¬ false = true), if_neg (by decide : ¬ false = true), List.append_nil, OL_app]
      cases hb : b (n + 1) with
      | true => rfl
      | false => rfl
theorem fl_no (n : Nat) : fl (fun _ => false) n = [] := by unfold fl; exact List.filter_eq_nil_iff.mpr fun _ _ => by simp
theorem fl_odd : ∀ n, fl (fun s => decide (s % 2 = 1)) n = odds n
  | 0 => rfl
  | n + 1 => by
    rw [fl_succ, fl_odd n]
    unfold odds
    by_cases h : (n + 1) % 2 = 1
    · rw [if_pos (decide_eq_true h), show (n + 1 + 1) / 2 = (n + 1) / 2 + 1 by omega, List.range_succ, List.map_append]
      congr 1
      show [n + 1] = [2 * ((n + 1) / 2) + 1]
      congr 1
      omega
    · rw [if_neg (by simpa using h), List.append_nil, show (n + 1 + 1) / 2 = (n + 1) / 2 by omega]
theorem fl_two : ∀ n, fl (fun s => decide (s % 4 = 2)) n = (odds (n / 2)).map (2 * ·)
  | 0 => rfl
  | n + 1 => by
    rw [fl_succ, fl_two n]
    unfold odds
    by_cases h : (n + 1) % 4 = 2
    · rw [if_pos (decide_eq_true h), show ((n + 1) / 2 + 1) / 2 = (n / 2 + 1) / 2 + 1 by omega, List.range_succ, List.map_append, List.map_append]
      congr 1
      show [n + 1] = [2 * (2 * ((n / 2 + 1) / 2) + 1)]
      congr 1
      omega
    · rw [if_neg (by simpa using h), List.append_nil, show ((n + 1) / 2 + 1) / 2 = (n / 2 + 1) / 2 by omega]
theorem own_prod {n j : Nat} (hj : j ≤ n) : M21.prod (pwl (fun s => decide (s % 2 = 1)) (fun s => decide (s % 4 = 2)) n) j = below 2 (odds n) dl j := by
  rw [pwl_prod, fl_odd, fl_two, below_is 2 _ _ fun x hx => (odds_pos hx).1]
  obtain ⟨r, e, hr⟩ := odds_split (n := n / 2) (M := n) (by omega)
  have e2 : (odds n).map (2 * ·) = (odds (n / 2)).map (2 * ·) ++ r.map (2 * ·) := by rw [← List.map_append, ← e]
  rw [e2, OL_app]
  refine (OL_great _ (Al.refl n _) (fun x hx => ?_) j hj).symm
  obtain ⟨y, hy, rfl⟩ := List.mem_map.mp hx
  have := hr y hy
  omega
theorem fl_mid (l k : Nat) : ∀ n, fl (fun s => decide (l < s ∧ s ≤ l + k)) n = (ups (min (l + k) n - l)).map (l + ·)
  | 0 => by rw [Nat.min_zero, Nat.zero_sub]; rfl
  | n + 1 => by
    rw [fl_succ, fl_mid l k n]
    by_cases h : l < n + 1 ∧ n + 1 ≤ l + k
    · rw [if_pos (decide_eq_true h), show min (l + k) (n + 1) - l = (min (l + k) n - l) + 1 by omega, ups_succ, List.map_append]
      congr 1
      show [n + 1] = [l + (min (l + k) n - l + 1)]
      congr 1
      omega
    · rw [if_neg (by simpa using h), List.append_nil, show min (l + k) (n + 1) - l = min (l + k) n - l by omega]
theorem box_prod {l k n j : Nat} (hj : j ≤ n) : M21.prod (pwl (fun s => decide (s ≤ k)) (fun s => decide (l < s ∧ s ≤ l + k)) n) j = bx l (min k n) j := by
  rw [pwl_prod, fl_most, fl_mid, bx_is, ups_map_split l (show min (l + k) n - l ≤ min k n by omega), OL_app]
  refine (OL_great _ (Al.refl n _) (fun x hx => ?_) j hj).symm
  obtain ⟨t, ht, rfl⟩ := List.mem_map.mp hx
  have := List.mem_range.mp ht
  omega
theorem step_own {ps : List Int} {g : Nat → Int} {n : Nat} (h : ∀ j, j ≤ n → M21.prod ps j = g j) {i : Nat} (hi : i < n) :
    ((i + 1 : Nat) : Int) * g (i + 1) - ((List.range i).map fun t => M21.sv ps (t + 1) * g (i - t)).sum = M21.sv ps (i + 1) := by
  have s := (M21.prod_steps n ps).2 (i + 1) (by omega)
  have g0 : g 0 = 1 := by rw [← h 0 (by omega)]; exact (M21.prod_steps n ps).1
  rw [h (i + 1) (by omega)] at s
  have e : M21.cv (M21.sv ps) (M21.prod ps) (i + 1) = ((List.range i).map fun t => M21.sv ps (t + 1) * g (i - t)).sum + M21.sv ps (i + 1) := by
    unfold M21.cv
    rw [M21.sm_succ, show i + 1 - 1 - i = 0 by omega, h 0 (by omega), g0, Int.mul_one]
    congr 1
    refine M21.sm_congr fun t ht => ?_
    rw [show i + 1 - 1 - t = i - t by omega, h (i - t) (by omega)]
  rw [s, e]
  omega
noncomputable def dvl (ps : List Int) (D j : Nat) : List Int := ((List.range D).filter fun i => decide (j % (i + 1) = 0)).map fun i => ((i + 1 : Nat) : Int) * ps.getD i 0
theorem dvl_succ (ps : List Int) (D j : Nat) : dvl ps (D + 1) j = dvl ps D j ++ if j % (D + 1) = 0 then [((D + 1 : Nat) : Int) * ps.getD D 0] else [] := by
  unfold dvl
  rw [List.range_succ, List.filter_append, List.map_append]
  congr 1
  by_cases h : j % (D + 1) = 0
  · rw [if_pos h, List.filter_cons_of_pos (p := fun i => decide (j % (i + 1) = 0)) (decide_eq_true h)]; rfl
  · rw [if_neg h, List.filter_cons_of_neg (p := fun i => decide (j % (i + 1) = 0)) (by simpa using h)]; rfl
theorem dvl_sum (ps : List Int) (j : Nat) : ∀ D, (dvl ps D j).sum = M21.sm D fun i => ps.getD i 0 * M21.ind (i + 1) j
  | 0 => rfl
  | D + 1 => by
    rw [dvl_succ, List.sum_append_int, dvl_sum ps j D, M21.sm_succ]
    congr 1
    unfold M21.ind
    by_cases h : j % (D + 1) = 0
    · rw [if_pos h, if_pos h]; show _ + 0 = _; rw [Int.add_zero, Int.mul_comm]
    · rw [if_neg h, if_neg h]; show (0 : Int) = _; rw [Int.mul_zero]
theorem pow_own {ps : List Int} {i : Nat} (hi : i < ps.length) : (M21.sv ps (i + 1) - (dvl ps i (i + 1)).sum) / ((i + 1 : Nat) : Int) = ps.getD i 0 := by
  rw [dvl_sum]
  unfold M21.sv
  have e : ps.length = (i + 1) + (ps.length - (i + 1)) := by omega
  rw [e, M21.sm_shift, M21.sm_succ]
  have z : M21.sm (ps.length - (i + 1)) (fun t => ps.getD (i + 1 + t) 0 * M21.ind (i + 1 + t + 1) (i + 1)) = 0 := M21.sm_none fun t _ => by
    unfold M21.ind
    rw [if_neg, Int.mul_zero]
    rw [Nat.mod_eq_of_lt (by omega)]
    omega
  rw [z]
  have w : M21.ind (i + 1) (i + 1) = ((i + 1 : Nat) : Int) := by unfold M21.ind; rw [if_pos (Nat.mod_self _)]
  rw [w, Int.add_zero, show ∀ a b : Int, a + b - a = b from fun a b => by omega]
  exact Int.mul_ediv_cancel _ (by omega)
theorem pwl_small (a b : Nat → Bool) (n i : Nat) : ((pwl a b n).getD i 0).natAbs ≤ 1 := by
  rw [List.getD_eq_getElem?_getD]
  unfold pwl
  rw [List.getElem?_map]
  cases (List.range n)[i]? with
  | none => exact Nat.zero_le 1
  | some i => show Int.natAbs ((if a (i + 1) = true then 1 else 0) - (if b (i + 1) = true then 1 else 0)) ≤ 1; split <;> split <;> decide
end M24
namespace M13
open MRow
end M13
set_option exponentiation.threshold 1000
namespace M14
open MRow M13
noncomputable def sumTo : Nat → (Nat → Int) → Int
  | 0, _ => 0
  | m + 1, h => sumTo m h + h m
theorem sumTo_ext {f g : Nat → Int} : ∀ {m : Nat}, (∀ i, i < m → f i = g i) → sumTo m f = sumTo m g
  | 0, _ => rfl
  | m + 1, h => by
    show sumTo m f + f m = sumTo m g + g m
    rw [sumTo_ext fun i hi => h i (by omega), h m (by omega)]
theorem sumTo_add (f g : Nat → Int) : ∀ m, sumTo m (fun i => f i + g i) = sumTo m f + sumTo m g
  | 0 => rfl
  | m + 1 => by
    show sumTo m (fun i => f i + g i) + (f m + g m) = (sumTo m f + f m) + (sumTo m g + g m)
    rw [sumTo_add f g m]; omega
theorem sumTo_zero : ∀ {m : Nat} {f : Nat → Int}, (∀ i, i < m → f i = 0) → sumTo m f = 0
  | 0, _, _ => rfl
  | m + 1, f, h => by
    show sumTo m f + f m = 0
    rw [sumTo_zero fun i hi => h i (by omega), h m (by omega)]; rfl
theorem sumTo_shift (f : Nat → Int) (s : Nat) : ∀ m, sumTo (s + m) f = sumTo s f + sumTo m (fun i => f (s + i))
  | 0 => by show sumTo s f = sumTo s f + 0; omega
  | m + 1 => by
    show sumTo (s + m) f + f (s + m) = sumTo s f + (sumTo m (fun i => f (s + i)) + f (s + m))
    rw [sumTo_shift f s m]; omega
theorem sumTo_head (f : Nat → Int) (m : Nat) : sumTo (m + 1) f = f 0 + sumTo m (fun i => f (i + 1)) := by
  have h := sumTo_shift f 1 m
  have e1 : sumTo 1 f = f 0 := by show (0 : Int) + f 0 = f 0; omega
  have e2 : sumTo m (fun i => f (1 + i)) = sumTo m (fun i => f (i + 1)) := sumTo_ext fun i _ => by rw [Nat.add_comm]
  rw [e1, e2] at h
  rw [← h, Nat.add_comm]
theorem sumTo_rev (f : Nat → Int) : ∀ m, sumTo m f = sumTo m (fun i => f (m - 1 - i))
  | 0 => rfl
  | m + 1 => by
    rw [sumTo_head (fun i => f (m + 1 - 1 - i)) m]
    show sumTo m f + f m = f (m + 1 - 1 - 0) + sumTo m (fun i => f (m + 1 - 1 - (i + 1)))
    have e : sumTo m (fun i => f (m + 1 - 1 - (i + 1))) = sumTo m (fun i => f (m - 1 - i)) := sumTo_ext fun i hi => by congr 1; omega
    have e0 : m + 1 - 1 - 0 = m := by omega
    rw [e, ← sumTo_rev f m, e0]; omega
noncomputable def conv (f g : Nat → Int) (n : Nat) : Int := sumTo (n + 1) fun i => f i * g (n - i)
theorem conv_comm (f g : Nat → Int) : conv f g = conv g f := by
  funext n
  unfold conv
  rw [sumTo_rev]
  refine sumTo_ext fun i hi => ?_
  have e1 : n + 1 - 1 - i = n - i := by omega
  have e2 : n - (n - i) = i := by omega
  rw [e1, e2, Int.mul_comm]
theorem conv_put_step (f g : Nat → Int) {s : Nat} (hs : 0 < s) (n : Nat) : conv (put f s) g n = conv f g n + (if s ≤ n then conv (put f s) g (n - s) else 0) := by
  unfold conv
  have e : sumTo (n + 1) (fun i => put f s i * g (n - i)) = sumTo (n + 1) (fun i => f i * g (n - i)) + sumTo (n + 1) (fun i => (if s ≤ i then put f s (i - s) else 0) * g (n - i)) := by
    rw [← sumTo_add]
    refine sumTo_ext fun i _ => ?_
    rw [← Int.add_mul, ← put_eq f hs i]
  rw [e]
  congr 1
  by_cases h : s ≤ n
  · rw [if_pos h]
    have en : n + 1 = s + (n - s + 1) := by omega
    rw [en, sumTo_shift, sumTo_zero (m := s) fun i hi => by rw [if_neg (by omega), Int.zero_mul], Int.zero_add]
    refine sumTo_ext fun i hi => ?_
    have e1 : s + i - s = i := by omega
    have e2 : n - (s + i) = n - s - i := by omega
    rw [if_pos (by omega), e1, e2]
  · rw [if_neg h]
    exact sumTo_zero fun i hi => by rw [if_neg (by omega), Int.zero_mul]
theorem put_uniq {F c : Nat → Int} {s : Nat} (hs : 0 < s) (h : ∀ n, F n = c n + (if s ≤ n then F (n - s) else 0)) : F = put c s := by
  have : ∀ N n, n ≤ N → F n = put c s n := by
    intro N
    induction N with
    | zero => intro n hn; rw [h n, put_eq c hs n, if_neg (by omega), if_neg (by omega)]
    | succ N ih =>
      intro n hn
      rw [h n, put_eq c hs n]
      by_cases hsn : s ≤ n
      · rw [if_pos hsn, if_pos hsn, ih _ (by omega)]
      · rw [if_neg hsn, if_neg hsn]
  funext n
  exact this n n (Nat.le_refl _)
theorem conv_put (f g : Nat → Int) {s : Nat} (hs : 0 < s) : conv (put f s) g = put (conv f g) s := put_uniq hs (conv_put_step f g hs)
theorem conv_put2 (f g : Nat → Int) {s : Nat} (hs : 0 < s) : conv f (put g s) = put (conv f g) s := by rw [conv_comm, conv_put g f hs, conv_comm g f]
theorem conv_dl (g : Nat → Int) : conv dl g = g := by
  funext n
  unfold conv
  rw [sumTo_head, sumTo_zero fun i _ => by show dl (i + 1) * _ = 0; unfold dl; rw [if_neg (Nat.succ_ne_zero i), Int.zero_mul]]
  show dl 0 * g (n - 0) + 0 = g n
  unfold dl
  rw [if_pos rfl, Int.one_mul, Int.add_zero, Nat.sub_zero]
end M14
namespace M15
open MRow
noncomputable def near (k : Nat) : Int := (k : Int) * (3 * (k : Int) - 1) / 2
noncomputable def sgn (k : Nat) : Int := if (k : Int) % 2 = 0 then 1 else -1
noncomputable def cpart (most : Int) (k : Nat) : List (Int × Int) := (near k, sgn k) :: (if (0 : Int) < k ∧ near k + k ≤ most then [(near k + k, sgn k)] else [])
noncomputable def cl : Nat → Int → Nat → List (Int × Int) → List (Int × Int)
  | 0, _, _, acc => acc
  | f + 1, most, k, acc => if near k ≤ most then cl f most (k + 1) (acc ++ cpart most k) else acc
noncomputable def cor (most : Int) : List (Int × Int) := cl 25 most 0 []
theorem near_big {k : Nat} (h : 25 ≤ k) : 600 < near k := by
  unfold near
  have h1 : (25 : Int) ≤ k := by omega
  have h2 : (25 : Int) * (3 * 25 - 1) ≤ (k : Int) * (3 * (k : Int) - 1) := Int.mul_le_mul h1 (by omega) (by omega) (by omega)
  omega
noncomputable def sqf : Nat → Int → Int → Int
  | 0, s, _ => s
  | f + 1, s, t => if s * s < t then sqf f (s + 1) t else s
noncomputable def sgv (side : Int) (p : Nat) : Int := if sqf 130 side (24 * (p : Int) + 1) * sqf 130 side (24 * (p : Int) + 1) = 24 * (p : Int) + 1 then 1 - 2 * ((sqf 130 side (24 * (p : Int) + 1) + 1) / 6 % 2) else 0
noncomputable def dst (st : List (Int × Int) × Int) (p : Nat) : List (Int × Int) × Int :=
  (if sqf 130 st.2 (24 * (p : Int) + 1) * sqf 130 st.2 (24 * (p : Int) + 1) = 24 * (p : Int) + 1 then st.1 ++ [((p : Int), 1 - 2 * ((sqf 130 st.2 (24 * (p : Int) + 1) + 1) / 6 % 2))] else st.1, sqf 130 st.2 (24 * (p : Int) + 1))
noncomputable def stp : Nat → List (Int × Int) × Int
  | 0 => ([], 1)
  | p + 1 => dst (stp p) p
noncomputable def chk : Nat → List (Int × Int) × Int → Nat → Bool
  | 0, _, _ => true
  | f + 1, st, p => decide (cor (p : Int) = (dst st p).1) && chk f (dst st p) (p + 1)
theorem chk_all : ∀ {f p : Nat}, chk f (stp p) p = true → ∀ i, i < f → cor ((p + i : Nat) : Int) = (stp (p + i + 1)).1
  | 0, _, _, i, hi => absurd hi (Nat.not_lt_zero _)
  | f + 1, p, h, i, hi => by
    have h' : (decide (cor (p : Int) = (dst (stp p) p).1) && chk f (dst (stp p) p) (p + 1)) = true := h
    rw [Bool.and_eq_true] at h'
    cases i with
    | zero => exact of_decide_eq_true h'.1
    | succ i =>
      have := chk_all (f := f) (p := p + 1) h'.2 i (by omega)
      have e : p + 1 + i = p + (i + 1) := by omega
      rw [e] at this
      exact this
theorem chk_ok : chk 601 ([], 1) 0 = true := by decide +kernel
theorem cor_due {m : Nat} (h : m ≤ 600) : cor (m : Int) = (stp (m + 1)).1 := by
  have := chk_all (f := 601) (p := 0) chk_ok m (by omega)
  rw [Nat.zero_add] at this
  exact this
noncomputable def L : Nat → Nat → Int
  | 0 => dl
  | s + 1 => fun j => L s j - (if s + 1 ≤ j then L s (j - (s + 1)) else 0)
theorem L_low {s j : Nat} (h : j ≤ s) : ∀ d, L (s + d) j = L s j
  | 0 => rfl
  | d + 1 => by
    show L (s + d) j - (if s + d + 1 ≤ j then _ else 0) = _
    rw [if_neg (by omega), L_low h d]; omega
noncomputable def lstep (s : Nat) (row : List Int) : List Int := List.zipWith (fun a b => a - b) row (List.replicate s 0 ++ row)
noncomputable def lls (N : Nat) : Nat → List Int
  | 0 => 1 :: List.replicate N 0
  | s + 1 => lstep (s + 1) (lls N s)
theorem lls_is (N : Nat) : ∀ s, lls N s = tb (L s) (N + 1)
  | 0 => (tb_dl N).symm
  | s + 1 => by
    show lstep (s + 1) (lls N s) = _
    rw [lls_is N s]
    unfold lstep
    refine List.ext_getElem (by simp [tb_len]) fun j h1 h2 => ?_
    have hj : j < N + 1 := by rw [tb_len] at h2; exact h2
    rw [List.getElem_zipWith, tb_at, tb_at h2]
    show L s j - _ = L s j - _
    congr 1
    by_cases h : s + 1 ≤ j
    · rw [if_pos h, List.getElem_append_right (by simpa using h), tb_at]
      simp
    · rw [if_neg h, List.getElem_append_left (by simpa using h)]
      simp
noncomputable def chk2 : List Int → List (Int × Int) × Int → Nat → Bool
  | [], _, _ => true
  | x :: r, st, p => decide (x = sgv st.2 p) && chk2 r (dst st p) (p + 1)
theorem chk2_all : ∀ {l : List Int} {p : Nat}, chk2 l (stp p) p = true → ∀ (i : Nat) (h : i < l.length), l[i] = sgv (stp (p + i)).2 (p + i)
  | [], _, _, i, hi => absurd hi (Nat.not_lt_zero _)
  | x :: r, p, h, i, hi => by
    have h' : (decide (x = sgv (stp p).2 p) && chk2 r (dst (stp p) p) (p + 1)) = true := h
    rw [Bool.and_eq_true] at h'
    cases i with
    | zero => exact of_decide_eq_true h'.1
    | succ i =>
      have := chk2_all (l := r) (p := p + 1) h'.2 i (by simpa using hi)
      have e : p + 1 + i = p + (i + 1) := by omega
      rw [e] at this
      simpa using this
end M15
namespace M15
open MRow
theorem cor_bnd : ((List.range 601).all fun (m : Nat) => ((cor (m : Int)).all fun p => decide (0 ≤ p.1 ∧ p.1 ≤ (m : Int) ∧ -1 ≤ p.2 ∧ p.2 ≤ 1)) && decide ((cor (m : Int)).length ≤ 100)) = true := by decide +kernel
theorem cor_in {m : Nat} (h : m ≤ 600) : (∀ p ∈ cor (m : Int), 0 ≤ p.1 ∧ p.1 ≤ (m : Int) ∧ -1 ≤ p.2 ∧ p.2 ≤ 1) ∧ (cor (m : Int)).length ≤ 100 := by
  have := List.all_eq_true.mp cor_bnd m (List.mem_range.mpr (by omega))
  rw [Bool.and_eq_true] at this
  exact ⟨fun p hp => of_decide_eq_true (List.all_eq_true.mp this.1 p hp), of_decide_eq_true this.2⟩
theorem cl_len : ∀ (f : Nat) (most : Int) (k : Nat) (acc : List (Int × Int)), acc.length ≤ (cl f most k acc).length
  | 0, _, _, _ => Nat.le_refl _
  | f + 1, most, k, acc => by
    unfold cl
    split
    · have := cl_len f most (k + 1) (acc ++ cpart most k)
      rw [List.length_append] at this
      omega
    · exact Nat.le_refl _
end M15
set_option maxRecDepth 100000
namespace M15
open MRow
noncomputable def run : Nat → Nat → List Int → List Int
  | 0, _, row => row
  | k + 1, s, row => run k (s + 1) (lstep (s + 1) row)
theorem run_lls (N : Nat) : ∀ k s, run k s (lls N s) = lls N (s + k)
  | 0, _ => rfl
  | k + 1, s => by
    show run k (s + 1) (lls N (s + 1)) = _
    rw [run_lls N k (s + 1)]
    congr 1
    omega
noncomputable def row100 : List Int := [1, -1, -1, 0, 0, 1, 0, 1, 0, 0, 0, 0, -1, 0, 0, -1, 0, 0, 0, 0, 0, 0, 1, 0, 0, 0, 1, 0, 0, 0, 0, 0, 0, 0, 0, -1, 0, 0, 0, 0, -1, 0, 0, 0, 0, 0, 0, 0, 0, 0, 0, 1, 0, 0, 0, 0, 0, 1, 0, 0, 0, 0, 0, 0, 0, 0, 0, 0, 0, 0, -1, 0, 0, 0, 0, 0, 0, -1, 0, 0, 0, 0, 0, 0, 0, 0, 0, 0, 0, 0, 0, 0, 1, 0, 0, 0, 0, 0, 0, 0, 1, 1, 0, -1, -1, -1, 0, 0, 1, 1, 1, 1, 1, 0, 0, 0, -1, -2, -1, -1, -1, -1, -1, 0, 0, 0, -1, 1, 1, 1, 1, 1, 1, 1, 1, 1, 0, 0, 0, 0, 0, -1, -1, -1, -1, 0, -1, -1, -1, -1, -1, -1, 0, 0, 0, 1, 0, 0, 1, 1, 1, 1, 1, 1, 1, 1, 1, 1, 1, 1, 1, 0, 0, 0, 0, 0, -1, 0, -1, -1, -1, -1, -1, -1, -1, -1, -1, -2, -1, -1, -1, -1, -1, 0, 0, 0, 0, 0, 0, 0, 0, 1, 2, 1, 1, 0, 0, 0, 0, 1, 2, 2, 2, 3, 2, 3, 2, 2, 0, 0, -1, -1, -1, -2, -2, -2, -2, -3, -2, -2, -1, -1, 0, 0, 1, 1, 2, 1, 2, 1, 2, 1, 1, 0, 0, -1, 0, -2, -1, -2, -2, -3, -3, -3, -3, -3, -2, -2, -2, -1, -2, 0, 0, 1, 1, 2, 2, 3, 3, 4, 4, 5, 4, 5, 4, 5, 4, 4, 3, 3, 2, 2, 1, 1, 0, 0, -1, 0, -3, -3, -4, -4, -5, -5, -5, -5, -5, -5, -5, -5, -5, -4, -4, -3, -3, -3, -2, -3, -2, -2, -1, 0, 2, 2, 4, 4, 6, 6, 7, 6, 7, 5, 6, 5, 5, 4, 4, 2, 2, 1, -1, 0, 0, -1, 0, 0, 0, 1, 1, 1, 2, 2, 2, 2, 2, 0, 1, 1, -1, -1, -2, -3, -4, -5, -6, -7, -8, -8, -9, -9, -9, -10, -10, -9, -9, -8, -7, -6, -5, -3, -2, 0, 2, 3, 5, 7, 9, 10, 11, 12, 12, 14, 13, 14, 14, 14, 13, 14, 13, 12, 11, 9, 8, 6, 3, 2, 0, -2, -4, -5, -8, -9, -10, -11, -12, -13, -15, -15, -16, -17, -18, -17, -17, -16, -15, -13, -12, -9, -8, -5, -4, -1, -1, 2, 3, 4, 6, 8, 8, 9, 10, 9, 9, 10, 10, 10, 11, 11, 12, 12, 13, 13, 14, 14, 15, 15, 15, 13, 15, 12, 13, 10, 10, 6, 7, 2, 1, -3, -3, -9, -9, -13, -15, -19, -20, -24, -24, -27, -28, -29, -28, -30, -28, -27, -26, -24, -21, -17, -14, -11, -8, -4, 0, 3, 7, 11, 14, 18, 21, 25, 27, 31, 31, 35, 35, 37, 35, 36, 33, 33, 30, 28, 24, 23, 18, 17, 11, 8, 3, 0, -6, -10, -15, -18, -23, -25, -29, -31, -33, -34, -35, -36, -36, -36, -35, -34, -34, -32, -29, -28, -25, -22, -21, -18, -15, -12, -9, -6, -3, 1, 5, 8, 12, 16, 20, 23, 28, 31, 35, 38, 40, 42, 46, 46, 47, 48, 48, 46, 45, 43, 40, 37, 33, 28, 24, 17, 11, 6, -1, -9, -15, -21, -28, -34, -40, -46, -49, -54, -56, -57, -59, -60, -59, -58, -57, -54, -51, -47, -42, -37, -31, -24, -18, -11, -3, 4, 13, 21, 27, 34, 40]
theorem run100 : run 100 0 (1 :: List.replicate 600 0) = row100 := by decide +kernel
noncomputable def row200 : List Int := [1, -1, -1, 0, 0, 1, 0, 1, 0, 0, 0, 0, -1, 0, 0, -1, 0, 0, 0, 0, 0, 0, 1, 0, 0, 0, 1, 0, 0, 0, 0, 0, 0, 0, 0, -1, 0, 0, 0, 0, -1, 0, 0, 0, 0, 0, 0, 0, 0, 0, 0, 1, 0, 0, 0, 0, 0, 1, 0, 0, 0, 0, 0, 0, 0, 0, 0, 0, 0, 0, -1, 0, 0, 0, 0, 0, 0, -1, 0, 0, 0, 0, 0, 0, 0, 0, 0, 0, 0, 0, 0, 0, 1, 0, 0, 0, 0, 0, 0, 0, 1, 0, 0, 0, 0, 0, 0, 0, 0, 0, 0, 0, 0, 0, 0, 0, 0, -1, 0, 0, 0, 0, 0, 0, 0, 0, -1, 0, 0, 0, 0, 0, 0, 0, 0, 0, 0, 0, 0, 0, 0, 0, 0, 0, 0, 1, 0, 0, 0, 0, 0, 0, 0, 0, 0, 1, 0, 0, 0, 0, 0, 0, 0, 0, 0, 0, 0, 0, 0, 0, 0, 0, 0, 0, 0, 0, -1, 0, 0, 0, 0, 0, 0, 0, 0, 0, 0, -1, 0, 0, 0, 0, 0, 0, 0, 0, 0, 0, 0, 0, 0, 1, 0, -1, -1, -1, 0, 0, 1, 1, 2, 1, 1, 0, 0, 0, -1, -1, -1, -1, -1, -1, 0, 0, 0, 0, 0, 1, 1, 1, 1, 1, 1, 1, 1, 1, 0, 0, 0, 0, 0, -1, -1, -1, -1, -1, -1, -2, -1, -1, -1, -1, 0, 0, 0, 0, 0, 0, 1, 1, 0, 1, 1, 1, 1, 1, 1, 1, 1, 1, 1, 0, 0, 0, 0, 0, 0, 0, -1, -1, -1, -1, -1, -1, -1, -1, -1, 0, -1, -1, -1, -1, -1, 0, 0, 0, 0, 0, 0, 0, 0, 2, 1, 1, 1, 1, 1, 1, 1, 1, 1, 1, 1, 1, 1, 1, 1, 1, 0, 0, 0, 0, 0, 0, 0, 0, 0, -1, -1, -1, -2, -1, -1, -1, -1, -1, -1, -1, -1, -1, -1, -1, -1, -1, -1, -2, 0, 0, 0, 0, 0, 0, 0, 0, 0, 0, 1, 1, 1, 1, 1, 1, 1, 1, 1, 1, 1, 1, 1, 1, 1, 1, 1, 1, 1, 1, 2, 0, 0, 0, 0, 0, 0, 0, 0, 0, 0, 0, -1, -1, -1, -1, 0, -1, -1, -1, -1, -1, -1, -1, -1, -1, 0, -1, -1, -2, -2, -2, -2, -1, -1, 1, 1, 2, 1, 2, 1, 1, 0, 0, -1, -1, -2, -1, -1, -2, -1, -1, 0, 0, 1, 1, 2, 2, 3, 3, 4, 3, 4, 3, 4, 3, 2, 2, 2, 1, 1, 0, -1, -2, -2, -3, -3, -3, -3, -3, -3, -3, -3, -2, -2, -2, -2, -1, -1, 0, 0, 1, 1, 2, 2, 3, 2, 3, 2, 3, 2, 4, 2, 2, 1, 1, 0, 0, -1, -1, -2, -2, -2, -2, -3, -3, -4, -4, -4, -3, -4, -4, -4, -4, -4, -4, -2, -2, -1, -1, 0, 0, 1, 1, 2, 2, 3, 3, 4, 4, 5, 5, 6, 5, 6, 5, 6, 5, 6, 5, 6, 5, 5, 4, 4, 2, 1, 1, 1, 0, 0, -1, -1, -2, -2, -3, -3, -4, -4, -5, -6, -6, -6, -6, -6, -7, -6, -6, -6, -6, -6, -5, -5, -4, -4, -3, -3, -2, -2, -1, -1, 0, 0, 1, 1, 2, 2, 3, 3, 4, 4, 6, 5, 6, 5, 6, 5, 6, 5, 6, 5, 6, 5, 5, 5, 4, 3, 4, 3, 3, 2, 2, 1, 1, 0]
theorem run200 : run 100 100 row100 = row200 := by decide +kernel
noncomputable def row300 : List Int := [1, -1, -1, 0, 0, 1, 0, 1, 0, 0, 0, 0, -1, 0, 0, -1, 0, 0, 0, 0, 0, 0, 1, 0, 0, 0, 1, 0, 0, 0, 0, 0, 0, 0, 0, -1, 0, 0, 0, 0, -1, 0, 0, 0, 0, 0, 0, 0, 0, 0, 0, 1, 0, 0, 0, 0, 0, 1, 0, 0, 0, 0, 0, 0, 0, 0, 0, 0, 0, 0, -1, 0, 0, 0, 0, 0, 0, -1, 0, 0, 0, 0, 0, 0, 0, 0, 0, 0, 0, 0, 0, 0, 1, 0, 0, 0, 0, 0, 0, 0, 1, 0, 0, 0, 0, 0, 0, 0, 0, 0, 0, 0, 0, 0, 0, 0, 0, -1, 0, 0, 0, 0, 0, 0, 0, 0, -1, 0, 0, 0, 0, 0, 0, 0, 0, 0, 0, 0, 0, 0, 0, 0, 0, 0, 0, 1, 0, 0, 0, 0, 0, 0, 0, 0, 0, 1, 0, 0, 0, 0, 0, 0, 0, 0, 0, 0, 0, 0, 0, 0, 0, 0, 0, 0, 0, 0, -1, 0, 0, 0, 0, 0, 0, 0, 0, 0, 0, -1, 0, 0, 0, 0, 0, 0, 0, 0, 0, 0, 0, 0, 0, 0, 0, 0, 0, 0, 0, 0, 0, 0, 1, 0, 0, 0, 0, 0, 0, 0, 0, 0, 0, 0, 1, 0, 0, 0, 0, 0, 0, 0, 0, 0, 0, 0, 0, 0, 0, 0, 0, 0, 0, 0, 0, 0, 0, 0, 0, -1, 0, 0, 0, 0, 0, 0, 0, 0, 0, 0, 0, 0, -1, 0, 0, 0, 0, 0, 0, 0, 0, 0, 0, 0, 0, 0, 0, 0, 0, 0, 0, 0, 0, 0, 0, 0, 0, 0, 0, 1, 0, 0, 0, 0, 0, 0, 0, 0, 0, 0, 0, 0, 0, 2, 0, -1, -1, -1, 0, 0, 1, 1, 1, 1, 1, 0, 0, 0, -1, -1, -1, -1, -1, -1, -1, 0, 0, 0, 0, 1, 1, 1, 0, 1, 1, 1, 1, 1, 0, 0, 0, 0, 0, -1, -1, -1, -1, -2, -1, -1, -1, -1, -1, -1, 0, 0, 0, 0, 0, 0, 1, 1, 1, 1, 1, 1, 1, 1, 1, 1, 1, 1, 1, 0, 0, 0, 0, 0, 1, 0, -1, -1, -1, -1, -1, -1, -1, -1, -1, -1, -1, -1, -1, -1, 0, 0, 0, 0, 0, 0, 0, 0, 0, 1, 1, 1, 1, 1, 1, 1, 1, 1, 1, 1, 1, 1, 1, 1, 1, 1, 0, 0, 0, 0, 0, 0, 0, -1, 0, -1, -1, -1, -1, -1, -1, -1, -1, -1, -1, -1, -1, -1, -1, -1, -2, -1, -1, -1, 0, 0, 0, 0, 0, 0, 0, 0, 0, 0, 1, 1, 1, 1, 1, 1, 1, 1, 1, 1, 1, 1, 1, 1, 1, 1, 1, 1, 1, 1, 1, 1, 0, 0, 0, 0, 0, 0, 0, 0, 0, 0, -1, -1, -1, -1, -1, -1, -1, 0, -1, -1, -1, -1, -1, -1, -1, -1, -1, -1, -1, -1, -1, -1, -1, 0, 0, 0, 0, 0, 0, 0, 0, 0, 0, 0, 0, 1, 1, 1, 1, 1, 1, 1, 1, 1, 0, 1, 1, 1, 1, 1, 1, 1, 1, 1, 1, 1, 1, 1, 1, 1, 0, 0, 0, -1, 0, 0, 0, 0, 0, 0, 0, 0, 0, -1, -1, -1, -1, -1, -1, -1, -1, -1, -1, -1, -1, -1, -1, -1, -1, -1, -1, -1, -1, -1, -1, -1, -1, -1, -1, -1, 0, 0, 1, 0, 0, 0, 0, 0, 0, 0, 0, 0, 0]
theorem run300 : run 100 200 row200 = row300 := by decide +kernel
noncomputable def row400 : List Int := [1, -1, -1, 0, 0, 1, 0, 1, 0, 0, 0, 0, -1, 0, 0, -1, 0, 0, 0, 0, 0, 0, 1, 0, 0, 0, 1, 0, 0, 0, 0, 0, 0, 0, 0, -1, 0, 0, 0, 0, -1, 0, 0, 0, 0, 0, 0, 0, 0, 0, 0, 1, 0, 0, 0, 0, 0, 1, 0, 0, 0, 0, 0, 0, 0, 0, 0, 0, 0, 0, -1, 0, 0, 0, 0, 0, 0, -1, 0, 0, 0, 0, 0, 0, 0, 0, 0, 0, 0, 0, 0, 0, 1, 0, 0, 0, 0, 0, 0, 0, 1, 0, 0, 0, 0, 0, 0, 0, 0, 0, 0, 0, 0, 0, 0, 0, 0, -1, 0, 0, 0, 0, 0, 0, 0, 0, -1, 0, 0, 0, 0, 0, 0, 0, 0, 0, 0, 0, 0, 0, 0, 0, 0, 0, 0, 1, 0, 0, 0, 0, 0, 0, 0, 0, 0, 1, 0, 0, 0, 0, 0, 0, 0, 0, 0, 0, 0, 0, 0, 0, 0, 0, 0, 0, 0, 0, -1, 0, 0, 0, 0, 0, 0, 0, 0, 0, 0, -1, 0, 0, 0, 0, 0, 0, 0, 0, 0, 0, 0, 0, 0, 0, 0, 0, 0, 0, 0, 0, 0, 0, 1, 0, 0, 0, 0, 0, 0, 0, 0, 0, 0, 0, 1, 0, 0, 0, 0, 0, 0, 0, 0, 0, 0, 0, 0, 0, 0, 0, 0, 0, 0, 0, 0, 0, 0, 0, 0, -1, 0, 0, 0, 0, 0, 0, 0, 0, 0, 0, 0, 0, -1, 0, 0, 0, 0, 0, 0, 0, 0, 0, 0, 0, 0, 0, 0, 0, 0, 0, 0, 0, 0, 0, 0, 0, 0, 0, 0, 1, 0, 0, 0, 0, 0, 0, 0, 0, 0, 0, 0, 0, 0, 1, 0, 0, 0, 0, 0, 0, 0, 0, 0, 0, 0, 0, 0, 0, 0, 0, 0, 0, 0, 0, 0, 0, 0, 0, 0, 0, 0, 0, -1, 0, 0, 0, 0, 0, 0, 0, 0, 0, 0, 0, 0, 0, 0, -1, 0, 0, 0, 0, 0, 0, 0, 0, 0, 0, 0, 0, 0, 0, 0, 0, 0, 0, 0, 0, 0, 0, 0, 0, 0, 0, 0, 0, 0, 0, 1, 0, 0, 0, 0, 0, 0, 0, 0, 0, 0, 0, 0, 0, 0, 0, 1, 0, 0, 0, 0, 0, 0, 0, 0, 1, 0, -1, -1, -1, 0, 0, 1, 1, 1, 1, 1, 0, 0, 0, -1, -1, -1, -1, -1, -1, -1, 0, 0, -1, 0, 1, 1, 1, 1, 1, 1, 1, 1, 1, 0, 0, 0, 0, 0, -1, -2, -1, -1, -1, -1, -1, -1, -1, -1, -1, 0, 0, 0, 0, 0, 0, 1, 1, 1, 1, 1, 1, 1, 1, 1, 1, 1, 1, 1, 0, 0, 0, 0, 0, 0, 1, -1, -1, -1, -1, -1, -1, -1, -1, -1, -1, -1, -1, -1, -1, -1, 0, 0, 1, 0, 0, 0, 0, 0, 1, 1, 1, 1, 1, 1, 1, 1, 1, 1, 1, 1, 1, 1, 1, 1, 1, 0, 0, 0, 0, 0, 0, 0, 0, 0, -1, -1, -1, -1, -1, -2, -1, -1, -1, -1, -1, -1, -1, -1, -1, -1, -1, -1, -1, 0, 0, 0, 0, 0, -1, 0, 0, 0, 0, 1, 1, 1, 1, 1, 1, 1, 1, 1, 1, 1, 1, 1, 1, 1, 1, 1, 1, 1, 1, 1, 0, 0, 0, 0, 0, 0, 0, 0, 0, 0, 0, -1, -1, 0, -1, -1, -1, -1, -1, -1, -1, -1, -1, -1]
theorem run400 : run 100 300 row300 = row400 := by decide +kernel
noncomputable def row500 : List Int := [1, -1, -1, 0, 0, 1, 0, 1, 0, 0, 0, 0, -1, 0, 0, -1, 0, 0, 0, 0, 0, 0, 1, 0, 0, 0, 1, 0, 0, 0, 0, 0, 0, 0, 0, -1, 0, 0, 0, 0, -1, 0, 0, 0, 0, 0, 0, 0, 0, 0, 0, 1, 0, 0, 0, 0, 0, 1, 0, 0, 0, 0, 0, 0, 0, 0, 0, 0, 0, 0, -1, 0, 0, 0, 0, 0, 0, -1, 0, 0, 0, 0, 0, 0, 0, 0, 0, 0, 0, 0, 0, 0, 1, 0, 0, 0, 0, 0, 0, 0, 1, 0, 0, 0, 0, 0, 0, 0, 0, 0, 0, 0, 0, 0, 0, 0, 0, -1, 0, 0, 0, 0, 0, 0, 0, 0, -1, 0, 0, 0, 0, 0, 0, 0, 0, 0, 0, 0, 0, 0, 0, 0, 0, 0, 0, 1, 0, 0, 0, 0, 0, 0, 0, 0, 0, 1, 0, 0, 0, 0, 0, 0, 0, 0, 0, 0, 0, 0, 0, 0, 0, 0, 0, 0, 0, 0, -1, 0, 0, 0, 0, 0, 0, 0, 0, 0, 0, -1, 0, 0, 0, 0, 0, 0, 0, 0, 0, 0, 0, 0, 0, 0, 0, 0, 0, 0, 0, 0, 0, 0, 1, 0, 0, 0, 0, 0, 0, 0, 0, 0, 0, 0, 1, 0, 0, 0, 0, 0, 0, 0, 0, 0, 0, 0, 0, 0, 0, 0, 0, 0, 0, 0, 0, 0, 0, 0, 0, -1, 0, 0, 0, 0, 0, 0, 0, 0, 0, 0, 0, 0, -1, 0, 0, 0, 0, 0, 0, 0, 0, 0, 0, 0, 0, 0, 0, 0, 0, 0, 0, 0, 0, 0, 0, 0, 0, 0, 0, 1, 0, 0, 0, 0, 0, 0, 0, 0, 0, 0, 0, 0, 0, 1, 0, 0, 0, 0, 0, 0, 0, 0, 0, 0, 0, 0, 0, 0, 0, 0, 0, 0, 0, 0, 0, 0, 0, 0, 0, 0, 0, 0, -1, 0, 0, 0, 0, 0, 0, 0, 0, 0, 0, 0, 0, 0, 0, -1, 0, 0, 0, 0, 0, 0, 0, 0, 0, 0, 0, 0, 0, 0, 0, 0, 0, 0, 0, 0, 0, 0, 0, 0, 0, 0, 0, 0, 0, 0, 1, 0, 0, 0, 0, 0, 0, 0, 0, 0, 0, 0, 0, 0, 0, 0, 1, 0, 0, 0, 0, 0, 0, 0, 0, 0, 0, 0, 0, 0, 0, 0, 0, 0, 0, 0, 0, 0, 0, 0, 0, 0, 0, 0, 0, 0, 0, 0, 0, -1, 0, 0, 0, 0, 0, 0, 0, 0, 0, 0, 0, 0, 0, 0, 0, 0, -1, 0, 0, 0, 0, 0, 0, 0, 0, 0, 0, 0, 0, 0, 0, 0, 0, 0, 0, 0, 0, 0, 0, 0, 0, 0, 0, 0, 0, 0, 0, 0, 0, 0, 0, 1, 0, 0, 0, 0, 0, 0, 0, 0, 0, 0, 0, 0, 0, 0, 0, 0, 0, 1, 0, 0, 0, 0, 0, 1, 0, -1, -1, -1, 0, 0, 1, 1, 1, 1, 1, 0, 0, 0, -1, -1, -1, -1, -1, -1, -1, 0, 0, 0, 0, 1, 1, 1, 1, 1, 0, 1, 1, 1, 0, 0, 0, 0, 0, -1, -1, -1, -1, -1, -1, -1, -1, -1, -1, -2, 0, 0, 0, 0, 0, 0, 1, 1, 1, 1, 1, 1, 1, 1, 1, 1, 1, 1, 1, 0, 0, 0, 0, 0, 0, 0, -1, -1, -1, -1, -1, -1, -1, -1, -1, -1, -1, -1, 0, -1, -1, 0, 0, 0, 0, 0, 0, 0, 0]
theorem run500 : run 100 400 row400 = row500 := by decide +kernel
noncomputable def row600 : List Int := [1, -1, -1, 0, 0, 1, 0, 1, 0, 0, 0, 0, -1, 0, 0, -1, 0, 0, 0, 0, 0, 0, 1, 0, 0, 0, 1, 0, 0, 0, 0, 0, 0, 0, 0, -1, 0, 0, 0, 0, -1, 0, 0, 0, 0, 0, 0, 0, 0, 0, 0, 1, 0, 0, 0, 0, 0, 1, 0, 0, 0, 0, 0, 0, 0, 0, 0, 0, 0, 0, -1, 0, 0, 0, 0, 0, 0, -1, 0, 0, 0, 0, 0, 0, 0, 0, 0, 0, 0, 0, 0, 0, 1, 0, 0, 0, 0, 0, 0, 0, 1, 0, 0, 0, 0, 0, 0, 0, 0, 0, 0, 0, 0, 0, 0, 0, 0, -1, 0, 0, 0, 0, 0, 0, 0, 0, -1, 0, 0, 0, 0, 0, 0, 0, 0, 0, 0, 0, 0, 0, 0, 0, 0, 0, 0, 1, 0, 0, 0, 0, 0, 0, 0, 0, 0, 1, 0, 0, 0, 0, 0, 0, 0, 0, 0, 0, 0, 0, 0, 0, 0, 0, 0, 0, 0, 0, -1, 0, 0, 0, 0, 0, 0, 0, 0, 0, 0, -1, 0, 0, 0, 0, 0, 0, 0, 0, 0, 0, 0, 0, 0, 0, 0, 0, 0, 0, 0, 0, 0, 0, 1, 0, 0, 0, 0, 0, 0, 0, 0, 0, 0, 0, 1, 0, 0, 0, 0, 0, 0, 0, 0, 0, 0, 0, 0, 0, 0, 0, 0, 0, 0, 0, 0, 0, 0, 0, 0, -1, 0, 0, 0, 0, 0, 0, 0, 0, 0, 0, 0, 0, -1, 0, 0, 0, 0, 0, 0, 0, 0, 0, 0, 0, 0, 0, 0, 0, 0, 0, 0, 0, 0, 0, 0, 0, 0, 0, 0, 1, 0, 0, 0, 0, 0, 0, 0, 0, 0, 0, 0, 0, 0, 1, 0, 0, 0, 0, 0, 0, 0, 0, 0, 0, 0, 0, 0, 0, 0, 0, 0, 0, 0, 0, 0, 0, 0, 0, 0, 0, 0, 0, -1, 0, 0, 0, 0, 0, 0, 0, 0, 0, 0, 0, 0, 0, 0, -1, 0, 0, 0, 0, 0, 0, 0, 0, 0, 0, 0, 0, 0, 0, 0, 0, 0, 0, 0, 0, 0, 0, 0, 0, 0, 0, 0, 0, 0, 0, 1, 0, 0, 0, 0, 0, 0, 0, 0, 0, 0, 0, 0, 0, 0, 0, 1, 0, 0, 0, 0, 0, 0, 0, 0, 0, 0, 0, 0, 0, 0, 0, 0, 0, 0, 0, 0, 0, 0, 0, 0, 0, 0, 0, 0, 0, 0, 0, 0, -1, 0, 0, 0, 0, 0, 0, 0, 0, 0, 0, 0, 0, 0, 0, 0, 0, -1, 0, 0, 0, 0, 0, 0, 0, 0, 0, 0, 0, 0, 0, 0, 0, 0, 0, 0, 0, 0, 0, 0, 0, 0, 0, 0, 0, 0, 0, 0, 0, 0, 0, 0, 1, 0, 0, 0, 0, 0, 0, 0, 0, 0, 0, 0, 0, 0, 0, 0, 0, 0, 1, 0, 0, 0, 0, 0, 0, 0, 0, 0, 0, 0, 0, 0, 0, 0, 0, 0, 0, 0, 0, 0, 0, 0, 0, 0, 0, 0, 0, 0, 0, 0, 0, 0, 0, 0, 0, -1, 0, 0, 0, 0, 0, 0, 0, 0, 0, 0, 0, 0, 0, 0, 0, 0, 0, 0, -1, 0, 0, 0, 0, 0, 0, 0, 0, 0, 0, 0, 0, 0, 0, 0, 0, 0, 0, 0, 0, 0, 0, 0, 0, 0, 0, 0, 0, 0, 0, 0, 0, 0, 0, 0, 0, 0, 0, 1, 0, 0, 0, 0, 0, 0, 0, 0, 0, 0]
theorem run600 : run 100 500 row500 = row600 := by decide +kernel
theorem at100 : lls 600 100 = row100 := (run_lls 600 100 0).symm.trans run100
theorem at200 : lls 600 200 = row200 := by
  have := run_lls 600 100 100
  rw [at100, run200] at this
  exact this.symm
theorem at300 : lls 600 300 = row300 := by
  have := run_lls 600 100 200
  rw [at200, run300] at this
  exact this.symm
theorem at400 : lls 600 400 = row400 := by
  have := run_lls 600 100 300
  rw [at300, run400] at this
  exact this.symm
theorem at500 : lls 600 500 = row500 := by
  have := run_lls 600 100 400
  rw [at400, run500] at this
  exact this.symm
theorem at600 : lls 600 600 = row600 := by
  have := run_lls 600 100 500
  rw [at500, run600] at this
  exact this.symm
theorem chk2_ok : chk2 row600 ([], 1) 0 = true := by decide +kernel
theorem L_sgn {n j : Nat} (hn : n ≤ 600) (hj : j ≤ n) : L n j = sgv (stp j).2 j := by
  have h1 : L 600 j = L n j := by
    have := L_low hj (600 - n)
    rw [Nat.add_sub_cancel' hn] at this
    exact this
  have hlen : j < (lls 600 600).length := by rw [lls_is, tb_len]; omega
  have h2 := chk2_all (l := lls 600 600) (p := 0) (by rw [at600]; exact chk2_ok) j hlen
  rw [Nat.zero_add] at h2
  rw [← h1, ← h2]
  have : ∀ (l : List Int) (e : l = tb (L 600) 601) (h : j < l.length), L 600 j = l[j] := fun l e h => by subst e; rw [tb_at]
  exact this _ (lls_is 600 600) hlen
end M15
set_option Elab.async false
set_option linter.all false
set_option maxRecDepth 100000
set_option maxHeartbeats 4000000
namespace M16
open MRow M80 M17 M12 M24 M14
theorem conv_off (f g : Nat → Int) {s : Nat} (hs : 0 < s) : conv (off f s) g = off (conv f g) s := by
  have h := conv_put (off f s) g hs
  rw [put_off f hs] at h
  rw [h, off_put _ hs]
theorem L_R : ∀ s, conv (M15.L s) (R s) = dl
  | 0 => conv_dl dl
  | s + 1 => by
    show conv (off (M15.L s) (s + 1)) (put (R s) (s + 1)) = dl
    rw [conv_off _ _ (by omega), conv_put2 _ _ (by omega), off_put _ (by omega)]
    exact L_R s
end M16
set_option Elab.async false
set_option linter.all false
set_option maxRecDepth 100000
set_option maxHeartbeats 4000000
namespace M11
open MRow M80 M17 M12 M24
noncomputable def lsN (prev : Nat → List (List Nat)) (s : Nat) : Nat → Nat → List (List Nat)
  | 0, n => prev n
  | f + 1, n => (if s ≤ n then (lsN prev s f (n - s)).map (s :: ·) else []) ++ prev n
noncomputable def Lst : Nat → Nat → List (List Nat)
  | 0 => fun n => if n = 0 then [[]] else []
  | m + 1 => fun n => lsN (Lst m) (m + 1) n n
theorem lsN_more {f : Nat → List (List Nat)} {s : Nat} (hs : 0 < s) : ∀ (k n : Nat), n ≤ k → lsN f s k n = lsN f s n n
  | 0, n, h => by have : n = 0 := by omega
                  subst this; rfl
  | k + 1, 0, _ => by
    show (if s ≤ 0 then _ else []) ++ f 0 = f 0
    rw [if_neg (by omega)]; rfl
  | k + 1, n + 1, h => by
    show (if s ≤ n + 1 then (lsN f s k (n + 1 - s)).map (s :: ·) else []) ++ f (n + 1) = (if s ≤ n + 1 then (lsN f s n (n + 1 - s)).map (s :: ·) else []) ++ f (n + 1)
    by_cases hn : s ≤ n + 1
    · rw [if_pos hn, if_pos hn, lsN_more hs k _ (by omega), lsN_more hs n _ (by omega)]
    · rw [if_neg hn, if_neg hn]
theorem ls_eq (m n : Nat) : Lst (m + 1) n = (if m + 1 ≤ n then (Lst (m + 1) (n - (m + 1))).map ((m + 1) :: ·) else []) ++ Lst m n := by
  show lsN (Lst m) (m + 1) n n = (if m + 1 ≤ n then (lsN (Lst m) (m + 1) (n - (m + 1)) (n - (m + 1))).map ((m + 1) :: ·) else []) ++ Lst m n
  rw [← lsN_more (by omega) (n + 1) n (by omega)]
  show (if m + 1 ≤ n then (lsN (Lst m) (m + 1) n (n - (m + 1))).map ((m + 1) :: ·) else []) ++ Lst m n = _
  by_cases hn : m + 1 ≤ n
  · rw [if_pos hn, if_pos hn, lsN_more (by omega) n _ (by omega)]
  · rw [if_neg hn, if_neg hn]
noncomputable def cn (m n : Nat) (p : List Nat → Bool) : Int := ((Lst m n).countP p : Nat)
theorem cn_zero (n : Nat) (p : List Nat → Bool) : cn 0 n p = if p [] = true then dl n else 0 := by
  unfold cn
  show ((List.countP p (if n = 0 then [[]] else []) : Nat) : Int) = _
  unfold dl
  by_cases h : n = 0
  · rw [if_pos h, if_pos h]
    cases hp : p [] with
    | true => rw [List.countP_cons_of_pos hp]; rfl
    | false => rw [List.countP_cons_of_neg (by rw [hp]; decide)]; rfl
  · rw [if_neg h, if_neg h]
    cases p [] <;> rfl
theorem cn_succ (m n : Nat) (p : List Nat → Bool) : cn (m + 1) n p = (if m + 1 ≤ n then cn (m + 1) (n - (m + 1)) (fun l => p ((m + 1) :: l)) else 0) + cn m n p := by
  unfold cn
  rw [ls_eq, List.countP_append, Int.natCast_add]
  congr 1
  by_cases h : m + 1 ≤ n
  · rw [if_pos h, if_pos h, List.countP_map]
    rfl
  · rw [if_neg h, if_neg h]
    rfl
theorem cn_congr {m n : Nat} {p q : List Nat → Bool} (h : ∀ l ∈ Lst m n, p l = q l) : cn m n p = cn m n q := by
  unfold cn
  rw [List.countP_congr fun l hl => by rw [h l hl]]
theorem cn_none {m n : Nat} {p : List Nat → Bool} (h : ∀ l ∈ Lst m n, p l = false) : cn m n p = 0 := by
  rw [cn_congr (q := fun _ => false) h]
  unfold cn
  rw [List.countP_false]
  rfl
theorem ls_mem : ∀ m n l, l ∈ Lst m n → (∀ x ∈ l, 1 ≤ x ∧ x ≤ m) ∧ l.sum = n := by
  intro m
  induction m with
  | zero =>
    intro n l h
    have h : l ∈ (if n = 0 then [[]] else []) := h
    by_cases e : n = 0
    · rw [if_pos e] at h
      rw [List.mem_singleton.mp h]
      exact ⟨fun x hx => (nomatch hx), e.symm⟩
    · rw [if_neg e] at h; cases h
  | succ m ih =>
    intro n
    induction n using Nat.strongRecOn with
    | _ n ihn =>
      intro l h
      rw [ls_eq] at h
      rcases List.mem_append.mp h with h | h
      · by_cases e : m + 1 ≤ n
        · rw [if_pos e] at h
          obtain ⟨y, hy, rfl⟩ := List.mem_map.mp h
          obtain ⟨a, b⟩ := ihn (n - (m + 1)) (by omega) y hy
          refine ⟨fun x hx => ?_, by rw [List.sum_cons, b]; omega⟩
          rcases List.mem_cons.mp hx with e | e
          · omega
          · exact a x e
        · rw [if_neg e] at h; cases h
      · obtain ⟨a, b⟩ := ih n l h
        exact ⟨fun x hx => by have := a x hx; omega, b⟩
theorem ls_len {m n : Nat} {l : List Nat} (h : l ∈ Lst m n) : l.length ≤ n := by
  obtain ⟨a, b⟩ := ls_mem m n l h
  rw [← b]
  clear b h
  induction l with
  | nil => exact Nat.le_refl _
  | cons x l ih =>
    rw [List.length_cons, List.sum_cons]
    have := a x List.mem_cons_self
    have := ih fun y hy => a y (List.mem_cons_of_mem _ hy)
    omega
theorem cn_all (p : Nat → Bool) : ∀ m n, cn m n (fun l => l.all p) = PL dl (fl p m) n := by
  intro m
  induction m with
  | zero => intro n; rw [cn_zero]; rfl
  | succ m ih =>
    intro n
    rw [fl_succ]
    cases hp : p (m + 1) with
    | false =>
      rw [if_neg (by decide), List.append_nil, ← ih n, cn_succ]
      rw [show (if m + 1 ≤ n then cn (m + 1) (n - (m + 1)) (fun l => ((m + 1) :: l).all p) else 0) = 0 from ?_]
      · omega
      · split
        · exact cn_none fun l _ => by rw [List.all_cons, hp]; rfl
        · rfl
    | true =>
      rw [if_pos rfl, PL_app]
      show _ = put (PL dl (fl p m)) (m + 1) n
      induction n using Nat.strongRecOn with
      | _ n ihn =>
        rw [cn_succ, put_eq _ (by omega), ih n]
        by_cases h : m + 1 ≤ n
        · rw [if_pos h, if_pos h, ← ihn (n - (m + 1)) (by omega)]
          have : cn (m + 1) (n - (m + 1)) (fun l => ((m + 1) :: l).all p) = cn (m + 1) (n - (m + 1)) (fun l => l.all p) := cn_congr fun l _ => by rw [List.all_cons, hp]; rfl
          rw [this]
          omega
        · rw [if_neg h, if_neg h]; omega
noncomputable def inb (k l : Nat) (x : List Nat) : Bool := decide (x.length ≤ l) && x.all fun a => decide (a ≤ k)
theorem cn_box (k : Nat) : ∀ m l n, cn m n (inb k l) = bx l (min m k) n := by
  intro m
  induction m with
  | zero => intro l n; rw [cn_zero, if_pos (by unfold inb; simp), Nat.zero_min, bx_none]
  | succ m ih =>
    intro l
    induction l with
    | zero =>
      intro n
      rw [cn_succ, ih 0 n, bx_none', bx_none']
      rw [show (if m + 1 ≤ n then cn (m + 1) (n - (m + 1)) (fun l => inb k 0 ((m + 1) :: l)) else 0) = 0 from ?_]
      · omega
      · split
        · exact cn_none fun l _ => by unfold inb; simp
        · rfl
    | succ l ihl =>
      intro n
      rw [cn_succ, ih (l + 1) n]
      by_cases hk : m + 1 ≤ k
      · rw [Nat.min_eq_left hk, Nat.min_eq_left (by omega), pascal]
        dsimp only
        have : (if m + 1 ≤ n then cn (m + 1) (n - (m + 1)) (fun x => inb k (l + 1) ((m + 1) :: x)) else 0) = sh (m + 1) (bx l (m + 1)) n := by
          unfold sh
          by_cases h : m + 1 ≤ n
          · rw [if_pos h, if_pos h]
            have e := ihl (n - (m + 1))
            rw [Nat.min_eq_left hk] at e
            rw [← e]
            refine cn_congr fun x _ => ?_
            unfold inb
            rw [List.all_cons, decide_eq_true hk, List.length_cons]
            simp
          · rw [if_neg h, if_neg h]
        rw [this]
        omega
      · rw [Nat.min_eq_right (by omega), Nat.min_eq_right (by omega)]
        rw [show (if m + 1 ≤ n then cn (m + 1) (n - (m + 1)) (fun x => inb k (l + 1) ((m + 1) :: x)) else 0) = 0 from ?_]
        · omega
        · split
          · refine cn_none fun x _ => ?_
            unfold inb
            rw [List.all_cons, decide_eq_false hk]
            simp
          · rfl
noncomputable def vd (d : Nat) : List Nat → Bool
  | [] => true
  | [_] => true
  | a :: b :: r => decide (b + d ≤ a) && vd d (b :: r)
noncomputable def hdle (M : Nat) : List Nat → Bool
  | [] => true
  | a :: _ => decide (a ≤ M)
theorem cn_head (q : List Nat → Bool) (M : Nat) : ∀ e n, cn (M + e) n (fun x => hdle M x && q x) = cn M n q := by
  intro e
  induction e with
  | zero =>
    intro n
    refine cn_congr fun x hx => ?_
    cases x with
    | nil => rfl
    | cons a x => show (decide (a ≤ M) && q (a :: x)) = _; rw [decide_eq_true ((ls_mem M n _ hx).1 a List.mem_cons_self).2, Bool.true_and]
  | succ e ih =>
    intro n
    show cn (M + e + 1) n _ = _
    rw [cn_succ, ih n]
    rw [show (if M + e + 1 ≤ n then cn (M + e + 1) (n - (M + e + 1)) (fun l => hdle M ((M + e + 1) :: l) && q ((M + e + 1) :: l)) else 0) = 0 from ?_]
    · omega
    · split
      · refine cn_none fun l _ => ?_
        show (decide (M + e + 1 ≤ M) && _) = false
        rw [decide_eq_false (by omega), Bool.false_and]
      · rfl
noncomputable def vk (d k : Nat) (x : List Nat) : Bool := vd d x && decide (x.length = k)
theorem vk_cons {d k m : Nat} (hd : 1 ≤ d) (x : List Nat) (hx : ∀ a ∈ x, 1 ≤ a) : vk d (k + 1) ((m + 1) :: x) = (hdle (m + 1 - d) x && vk d k x) := by
  unfold vk
  cases x with
  | nil =>
    show (true && decide (1 = k + 1)) = (true && (true && decide (0 = k)))
    rw [Bool.true_and, Bool.true_and, Bool.true_and]
    exact decide_eq_decide.mpr (by omega)
  | cons b r =>
    show ((decide (b + d ≤ m + 1) && vd d (b :: r)) && decide ((b :: r).length + 1 = k + 1)) = (decide (b ≤ m + 1 - d) && (vd d (b :: r) && decide ((b :: r).length = k)))
    have h1 := hx b List.mem_cons_self
    rw [show decide ((b :: r).length + 1 = k + 1) = decide ((b :: r).length = k) from decide_eq_decide.mpr (by omega), show decide (b + d ≤ m + 1) = decide (b ≤ m + 1 - d) from decide_eq_decide.mpr (by omega), Bool.and_assoc]
noncomputable def vE (d k m : Nat) (n : Nat) : Int := cn m n (vk d k)
theorem vE_none (d m n : Nat) : vE d 0 m n = dl n := by
  unfold vE
  induction m generalizing n with
  | zero => rw [cn_zero, if_pos (by unfold vk; rfl)]
  | succ m ih =>
    rw [cn_succ, ih n]
    rw [show (if m + 1 ≤ n then cn (m + 1) (n - (m + 1)) (fun l => vk d 0 ((m + 1) :: l)) else 0) = 0 from ?_]
    · omega
    · split
      · refine cn_none fun l _ => ?_
        unfold vk
        rw [List.length_cons, decide_eq_false (by omega), Bool.and_false]
      · rfl
theorem vE_zero (d k n : Nat) : vE d (k + 1) 0 n = 0 := by
  unfold vE
  rw [cn_zero, if_neg]
  unfold vk
  simp
theorem vE_step {d : Nat} (hd : 1 ≤ d) (k m : Nat) : vE d (k + 1) (m + 1) = fun n => vE d (k + 1) m n + sh (m + 1) (vE d k (m + 1 - d)) n := by
  funext n
  show cn (m + 1) n (vk d (k + 1)) = _
  rw [cn_succ]
  have : (if m + 1 ≤ n then cn (m + 1) (n - (m + 1)) (fun l => vk d (k + 1) ((m + 1) :: l)) else 0) = sh (m + 1) (vE d k (m + 1 - d)) n := by
    unfold sh
    by_cases h : m + 1 ≤ n
    · rw [if_pos h, if_pos h]
      have e := cn_head (vk d k) (m + 1 - d) (m + 1 - (m + 1 - d)) (n - (m + 1))
      rw [show m + 1 - d + (m + 1 - (m + 1 - d)) = m + 1 by omega] at e
      show _ = cn (m + 1 - d) (n - (m + 1)) (vk d k)
      rw [← e]
      exact cn_congr fun x hx => vk_cons hd x fun a ha => ((ls_mem _ _ x hx).1 a ha).1
    · rw [if_neg h, if_neg h]
  rw [this]
  show _ = cn m n (vk d (k + 1)) + _
  omega
theorem sh_add (e : Nat) (f g : Nat → Int) : sh e (fun i => f i + g i) = fun n => sh e f n + sh e g n := by
  funext n
  unfold sh
  by_cases h : e ≤ n
  · rw [if_pos h, if_pos h, if_pos h]
  · rw [if_neg h, if_neg h, if_neg h]; rfl
theorem sh_fun (a b : Nat) (g : Nat → Int) : sh a (sh b g) = sh (a + b) g := funext fun i => sh_sh a b g i
theorem ex_next (d k : Nat) : ex d (k + 1) 1 = d * k + 1 + ex d k 1 := by
  rw [ex_in]
  have e : ∀ e, ex d k (1 + e) = ex d k 1 + k * e := by
    intro e
    induction e with
    | zero => rw [Nat.mul_zero]; rfl
    | succ e ih => rw [show 1 + (e + 1) = (1 + e) + 1 by omega, ex_up, ih]; grind
  rw [e d]
  grind
theorem vE_low {d : Nat} (hd : 1 ≤ d) : ∀ k m, m ≤ d * k → vE d (k + 1) m = fun _ => 0 := by
  intro k
  induction k with
  | zero => intro m h; rw [show m = 0 by omega]; funext n; exact vE_zero d 0 n
  | succ k ih =>
    intro m
    induction m with
    | zero => intro _; funext n; exact vE_zero d _ n
    | succ m ihm =>
      intro h
      have e : d * (k + 1) = d * k + d := by grind
      rw [vE_step hd, ihm (by omega), ih (m + 1 - d) (by omega)]
      funext n
      unfold sh
      split <;> rfl
theorem pascalT (k l : Nat) : bx (l + 1) (k + 1) = fun n => bx l (k + 1) n + sh (l + 1) (bx (l + 1) k) n := by
  rw [bx_turn, pascal l k]
  funext n
  rw [bx_turn l (k + 1), bx_turn (l + 1) k]
theorem vE_is {d : Nat} (hd : 1 ≤ d) : ∀ k l, vE d (k + 1) (d * k + 1 + l) = sh (ex d (k + 1) 1) (bx l (k + 1)) := by
  intro k
  induction k with
  | zero =>
    intro l
    have z : ∀ m, vE d 0 m = dl := fun m => funext fun n => vE_none d m n
    induction l with
    | zero =>
      rw [show d * 0 + 1 + 0 = 0 + 1 by omega, vE_step hd, z, bx_none', ex_next]
      funext n
      rw [vE_zero]
      show 0 + sh 1 dl n = sh (d * 0 + 1 + ex d 0 1) dl n
      rw [show d * 0 + 1 + ex d 0 1 = 1 by unfold ex; simp]
      omega
    | succ l ih =>
      rw [show d * 0 + 1 + (l + 1) = (d * 0 + 1 + l) + 1 by omega, vE_step hd, ih, z, pascalT 0 l, sh_add, sh_fun, bx_none]
      funext n
      congr 2
  | succ k ihk =>
    intro l
    have e : d * (k + 1) = d * k + d := by grind
    induction l with
    | zero =>
      rw [show d * (k + 1) + 1 + 0 = d * (k + 1) + 1 by omega, vE_step hd, vE_low hd (k + 1) _ (Nat.le_refl _), show d * (k + 1) + 1 - d = d * k + 1 + 0 by omega, ihk 0, bx_none', bx_none', sh_fun, ← ex_next]
      funext n
      show 0 + _ = _
      omega
    | succ l ih =>
      rw [show d * (k + 1) + 1 + (l + 1) = (d * (k + 1) + 1 + l) + 1 by omega, vE_step hd, ih, show d * (k + 1) + 1 + l + 1 - d = d * k + 1 + (l + 1) by omega, ihk (l + 1), pascalT (k + 1) l, sh_add, sh_fun, sh_fun]
      funext n
      congr 2
      rw [ex_next d (k + 1)]
      omega
theorem vE_at {d : Nat} (hd : 1 ≤ d) (k n : Nat) : vE d k n n = if Ls d k ≤ n then PL dl (ups k) (n - Ls d k) else 0 := by
  rw [ls_ex]
  cases k with
  | zero =>
    rw [vE_none, if_pos (by unfold ex; simp)]
    show dl n = dl (n - ex d 0 1)
    rw [show ex d 0 1 = 0 by unfold ex; simp]
    rfl
  | succ k =>
    by_cases h : d * k + 1 ≤ n
    · obtain ⟨l, e⟩ : ∃ l, n = d * k + 1 + l := ⟨n - (d * k + 1), by omega⟩
      have v := congrFun (vE_is hd k l) n
      rw [← e] at v
      rw [v]
      unfold sh
      by_cases g : ex d (k + 1) 1 ≤ n
      · rw [if_pos g, if_pos g, bx_big (by rw [ex_next] at g ⊢; omega)]
      · rw [if_neg g, if_neg g]
    · have v := congrFun (vE_low hd k n (by omega)) n
      rw [v, if_neg (by rw [ex_next]; omega)]
theorem cn_split (p : List Nat → Bool) (m n : Nat) : ∀ K, (∀ x ∈ Lst m n, x.length < K) → cn m n p = ((List.range K).map fun k => cn m n fun x => p x && decide (x.length = k)).sum := by
  have key : ∀ (L : List (List Nat)) K, ((List.range K).map fun k => ((L.countP fun x => p x && decide (x.length = k) : Nat) : Int)).sum = ((L.countP fun x => p x && decide (x.length < K) : Nat) : Int) := by
    intro L K
    induction K with
    | zero =>
      show (0 : Int) = _
      rw [List.countP_congr (q := fun _ => false) fun x _ => by simp, List.countP_false]
      rfl
    | succ K ih =>
      rw [List.range_succ, List.map_append, List.sum_append_int, ih]
      show _ + (((L.countP fun x => p x && decide (x.length = K) : Nat) : Int) + 0) = _
      rw [Int.add_zero, ← Int.natCast_add]
      congr 1
      clear ih
      induction L with
      | nil => rfl
      | cons x L ihL =>
        rw [List.countP_cons, List.countP_cons, List.countP_cons]
        have : (if (p x && decide (x.length < K)) = true then 1 else 0) + (if (p x && decide (x.length = K)) = true then 1 else 0) = (if (p x && decide (x.length < K + 1)) = true then 1 else 0) := by
          cases p x with
          | false => rfl
          | true =>
            rw [Bool.true_and, Bool.true_and, Bool.true_and]
            by_cases h1 : x.length < K
            · rw [decide_eq_true h1, decide_eq_false (by omega : ¬ x.length = K), decide_eq_true (by omega : x.length < K + 1)]; rfl
            · by_cases h2 : x.length = K
              · rw [decide_eq_false h1, decide_eq_true h2, decide_eq_true (by omega : x.length < K + 1)]; rfl
              · rw [decide_eq_false h1, decide_eq_false h2, decide_eq_false (by omega : ¬ x.length < K + 1)]; rfl
        omega
  intro K h
  unfold cn
  rw [key (Lst m n) K]
  congr 1
  exact List.countP_congr fun x hx => by rw [decide_eq_true (h x hx), Bool.and_true]
theorem cn_off {d n : Nat} (hd : 1 ≤ d) (hn : n ≤ 600) : cn n n (vd d) = fow d n := by
  rw [cn_split (vd d) n n (n + 1) fun x hx => by have := ls_len hx; omega]
  have e : ∀ K, ((List.range K).map fun k => cn n n fun x => vd d x && decide (x.length = k)).sum = fq d K n := by
    intro K
    induction K with
    | zero => rfl
    | succ K ih =>
      rw [List.range_succ, List.map_append, List.sum_append_int, ih]
      show _ + (vE d K n n + 0) = fq d K n + if Ls d K ≤ n then PL dl (ups K) (n - Ls d K) else 0
      rw [vE_at hd, Int.add_zero]
  rw [e]
  exact fow_is (n := n) (by have := Ls_ge d (n + 1); omega) (by omega) (Nat.le_refl n)
end M11
set_option Elab.async false
set_option linter.all false
set_option maxRecDepth 100000
set_option maxHeartbeats 4000000
set_option exponentiation.threshold 100
namespace M25
open MRow M80 M17 M12 M24 M14 M11
noncomputable def ivl (u : Nat → Int) : Nat → List Int
  | 0 => [1]
  | n + 1 => ivl u n ++ [-(sumTo (n + 1) fun k => u (k + 1) * (ivl u n).getD (n - k) 0)]
theorem ivl_len (u : Nat → Int) : ∀ n, (ivl u n).length = n + 1
  | 0 => rfl
  | n + 1 => by show (ivl u n ++ [_]).length = _; rw [List.length_append, ivl_len u n]; rfl
noncomputable def iv (u : Nat → Int) (n : Nat) : Int := (ivl u n).getD n 0
theorem ivl_at (u : Nat → Int) : ∀ n j, j ≤ n → (ivl u n).getD j 0 = iv u j
  | 0, j, h => by obtain rfl : j = 0 := by omega
                  rfl
  | n + 1, j, h => by
    by_cases c : j = n + 1
    · subst c; rfl
    · have e : (ivl u (n + 1)).getD j 0 = (ivl u n).getD j 0 := by
        show (ivl u n ++ [_]).getD j 0 = _
        rw [List.getD_eq_getElem?_getD, List.getElem?_append_left (by rw [ivl_len]; omega), ← List.getD_eq_getElem?_getD]
      rw [e]
      exact ivl_at u n j (by omega)
theorem iv_zero (u : Nat → Int) : iv u 0 = 1 := rfl
theorem iv_succ (u : Nat → Int) (n : Nat) : iv u (n + 1) = -(sumTo (n + 1) fun k => u (k + 1) * iv u (n - k)) := by
  show (ivl u n ++ [_]).getD (n + 1) 0 = _
  rw [List.getD_eq_getElem?_getD, List.getElem?_append_right (by rw [ivl_len]; exact Nat.le_refl _), ivl_len, Nat.sub_self]
  show -(sumTo (n + 1) fun k => u (k + 1) * (ivl u n).getD (n - k) 0) = _
  rw [sumTo_ext fun k hk => by rw [ivl_at u n (n - k) (by omega)]]
theorem conv_succ (u v : Nat → Int) (n : Nat) : conv u v (n + 1) = u 0 * v (n + 1) + sumTo (n + 1) fun k => u (k + 1) * v (n - k) := by
  unfold conv
  rw [sumTo_head]
  congr 1
  exact sumTo_ext fun k _ => by rw [show n + 1 - (k + 1) = n - k by omega]
theorem iv_conv {u : Nat → Int} (h : u 0 = 1) : ∀ n, conv u (iv u) n = if n = 0 then 1 else 0
  | 0 => by show 0 + u 0 * iv u 0 = 1; rw [h, iv_zero]; rfl
  | n + 1 => by rw [conv_succ, h, iv_succ, if_neg (by omega)]; omega
theorem iv_back {u : Nat → Int} (h : u 0 = 1) (n : Nat) : iv (iv u) n = u n := by
  induction n using Nat.strongRecOn with
  | _ n ih =>
    match n with
    | 0 => rw [iv_zero, h]
    | n + 1 =>
      have e := iv_conv h (n + 1)
      rw [conv_comm, conv_succ, iv_zero, if_neg (by omega)] at e
      rw [iv_succ, sumTo_ext fun k hk => by rw [ih (n - k) (by omega)]]
      omega
theorem sum_half {F : Nat → Int} {A n : Nat} : ∀ m, m ≤ n + 1 → (∀ k, k < m → (F k).natAbs ≤ A * 2 ^ (n - k)) → (sumTo m F).natAbs + A * 2 ^ (n + 1 - m) ≤ A * 2 ^ (n + 1)
  | 0, _, _ => by show 0 + _ ≤ _; simp
  | m + 1, hm, h => by
    have ih := sum_half m (by omega) fun k hk => h k (by omega)
    have h1 := h m (by omega)
    show (sumTo m F + F m).natAbs + _ ≤ _
    have e : n + 1 - m = (n - m) + 1 := by omega
    have e2 : n + 1 - (m + 1) = n - m := by omega
    rw [e, Nat.pow_succ] at ih
    rw [e2]
    have e3 : A * (2 ^ (n - m) * 2) = A * 2 ^ (n - m) + A * 2 ^ (n - m) := by rw [← Nat.mul_assoc]; omega
    rw [e3] at ih
    generalize A * 2 ^ (n - m) = z at *
    omega
theorem iv_lim {u : Nat → Int} {S N : Nat} (h : ∀ i, i ≤ N → (u i).natAbs ≤ S ^ i) (n : Nat) : n ≤ N → (iv u n).natAbs ≤ (2 * S) ^ n := by
  induction n using Nat.strongRecOn with
  | _ n ih =>
    intro hN
    match n with
    | 0 => rw [iv_zero, Nat.pow_zero]; decide
    | n + 1 =>
      rw [iv_succ, Int.natAbs_neg]
      have := sum_half (F := fun k => u (k + 1) * iv u (n - k)) (A := S ^ (n + 1)) (n := n) (n + 1) (Nat.le_refl _) fun k hk => by
        rw [Int.natAbs_mul]
        refine Nat.le_trans (Nat.mul_le_mul (h (k + 1) (by omega)) (ih (n - k) (by omega) (by omega))) ?_
        rw [Nat.mul_pow, Nat.mul_left_comm, ← Nat.pow_add, show k + 1 + (n - k) = n + 1 by omega, Nat.mul_comm]
        exact Nat.le_refl _
      rw [Nat.mul_pow, Nat.mul_comm]
      omega
theorem iv_only {u v : Nat → Int} (h0 : u 0 = 1) {N : Nat} (h : ∀ n, n ≤ N → conv u v n = if n = 0 then 1 else 0) (n : Nat) : n ≤ N → v n = iv u n := by
  induction n using Nat.strongRecOn with
  | _ n ih =>
    intro hN
    match n with
    | 0 =>
      have e := h 0 hN
      have e2 : 0 + u 0 * v 0 = 1 := e
      rw [h0] at e2
      rw [iv_zero]
      omega
    | n + 1 =>
      have e := h (n + 1) hN
      rw [conv_succ, h0, if_neg (by omega)] at e
      rw [iv_succ, ← sumTo_ext (f := fun k => u (k + 1) * v (n - k)) fun k hk => by rw [ih (n - k) (by omega) (by omega)]]
      omega
noncomputable def B : Nat := 2 ^ 1300
noncomputable def Sm (f : Nat → Int) (N : Nat) : Prop := ∀ j, j ≤ N → (f j).natAbs < 2 ^ 1000000
theorem big_of {x n : Nat} (hn : n ≤ 600) (h : x ≤ (2 ^ 1320) ^ n) : x < 2 ^ 1000000 := by
  refine Nat.lt_of_le_of_lt h ?_
  rw [← Nat.pow_mul]
  exact Nat.pow_lt_pow_right (by decide) (by omega)
theorem row_sm {g : Nat → Int} {N : Nat} (h : ∀ j, j ≤ N → (g j).natAbs < B) : Sm g N := fun j hj => Nat.lt_trans (h j hj) (Nat.pow_lt_pow_right (by decide) (by omega))
theorem iv_sm {g : Nat → Int} {N : Nat} (hN : N ≤ 600) (g0 : g 0 = 1) (h : ∀ j, j ≤ N → (g j).natAbs < B) : Sm (iv g) N := fun j hj => by
  have a := iv_lim (u := g) (S := B) (N := N) (fun i hi => by
    cases i with
    | zero => rw [g0, Nat.pow_zero]; decide
    | succ i =>
      refine Nat.le_trans (Nat.le_of_lt (h (i + 1) hi)) ?_
      rw [Nat.pow_succ]
      exact Nat.le_mul_of_pos_left _ (Nat.pow_pos (Nat.pow_pos (by decide)))) j hj
  refine big_of (n := j) (by omega) (Nat.le_trans a (Nat.pow_le_pow_left ?_ j))
  show 2 * 2 ^ 1300 ≤ 2 ^ 1320
  rw [Nat.mul_comm, ← Nat.pow_succ]
  exact Nat.pow_le_pow_right (by decide) (by decide)
theorem sum_many {F : Nat → Int} {M : Nat} : ∀ m, (∀ k, k < m → (F k).natAbs ≤ M) → ((List.range m).map F).sum.natAbs ≤ m * M
  | 0, _ => by rw [Nat.zero_mul]; exact Nat.le_refl _
  | m + 1, h => by
    rw [List.range_succ, List.map_append, List.sum_append_int]
    show ((((List.range m).map F).sum + (F m + 0)) : Int).natAbs ≤ _
    have a := sum_many m fun k hk => h k (by omega)
    have b := h m (by omega)
    have e : (m + 1) * M = m * M + M := Nat.succ_mul m M
    rw [e]
    generalize m * M = z at *
    omega
theorem sv_le {ps : List Int} {g : Nat → Int} {N : Nat} (hN : N ≤ 600) (hp : ∀ j, j ≤ N → M21.prod ps j = g j) (h : ∀ j, j ≤ N → (g j).natAbs < B) (i : Nat) : i < N → (M21.sv ps (i + 1)).natAbs ≤ (2 ^ 1320) ^ (i + 1) := by
  induction i using Nat.strongRecOn with
  | _ i ih =>
    intro hi
    rw [← step_own hp hi]
    have Zp : 0 < (2 ^ 1320) ^ i := Nat.pow_pos (Nat.pow_pos (by decide))
    have a : (((i + 1 : Nat) : Int) * g (i + 1)).natAbs ≤ 600 * B := by
      rw [Int.natAbs_mul]
      exact Nat.mul_le_mul (by omega) (Nat.le_of_lt (h (i + 1) (by omega)))
    have b := sum_many (F := fun t => M21.sv ps (t + 1) * g (i - t)) (M := (2 ^ 1320) ^ i * B) i fun t ht => by
      rw [Int.natAbs_mul]
      refine Nat.mul_le_mul (Nat.le_trans (ih t ht (by omega)) ?_) (Nat.le_of_lt (h (i - t) (by omega)))
      exact Nat.pow_le_pow_right (Nat.pow_pos (by decide)) (by omega)
    have c : i * ((2 ^ 1320) ^ i * B) ≤ 600 * ((2 ^ 1320) ^ i * B) := Nat.mul_le_mul_right _ (by omega)
    have d : 600 * B ≤ 600 * ((2 ^ 1320) ^ i * B) := Nat.mul_le_mul_left _ (Nat.le_mul_of_pos_left _ Zp)
    have e : 1200 * ((2 ^ 1320) ^ i * B) ≤ (2 ^ 1320) ^ (i + 1) := by
      rw [Nat.pow_succ, Nat.mul_left_comm]
      refine Nat.mul_le_mul_left _ ?_
      show 1200 * 2 ^ 1300 ≤ 2 ^ 1320
      rw [show (1320 : Nat) = 20 + 1300 from rfl, Nat.pow_add]
      exact Nat.mul_le_mul_right _ (by decide)
    generalize (((i + 1 : Nat) : Int) * g (i + 1)) = x at *
    generalize ((List.range i).map fun t => M21.sv ps (t + 1) * g (i - t)).sum = y at *
    generalize (2 ^ 1320) ^ i * B = w at *
    generalize (2 ^ 1320) ^ (i + 1) = v at *
    generalize 600 * B = t at *
    generalize i * w = r at *
    omega
theorem sv_sm {ps : List Int} {g : Nat → Int} {N : Nat} (hN : N ≤ 600) (hp : ∀ j, j ≤ N → M21.prod ps j = g j) (h : ∀ j, j ≤ N → (g j).natAbs < B) {i : Nat} (hi : i < N) : (M21.sv ps (i + 1)).natAbs < 2 ^ 1000000 :=
  big_of (n := i + 1) (by omega) (sv_le hN hp h i hi)
theorem pow_one {ps qs : List Int} (hl : ps.length = qs.length) (h : ∀ n, n ≤ ps.length → M21.prod ps n = M21.prod qs n) : ps = qs := by
  have s := M21.steps_one (N := ps.length) (s := M21.sv ps) (t := M21.sv qs) (M21.prod_steps 0 ps).1 h (M21.prod_steps _ ps).2 (M21.prod_steps _ qs).2
  have key : ∀ i, i < ps.length → ps.getD i 0 = qs.getD i 0 := by
    intro i
    induction i using Nat.strongRecOn with
    | _ i ih =>
      intro hi
      rw [← pow_own hi, ← pow_own (ps := qs) (by omega), s (i + 1) (by omega) (by omega), dvl_sum, dvl_sum, M21.sm_congr fun t ht => by rw [ih t ht (by omega)]]
  refine List.ext_getElem hl fun i h1 h2 => ?_
  have := key i h1
  rw [List.getD_eq_getElem?_getD, List.getD_eq_getElem?_getD, List.getElem?_eq_getElem h1, List.getElem?_eq_getElem h2] at this
  exact this
theorem conv_iter (f g : Nat → Int) {d : Nat} (hd : 0 < d) : ∀ k, conv (M21.iter k (fun h => put h d) f) (M21.iter k (fun h => M21.off h d) g) = conv f g := by
  intro k
  induction k generalizing f g with
  | zero => rfl
  | succ k ih =>
    show conv (put (M21.iter k (fun h => put h d) f) d) (off (M21.iter k (fun h => M21.off h d) g) d) = _
    rw [conv_put _ _ hd, conv_comm, M16.conv_off _ _ hd, conv_comm _ (M21.iter k (fun h => put h d) f), put_off _ hd, ih]
theorem conv_pw (f g : Nat → Int) {d : Nat} (hd : 0 < d) (p : Int) : conv (M21.pw f d p) (M21.pw g d (-p)) = conv f g := by
  unfold M21.pw
  by_cases h : 0 ≤ p
  · rw [if_pos h]
    by_cases h2 : 0 ≤ -p
    · rw [if_pos h2, show p.toNat = 0 by omega, show (-p).toNat = 0 by omega]; rfl
    · rw [if_neg h2, Int.neg_neg]; exact conv_iter f g hd _
  · rw [if_neg h, if_pos (by omega), conv_comm, conv_iter g f hd, conv_comm]
theorem conv_neg : ∀ (n : Nat) (ps : List Int), ps.length = n → conv (M21.prod ps) (M21.prod (ps.map fun p => -p)) = dl
  | 0, ps, h => by rw [List.length_eq_zero_iff.mp h]; exact conv_dl dl
  | n + 1, ps, h => by
    obtain ⟨qs, q, rfl⟩ : ∃ qs q, ps = qs ++ [q] := ⟨ps.dropLast, ps.getLast (by intro e; rw [e] at h; cases h), (List.dropLast_concat_getLast _).symm⟩
    have lq : qs.length = n := by rw [List.length_append] at h; have : [q].length = 1 := rfl; omega
    rw [List.map_append, M21.prod_snoc]
    show conv _ (M21.prod (qs.map (fun p => -p) ++ [-q])) = dl
    rw [M21.prod_snoc, List.length_map, conv_pw _ _ (by omega)]
    exact conv_neg n qs lq
theorem neg_iv {ps : List Int} (n : Nat) : M21.prod (ps.map fun p => -p) n = iv (M21.prod ps) n :=
  iv_only (N := n) (M21.prod_steps 0 ps).1 (fun m _ => by rw [conv_neg _ ps rfl]; rfl) n (Nat.le_refl _)
theorem L_iv {n : Nat} (j : Nat) : M15.L n j = iv (R n) j := by
  refine iv_only (N := j) ?_ (fun m _ => by rw [conv_comm, M16.L_R]; rfl) j (Nat.le_refl _)
  have := R_zero n
  rw [PL_ups] at this
  exact this
theorem iv_ext {u v : Nat → Int} {N : Nat} (h : ∀ j, j ≤ N → u j = v j) (n : Nat) : n ≤ N → iv u n = iv v n := by
  induction n using Nat.strongRecOn with
  | _ n ih =>
    intro hN
    match n with
    | 0 => rfl
    | n + 1 =>
      rw [iv_succ, iv_succ, sumTo_ext fun k hk => by rw [h (k + 1) (by omega), ih (n - k) (by omega) (by omega)]]
theorem cn_lim (m n : Nat) (p : List Nat → Bool) : 0 ≤ cn m n p ∧ cn m n p ≤ PL dl (ups m) n := by
  refine ⟨by unfold cn; omega, ?_⟩
  have e : PL dl (ups m) n = cn m n (fun l => l.all fun _ => true) := by rw [cn_all, fl_all]
  rw [e]
  unfold cn
  have : (Lst m n).countP p ≤ (Lst m n).countP fun l => l.all fun _ => true := by
    refine List.countP_mono_left fun l _ _ => ?_
    exact List.all_eq_true.mpr fun _ _ => rfl
  omega
theorem R_B {m n : Nat} (hm : m ≤ 600) (hn : n ≤ 600) {x : Int} (h0 : 0 ≤ x) (h : x ≤ PL dl (ups m) n) : x.natAbs < B := by
  have := M27.R_small (s := m) (n := n) hm hn
  rw [PL_ups] at h
  unfold B
  generalize 2 ^ 1300 = z at *
  omega
theorem PL_mono : ∀ (ss : List Nat) {f g : Nat → Int}, (∀ x ∈ ss, 0 < x) → (∀ j, f j ≤ g j) → ∀ j, PL f ss j ≤ PL g ss j
  | [], _, _, _, h, j => h j
  | s :: ss, f, g, hs, h, j => by
    refine PL_mono ss (fun x hx => hs x (List.mem_cons_of_mem _ hx)) (fun j => ?_) j
    have hs0 := hs s List.mem_cons_self
    induction j using Nat.strongRecOn with
    | _ j ih =>
      rw [put_eq f hs0, put_eq g hs0]
      have h1 := h j
      split
      · have := ih (j - s) (by omega); omega
      · omega
theorem below_lim : ∀ (ss : List Nat) (g : Nat → Int), (∀ x ∈ ss, 0 < x) → (∀ j, 0 ≤ g j) → ∀ j, 0 ≤ below 2 ss g j ∧ below 2 ss g j ≤ PL g ss j
  | [], g, _, h, j => ⟨h j, Int.le_refl _⟩
  | s :: ss, g, hs, h, j => by
    have hs0 := hs s List.mem_cons_self
    have p0 : ∀ j, 0 ≤ put g s j := by
      intro j
      induction j using Nat.strongRecOn with
      | _ j ih =>
        rw [put_eq g hs0]
        split
        · have := ih (j - s) (by omega); have := h j; omega
        · have := h j; omega
    have a : ∀ j, 0 ≤ off (put g s) (2 * s) j ∧ off (put g s) (2 * s) j ≤ put g s j := fun j => by
      rw [one_two g hs0, put_eq g hs0]
      have h1 := h j
      by_cases c : s ≤ j
      · rw [if_pos c, if_pos c, put_eq g hs0 (j - s)]
        have h2 := h (j - s)
        refine ⟨by omega, ?_⟩
        split
        · have := p0 (j - s - s); omega
        · omega
      · rw [if_neg c, if_neg c]; omega
    obtain ⟨b1, b2⟩ := below_lim ss (off (put g s) (2 * s)) (fun x hx => hs x (List.mem_cons_of_mem _ hx)) (fun j => (a j).1) j
    refine ⟨b1, Int.le_trans b2 ?_⟩
    exact PL_mono ss (fun x hx => hs x (List.mem_cons_of_mem _ hx)) (fun j => (a j).2) j
end M25
set_option Elab.async false
set_option linter.all false
set_option maxRecDepth 100000
set_option maxHeartbeats 4000000
namespace K25
open PySem L2
noncomputable def top (i : Nat) : Stmt := PySem.Challenge.pw_partrests_k25_whole_rows_agree.main.body.getD i (.Pass ⟨0, 0, 0, 0⟩)
noncomputable def Hand (H : Hp) (a : Addr) : Prop := ∃ g s c : Int, H a = some (.lst [.int g, .int s, .int c]) ∧ 0 ≤ g ∧ 0 ≤ s ∧ s < 2147483647
noncomputable def Step (a : Addr) (H H' : Hp) : Prop := (∀ b o, b ≠ a → H b = some o → H' b = some o) ∧ Hand H' a
theorem Step.trans {a : Addr} {H H1 H2 : Hp} (x : Step a H H1) (y : Step a H1 H2) : Step a H H2 := ⟨fun b o n e => y.1 b o n (x.1 b o n e), y.2⟩
theorem Step.same {a : Addr} {H H1 H2 : Hp} (x : Step a H H1) (y : Same H1 H2) : Step a H H2 := ⟨fun b o n e => y b o (x.1 b o n e), by obtain ⟨g, s, c, e, r⟩ := x.2; exact ⟨g, s, c, y _ _ e, r⟩⟩
theorem Step.refl {a : Addr} {H : Hp} (h : Hand H a) : Step a H H := ⟨fun _ _ _ e => e, h⟩
theorem Step.of_same {a : Addr} {H H1 : Hp} (h : Hand H a) (y : Same H H1) : Step a H H1 := (Step.refl h).same y
theorem Hand.same {a : Addr} {H H1 : Hp} (h : Hand H a) (y : Same H H1) : Hand H1 a := (Step.of_same h y).2
theorem Step.tup {a b : Addr} {H H1 : Hp} {xs : List V} (h : Hand H a) (x : Step a H H1) (e : H b = some (.tup xs)) : H1 b = some (.tup xs) := by
  obtain ⟨g, s, c, e', _⟩ := h
  exact x.1 b _ (ne_of e e' (by intro z; cases z)) e
section
variable {P : Program} {w : World} {K : PySem.W.Frag} {mg : Str → Option Value} {base : Heap} {f : Addr} {fd : FuncData}
theorem sc_take : FnScope ["_law_pot_here", "_law_many", "_law_digit"] ["_law_pot_here", "_law_many"] (defScope (top 32)) := ⟨rfl, rfl, rfl, by decide +kernel, rfl, by decide +kernel, by decide +kernel⟩
noncomputable def sp_take : Sp := fun vs H Q _ => ∃ (a : Addr) (m : Int), vs = [.ref a, .int m] ∧ Hand H a ∧ 0 < m ∧ m < 1073741824 ∧ ∀ r H', 0 ≤ r → r < m → Step a H H' → Q (.int r) H'
theorem mulR {a b : Int} (h1 : -(2 ^ 64) < b) (h2 : b < 2 ^ 64) : IntMulOk a b := IntMulOk.of_right (intBits_le_64 h1 h2)
theorem mulL {a b : Int} (h1 : -(2 ^ 64) < a) (h2 : a < 2 ^ 64) : IntMulOk a b := IntMulOk.of_left (intBits_le_64 h1 h2)
theorem ok_take (F : Fun K "_law_take" "_law_take" (top 32) f fd) : FnOk P w K mg base CX0 1 f fd ["_law_pot_here", "_law_many"] sp_take := by
  refine F.ok sc_take (fun vs H Q E h => ?_) (fun cdv A outer s H vs Q E hr h => ?_)
  · obtain ⟨a, m, rfl, _⟩ := h; rfl
  obtain ⟨a, m, rfl, ⟨g, z, c, hl, g0, z0, z1⟩, m0, m1, q⟩ := h
  have nd := sc_take.nd
  refine ⟨_, (pss_cons (ps_if (pt_cmpP op_gtP (pe_ix ix_P (pn 0) pe_int (fun _ _ => rfl)) pe_int (nomark _)) (pss_cons (ps_set (i := 2) nd rfl (Or.inl rfl) (pe_op op_modP (pe_ix ix_P (pn 0) pe_int (fun _ _ => rfl)) (pn 1)))
      (pss_cons (ps_asg (pe_op op_fdivP (pe_ix ix_P (pn 0) pe_int (fun _ _ => rfl)) (pn 1)) (pg_sub (pn 0) pe_int set_list))
      (pss_one (ps_ret (pn 2))))) pss_nil)
      (pss_cons (ps_asg (pe_op op_addP (pe_ix ix_P (pn 0) pe_int (fun _ _ => rfl)) pe_int) (pg_sub (pn 0) pe_int set_list))
      (pss_cons (ps_asg (pe_op op_modP (pe_op op_addP (pe_op op_addP (pe_op op_mulQ (pe_ix ix_P (pn 0) pe_int (fun _ _ => rfl)) pe_int) (pe_op op_mulQ pe_int (pe_ix ix_P (pn 0) pe_int (fun _ _ => rfl)))) pe_int) pe_int) (pg_sub (pn 0) pe_int set_list))
      (pss_one (ps_ret (pe_op op_modP (pe_op op_fdivP (pe_op op_modP (pe_op op_mulQ (pe_ix ix_P (pn 0) pe_int (fun _ _ => rfl)) (pe_op op_addP (pe_op op_modP (pe_ix ix_P (pn 0) pe_int (fun _ _ => rfl)) pe_int) pe_int)) pe_int) pe_int) (pn 1))))))), ?_⟩
  refine ⟨_, .inl (SqL.of hl), .int g, rfl, ?_⟩
  refine iteD (fun hg => ?_) (fun hg => ?_)
  · refine ⟨_, .inl (SqL.of hl), .int g, rfl, m0, ?_⟩
    refine ⟨_, .inl (SqL.of hl), .int g, rfl, ⟨m0, m1⟩, ?_⟩
    refine ⟨a, _, _, _, rfl, rfl, hl, rfl, ?_⟩
    refine q _ _ (Int.emod_nonneg _ (by omega)) (Int.emod_lt_of_pos _ m0) ⟨fun b o n e => ?_, g / m, z, c, upd_same, Int.ediv_nonneg g0 (by omega), z0, z1⟩
    rw [upd_ne n]; exact e
  · refine ⟨_, .inl (SqL.of hl), .int c, rfl, ?_⟩
    refine ⟨a, _, _, _, rfl, rfl, hl, rfl, ?_⟩
    refine ⟨_, .inl (SqL.of upd_same), .int z, rfl, mulR (by decide) (by decide), ?_⟩
    refine ⟨_, .inl (SqL.of upd_same), .int (c + 1), rfl, mulL (by decide) (by decide), (show (0 : Int) < 2147483647 by decide), ?_⟩
    refine ⟨a, _, _, _, rfl, rfl, upd_same, rfl, ?_⟩
    have e1 : 0 ≤ (z * 39373 + 65537 * (c + 1) + 12345) % 2147483647 := Int.emod_nonneg _ (by decide)
    have e2 : (z * 39373 + 65537 * (c + 1) + 12345) % 2147483647 < 2147483647 := Int.emod_lt_of_pos _ (by decide)
    refine ⟨_, .inl (SqL.of upd_same), .int ((z * 39373 + 65537 * (c + 1) + 12345) % 2147483647), rfl, ?_⟩
    refine ⟨_, .inl (SqL.of upd_same), .int ((z * 39373 + 65537 * (c + 1) + 12345) % 2147483647), rfl, (show (0 : Int) < 65521 by decide), ?_⟩
    refine ⟨mulL (by omega) (by omega), (show (0 : Int) < 2147483629 by decide), ⟨by decide, by decide⟩, m0, ?_⟩
    refine q _ _ (Int.emod_nonneg _ (by omega)) (Int.emod_lt_of_pos _ m0) ⟨fun b o n e => ?_, g, _, c + 1, upd_same, g0, e1, e2⟩
    rw [upd_ne n, upd_ne n]; exact e
theorem atI_of {xs : List V} {k : Int} {j : Nat} {v : V} (h : k = (j : Int)) (hx : xs[j]? = some v) : atI xs k = some v := by subst h; exact atI_nat hx
theorem getI {ns : List Int} {j : Nat} (h : j < ns.length) : (ns.map V.int)[j]? = some (.int ns[j]) := by rw [List.getElem?_map, List.getElem?_eq_getElem h]; rfl
theorem sc_pot : FnScope ["_law_script", "_law_k", "_law_cell", "_law_great"] ["_law_script", "_law_k"] (defScope (top 31)) := ⟨rfl, rfl, rfl, by decide +kernel, rfl, by decide +kernel, by decide +kernel⟩
noncomputable def sp_pot (K : PySem.W.Frag) : Sp := fun vs H Q _ => ∃ (a : Addr) (k : Int) (ns : List Int), vs = [.ref a, .int k] ∧ SqL K H a (ns.map V.int) ∧ 0 ≤ k ∧ k ≤ 100 ∧ ∀ p H', H p = none → Same H H' → Hand H' p → Q (.ref p) H'
theorem big_cps : ((Str.ofString "1") ++ strMul (Str.ofString "0") (Int.toNat 300)).cps.toList = 49 :: List.replicate 300 48 := by decide +kernel
theorem big_ex : ∃ B : Int, intText? ((Str.ofString "1") ++ strMul (Str.ofString "0") (Int.toNat 300)) = some B ∧ 0 < B := by
  have hd : NumText.AllDigits ((Str.ofString "1") ++ strMul (Str.ofString "0") (Int.toNat 300)).cps.toList := by
    rw [big_cps]
    intro c hc
    rcases List.mem_cons.mp hc with rfl | hc
    · decide
    · rw [List.eq_of_mem_replicate hc]; decide
  refine ⟨_, intText_digits hd (by rw [big_cps]; exact List.cons_ne_nil _ _) (by decide +kernel), ?_⟩
  have : 0 < NumText.digitsVal (49 :: List.replicate 300 48) := NumText.digitsVal_pos (Nat.le_refl _)
  rw [big_cps]
  exact Int.natCast_pos.mpr this
theorem big_len : ((Str.ofString "1") ++ strMul (Str.ofString "0") (Int.toNat 300)).length ≤ 640 := by decide +kernel
theorem ok_pot (F : Fun K "_law_pot" "_law_pot" (top 31) f fd) (m_abs : mg "abs" = none) (m_int : mg "int" = none) (m_len : mg "len" = none) : FnOk P w K mg base CX0 1 f fd ["_law_script", "_law_k"] (sp_pot K) := by
  refine F.ok sc_pot (fun vs H Q E h => ?_) (fun cdv A outer s H vs Q E hr h => ?_)
  · obtain ⟨a, k, ns, rfl, _⟩ := h; rfl
  obtain ⟨a, k, ns, rfl, hS, k0, k1, q⟩ := h
  have nd := sc_pot.nd
  have rest : ∃ t, PSs (cxOf CX0 P w K mg base ["_law_script", "_law_k", "_law_cell", "_law_great"] "_law_pot" (defScope (top 31)) f cdv A outer s H E).nox ((defBody (top 31)).drop 1) t ∧
      ∀ (v : Int), t { nx := fun _ H' => Q .non H', rt := Q } [some (.ref a), some (.int k), some (.int v), none] H := by
    refine ⟨_, (pss_cons (ps_set (i := 3) nd rfl (Or.inl rfl) (pe_op op_mulQ (pe_op op_modP (pcb_abs rfl m_abs (pa_cons (pn 2) pa_nil) rfl rfl) (pcb_intT rfl m_int (pa_cons (pe_op op_addP pe_str (pe_op op_mulS pe_str pe_int)) pa_nil) rfl rfl)) (pcb_int rfl m_int (pa_cons (pe_cmpR op_geP (pcb_abs rfl m_abs (pa_cons (pn 2) pa_nil) rfl rfl) (pe_op op_powP pe_int pe_int) (nomark _)) pa_nil) rfl rfl)))
      (pss_one (ps_ret (pe_lst (pa_cons (pn 3) (pa_cons (pe_op op_modP (pe_op op_mulQ (pe_op op_addP (pe_op op_addP (pe_op op_modP (pn 2) pe_int) (pe_op op_mulQ (pe_op op_mulQ pe_int (pn 1)) (pn 1))) pe_int) pe_int) pe_int) (pa_cons pe_int pa_nil))))))), ?_⟩
    intro v
    refine ⟨⟨by decide, by decide, by decide⟩, by decide, ?_⟩
    obtain ⟨B, hB, B0⟩ := big_ex
    refine ⟨B, hB, big_len, B0, ⟨by decide, by decide, by decide⟩, ?_⟩
    have e1 : 0 ≤ v % 2147483629 := Int.emod_nonneg _ (by decide)
    have e2 : v % 2147483629 < 2147483629 := Int.emod_lt_of_pos _ (by decide)
    have e3 : 0 ≤ 7919 * k * k := Int.mul_nonneg (Int.mul_nonneg (by decide) k0) k0
    have e4 : 7919 * k * k ≤ 7919 * 100 * 100 := Int.mul_le_mul (Int.mul_le_mul_of_nonneg_left k1 (by decide)) k1 k0 (by decide)
    have e5 : 0 ≤ (v % 2147483629 + 7919 * k * k + 11) * 48271 % 2147483647 := Int.emod_nonneg _ (by decide)
    have e6 : (v % 2147483629 + 7919 * k * k + 11) * 48271 % 2147483647 < 2147483647 := Int.emod_lt_of_pos _ (by decide)
    refine ⟨?_, (show (0 : Int) < 2147483629 by decide), mulL (by decide) (by decide), mulR (by omega) (by omega), mulR (by decide) (by decide), (show (0 : Int) < 2147483647 by decide), (by show 3 ≤ sizeLine; decide), fun p hp => ?_⟩
    · split <;> split <;> exact mulR (by decide) (by decide)
    · refine q p _ hp (Same.new hp _) ⟨_, _, 0, upd_same, ?_, e5, e6⟩
      have hz : B ≠ 0 := by omega
      split <;> split
      all_goals first
        | (rw [Int.mul_one]; exact Int.emod_nonneg _ hz)
        | (rw [Int.mul_zero]; decide)
  obtain ⟨t2, ht2, rest⟩ := rest
  refine ⟨_, (pss_cons (ps_set (i := 2) nd rfl (Or.inl rfl) (pe_ifExp (pt_cmpP op_ltP (pn 1) (pcb_len rfl m_len (pa_cons (pn 0) pa_nil) rfl rfl) (nomark _)) (pe_ix ix_P (pn 0) (pn 1) (fun _ _ => rfl)) pe_int))
      ht2), ?_⟩
  refine ⟨_, .inl hS, ?_⟩
  refine iteD (fun hk => ?_) (fun hk => ?_)
  · rw [List.length_map] at hk
    have hj : k.toNat < ns.length := by omega
    refine ⟨_, .inl hS, .int ns[k.toNat], atI_of (by omega) (getI hj), ?_⟩
    exact rest _
  · exact rest _
end
end K25
set_option Elab.async false
set_option linter.all false
set_option maxRecDepth 100000
set_option maxHeartbeats 4000000
namespace K25
open PySem L2 MRow M27 M80
theorem rep_flat (n : Nat) (x : Int) : (List.replicate n [V.int x]).flatten = (List.replicate n x).map V.int := by
  induction n with
  | zero => rfl
  | succ n ih => rw [List.replicate_succ, List.flatten_cons, ih, List.replicate_succ, List.map_cons]; rfl
theorem le_line {n : Nat} (h : n ≤ 1000) : n ≤ sizeLine := Nat.le_of_lt (small1000 h)
section
variable {P : Program} {w : World} {K : PySem.W.Frag} {mg : Str → Option Value} {base : Heap} {f : Addr} {fd : FuncData}
theorem sc_begun : FnScope ["most"] ["most"] (defScope (top 6)) := ⟨rfl, rfl, rfl, by decide +kernel, rfl, by decide +kernel, by decide +kernel⟩
noncomputable def sp_begun : Sp := fun vs H Q _ => ∃ n : Nat, vs = [.int n] ∧ n ≤ 1000 ∧ ∀ p H', H p = none → Same H H' → H' p = some (.lst ((tb dl (n + 1)).map V.int)) → Q (.ref p) H'
theorem fresh_back {H H' : Hp} {p : Addr} (y : Same H H') (h : H' p = none) : H p = none := by
  cases e : H p with
  | none => rfl
  | some o =>
    have := y _ _ e
    rw [h] at this
    cases this
theorem ok_begun (F : Fun K "begun" "begun" (top 6) f fd)  : FnOk P w K mg base CX0 1 f fd ["most"] sp_begun := by
  refine F.okz sc_begun (fun vs H Q E h => ?_) (fun cdv A outer s H vs Q E hr h => ?_)
  · obtain ⟨n, rfl, _⟩ := h; rfl
  obtain ⟨n, rfl, hn, q⟩ := h
  have nd := sc_begun.nd
  refine ⟨_, (zss_one (zs_ret (ze_op op_addP (ze_lst (za_cons ze_int za_nil)) (ze_op op_mulQ (ze_lst (za_cons ze_int za_nil)) (zn 0))))), ?_⟩
  refine ⟨by show 1 ≤ sizeLine; decide, fun d hd => ?_⟩
  have g1 := Same.new hd (.lst [.int 1])
  refine ⟨by show 1 ≤ sizeLine; decide, fun d2 hd2 => ?_⟩
  have g2 := Same.new hd2 (.lst [.int 0])
  refine ⟨⟨by omega, by omega⟩, .inl ⟨_, upd_same, le_line (by show 1 * (n : Int).toNat ≤ 1000; omega), fun d3 hd3 => ?_⟩⟩
  have g3 := Same.new hd3 (.lst (List.replicate (n : Int).toNat [V.int 0]).flatten)
  refine .inl ⟨_, _, g3 _ _ (g2 _ _ upd_same), upd_same, ?_, fun d4 hd4 => ?_⟩
  · rw [len_rep, sizeLine_eq]; show 1 + _ * 1 ≤ _; omega
  · refine q d4 _ (fresh_back ((g1.trans g2).trans g3) hd4) (((g1.trans g2).trans g3).trans (Same.new hd4 _)) ?_
    rw [upd_same, rep_flat, tb_dl]
    rfl
theorem sc_put_on : FnScope ["row", "size", "told", "n"] ["row", "size"] (defScope (top 7)) := ⟨rfl, rfl, rfl, by decide +kernel, rfl, by decide +kernel, by decide +kernel⟩
noncomputable def sp_put_on : Sp := fun vs H Q _ => ∃ (a : Addr) (s L : Nat) (g : Nat → Int), vs = [.ref a, .int s] ∧ 0 < s ∧ s ≤ 1000000 ∧ L ≤ 1000 ∧ H a = some (.lst ((tb g L).map V.int)) ∧ ∀ p H', H p = none → Same H H' → H' p = some (.lst ((tb (put g s) L).map V.int)) → Q (.ref p) H'
theorem ok_put_on (F : Fun K "put_on" "put_on" (top 7) f fd) (m_len : mg "len" = none) (m_list : mg "list" = none) (m_range : mg "range" = none) : FnOk P w K mg base CX0 1 f fd ["row", "size"] sp_put_on := by
  refine F.okz sc_put_on (fun vs H Q E h => ?_) (fun cdv A outer s H vs Q E hr h => ?_)
  · obtain ⟨a, z, L, g, rfl, _⟩ := h; rfl
  obtain ⟨a, z, L, g, rfl, hz, hz2, hL, ha, q⟩ := h
  have nd := sc_put_on.nd
  refine ⟨_, (zss_cons (zs_set (i := 2) nd rfl (Or.inl rfl) (zcb_list rfl m_list (za_cons (zn 0) za_nil) rfl rfl))
      (zss_cons (zs_for PassesOwn.never rfl (zi_range2 rfl m_range (za_cons (zn 1) (za_cons (zcb_len rfl m_len (za_cons (zn 0) za_nil) rfl rfl) za_nil))) (zg_name (i := 3) nd rfl (Or.inl rfl)) (zss_one (zs_augS (zn 2) (zn 3) get_list (ze_ix ix_P (zn 2) (ze_op op_subP (zn 3) (zn 1)) (fun _ _ => rfl)) ip_addP set_listP)))
      (zss_one (zs_ret (zn 2))))), ?_⟩
  refine ⟨_, .inl (SqL.of ha), fun p hp => ?_⟩
  have y0 := Same.new hp (.lst ((tb g L).map V.int))
  refine ⟨_, .inl (SqL.of (y0 _ _ ha)), ?_⟩
  rw [List.length_map, tb_len]
  refine ⟨(z : Int), (L : Int), rfl, ⟨by omega, by omega, by omega, by omega⟩, ?_⟩
  refine for_range (fun i σ H' => Same H H' ∧ H' p = some (.lst ((tb (up g (put g z) (z + i)) L).map V.int)) ∧ ∃ pp, σ = [some (.ref a), some (.int z), some (.ref p), pp]) ⟨y0, by rw [Nat.add_zero, up_start g hz]; exact upd_same, none, rfl⟩ ?_ ?_
  · rintro i σ H' hi ⟨y, hp', pp, rfl⟩
    have hn : z + i < L := by omega
    have hget : ∀ j, j < L → ((tb (up g (put g z) (z + i)) L).map V.int)[j]? = some (.int (up g (put g z) (z + i) j)) := fun j hj => by rw [List.getElem?_map, tb_get hj]; rfl
    have e1 : ((z : Int) + (i : Int)).toNat = z + i := by omega
    refine ⟨_, _, SqL.of hp', by omega, by rw [e1]; exact hget _ hn, ?_⟩
    refine ⟨_, .inl (SqL.of hp'), .int (up g (put g z) (z + i) i), atI_of (j := i) (by omega) (hget i (by omega)), ?_⟩
    refine ⟨_, hp', by omega, by rw [e1, List.length_map, tb_len]; exact hn, Same.updN y hp, ?_, _, rfl⟩
    rw [upd_same, e1]
    have e2 : up g (put g z) (z + i) (z + i) + up g (put g z) (z + i) i = put g z (z + i) := by
      unfold up
      rw [if_neg (Nat.lt_irrefl _), if_pos (by omega), put_eq g hz (z + i), if_pos (by omega), Nat.add_sub_cancel_left]
    dsimp only
    rw [e2, ← List.map_set, tb_set hn]
    rfl
  · rintro σ H' ⟨y, hp', pp, rfl⟩
    refine q p H' hp y ?_
    rw [hp', up_all _ _ (by omega)]
end
theorem tb_put {f : Nat → Int} {L n : Nat} (v : Int) (h : n < L) : (tb f L).set n v = tb (fun j => if j = n then v else f j) L := by
  refine List.ext_getElem (by rw [List.length_set, tb_len, tb_len]) fun j h1 h2 => ?_
  rw [List.getElem_set]
  by_cases e : n = j
  · rw [if_pos e, tb_at h2, if_pos e.symm]
  · rw [if_neg e, tb_at, tb_at, if_neg (Ne.symm e)]
section
variable {P : Program} {w : World} {K : PySem.W.Frag} {mg : Str → Option Value} {base : Heap} {f : Addr} {fd : FuncData}
theorem sc_to : FnScope ["row", "size", "told", "n"] ["row", "size"] (defScope (top 8)) := ⟨rfl, rfl, rfl, by decide +kernel, rfl, by decide +kernel, by decide +kernel⟩
noncomputable def sp_to : Sp := fun vs H Q _ => ∃ (a : Addr) (s L : Nat) (g : Nat → Int), vs = [.ref a, .int s] ∧ 0 < s ∧ s ≤ 1000000 ∧ L ≤ 1000 ∧ (H a = some (.lst ((tb g L).map V.int)) ∨ H a = some (.tup ((tb g L).map V.int))) ∧ ∀ p H', H p = none → Same H H' → H' p = some (.lst ((tb (off g s) L).map V.int)) → Q (.ref p) H'
theorem ok_to (F : Fun K "taken_off" "taken_off" (top 8) f fd) (m_len : mg "len" = none) (m_list : mg "list" = none) (m_range : mg "range" = none) : FnOk P w K mg base CX0 1 f fd ["row", "size"] sp_to := by
  refine F.okz sc_to (fun vs H Q E h => ?_) (fun cdv A outer s H vs Q E hr h => ?_)
  · obtain ⟨a, z, L, g, rfl, _⟩ := h; rfl
  obtain ⟨a, z, L, g, rfl, hz, hz2, hL, ha, q⟩ := h
  have nd := sc_to.nd
  refine ⟨_, (zss_cons (zs_set (i := 2) nd rfl (Or.inl rfl) (zcb_list rfl m_list (za_cons (zn 0) za_nil) rfl rfl))
      (zss_cons (zs_for PassesOwn.never rfl (zi_range3 rfl m_range (za_cons (ze_op op_subP (zcb_len rfl m_len (za_cons (zn 0) za_nil) rfl rfl) ze_int) (za_cons (ze_op op_subP (zn 1) ze_int) (za_cons (ze_un un_neg ze_int) za_nil)))) (zg_name (i := 3) nd rfl (Or.inl rfl)) (zss_one (zs_augS (zn 2) (zn 3) get_list (ze_ix ix_P (zn 2) (ze_op op_subP (zn 3) (zn 1)) (fun _ _ => rfl)) ip_subP set_listP)))
      (zss_one (zs_ret (zn 2))))), ?_⟩
  refine ⟨_, ha.elim (fun h => .inl (SqL.of h)) .inr, fun p hp => ?_⟩
  have y0 := Same.new hp (.lst ((tb g L).map V.int))
  refine ⟨_, ha.elim (fun h => .inl (SqL.of (y0 _ _ h))) (fun h => .inr (y0 _ _ h)), ?_⟩
  rw [List.length_map, tb_len]
  refine ⟨1, rfl, ?_⟩
  refine ⟨(L : Int) - 1, (z : Int) - 1, -1, rfl, ⟨by decide, ⟨by decide, by decide⟩, small_down (by omega) (by omega) (by omega) (by omega)⟩, ?_⟩
  rw [size_down]
  have eN : ((L : Int) - 1 - ((z : Int) - 1)).toNat = L - z := by omega
  rw [eN]
  refine for_rangeS (fun i σ H' => i ≤ L - z ∧ Same H H' ∧ H' p = some (.lst ((tb (fun n => if L ≤ n + i then off g z n else g n) L).map V.int)) ∧ ∃ pp, σ = [some (.ref a), some (.int z), some (.ref p), pp]) ⟨Nat.zero_le _, y0, ?_, none, rfl⟩ ?_ ?_
  · rw [upd_same]
    congr 3
    exact tb_ext fun j hj => by rw [if_neg (by omega)]
  · rintro i σ H' hi ⟨_, y, hp', pp, rfl⟩
    obtain ⟨n, en⟩ : ∃ n, L = n + 1 + i := ⟨L - 1 - i, by omega⟩
    have e0 : (L : Int) - 1 + (i : Int) * -1 = (n : Int) := by omega
    rw [e0]
    have hnz : z ≤ n := by omega
    have hget : ∀ j, j < L → ((tb (fun n => if L ≤ n + i then off g z n else g n) L).map V.int)[j]? = some (.int (if L ≤ j + i then off g z j else g j)) := fun j hj => by rw [List.getElem?_map, tb_get hj]; rfl
    have e1 : ((n : Int)).toNat = n := Int.toNat_natCast n
    refine ⟨_, _, SqL.of hp', by omega, by rw [e1]; exact hget n (by omega), ?_⟩
    refine ⟨_, .inl (SqL.of hp'), .int (if L ≤ (n - z) + i then off g z (n - z) else g (n - z)), atI_of (j := n - z) (by omega) (hget (n - z) (by omega)), ?_⟩
    refine ⟨_, hp', by omega, by rw [e1, List.length_map, tb_len]; omega, by omega, Same.updN y hp, ?_, _, rfl⟩
    rw [upd_same, e1]
    dsimp only
    rw [if_neg (by omega), if_neg (by omega), ← List.map_set, tb_put _ (by omega)]
    congr 3
    refine tb_ext fun j hj => ?_
    by_cases ej : j = n
    · rw [if_pos ej, if_pos (by omega), ej]
      unfold off
      rw [if_pos hnz]
    · rw [if_neg ej]
      by_cases h : L ≤ j + i
      · rw [if_pos h, if_pos (by omega)]
      · rw [if_neg h, if_neg (by omega)]
  · rintro σ H' ⟨_, y, hp', pp, rfl⟩
    refine q p H' hp y ?_
    rw [hp']
    congr 3
    refine tb_ext fun j hj => ?_
    by_cases h : L ≤ j + (L - z)
    · rw [if_pos h]
    · rw [if_neg h]
      unfold off
      rw [if_neg (by omega), Int.sub_zero]
noncomputable def nI (ss : List Nat) : List V := (ss.map fun (k : Nat) => (k : Int)).map V.int
theorem nI_len (ss : List Nat) : (nI ss).length = ss.length := by unfold nI; rw [List.length_map, List.length_map]
theorem nI_at {ss : List Nat} {i : Nat} {x : V} (h : (nI ss)[i]? = some x) : ∃ s, ss[i]? = some s ∧ x = .int (s : Int) := by
  unfold nI at h
  rw [List.getElem?_map, List.getElem?_map] at h
  cases e : ss[i]? with
  | none => rw [e] at h; cases h
  | some s => rw [e] at h; exact ⟨s, rfl, (Option.some.inj h).symm⟩
theorem sc_of_sizes : FnScope ["some", "most", "row", "size"] ["some", "most"] (defScope (top 16)) := ⟨rfl, rfl, rfl, by decide +kernel, rfl, by decide +kernel, by decide +kernel⟩
noncomputable def sp_of_sizes : Sp := fun vs H Q _ => ∃ (l : Addr) (ss : List Nat) (n : Nat), vs = [.ref l, .int n] ∧ (∀ x ∈ ss, 0 < x ∧ x ≤ 1000000) ∧ n ≤ 600 ∧ H l = some (.lst (nI ss)) ∧ ∀ p H', Same H H' → H' p = some (.lst ((tb (PL dl ss) (n + 1)).map V.int)) → Q (.ref p) H'
theorem ok_of_sizes (F : Fun K "of_sizes" "of_sizes" (top 16) f fd)  (F_begun : FnA P w K mg base "begun" 1 ["most"] sp_begun) (F_put_on : FnA P w K mg base "put_on" 1 ["row", "size"] sp_put_on) : FnOk P w K mg base CX0 2 f fd ["some", "most"] sp_of_sizes := by
  refine F.okz sc_of_sizes (fun vs H Q E h => ?_) (fun cdv A outer s H vs Q E hr h => ?_)
  · obtain ⟨l, ss, n, rfl, _⟩ := h; rfl
  obtain ⟨l, ss, n, rfl, hk, hn, hl, q⟩ := h
  have nd := sc_of_sizes.nd
  refine ⟨_, (zss_cons (zs_set (i := 2) nd rfl (Or.inl rfl) (ze_fn F_begun hr (by decide) rfl (za_cons (zn 1) za_nil)))
      (zss_cons (zs_for PassesOwn.never rfl (zi_list (zn 0)) (zg_name (i := 3) nd rfl (Or.inl rfl)) (zss_one (zs_set (i := 2) nd rfl (Or.inl rfl) (ze_fn F_put_on hr (by decide) rfl (za_cons (zn 2) (za_cons (zn 3) za_nil))))))
      (zss_one (zs_ret (zn 2))))), ?_⟩
  refine ⟨n, rfl, by omega, fun p H1 hp y1 hp1 => ?_⟩
  refine ⟨l, rfl, ⟨_, SqL.of (y1 _ _ hl)⟩, for_list (xs := nI ss) (fun i σ H' => Same H H' ∧ ∃ r p3, σ = [some (.ref l), some (.int n), some (.ref r), p3] ∧ H' r = some (.lst ((tb (PL dl (ss.take i)) (n + 1)).map V.int))) ⟨y1, p, _, rfl, hp1⟩ ?_ ?_ ?_⟩
  · rintro i σ H' _ ⟨y, _⟩
    exact SqL.of (y _ _ hl)
  · rintro i x σ H' hx ⟨y, r, p3, rfl, hr'⟩
    obtain ⟨z, hz, rfl⟩ := nI_at hx
    have hz2 := hk z (List.mem_of_getElem? hz)
    refine ⟨r, z, n + 1, PL dl (ss.take i), rfl, hz2.1, hz2.2, by omega, hr', fun p2 H2 hp2 y2 hp2' => ?_⟩
    refine ⟨y.trans y2, p2, _, rfl, ?_⟩
    rw [List.take_succ, hz, PL_app]
    exact hp2'
  · rintro σ H' ⟨y, r, p3, rfl, hr'⟩
    rw [nI_len, List.take_of_length_le (Nat.le_refl _)] at hr'
    exact q r H' y hr'
theorem sc_osb : FnScope ["some", "m", "most", "row", "size"] ["some", "m", "most"] (defScope (top 17)) := ⟨rfl, rfl, rfl, by decide +kernel, rfl, by decide +kernel, by decide +kernel⟩
noncomputable def sp_osb : Sp := fun vs H Q _ => ∃ (l : Addr) (ss : List Nat) (m n : Nat), vs = [.ref l, .int m, .int n] ∧ 0 < m ∧ m ≤ 1000 ∧ (∀ x ∈ ss, 0 < x ∧ x ≤ 1000) ∧ n ≤ 600 ∧ H l = some (.lst (nI ss)) ∧ ∀ p H', Same H H' → H' p = some (.lst ((tb (below m ss dl) (n + 1)).map V.int)) → Q (.ref p) H'
theorem below_app (m : Nat) (g : Nat → Int) (a b : List Nat) : below m (a ++ b) g = below m b (below m a g) := by unfold below; rw [List.foldl_append]
theorem ok_osb (F : Fun K "of_sizes_below" "of_sizes_below" (top 17) f fd)  (F_begun : FnA P w K mg base "begun" 1 ["most"] sp_begun) (F_put_on : FnA P w K mg base "put_on" 1 ["row", "size"] sp_put_on) (F_taken_off : FnA P w K mg base "taken_off" 1 ["row", "size"] sp_to) : FnOk P w K mg base CX0 2 f fd ["some", "m", "most"] sp_osb := by
  refine F.okz sc_osb (fun vs H Q E h => ?_) (fun cdv A outer s H vs Q E hr h => ?_)
  · obtain ⟨l, ss, m, n, rfl, _⟩ := h; rfl
  obtain ⟨l, ss, m, n, rfl, hm, hm2, hk, hn, hl, q⟩ := h
  have nd := sc_osb.nd
  refine ⟨_, (zss_cons (zs_set (i := 3) nd rfl (Or.inl rfl) (ze_fn F_begun hr (by decide) rfl (za_cons (zn 2) za_nil)))
      (zss_cons (zs_for PassesOwn.never rfl (zi_list (zn 0)) (zg_name (i := 4) nd rfl (Or.inl rfl)) (zss_one (zs_set (i := 3) nd rfl (Or.inl rfl) (ze_fn F_taken_off hr (by decide) rfl (za_cons (ze_fn F_put_on hr (by decide) rfl (za_cons (zn 3) (za_cons (zn 4) za_nil))) (za_cons (ze_op op_mulQ (zn 1) (zn 4)) za_nil))))))
      (zss_one (zs_ret (zn 3))))), ?_⟩
  refine ⟨n, rfl, by omega, fun p H1 hp y1 hp1 => ?_⟩
  refine ⟨l, rfl, ⟨_, SqL.of (y1 _ _ hl)⟩, for_list (xs := nI ss) (fun i σ H' => Same H H' ∧ ∃ r p4, σ = [some (.ref l), some (.int m), some (.int n), some (.ref r), p4] ∧ H' r = some (.lst ((tb (below m (ss.take i) dl) (n + 1)).map V.int))) ⟨y1, p, _, rfl, hp1⟩ ?_ ?_ ?_⟩
  · rintro i σ H' _ ⟨y, _⟩
    exact SqL.of (y _ _ hl)
  · rintro i x σ H' hx ⟨y, r, p4, rfl, hr'⟩
    obtain ⟨z, hz, rfl⟩ := nI_at hx
    have hz2 := hk z (List.mem_of_getElem? hz)
    refine ⟨r, z, n + 1, _, rfl, hz2.1, by omega, by omega, hr', fun p2 H2 hp2 y2 hp2' => ?_⟩
    refine ⟨mulL (by omega) (by omega), ?_⟩
    have e3 : (m : Int) * (z : Int) = ((m * z : Nat) : Int) := by rw [Int.natCast_mul]
    have h1 : m * z ≤ 1000 * 1000 := Nat.mul_le_mul hm2 hz2.2
    refine ⟨p2, m * z, n + 1, _, by rw [← e3], Nat.mul_pos hm hz2.1, by omega, by omega, .inl hp2', fun p3 H3 hp3 y3 hp3' => ?_⟩
    refine ⟨y.trans (y2.trans y3), p3, _, rfl, ?_⟩
    rw [List.take_succ, hz, below_app]
    exact hp3'
  · rintro σ H' ⟨y, r, p4, rfl, hr'⟩
    rw [nI_len, List.take_of_length_le (Nat.le_refl _)] at hr'
    exact q r H' y hr'
end
end K25
set_option Elab.async false
set_option linter.all false
set_option maxRecDepth 100000
set_option maxHeartbeats 4000000
namespace K25
open PySem L2 MRow M27 M80 M17 M12
theorem zss_never {X : Cx} {sts : List Stmt} : ZSs X sts tNever := by with_unfolding_all exact pss_never
inductive Kn where
  | all
  | most (k : Nat)
  | times (m : Nat)
  | rests (m : Nat) (rs : List Int)
  | few (k : Nat)
  | box (k l : Nat)
  | off (d : Nat)
  | own
noncomputable def Kn.Ok : Kn → Prop
  | .all => True
  | .most k => k ≤ 600
  | .times m => 0 < m ∧ m ≤ 1000
  | .rests m _ => 0 < m ∧ m ≤ 1000
  | .few k => k ≤ 600
  | .box k l => k ≤ 600 ∧ l ≤ 600
  | .off d => 1 ≤ d ∧ d ≤ 600
  | .own => True
noncomputable def KnAt (H : Hp) (c : Addr) : Kn → Prop
  | .all => H c = some (.tup [.str "all"])
  | .most k => H c = some (.tup [.str "most", .int k])
  | .times m => H c = some (.tup [.str "times", .int m])
  | .few k => H c = some (.tup [.str "few", .int k])
  | .box k l => H c = some (.tup [.str "box", .int k, .int l])
  | .off d => H c = some (.tup [.str "off", .int d])
  | .own => H c = some (.tup [.str "own"])
  | .rests m rs => ∃ d, H c = some (.tup [.str "rests", .int m, .ref d]) ∧ H d = some (.tup (rs.map V.int))
theorem KnAt.same {H H' : Hp} {c : Addr} {k : Kn} (h : KnAt H c k) (y : Same H H') : KnAt H' c k := by
  cases k with
  | all => exact y _ _ h
  | most k => exact y _ _ h
  | times m => exact y _ _ h
  | rests m rs => obtain ⟨d, h1, h2⟩ := h; exact ⟨d, y _ _ h1, y _ _ h2⟩
  | few k => exact y _ _ h
  | box k l => exact y _ _ h
  | off d => exact y _ _ h
  | own => exact y _ _ h
noncomputable def cf : Kn → Nat → Nat → Int
  | .all, n => PL dl (ups n)
  | .most k, n => PL dl (ups (min k n))
  | .times m, n => below m (ups n) dl
  | .rests m rs, n => PL dl (rsz m rs n)
  | .few k, n => PL dl (ups (min k n))
  | .box k l, n => bx l (min k n)
  | .off d, _ => fow d
  | .own, n => below 2 (odds n) dl
theorem in_ints (p : Int) (ns : List Int) : inV (.int p) (ns.map V.int) = decide (p ∈ ns) := by
  unfold inV
  rw [List.any_map]
  induction ns with
  | nil => rfl
  | cons n r ih =>
    rw [List.any_cons, ih]
    show (n == p || decide (p ∈ r)) = _
    by_cases h : n = p
    · subst h; simp
    · have : (n == p) = false := by simpa using h
      rw [this, Bool.false_or]
      have h' : ¬ p = n := fun e => h e.symm
      simp [h']
theorem flat_ints (ns : List Int) : (ns.map V.int).all flatV = true := by
  rw [List.all_map]
  exact List.all_eq_true.mpr fun _ _ => rfl
theorem ups_nI (n : Nat) : ((List.range n).map fun (k : Nat) => (1 : Int) + (k : Int) * 1).map V.int = nI (ups n) := by
  unfold nI ups
  rw [List.map_map, List.map_map, List.map_map]
  refine List.map_congr_left fun k _ => ?_
  show V.int (1 + (k : Int) * 1) = V.int ((k + 1 : Nat) : Int)
  congr 1
  omega
theorem ups_len (n : Nat) : (ups n).length = n := by unfold ups; simp
theorem rsz_succ (m : Nat) (rs : List Int) (n : Nat) : rsz m rs (n + 1) = rsz m rs n ++ if ((n + 1 : Nat) : Int) % (m : Int) ∈ rs then [n + 1] else [] := by
  unfold rsz
  rw [ups_succ, List.filter_append]
  congr 1
  by_cases h : ((n + 1 : Nat) : Int) % (m : Int) ∈ rs
  · rw [if_pos h, List.filter_cons_of_pos (p := fun s : Nat => decide ((s : Int) % (m : Int) ∈ rs)) (decide_eq_true h)]; rfl
  · rw [if_neg h, List.filter_cons_of_neg (p := fun s : Nat => decide ((s : Int) % (m : Int) ∈ rs)) (by simpa using h)]; rfl
theorem rsz_len (m : Nat) (rs : List Int) (n : Nat) : (rsz m rs n).length ≤ n := by
  have := List.length_filter_le (fun s : Nat => decide ((s : Int) % (m : Int) ∈ rs)) (ups n)
  rw [ups_len] at this
  exact this
theorem odds_nI (n : Nat) : ((List.range ((n + 1) / 2)).map fun (k : Nat) => (1 : Int) + (k : Int) * 2).map V.int = nI (odds n) := by
  unfold nI odds
  rw [List.map_map, List.map_map, List.map_map]
  refine List.map_congr_left fun k _ => ?_
  show V.int (1 + (k : Int) * 2) = V.int ((2 * k + 1 : Nat) : Int)
  congr 1
  omega
theorem size_two (n : Nat) : (Builtin.Range.rangeSize 1 ((n : Int) + 1) 2).toNat = (n + 1) / 2 := by
  rw [size_up (by decide)]
  split <;> omega
theorem size_one (c : Nat) : (Builtin.Range.rangeSize 1 ((c : Int) + 1) 1).toNat = c := by
  rw [size_up (by decide)]
  by_cases h : (1 : Int) < (c : Int) + 1
  · rw [if_pos h, Int.ediv_one]; omega
  · rw [if_neg h]; omega
section
variable {P : Program} {w : World} {K : PySem.W.Frag} {mg : Str → Option Value} {base : Heap} {f : Addr} {fd : FuncData}
theorem sc_ib : FnScope ["k", "l", "most", "row", "i"] ["k", "l", "most"] (defScope (top 18)) := ⟨rfl, rfl, rfl, by decide +kernel, rfl, by decide +kernel, by decide +kernel⟩
noncomputable def sp_ib : Sp := fun vs H Q _ => ∃ k l n : Nat, vs = [.int k, .int l, .int n] ∧ k ≤ 600 ∧ l ≤ 600 ∧ n ≤ 600 ∧ ∀ p H', Same H H' → H' p = some (.lst ((tb (bx l (min k n)) (n + 1)).map V.int)) → Q (.ref p) H'
theorem ok_ib (F : Fun K "in_box" "in_box" (top 18) f fd) (m_min : mg "min" = none) (m_range : mg "range" = none) (F_begun : FnA P w K mg base "begun" 1 ["most"] sp_begun) (F_put_on : FnA P w K mg base "put_on" 1 ["row", "size"] sp_put_on) (F_taken_off : FnA P w K mg base "taken_off" 1 ["row", "size"] sp_to) : FnOk P w K mg base CX0 2 f fd ["k", "l", "most"] sp_ib := by
  refine F.okz sc_ib (fun vs H Q E h => ?_) (fun cdv A outer s H vs Q E hr h => ?_)
  · obtain ⟨k, l, n, rfl, _⟩ := h; rfl
  obtain ⟨k, l, n, rfl, hk, hl, hn, q⟩ := h
  have nd := sc_ib.nd
  refine ⟨_, (zss_cons (zs_set (i := 3) nd rfl (Or.inl rfl) (ze_fn F_begun hr (by decide) rfl (za_cons (zn 2) za_nil)))
      (zss_cons (zs_for PassesOwn.never rfl (zi_range2 rfl m_range (za_cons ze_int (za_cons (ze_op op_addP (zcb_min rfl rfl m_min (za_cons (zn 0) (za_cons (zn 2) za_nil)) rfl rfl) ze_int) za_nil))) (zg_name (i := 4) nd rfl (Or.inl rfl)) (zss_one (zs_set (i := 3) nd rfl (Or.inl rfl) (ze_fn F_taken_off hr (by decide) rfl (za_cons (ze_fn F_put_on hr (by decide) rfl (za_cons (zn 3) (za_cons (zn 4) za_nil))) (za_cons (ze_op op_addP (zn 1) (zn 4)) za_nil))))))
      (zss_one (zs_ret (zn 3))))), ?_⟩
  refine ⟨n, rfl, by omega, fun p0 H1 hp0 y1 hr1 => ?_⟩
  have ec : (if (n : Int) < (k : Int) then (n : Int) else (k : Int)) = ((min k n : Nat) : Int) := by split <;> omega
  refine ⟨1, (if (n : Int) < (k : Int) then (n : Int) else (k : Int)) + 1, rfl, ⟨by omega, by omega, by omega, by omega⟩, ?_⟩
  have eN : ((if (n : Int) < (k : Int) then (n : Int) else (k : Int)) + 1 - 1).toNat = min k n := by omega
  rw [eN]
  refine for_range (fun i σ H' => i ≤ min k n ∧ Same H H' ∧ ∃ (r : Addr) (x4 : Option V), σ = [some (.int k), some (.int l), some (.int n), some (.ref r), x4] ∧ H' r = some (.lst ((tb (bx l i) (n + 1)).map V.int))) ⟨Nat.zero_le _, y1, p0, _, rfl, hr1⟩ ?_ ?_
  · rintro i σ H' hi ⟨_, y, r, x4, rfl, hr'⟩
    have ek : (1 : Int) + (i : Int) = ((i + 1 : Nat) : Int) := by omega
    rw [ek]
    refine ⟨r, i + 1, n + 1, bx l i, rfl, by omega, by omega, by omega, hr', fun p2 H2 _ y2 hp2 => ?_⟩
    refine ⟨p2, l + (i + 1), n + 1, _, congrArg (fun z => [V.ref p2, V.int z]) (Int.natCast_add l (i + 1)).symm, by omega, by omega, by omega, .inl hp2, fun p3 H3 _ y3 hp3 => ?_⟩
    exact ⟨by omega, (y.trans y2).trans y3, p3, _, rfl, by rw [bx_succ]; exact hp3⟩
  · rintro σ H' ⟨_, y, r, x4, rfl, hr'⟩
    exact q r H' y hr'
theorem sc_fb : FnScope ["d", "most", "told", "row", "many", "least", "n"] ["d", "most"] (defScope (top 19)) := ⟨rfl, rfl, rfl, by decide +kernel, rfl, by decide +kernel, by decide +kernel⟩
noncomputable def sp_fb : Sp := fun vs H Q _ => ∃ d n : Nat, vs = [.int d, .int n] ∧ d ≤ 600 ∧ n ≤ 600 ∧ ∀ p H', Same H H' → H' p = some (.lst ((tb (fow d) (n + 1)).map V.int)) → Q (.ref p) H'
theorem ok_fb (F : Fun K "falling_by" "falling_by" (top 19) f fd) (m_range : mg "range" = none) (F_begun : FnA P w K mg base "begun" 1 ["most"] sp_begun) (F_put_on : FnA P w K mg base "put_on" 1 ["row", "size"] sp_put_on) : FnOk P w K mg base CX0 2 f fd ["d", "most"] sp_fb := by
  refine F.okz sc_fb (fun vs H Q E h => ?_) (fun cdv A outer s H vs Q E hr h => ?_)
  · obtain ⟨d, n, rfl, _⟩ := h; rfl
  obtain ⟨dd, n, rfl, hd6, hn, q⟩ := h
  have nd := sc_fb.nd
  refine ⟨_, (zss_cons (zs_set (i := 2) nd rfl (Or.inl rfl) (ze_op op_mulQ (ze_lst (za_cons ze_int za_nil)) (ze_op op_addP (zn 1) ze_int)))
      (zss_cons (zs_set (i := 3) nd rfl (Or.inl rfl) (ze_fn F_begun hr (by decide) rfl (za_cons (zn 1) za_nil)))
      (zss_cons (zs_set (i := 4) nd rfl (Or.inl rfl) ze_int)
      (zss_cons (zs_set (i := 5) nd rfl (Or.inl rfl) ze_int)
      (zss_cons (zs_while PassesOwn.never (zt_cmpP op_leP (zn 5) (zn 1) (nomark _)) (zss_cons (zs_for PassesOwn.never rfl (zi_range2 rfl m_range (za_cons (zn 5) (za_cons (ze_op op_addP (zn 1) ze_int) za_nil))) (zg_name (i := 6) nd rfl (Or.inl rfl)) (zss_one (zs_augS (zn 2) (zn 6) get_list (ze_ix ix_P (zn 3) (ze_op op_subP (zn 6) (zn 5)) (fun _ _ => rfl)) ip_addP set_listP)))
      (zss_cons (zs_aug (i := 5) nd rfl (Or.inl rfl) (ze_op op_addP ze_int (ze_op op_mulQ (zn 0) (zn 4))) ip_addP)
      (zss_cons (zs_aug (i := 4) nd rfl (Or.inl rfl) ze_int ip_addP)
      (zss_one (zs_set (i := 3) nd rfl (Or.inl rfl) (ze_fn F_put_on hr (by decide) rfl (za_cons (zn 3) (za_cons (zn 4) za_nil)))))))))
      (zss_one (zs_ret (zn 2)))))))), ?_⟩
  refine ⟨by show 1 ≤ sizeLine; decide, fun d hd => ?_⟩
  have yd := Same.new hd (.lst [V.int 0])
  have e1 : ((n : Int) + 1).toNat = n + 1 := by omega
  refine ⟨⟨by omega, by omega⟩, .inl ⟨_, upd_same, le_line (by show 1 * ((n : Int) + 1).toNat ≤ 1000; omega), fun T hT => ?_⟩⟩
  rw [rep_flat, e1]
  have yT := Same.new hT (.lst ((List.replicate (n + 1) (0 : Int)).map V.int))
  have hTH : H T = none := fresh_back yd hT
  have yT2 := yd.trans yT
  have gT : upd (upd H d (.lst [V.int 0])) T (.lst ((List.replicate (n + 1) (0 : Int)).map V.int)) T = some (.lst ((tb (fq dd 0) (n + 1)).map V.int)) := by
    rw [upd_same]
    congr 3
    show _ = (List.range (n + 1)).map fun _ => (0 : Int)
    rw [List.map_const', List.length_range]
  generalize upd (upd H d (.lst [V.int 0])) T (.lst ((List.replicate (n + 1) (0 : Int)).map V.int)) = H1 at yT yT2 gT
  refine ⟨n, rfl, by omega, fun R0 H2 hR0 y2 hR2 => ?_⟩
  have RT : R0 ≠ T := fun z => by rw [z, gT] at hR0; cases hR0
  refine while_by2 (fun m σ H' => ∃ (k : Nat) (R : Addr) (x6 : Option V), m = n + 1 - Ls dd k ∧ k ≤ 602 ∧ Same H H' ∧ R ≠ T ∧ H' T = some (.lst ((tb (fq dd k) (n + 1)).map V.int)) ∧ H' R = some (.lst ((tb (PL dl (ups k)) (n + 1)).map V.int)) ∧ σ = [some (.int dd), some (.int n), some (.ref T), some (.ref R), some (.int k), some (.int (Ls dd k)), x6]) (n + 1)
    ⟨0, R0, none, rfl, by decide, yT2.trans y2, RT, y2 _ _ gT, hR2, rfl⟩ ?_
  rintro m σ H' ⟨k, R, x6, rfl, hk, y, RT', hT', hR', rfl⟩
  have lk := Ls_ge dd k
  refine iteD (fun c => ?_) (fun c => ?_)
  · have hl : Ls dd k ≤ n := by have c' : (Ls dd k : Int) ≤ (n : Int) := c; omega
    refine ⟨fun σ' H' => ∃ m', m' < n + 1 - Ls dd k ∧ ∃ (k : Nat) (R : Addr) (x6 : Option V), m' = n + 1 - Ls dd k ∧ k ≤ 602 ∧ Same H H' ∧ R ≠ T ∧ H' T = some (.lst ((tb (fq dd k) (n + 1)).map V.int)) ∧ H' R = some (.lst ((tb (PL dl (ups k)) (n + 1)).map V.int)) ∧ σ' = [some (.int dd), some (.int n), some (.ref T), some (.ref R), some (.int k), some (.int (Ls dd k)), x6], fun σ' H' h => h, ?_⟩
    have eft : ∀ j, fq dd (k + 1) j = fq dd k j + if Ls dd k ≤ j then PL dl (ups k) (j - Ls dd k) else 0 := fun j => rfl
    have el1 : Ls dd (k + 1) = Ls dd k + 1 + dd * k := rfl
    generalize Ls dd k = l at hl lk eft el1
    generalize fq dd k = ft at hT' eft
    generalize eft2 : fq dd (k + 1) = ft2 at eft
    refine ⟨(l : Int), (n : Int) + 1, rfl, ⟨by omega, by omega, by omega, by omega⟩, ?_⟩
    have eN : ((n : Int) + 1 - (l : Int)).toNat = n + 1 - l := by omega
    rw [eN]
    refine for_range (fun i σ H' => i ≤ n + 1 - l ∧ Same H H' ∧ H' T = some (.lst ((tb (up ft ft2 (l + i)) (n + 1)).map V.int)) ∧ H' R = some (.lst ((tb (PL dl (ups k)) (n + 1)).map V.int)) ∧ ∃ x6, σ = [some (.int dd), some (.int n), some (.ref T), some (.ref R), some (.int k), some (.int l), x6]) ⟨Nat.zero_le _, y, ?_, hR', _, rfl⟩ ?_ ?_
    · rw [hT']
      congr 3
      refine tb_ext fun j _ => ?_
      unfold up
      rw [Nat.add_zero]
      split
      · rw [eft, if_neg (by omega), Int.add_zero]
      · rfl
    · rintro i σ H3 hi ⟨_, y3, hT3, hR3, x6, rfl⟩
      have e2 : ((l : Int) + (i : Int)).toNat = l + i := by omega
      have hli : l + i < n + 1 := by omega
      refine ⟨_, .int (up ft ft2 (l + i) (l + i)), SqL.of hT3, by omega, by rw [e2, List.getElem?_map, tb_get hli]; rfl, ?_⟩
      refine ⟨_, .inl (SqL.of hR3), .int (PL dl (ups k) i), atI_of (j := i) (by omega) (by rw [List.getElem?_map, tb_get (by omega)]; rfl), ?_⟩
      refine ⟨_, hT3, by omega, by rw [e2, List.length_map, tb_len]; exact hli, by omega, Same.updN y3 hTH, ?_, by rw [upd_ne RT']; exact hR3, _, rfl⟩
      rw [upd_same, e2]
      have e3 : up ft ft2 (l + i) (l + i) + PL dl (ups k) i = ft2 (l + i) := by
        unfold up
        rw [if_neg (Nat.lt_irrefl _), eft, if_pos (by omega), Nat.add_sub_cancel_left]
      dsimp only
      rw [e3, ← List.map_set, tb_set hli]
      rfl
    · rintro σ H3 ⟨_, y3, hT3, hR3, x6, rfl⟩
      rw [up_all _ _ (by omega)] at hT3
      refine ⟨_, rfl, mulL (by omega) (by omega), ?_⟩
      refine ⟨_, rfl, ?_⟩
      have ek : (k : Int) + 1 = ((k + 1 : Nat) : Int) := by omega
      refine ⟨R, k + 1, n + 1, PL dl (ups k), by rw [← ek], by omega, by omega, by omega, hR3, fun R2 H4 hR2' y4 hR4 => ?_⟩
      have e5 : (l : Int) + (1 + (dd : Int) * (k : Int)) = ((Ls dd (k + 1) : Nat) : Int) := by rw [el1, Int.natCast_add, Int.natCast_add, Int.natCast_mul]; omega
      refine ⟨n + 1 - Ls dd (k + 1), by rw [el1]; omega, k + 1, R2, x6, rfl, by omega, y3.trans y4, (fun z => by rw [z, hT3] at hR2'; cases hR2'), by rw [eft2]; exact y4 _ _ hT3, by rw [R_succ]; exact hR4, ?_⟩
      show [some (V.int dd), some (.int n), some (.ref T), some (.ref R2), some (.int ((k : Int) + 1)), some (.int ((l : Int) + (1 + (dd : Int) * (k : Int)))), x6] = _
      rw [e5, ek]
  · refine q T H' y ?_
    rw [hT']
    congr 3
    exact tb_ext fun j hj => fow_is (n := n) (by have c' : ¬ ((Ls dd k : Nat) : Int) ≤ (n : Int) := c; omega) hk (by omega)
theorem sc_counted : FnScope ["kind", "most", "word"] ["kind", "most"] (defScope (top 20)) := ⟨rfl, rfl, rfl, by decide +kernel, rfl, by decide +kernel, by decide +kernel⟩
noncomputable def sp_counted : Sp := fun vs H Q _ => ∃ (c : Addr) (n : Nat) (k : Kn), vs = [.ref c, .int n] ∧ n ≤ 600 ∧ KnAt H c k ∧ k.Ok ∧ ∀ p H', Same H H' → H' p = some (.lst ((tb (cf k n) (n + 1)).map V.int)) → Q (.ref p) H'
theorem ok_counted (F : Fun K "counted" "counted" (top 20) f fd) (m_list : mg "list" = none) (m_min : mg "min" = none) (m_range : mg "range" = none) (F_falling_by : FnA P w K mg base "falling_by" 2 ["d", "most"] sp_fb) (F_in_box : FnA P w K mg base "in_box" 2 ["k", "l", "most"] sp_ib) (F_of_sizes : FnA P w K mg base "of_sizes" 2 ["some", "most"] sp_of_sizes) (F_of_sizes_below : FnA P w K mg base "of_sizes_below" 2 ["some", "m", "most"] sp_osb) : FnOk P w K mg base CX0 3 f fd ["kind", "most"] sp_counted := by
  refine F.okz sc_counted (fun vs H Q E h => ?_) (fun cdv A outer s H vs Q E hr h => ?_)
  · obtain ⟨k, n, kd, rfl, _⟩ := h; rfl
  obtain ⟨c, n, k, rfl, hn, hk, hok, q⟩ := h
  have nd := sc_counted.nd
  have hu := hr.units
  cases k with
  | all =>
    refine ⟨_, (zss_cons (zs_set (i := 2) nd rfl (Or.inl rfl) (ze_ix ix_P (zn 0) ze_int (fun _ _ => rfl)))
      (zss_cons (zs_if (zt_cmpP (op_eqD hu) (zn 2) ze_str (nomark _)) zss_never zss_nil)
      (zss_cons (zs_if (zt_cmpP (op_eqD hu) (zn 2) ze_str (nomark _)) zss_never zss_nil)
      (zss_cons (zs_if (zt_cmpP (op_eqD hu) (zn 2) ze_str (nomark _)) zss_never zss_nil)
      (zss_cons (zs_if (zt_cmpP (op_eqD hu) (zn 2) ze_str (nomark _)) zss_never zss_nil)
      (zss_cons (zs_if (zt_cmpP (op_eqD hu) (zn 2) ze_str (nomark _)) zss_never zss_nil)
      (zss_cons (zs_if (zt_cmpP (op_eqD hu) (zn 2) ze_str (nomark _)) (zss_one (zs_ret (ze_fn F_of_sizes hr (by decide) rfl (za_cons (zcb_lrange rfl rfl m_list (za_cons (zcb_range rfl m_range (za_cons ze_int (za_cons (ze_op op_addP (zn 1) ze_int) za_nil)) rfl rfl) za_nil) rfl rfl) (za_cons (zn 1) za_nil))))) zss_nil)
      zss_never))))))), ?_⟩
    refine ⟨_, .inr hk, .str "all", rfl, ?_⟩
    refine fun rp hrp => ?_
    have g1 := Same.new hrp (rngO rp 1 ((n : Int) + 1) 1)
    refine ⟨1, (n : Int) + 1, 1, upd_same, small_up (by decide) (by decide) (by decide) (by decide) (by omega) (by omega), by decide, by rw [size_one]; omega, fun l hl => ?_⟩
    rw [size_one, ups_nI]
    have g2 := Same.new hl (.lst (nI (ups n)))
    exact ⟨l, ups n, n, rfl, fun x hx => by have := ups_pos hx; omega, hn, upd_same, fun p H' y hp => q p H' ((g1.trans g2).trans y) hp⟩
  | times m =>
    refine ⟨_, (zss_cons (zs_set (i := 2) nd rfl (Or.inl rfl) (ze_ix ix_P (zn 0) ze_int (fun _ _ => rfl)))
      (zss_cons (zs_if (zt_cmpP (op_eqD hu) (zn 2) ze_str (nomark _)) zss_never zss_nil)
      (zss_cons (zs_if (zt_cmpP (op_eqD hu) (zn 2) ze_str (nomark _)) zss_never zss_nil)
      (zss_cons (zs_if (zt_cmpP (op_eqD hu) (zn 2) ze_str (nomark _)) zss_never zss_nil)
      (zss_cons (zs_if (zt_cmpP (op_eqD hu) (zn 2) ze_str (nomark _)) (zss_one (zs_ret (ze_fn F_of_sizes_below hr (by decide) rfl (za_cons (zcb_lrange rfl rfl m_list (za_cons (zcb_range rfl m_range (za_cons ze_int (za_cons (ze_op op_addP (zn 1) ze_int) za_nil)) rfl rfl) za_nil) rfl rfl) (za_cons (ze_ix ix_P (zn 0) ze_int (fun _ _ => rfl)) (za_cons (zn 1) za_nil)))))) zss_nil)
      (zss_cons (zs_if (zt_cmpP (op_eqD hu) (zn 2) ze_str (nomark _)) zss_never zss_nil)
      (zss_cons (zs_if (zt_cmpP (op_eqD hu) (zn 2) ze_str (nomark _)) zss_never zss_nil)
      zss_never))))))), ?_⟩
    refine ⟨_, .inr hk, .str "times", rfl, ?_⟩
    refine fun rp hrp => ?_
    have g1 := Same.new hrp (rngO rp 1 ((n : Int) + 1) 1)
    refine ⟨1, (n : Int) + 1, 1, upd_same, small_up (by decide) (by decide) (by decide) (by decide) (by omega) (by omega), by decide, by rw [size_one]; omega, fun l hl => ?_⟩
    rw [size_one, ups_nI]
    have g2 := Same.new hl (.lst (nI (ups n)))
    refine ⟨_, .inr ((g1.trans g2) _ _ hk), .int m, rfl, ?_⟩
    exact ⟨l, ups n, m, n, rfl, hok.1, hok.2, fun x hx => by have := ups_pos hx; omega, hn, upd_same, fun p H' y hp => q p H' ((g1.trans g2).trans y) hp⟩
  | rests m rs =>
    obtain ⟨d, hk, hd⟩ := hk
    refine ⟨_, (zss_cons (zs_set (i := 2) nd rfl (Or.inl rfl) (ze_ix ix_P (zn 0) ze_int (fun _ _ => rfl)))
      (zss_cons (zs_if (zt_cmpP (op_eqD hu) (zn 2) ze_str (nomark _)) zss_never zss_nil)
      (zss_cons (zs_if (zt_cmpP (op_eqD hu) (zn 2) ze_str (nomark _)) zss_never zss_nil)
      (zss_cons (zs_if (zt_cmpP (op_eqD hu) (zn 2) ze_str (nomark _)) zss_never zss_nil)
      (zss_cons (zs_if (zt_cmpP (op_eqD hu) (zn 2) ze_str (nomark _)) zss_never zss_nil)
      (zss_cons (zs_if (zt_cmpP (op_eqD hu) (zn 2) ze_str (nomark _)) (zss_one (zs_ret (ze_fn F_of_sizes hr (by decide) rfl (za_cons (ze_comp ["size"] [("kind", 0)] rfl ⟨rfl, by decide +kernel, by decide +kernel, rfl, rfl⟩ (zi_range2 rfl m_range (za_cons ze_int (za_cons (ze_op op_addP (zn 1) ze_int) za_nil))) kpg_name (fun _ _ _ _ => zg_name (i := 0) (show List.Nodup (["size", "kind"] : List Str) by decide +kernel) rfl (Or.inl rfl)) (fun _ _ _ _ => (zif_one (zt_cmpP (op_in_seq' rfl) (ze_op op_modP (zn 0) (ze_ix (ix_P' rfl) (zn 1) ze_int (fun _ _ => rfl))) (ze_ix (ix_P' rfl) (zn 1) ze_int (fun _ _ => rfl)) (by with_unfolding_all rfl)))) (fun _ _ _ _ => (zn 0))) (za_cons (zn 1) za_nil))))) zss_nil)
      (zss_cons (zs_if (zt_cmpP (op_eqD hu) (zn 2) ze_str (nomark _)) zss_never zss_nil)
      zss_never))))))), ?_⟩
    refine ⟨_, .inr hk, .str "rests", rfl, ?_⟩
    refine ⟨1, (n : Int) + 1, rfl, ⟨by omega, by omega, by omega, by omega⟩, ?_⟩
    have eN : ((n : Int) + 1 - 1).toNat = n := by omega
    rw [eN]
    refine cmp_range (fun i zs H' => i ≤ n ∧ H' = H ∧ zs = nI (rsz m rs i)) ⟨Nat.zero_le _, rfl, rfl⟩ ?_ ?_
    · rintro i zs H' hi ⟨_, rfl, rfl⟩
      have e1 : (1 : Int) + (i : Int) = ((i + 1 : Nat) : Int) := by omega
      have := rsz_len m rs i
      refine ⟨by rw [nI_len]; exact small1000 (by omega), ?_⟩
      refine ⟨_, .inr hk, .int m, rfl, (show (0 : Int) < (m : Int) by have := hok.1; omega), ?_⟩
      refine ⟨_, .inr hk, .ref d, rfl, ?_⟩
      refine ⟨d, _, rfl, .inr (SqT.of hd), rfl, flat_ints rs, ?_⟩
      rw [in_ints, e1]
      show if (decide (((i + 1 : Nat) : Int) % (m : Int) ∈ rs)) = true then _ else _
      refine iteB (fun c => ?_) (fun c => ?_)
      · refine ⟨by omega, rfl, ?_⟩
        rw [rsz_succ, if_pos (of_decide_eq_true c)]
        unfold nI
        rw [List.map_append, List.map_append]
        rfl
      · refine ⟨by omega, rfl, ?_⟩
        rw [rsz_succ, if_neg (by simpa using c), List.append_nil]
    · rintro zs H' ⟨_, rfl, rfl⟩ D hD
      exact ⟨D, rsz m rs n, n, rfl, fun x hx => by have := ups_pos (List.mem_filter.mp hx).1; omega, hn, upd_same, fun p H2 y hp => q p H2 ((Same.new hD _).trans y) hp⟩
  | most k =>
    refine ⟨_, (zss_cons (zs_set (i := 2) nd rfl (Or.inl rfl) (ze_ix ix_P (zn 0) ze_int (fun _ _ => rfl)))
      (zss_cons (zs_if (zt_cmpP (op_eqD hu) (zn 2) ze_str (nomark _)) zss_never zss_nil)
      (zss_cons (zs_if (zt_cmpP (op_eqD hu) (zn 2) ze_str (nomark _)) zss_never zss_nil)
      (zss_cons (zs_if (zt_cmpP (op_eqD hu) (zn 2) ze_str (nomark _)) zss_never zss_nil)
      (zss_cons (zs_if (zt_cmpP (op_eqD hu) (zn 2) ze_str (nomark _)) zss_never zss_nil)
      (zss_cons (zs_if (zt_cmpP (op_eqD hu) (zn 2) ze_str (nomark _)) zss_never zss_nil)
      (zss_cons (zs_if (zt_cmpP (op_eqD hu) (zn 2) ze_str (nomark _)) zss_never zss_nil)
      (zss_one (zs_ret (ze_fn F_of_sizes hr (by decide) rfl (za_cons (zcb_lrange rfl rfl m_list (za_cons (zcb_range rfl m_range (za_cons ze_int (za_cons (ze_op op_addP (zcb_min rfl rfl m_min (za_cons (ze_ix ix_P (zn 0) ze_int (fun _ _ => rfl)) (za_cons (zn 1) za_nil)) rfl rfl) ze_int) za_nil)) rfl rfl) za_nil) rfl rfl) (za_cons (zn 1) za_nil)))))))))))), ?_⟩
    refine ⟨_, .inr hk, .str "most", rfl, ?_⟩
    refine ⟨_, .inr hk, .int k, rfl, ?_⟩
    have ec : (if (n : Int) < (k : Int) then (n : Int) else (k : Int)) = ((min k n : Nat) : Int) := by split <;> omega
    refine fun rp hrp => ?_
    have g1 := Same.new hrp (rngO rp 1 ((if (n : Int) < (k : Int) then (n : Int) else (k : Int)) + 1) 1)
    refine ⟨1, (if (n : Int) < (k : Int) then (n : Int) else (k : Int)) + 1, 1, upd_same, by rw [ec]; exact small_up (by decide) (by decide) (by decide) (by decide) (by omega) (by omega), by decide, by rw [ec, size_one]; omega, fun l hl => ?_⟩
    rw [ec] at g1 hl
    rw [ec, size_one, ups_nI]
    have g2 := Same.new hl (.lst (nI (ups (min k n))))
    exact ⟨l, ups (min k n), n, rfl, fun x hx => by have := ups_pos hx; omega, hn, upd_same, fun p H' y hp => q p H' ((g1.trans g2).trans y) hp⟩
  | few k =>
    refine ⟨_, (zss_cons (zs_set (i := 2) nd rfl (Or.inl rfl) (ze_ix ix_P (zn 0) ze_int (fun _ _ => rfl)))
      (zss_cons (zs_if (zt_cmpP (op_eqD hu) (zn 2) ze_str (nomark _)) zss_never zss_nil)
      (zss_cons (zs_if (zt_cmpP (op_eqD hu) (zn 2) ze_str (nomark _)) zss_never zss_nil)
      (zss_cons (zs_if (zt_cmpP (op_eqD hu) (zn 2) ze_str (nomark _)) zss_never zss_nil)
      (zss_cons (zs_if (zt_cmpP (op_eqD hu) (zn 2) ze_str (nomark _)) zss_never zss_nil)
      (zss_cons (zs_if (zt_cmpP (op_eqD hu) (zn 2) ze_str (nomark _)) zss_never zss_nil)
      (zss_cons (zs_if (zt_cmpP (op_eqD hu) (zn 2) ze_str (nomark _)) zss_never zss_nil)
      (zss_one (zs_ret (ze_fn F_of_sizes hr (by decide) rfl (za_cons (zcb_lrange rfl rfl m_list (za_cons (zcb_range rfl m_range (za_cons ze_int (za_cons (ze_op op_addP (zcb_min rfl rfl m_min (za_cons (ze_ix ix_P (zn 0) ze_int (fun _ _ => rfl)) (za_cons (zn 1) za_nil)) rfl rfl) ze_int) za_nil)) rfl rfl) za_nil) rfl rfl) (za_cons (zn 1) za_nil)))))))))))), ?_⟩
    refine ⟨_, .inr hk, .str "few", rfl, ?_⟩
    refine ⟨_, .inr hk, .int k, rfl, ?_⟩
    have ec : (if (n : Int) < (k : Int) then (n : Int) else (k : Int)) = ((min k n : Nat) : Int) := by split <;> omega
    refine fun rp hrp => ?_
    have g1 := Same.new hrp (rngO rp 1 ((if (n : Int) < (k : Int) then (n : Int) else (k : Int)) + 1) 1)
    refine ⟨1, (if (n : Int) < (k : Int) then (n : Int) else (k : Int)) + 1, 1, upd_same, by rw [ec]; exact small_up (by decide) (by decide) (by decide) (by decide) (by omega) (by omega), by decide, by rw [ec, size_one]; omega, fun l hl => ?_⟩
    rw [ec] at g1 hl
    rw [ec, size_one, ups_nI]
    have g2 := Same.new hl (.lst (nI (ups (min k n))))
    exact ⟨l, ups (min k n), n, rfl, fun x hx => by have := ups_pos hx; omega, hn, upd_same, fun p H' y hp => q p H' ((g1.trans g2).trans y) hp⟩
  | box k l =>
    refine ⟨_, (zss_cons (zs_set (i := 2) nd rfl (Or.inl rfl) (ze_ix ix_P (zn 0) ze_int (fun _ _ => rfl)))
      (zss_cons (zs_if (zt_cmpP (op_eqD hu) (zn 2) ze_str (nomark _)) (zss_one (zs_ret (ze_fn F_in_box hr (by decide) rfl (za_cons (ze_ix ix_P (zn 0) ze_int (fun _ _ => rfl)) (za_cons (ze_ix ix_P (zn 0) ze_int (fun _ _ => rfl)) (za_cons (zn 1) za_nil)))))) zss_nil)
      (zss_cons (zs_if (zt_cmpP (op_eqD hu) (zn 2) ze_str (nomark _)) zss_never zss_nil)
      (zss_cons (zs_if (zt_cmpP (op_eqD hu) (zn 2) ze_str (nomark _)) zss_never zss_nil)
      (zss_cons (zs_if (zt_cmpP (op_eqD hu) (zn 2) ze_str (nomark _)) zss_never zss_nil)
      (zss_cons (zs_if (zt_cmpP (op_eqD hu) (zn 2) ze_str (nomark _)) zss_never zss_nil)
      (zss_cons (zs_if (zt_cmpP (op_eqD hu) (zn 2) ze_str (nomark _)) zss_never zss_nil)
      zss_never))))))), ?_⟩
    refine ⟨_, .inr hk, .str "box", rfl, ?_⟩
    refine ⟨_, .inr hk, .int k, rfl, ?_⟩
    refine ⟨_, .inr hk, .int l, rfl, ?_⟩
    exact ⟨k, l, n, rfl, hok.1, hok.2, hn, q⟩
  | off d =>
    refine ⟨_, (zss_cons (zs_set (i := 2) nd rfl (Or.inl rfl) (ze_ix ix_P (zn 0) ze_int (fun _ _ => rfl)))
      (zss_cons (zs_if (zt_cmpP (op_eqD hu) (zn 2) ze_str (nomark _)) zss_never zss_nil)
      (zss_cons (zs_if (zt_cmpP (op_eqD hu) (zn 2) ze_str (nomark _)) (zss_one (zs_ret (ze_fn F_falling_by hr (by decide) rfl (za_cons (ze_ix ix_P (zn 0) ze_int (fun _ _ => rfl)) (za_cons (zn 1) za_nil))))) zss_nil)
      (zss_cons (zs_if (zt_cmpP (op_eqD hu) (zn 2) ze_str (nomark _)) zss_never zss_nil)
      (zss_cons (zs_if (zt_cmpP (op_eqD hu) (zn 2) ze_str (nomark _)) zss_never zss_nil)
      (zss_cons (zs_if (zt_cmpP (op_eqD hu) (zn 2) ze_str (nomark _)) zss_never zss_nil)
      (zss_cons (zs_if (zt_cmpP (op_eqD hu) (zn 2) ze_str (nomark _)) zss_never zss_nil)
      zss_never))))))), ?_⟩
    refine ⟨_, .inr hk, .str "off", rfl, ?_⟩
    refine ⟨_, .inr hk, .int d, rfl, ?_⟩
    exact ⟨d, n, rfl, hok.2, hn, q⟩
  | own =>
    refine ⟨_, (zss_cons (zs_set (i := 2) nd rfl (Or.inl rfl) (ze_ix ix_P (zn 0) ze_int (fun _ _ => rfl)))
      (zss_cons (zs_if (zt_cmpP (op_eqD hu) (zn 2) ze_str (nomark _)) zss_never zss_nil)
      (zss_cons (zs_if (zt_cmpP (op_eqD hu) (zn 2) ze_str (nomark _)) zss_never zss_nil)
      (zss_cons (zs_if (zt_cmpP (op_eqD hu) (zn 2) ze_str (nomark _)) (zss_one (zs_ret (ze_fn F_of_sizes_below hr (by decide) rfl (za_cons (zcb_lrange rfl rfl m_list (za_cons (zcb_range rfl m_range (za_cons ze_int (za_cons (ze_op op_addP (zn 1) ze_int) (za_cons ze_int za_nil))) rfl rfl) za_nil) rfl rfl) (za_cons ze_int (za_cons (zn 1) za_nil)))))) zss_nil)
      (zss_cons (zs_if (zt_cmpP (op_eqD hu) (zn 2) ze_str (nomark _)) zss_never zss_nil)
      (zss_cons (zs_if (zt_cmpP (op_eqD hu) (zn 2) ze_str (nomark _)) zss_never zss_nil)
      (zss_cons (zs_if (zt_cmpP (op_eqD hu) (zn 2) ze_str (nomark _)) zss_never zss_nil)
      zss_never))))))), ?_⟩
    refine ⟨_, .inr hk, .str "own", rfl, ?_⟩
    refine ⟨by decide, fun rp hrp => ?_⟩
    have g1 := Same.new hrp (rngO rp 1 ((n : Int) + 1) 2)
    refine ⟨1, (n : Int) + 1, 2, upd_same, small_up (by decide) (by decide) (by decide) (by decide) (by omega) (by omega), by decide, by rw [size_two]; omega, fun l hl => ?_⟩
    rw [size_two, odds_nI]
    have g2 := Same.new hl (.lst (nI (odds n)))
    exact ⟨l, odds n, 2, n, rfl, by decide, by decide, fun x hx => by have := odds_pos hx; omega, hn, upd_same, fun p H' y hp => q p H' ((g1.trans g2).trans y) hp⟩
theorem sc_counts : FnScope ["kind", "most"] ["kind", "most"] (defScope (top 21)) := ⟨rfl, rfl, rfl, by decide +kernel, rfl, by decide +kernel, by decide +kernel⟩
noncomputable def sp_counts : Sp := fun vs H Q _ => ∃ (c : Addr) (n : Nat) (k : Kn), vs = [.ref c, .int n] ∧ n ≤ 600 ∧ KnAt H c k ∧ k.Ok ∧ ∀ p H', Same H H' → H' p = some (.tup ((tb (cf k n) (n + 1)).map V.int)) → Q (.ref p) H'
theorem ok_counts (F : Fun K "counts" "counts" (top 21) f fd) (m_tuple : mg "tuple" = none) (F_counted : FnA P w K mg base "counted" 3 ["kind", "most"] sp_counted) : FnOk P w K mg base CX0 4 f fd ["kind", "most"] sp_counts := by
  refine F.okz sc_counts (fun vs H Q E h => ?_) (fun cdv A outer s H vs Q E hr h => ?_)
  · obtain ⟨k, n, kd, rfl, _⟩ := h; rfl
  obtain ⟨c, n, k, rfl, hn, hk, hok, q⟩ := h
  have nd := sc_counts.nd
  refine ⟨_, (zss_one (zs_ret (zcb_tuple rfl m_tuple (za_cons (ze_fn F_counted hr (by decide) rfl (za_cons (zn 0) (za_cons (zn 1) za_nil))) za_nil) rfl rfl))), ?_⟩
  refine ⟨c, n, k, rfl, hn, hk, hok, fun p H1 y1 hp1 => ?_⟩
  exact ⟨_, .inl (SqL.of hp1), fun r2 H2 y2 hr2 => q r2 H2 (y1.trans y2) hr2⟩
end
end K25
set_option Elab.async false
set_option linter.all false
set_option maxRecDepth 100000
set_option maxHeartbeats 4000000
namespace K25
open PySem L2 MRow M27 M80 M17 M12 M24
theorem Hand.ne {H : Hp} {a b : Addr} (h : Hand H a) (hb : H b = none) : b ≠ a := fun z => by
  obtain ⟨g, s, c, e, _⟩ := h
  rw [z, e] at hb
  cases hb
noncomputable def like : Kn → Kn
  | .off 1 => .times 2
  | .off 2 => .rests 5 [1, 4]
  | k => k
noncomputable def pa : Kn → Nat → Bool
  | .all, _ => true
  | .most k, s => decide (s ≤ k)
  | .few k, s => decide (s ≤ k)
  | .times m, s => decide (0 < (s : Int) % (m : Int))
  | .rests m rs, s => decide ((s : Int) % (m : Int) ∈ rs)
  | .box k _, s => decide (s ≤ k)
  | .off _, _ => false
  | .own, s => decide (s % 2 = 1)
noncomputable def pb : Kn → Nat → Bool
  | .box k l, s => decide (l < s ∧ s ≤ l + k)
  | .own, s => decide (s % 4 = 2)
  | _, _ => false
noncomputable def big : Kn → Prop
  | .off d => 3 ≤ d
  | _ => False
noncomputable def pv (k : Kn) (s : Nat) : Int := (if pa k s = true then 1 else 0) - (if pb k s = true then 1 else 0)
noncomputable def noff : Kn → Prop
  | .off _ => False
  | _ => True
section
variable {P : Program} {w : World} {K : PySem.W.Frag} {mg : Str → Option Value} {base : Heap} {f : Addr} {fd : FuncData}
theorem sc_iba : FnScope ["k", "l", "size"] ["k", "l", "size"] (defScope (top 23)) := ⟨rfl, rfl, rfl, by decide +kernel, rfl, by decide +kernel, by decide +kernel⟩
noncomputable def sp_iba : Sp := fun vs H Q _ => ∃ k l z : Nat, vs = [.int k, .int l, .int z] ∧ Q (.int (pv (.box k l) z)) H
theorem ok_iba (F : Fun K "in_box_at" "in_box_at" (top 23) f fd) (m_int : mg "int" = none) : FnOk P w K mg base CX0 1 f fd ["k", "l", "size"] sp_iba := by
  refine F.okz sc_iba (fun vs H Q E h => ?_) (fun cdv A outer s H vs Q E hr h => ?_)
  · obtain ⟨k, l, z, rfl, _⟩ := h; rfl
  obtain ⟨k, l, z, rfl, q⟩ := h
  have nd := sc_iba.nd
  refine ⟨_, (zss_one (zs_ret (ze_op op_subP (zcb_int rfl m_int (za_cons (ze_cmpR op_leP (zn 2) (zn 0) (nomark _)) za_nil) rfl rfl) (zcb_int rfl m_int (za_cons (ze_chain op_ltP op_leP (zn 1) (zn 2) (ze_op op_addP (zn 1) (zn 0))) za_nil) rfl rfl)))), ?_⟩
  have e1 : decide (((z : Nat) : Int) ≤ (k : Int)) = decide (z ≤ k) := decide_eq_decide.mpr (by omega)
  have e : pv (.box k l) z = (if decide ((z : Int) ≤ (k : Int)) = true then 1 else 0) - (if decide (l < z ∧ z ≤ l + k) = true then 1 else 0) := by
    rw [e1]
    rfl
  rw [e] at q
  refine ⟨_, rfl, ?_⟩
  refine iteB (fun c => ?_) (fun c => ?_)
  · have c' : (l : Int) < (z : Int) := of_decide_eq_true c
    have e2 : decide (l < z ∧ z ≤ l + k) = decide ((z : Int) ≤ (l : Int) + (k : Int)) := decide_eq_decide.mpr ⟨fun h => by omega, fun h => by omega⟩
    rw [e2] at q
    exact q
  · have c' : ¬ (l : Int) < (z : Int) := of_decide_eq_false c
    have e2 : decide (l < z ∧ z ≤ l + k) = false := decide_eq_false fun h => by omega
    rw [e2] at q
    exact q
theorem sc_oa : FnScope ["size"] ["size"] (defScope (top 24)) := ⟨rfl, rfl, rfl, by decide +kernel, rfl, by decide +kernel, by decide +kernel⟩
noncomputable def sp_oa : Sp := fun vs H Q _ => ∃ z : Nat, vs = [.int z] ∧ Q (.int (pv .own z)) H
theorem ok_oa (F : Fun K "own_at" "own_at" (top 24) f fd)  : FnOk P w K mg base CX0 1 f fd ["size"] sp_oa := by
  refine F.okz sc_oa (fun vs H Q E h => ?_) (fun cdv A outer s H vs Q E hr h => ?_)
  · obtain ⟨z, rfl, _⟩ := h; rfl
  obtain ⟨z, rfl, q⟩ := h
  have nd := sc_oa.nd
  have hu := hr.units
  refine ⟨_, (zss_cons (zs_if (zt_cmpP (op_eqD hu) (ze_op op_modP (zn 0) ze_int) ze_int (nomark _)) (zss_one (zs_ret ze_int)) zss_nil)
      (zss_one (zs_ret (ze_ifExp (zt_cmpP (op_eqD hu) (ze_op op_modP (zn 0) ze_int) ze_int (nomark _)) (ze_un un_neg ze_int) ze_int)))), ?_⟩
  have m2 : ((z : Int) % 2) = ((z % 2 : Nat) : Int) := by omega
  have m4 : ((z : Int) % 4) = ((z % 4 : Nat) : Int) := by omega
  have e : pv .own z = (if z % 2 = 1 then 1 else 0) - (if z % 4 = 2 then 1 else 0) := by
    unfold pv pa pb
    congr 1 <;> simp
  rw [e] at q
  refine ⟨(show (0 : Int) < 2 by decide), ?_⟩
  refine iteD (fun c => ?_) (fun c => ?_)
  · have c' : (z : Int) % 2 = 1 := V.int.inj c
    rw [if_pos (by omega), if_neg (by omega)] at q
    exact q
  · have c' : ¬ (z : Int) % 2 = 1 := fun h => c (congrArg V.int h)
    rw [if_neg (by omega)] at q
    refine ⟨(show (0 : Int) < 4 by decide), ?_⟩
    refine iteD (fun c => ?_) (fun c => ?_)
    · have c2 : (z : Int) % 4 = 2 := V.int.inj c
      rw [if_pos (by omega)] at q
      exact ⟨1, rfl, q⟩
    · have c2 : ¬ (z : Int) % 4 = 2 := fun h => c (congrArg V.int h)
      rw [if_neg (by omega)] at q
      exact q
theorem sc_pt : FnScope ["kind", "size", "word"] ["kind", "size"] (defScope (top 25)) := ⟨rfl, rfl, rfl, by decide +kernel, rfl, by decide +kernel, by decide +kernel⟩
noncomputable def sp_pt : Sp := fun vs H Q _ => ∃ (c : Addr) (z : Nat) (k : Kn), vs = [.ref c, .int z] ∧ KnAt H c k ∧ k.Ok ∧ noff k ∧ Q (.int (pv k z)) H
theorem ok_pt (F : Fun K "power_at" "power_at" (top 25) f fd) (m_int : mg "int" = none) (F_in_box_at : FnA P w K mg base "in_box_at" 1 ["k", "l", "size"] sp_iba) (F_own_at : FnA P w K mg base "own_at" 1 ["size"] sp_oa) : FnOk P w K mg base CX0 2 f fd ["kind", "size"] sp_pt := by
  refine F.okz sc_pt (fun vs H Q E h => ?_) (fun cdv A outer s H vs Q E hr h => ?_)
  · obtain ⟨c, z, k, rfl, _⟩ := h; rfl
  obtain ⟨c, z, k, rfl, hk, hok, hno, q⟩ := h
  have nd := sc_pt.nd
  have hu := hr.units
  have sub0 : ∀ b : Bool, (if b = true then (1 : Int) else 0) - (if false = true then 1 else 0) = if b = true then 1 else 0 := fun b => by rw [if_neg (by decide : ¬ false = true)]; omega
  refine ⟨_, (zss_cons (zs_set (i := 2) nd rfl (Or.inl rfl) (ze_ix ix_P (zn 0) ze_int (fun _ _ => rfl)))
      (zss_cons (zs_if (zt_cmpP (op_eqD hu) (zn 2) ze_str (nomark _)) (zss_one (zs_ret ze_int)) zss_nil)
      (zss_cons (zs_if (zt_cmpP (op_eqD hu) (zn 2) ze_str (nomark _)) (zss_one (zs_ret (ze_fn F_in_box_at hr (by decide) rfl (za_cons (ze_ix ix_P (zn 0) ze_int (fun _ _ => rfl)) (za_cons (ze_ix ix_P (zn 0) ze_int (fun _ _ => rfl)) (za_cons (zn 1) za_nil)))))) zss_nil)
      (zss_cons (zs_if (zt_cmpP (op_eqD hu) (zn 2) ze_str (nomark _)) (zss_one (zs_ret (zcb_int rfl m_int (za_cons (ze_cmpR (op_neD hu) (ze_op op_modP (zn 1) (ze_ix ix_P (zn 0) ze_int (fun _ _ => rfl))) ze_int (nomark _)) za_nil) rfl rfl))) zss_nil)
      (zss_cons (zs_if (zt_cmpP (op_eqD hu) (zn 2) ze_str (nomark _)) (zss_one (zs_ret (zcb_int rfl m_int (za_cons (ze_cmpR op_in_seq (ze_op op_modP (zn 1) (ze_ix ix_P (zn 0) ze_int (fun _ _ => rfl))) (ze_ix ix_P (zn 0) ze_int (fun _ _ => rfl)) (by with_unfolding_all rfl)) za_nil) rfl rfl))) zss_nil)
      (zss_cons (zs_if (zt_cmpP (op_eqD hu) (zn 2) ze_str (nomark _)) (zss_one (zs_ret (ze_fn F_own_at hr (by decide) rfl (za_cons (zn 1) za_nil)))) zss_nil)
      (zss_one (zs_ret (zcb_int rfl m_int (za_cons (ze_cmpR op_leP (zn 1) (ze_ix ix_P (zn 0) ze_int (fun _ _ => rfl)) (nomark _)) za_nil) rfl rfl))))))))), ?_⟩
  cases k with
  | all =>
    refine ⟨_, .inr hk, .str "all", rfl, ?_⟩
    exact q
  | box k l =>
    refine ⟨_, .inr hk, .str "box", rfl, ?_⟩
    refine ⟨_, .inr hk, .int k, rfl, ?_⟩
    refine ⟨_, .inr hk, .int l, rfl, ?_⟩
    exact ⟨k, l, z, rfl, q⟩
  | times m =>
    refine ⟨_, .inr hk, .str "times", rfl, ?_⟩
    have hm := hok.1
    refine ⟨_, .inr hk, .int m, rfl, (show (0 : Int) < (m : Int) by omega), ?_⟩
    have h0 : 0 ≤ (z : Int) % (m : Int) := Int.emod_nonneg _ (by omega)
    have e : pv (.times m) z = if (!decide (V.int ((z : Int) % (m : Int)) = V.int 0)) = true then 1 else 0 := by
      show (if decide (0 < (z : Int) % (m : Int)) = true then 1 else 0) - (if false = true then 1 else 0) = _
      rw [sub0]
      by_cases h : (z : Int) % (m : Int) = 0
      · rw [decide_eq_false (by omega : ¬ 0 < (z : Int) % (m : Int)), h]; rfl
      · rw [decide_eq_true (by omega : 0 < (z : Int) % (m : Int)), decide_eq_false (fun e => h (V.int.inj e))]; rfl
    rw [e] at q
    exact q
  | rests m rs =>
    obtain ⟨d, hk, hd⟩ := hk
    refine ⟨_, .inr hk, .str "rests", rfl, ?_⟩
    have hm := hok.1
    refine ⟨_, .inr hk, .int m, rfl, (show (0 : Int) < (m : Int) by omega), ?_⟩
    refine ⟨_, .inr hk, .ref d, rfl, ?_⟩
    refine ⟨d, _, rfl, .inr (SqT.of hd), rfl, flat_ints rs, ?_⟩
    rw [in_ints]
    have e : pv (.rests m rs) z = if decide ((z : Int) % (m : Int) ∈ rs) = true then 1 else 0 := sub0 _
    rw [e] at q
    exact q
  | own =>
    refine ⟨_, .inr hk, .str "own", rfl, ?_⟩
    exact ⟨z, rfl, q⟩
  | most k =>
    refine ⟨_, .inr hk, .str "most", rfl, ?_⟩
    refine ⟨_, .inr hk, .int k, rfl, ?_⟩
    have e : pv (.most k) z = if decide ((z : Int) ≤ (k : Int)) = true then 1 else 0 := by
      rw [show decide ((z : Int) ≤ (k : Int)) = decide (z ≤ k) from decide_eq_decide.mpr (by omega)]
      exact sub0 _
    rw [e] at q
    exact q
  | few k =>
    refine ⟨_, .inr hk, .str "few", rfl, ?_⟩
    refine ⟨_, .inr hk, .int k, rfl, ?_⟩
    have e : pv (.few k) z = if decide ((z : Int) ≤ (k : Int)) = true then 1 else 0 := by
      rw [show decide ((z : Int) ≤ (k : Int)) = decide (z ≤ k) from decide_eq_decide.mpr (by omega)]
      exact sub0 _
    rw [e] at q
    exact q
  | off _ => exact hno.elim
theorem sc_ol : FnScope ["kind"] ["kind"] (defScope (top 26)) := ⟨rfl, rfl, rfl, by decide +kernel, rfl, by decide +kernel, by decide +kernel⟩
noncomputable def sp_ol : Sp := fun vs H Q _ => ∃ (c : Addr) (k : Kn), vs = [.ref c] ∧ KnAt H c k ∧ k.Ok ∧ (big k → Q .non H) ∧ ∀ c' H', ¬ big k → Same H H' → KnAt H' c' (like k) → (like k).Ok → noff (like k) → Q (.ref c') H'
theorem ok_ol (F : Fun K "of_like_counts" "of_like_counts" (top 26) f fd)  : FnOk P w K mg base CX0 1 f fd ["kind"] sp_ol := by
  refine F.okz sc_ol (fun vs H Q E h => ?_) (fun cdv A outer s H vs Q E hr h => ?_)
  · obtain ⟨c, k, rfl, _⟩ := h; rfl
  obtain ⟨c, k, rfl, hk, hok, q0, q1⟩ := h
  have nd := sc_ol.nd
  have hu := hr.units
  refine ⟨_, (zss_cons (zs_if (zt_cmpP (op_neD hu) (ze_ix ix_P (zn 0) ze_int (fun _ _ => rfl)) ze_str (nomark _)) (zss_one (zs_ret (zn 0))) zss_nil)
      (zss_cons (zs_if (zt_cmpP (op_eqD hu) (ze_ix ix_P (zn 0) ze_int (fun _ _ => rfl)) ze_int (nomark _)) (zss_one (zs_ret (ze_tup (za_cons ze_str (za_cons ze_int za_nil))))) zss_nil)
      (zss_cons (zs_if (zt_cmpP (op_eqD hu) (ze_ix ix_P (zn 0) ze_int (fun _ _ => rfl)) ze_int (nomark _)) (zss_one (zs_ret (ze_tup (za_cons ze_str (za_cons ze_int (za_cons (ze_tup (za_cons ze_int (za_cons ze_int za_nil))) za_nil)))))) zss_nil)
      (zss_one (zs_ret ze_non))))), ?_⟩
  cases k with
  | all => exact ⟨_, .inr hk, .str "all", rfl, q1 c H id (Same.refl _) hk hok trivial⟩
  | most k => exact ⟨_, .inr hk, .str "most", rfl, q1 c H id (Same.refl _) hk hok trivial⟩
  | few k => exact ⟨_, .inr hk, .str "few", rfl, q1 c H id (Same.refl _) hk hok trivial⟩
  | times m => exact ⟨_, .inr hk, .str "times", rfl, q1 c H id (Same.refl _) hk hok trivial⟩
  | rests m rs =>
    obtain ⟨d, hk2, hd⟩ := hk
    exact ⟨_, .inr hk2, .str "rests", rfl, q1 c H id (Same.refl _) ⟨d, hk2, hd⟩ hok trivial⟩
  | box k l => exact ⟨_, .inr hk, .str "box", rfl, q1 c H id (Same.refl _) hk hok trivial⟩
  | own => exact ⟨_, .inr hk, .str "own", rfl, q1 c H id (Same.refl _) hk hok trivial⟩
  | off d =>
    refine ⟨_, .inr hk, .str "off", rfl, ?_⟩
    refine ⟨_, .inr hk, .int d, rfl, ?_⟩
    refine iteD (fun c1 => ?_) (fun c1 => ?_)
    · have : d = 1 := by have := V.int.inj c1; omega
      subst this
      refine ⟨by show 2 ≤ sizeLine; decide, fun p hp => ?_⟩
      exact q1 p _ (fun h => absurd (show 3 ≤ 1 from h) (by decide)) (Same.new hp _) upd_same ⟨by decide, by decide⟩ trivial
    · have n1 : d ≠ 1 := fun h => c1 (by rw [h]; rfl)
      refine ⟨_, .inr hk, .int d, rfl, ?_⟩
      refine iteD (fun c2 => ?_) (fun c2 => ?_)
      · have : d = 2 := by have := V.int.inj c2; omega
        subst this
        refine ⟨by show 2 ≤ sizeLine; decide, fun p2 hp2 => ?_⟩
        refine ⟨by show 3 ≤ sizeLine; decide, fun p hp => ?_⟩
        exact q1 p _ (fun h => absurd (show 3 ≤ 2 from h) (by decide)) ((Same.new hp2 _).trans (Same.new hp _)) ⟨p2, upd_same, (Same.new hp _) _ _ upd_same⟩ ⟨by decide, by decide⟩ trivial
      · have n2 : d ≠ 2 := fun h => c2 (by rw [h]; rfl)
        exact q0 (show 3 ≤ d by have := hok.1; omega)
theorem sc_po : FnScope ["kind", "most", "like"] ["kind", "most"] (defScope (top 27)) := ⟨rfl, rfl, rfl, by decide +kernel, rfl, by decide +kernel, by decide +kernel⟩
noncomputable def pws (k : Kn) (n : Nat) : List Int := pwl (pa (like k)) (pb (like k)) n
noncomputable def sp_po : Sp := fun vs H Q _ => ∃ (c : Addr) (n : Nat) (k : Kn), vs = [.ref c, .int n] ∧ n ≤ 600 ∧ KnAt H c k ∧ k.Ok ∧ (big k → ∀ H', Same H H' → Q .non H') ∧ ∀ p H', ¬ big k → Same H H' → H' p = some (.tup ((pws k n).map V.int)) → Q (.ref p) H'
theorem ok_po (F : Fun K "powers_of" "powers_of" (top 27) f fd) (m_range : mg "range" = none) (m_tuple : mg "tuple" = none) (F_of_like_counts : FnA P w K mg base "of_like_counts" 1 ["kind"] sp_ol) (F_power_at : FnA P w K mg base "power_at" 2 ["kind", "size"] sp_pt) : FnOk P w K mg base CX0 3 f fd ["kind", "most"] sp_po := by
  refine F.okz sc_po (fun vs H Q E h => ?_) (fun cdv A outer s H vs Q E hr h => ?_)
  · obtain ⟨c, n, k, rfl, _⟩ := h; rfl
  obtain ⟨c, n, k, rfl, hn, hk, hok, q0, q1⟩ := h
  have nd := sc_po.nd
  have hu := hr.units
  refine ⟨_, (zss_cons (zs_set (i := 2) nd rfl (Or.inr rfl) (ze_fn F_of_like_counts hr (by decide) rfl (za_cons (zn 0) za_nil)))
      (zss_cons (zs_if (zt_cmpP op_isP (zn 2) ze_non (nomark _)) (zss_one (zs_ret ze_non)) zss_nil)
      (zss_one (zs_ret (zcb_tuple rfl m_tuple (za_cons (ze_comp ["size"] [("like", 2)] rfl ⟨rfl, by decide +kernel, by decide +kernel, rfl, rfl⟩ (zi_range2 rfl m_range (za_cons ze_int (za_cons (ze_op op_addP (zn 1) ze_int) za_nil))) kpg_name (fun _ _ _ _ => zg_name (i := 0) (show List.Nodup (["size", "like"] : List Str) by decide +kernel) rfl (Or.inl rfl)) (fun _ _ _ _ => zif_nil) (fun _ _ _ _ => (ze_fn F_power_at hr (by decide) rfl (za_cons (zn 1) (za_cons (zn 0) za_nil))))) za_nil) rfl rfl))))), ?_⟩
  refine ⟨c, k, rfl, hk, hok, fun hb => ?_, fun c' H1 hb y1 hk1 hok1 hno => ?_⟩
  · exact q0 hb H (Same.refl _)
  · refine ⟨1, (n : Int) + 1, rfl, ⟨by omega, by omega, by omega, by omega⟩, ?_⟩
    have eN : ((n : Int) + 1 - 1).toNat = n := by omega
    rw [eN]
    refine cmp_range (fun i zs H' => i ≤ n ∧ H' = H1 ∧ zs = (pws k i).map V.int) ⟨Nat.zero_le _, rfl, rfl⟩ ?_ ?_
    · rintro i zs H' hi ⟨_, rfl, rfl⟩
      have ek : (1 : Int) + (i : Int) = ((i + 1 : Nat) : Int) := by omega
      rw [ek]
      refine ⟨by rw [List.length_map]; unfold pws; rw [pwl_len]; exact small1000 (by omega), ?_⟩
      refine ⟨c', i + 1, like k, rfl, hk1, hok1, hno, ?_⟩
      refine ⟨by omega, rfl, ?_⟩
      unfold pws
      rw [pwl_succ, List.map_append]
      rfl
    · rintro zs H' ⟨_, rfl, rfl⟩ D hD
      have yD := Same.new hD (.lst ((pws k n).map V.int))
      exact ⟨_, .inl (SqL.of upd_same), fun r H2 y2 hr2 => q1 r H2 hb ((y1.trans yD).trans y2) hr2⟩
end
theorem pws_prod {k : Kn} (hb : ¬ big k) (hok : k.Ok) {n j : Nat} (hn : n ≤ 600) (hj : j ≤ n) : M21.prod (pws k n) j = cf k n j := by
  have one : ∀ p : Nat → Bool, M21.prod (pwl p (fun _ => false) n) j = PL dl (fl p n) j := fun p => by rw [pwl_prod, fl_no]; rfl
  cases k with
  | all => show M21.prod (pwl (fun _ => true) (fun _ => false) n) j = PL dl (ups n) j; rw [one, fl_all]
  | most k => show M21.prod (pwl (fun s => decide (s ≤ k)) (fun _ => false) n) j = PL dl (ups (min k n)) j; rw [one, fl_most]
  | few k => show M21.prod (pwl (fun s => decide (s ≤ k)) (fun _ => false) n) j = PL dl (ups (min k n)) j; rw [one, fl_most]
  | times m => show M21.prod (pwl (fun s => decide (0 < (s : Int) % (m : Int))) (fun _ => false) n) j = below m (ups n) dl j; rw [one, fl_times hok.1 hj]
  | rests m rs => exact one _
  | box k l => exact box_prod hj
  | own => exact own_prod hj
  | off d =>
    have h1 := hok.1
    have h2 : ¬ 3 ≤ d := hb
    have : d = 1 ∨ d = 2 := by omega
    rcases this with rfl | rfl
    · show M21.prod (pwl (fun s => decide (0 < (s : Int) % ((2 : Nat) : Int))) (fun _ => false) n) j = fow 1 j
      rw [one, odd_is hn hj]
      have e : fl (fun s => decide (0 < (s : Int) % ((2 : Nat) : Int))) n = rsz 2 [1] n := by
        unfold fl rsz
        refine List.filter_congr fun x _ => decide_eq_decide.mpr ?_
        rw [List.mem_singleton]
        omega
      rw [e]
    · show M21.prod (pwl (fun s => decide ((s : Int) % ((5 : Nat) : Int) ∈ ([1, 4] : List Int))) (fun _ => false) n) j = fow 2 j
      rw [one, five_is hn hj]
      rfl
section
variable {P : Program} {w : World} {K : PySem.W.Frag} {mg : Str → Option Value} {base : Heap} {f : Addr} {fd : FuncData}
theorem sc_nr : FnScope ["_law_pot_here", "_law_way"] ["_law_pot_here"] (defScope (top 33)) := ⟨rfl, rfl, rfl, by decide +kernel, rfl, by decide +kernel, by decide +kernel⟩
noncomputable def sp_nr : Sp := fun vs H Q _ => ∃ a : Addr, vs = [.ref a] ∧ Hand H a ∧ ∀ (r : Nat) H', 1 ≤ r → r ≤ 600 → Step a H H' → Q (.int r) H'
theorem ok_nr (F : Fun K "_law_number" "_law_number" (top 33) f fd)  (F_law_take : FnA P w K mg base "_law_take" 1 ["_law_pot_here", "_law_many"] sp_take) : FnOk P w K mg base CX0 2 f fd ["_law_pot_here"] sp_nr := by
  refine F.okz sc_nr (fun vs H Q E h => ?_) (fun cdv A outer s H vs Q E hr h => ?_)
  · obtain ⟨a, rfl, _⟩ := h; rfl
  obtain ⟨a, rfl, hh, q⟩ := h
  have nd := sc_nr.nd
  refine ⟨_, (zss_cons (zs_set (i := 1) nd rfl (Or.inl rfl) (ze_fn F_law_take hr (by decide) rfl (za_cons (zn 0) (za_cons ze_int za_nil))))
      (zss_one (zs_ret (ze_op op_addP ze_int (ze_fn F_law_take hr (by decide) rfl (za_cons (zn 0) (za_cons (ze_ix ix_P (ze_lst (za_cons ze_int (za_cons ze_int (za_cons ze_int (za_cons ze_int za_nil))))) (zn 1) (fun _ _ => rfl)) za_nil))))))), ?_⟩
  refine ⟨a, 4, rfl, hh, by decide, by decide, fun x H2 x0 x1 k2 => ?_⟩
  refine ⟨by show 4 ≤ sizeLine; decide, fun d hd => ?_⟩
  have yd := Same.new hd (.lst [V.int 4, .int 12, .int 60, .int 600])
  obtain ⟨m, em, m0, m1⟩ : ∃ m : Int, atI [V.int 4, .int 12, .int 60, .int 600] x = some (.int m) ∧ 1 ≤ m ∧ m ≤ 600 := by
    have : x = 0 ∨ x = 1 ∨ x = 2 ∨ x = 3 := by omega
    rcases this with rfl | rfl | rfl | rfl <;> exact ⟨_, rfl, by decide, by decide⟩
  refine ⟨_, .inl (SqL.of upd_same), .int m, em, ?_⟩
  refine ⟨a, m, rfl, k2.2.same yd, by omega, by omega, fun r H3 r0 r1 k3 => ?_⟩
  have g := q (1 + r).toNat H3 (by omega) (by omega) ((k2.same yd).trans k3)
  rw [show (((1 + r).toNat : Nat) : Int) = 1 + r by omega] at g
  exact g
theorem sc_kd : FnScope ["_law_pot_here", "_law_word", "_law_one", "_law_m", "_law_often", "_law_rests"] ["_law_pot_here"] (defScope (top 34)) := ⟨rfl, rfl, rfl, by decide +kernel, rfl, by decide +kernel, by decide +kernel⟩
noncomputable def sp_kd : Sp := fun vs H Q _ => ∃ a : Addr, vs = [.ref a] ∧ Hand H a ∧ ∀ (c : Addr) (k : Kn) H', KnAt H' c k → k.Ok → Step a H H' → Q (.ref c) H'
theorem ok_kd (F : Fun K "_law_kind" "_law_kind" (top 34) f fd) (m_range : mg "range" = none) (m_tuple : mg "tuple" = none) (F_law_number : FnA P w K mg base "_law_number" 2 ["_law_pot_here"] sp_nr) (F_law_take : FnA P w K mg base "_law_take" 1 ["_law_pot_here", "_law_many"] sp_take) : FnOk P w K mg base CX0 3 f fd ["_law_pot_here"] sp_kd := by
  refine F.okz sc_kd (fun vs H Q E h => ?_) (fun cdv A outer s H vs Q E hr h => ?_)
  · obtain ⟨a, rfl, _⟩ := h; rfl
  obtain ⟨a, rfl, hh, q⟩ := h
  have nd := sc_kd.nd
  have hu := hr.units
  refine ⟨_, (zss_cons (zs_set (i := 1) nd rfl (Or.inl rfl) (ze_fn F_law_take hr (by decide) rfl (za_cons (zn 0) (za_cons ze_int za_nil))))
      (zss_cons (zs_if (zt_cmpP op_in_seq (zn 1) (ze_tup (za_cons ze_int (za_cons ze_int (za_cons ze_int za_nil)))) (by with_unfolding_all rfl)) (zss_one (zs_ret (ze_tup (za_cons (ze_ix ix_P (ze_lst (za_cons ze_str (za_cons ze_str (za_cons ze_str (za_cons ze_str (za_cons ze_str za_nil)))))) (zn 1) (fun _ _ => rfl)) (za_cons (ze_fn F_law_number hr (by decide) rfl (za_cons (zn 0) za_nil)) za_nil))))) zss_nil)
      (zss_cons (zs_if (zt_cmpP (op_eqD hu) (zn 1) ze_int (nomark _)) (zss_cons (zs_set (i := 2) nd rfl (Or.inl rfl) (ze_fn F_law_number hr (by decide) rfl (za_cons (zn 0) za_nil)))
      (zss_one (zs_ret (ze_tup (za_cons ze_str (za_cons (zn 2) (za_cons (ze_fn F_law_number hr (by decide) rfl (za_cons (zn 0) za_nil)) za_nil))))))) zss_nil)
      (zss_cons (zs_if (zt_cmpP (op_eqD hu) (zn 1) ze_int (nomark _)) (zss_one (zs_ret (ze_tup (za_cons ze_str (za_cons (ze_op op_addP ze_int (ze_fn F_law_take hr (by decide) rfl (za_cons (zn 0) (za_cons ze_int za_nil)))) za_nil))))) zss_nil)
      (zss_cons (zs_set (i := 3) nd rfl (Or.inl rfl) (ze_op op_addP ze_int (ze_fn F_law_take hr (by decide) rfl (za_cons (zn 0) (za_cons (ze_ix ix_P (ze_lst (za_cons ze_int (za_cons ze_int (za_cons ze_int za_nil)))) (ze_fn F_law_take hr (by decide) rfl (za_cons (zn 0) (za_cons ze_int za_nil))) (fun _ _ => rfl)) za_nil)))))
      (zss_cons (zs_if (zt_cmpP (op_eqD hu) (zn 1) ze_int (nomark _)) (zss_one (zs_ret (ze_tup (za_cons ze_str (za_cons (zn 3) za_nil))))) zss_nil)
      (zss_cons (zs_if (zt_cmpP (op_eqD hu) (zn 1) ze_int (nomark _)) (zss_cons (zs_set (i := 4) nd rfl (Or.inr rfl) (ze_op op_addP ze_int (ze_fn F_law_take hr (by decide) rfl (za_cons (zn 0) (za_cons ze_int za_nil)))))
      (zss_cons (zs_set (i := 5) nd rfl (Or.inl rfl) (zcb_tuple rfl m_tuple (za_cons (ze_comp ["_law_rest"] [("_law_pot_here", 0), ("_law_often", 4)] rfl ⟨rfl, by decide +kernel, by decide +kernel, rfl, rfl⟩ (zi_range1 rfl m_range (za_cons (zn 3) za_nil)) kpg_name (fun _ _ _ _ => zg_name (i := 0) (show List.Nodup (["_law_rest", "_law_pot_here", "_law_often"] : List Str) by decide +kernel) rfl (Or.inl rfl)) (fun _ _ _ _ => (zif_one (zt_cmpP (op_eqD hu) (ze_fn F_law_take hr (by decide) rfl (za_cons (zn 1) (za_cons (zn 2) za_nil))) ze_int (nomark _)))) (fun _ _ _ _ => (zn 0))) za_nil) rfl rfl))
      (zss_one (zs_ret (ze_tup (za_cons ze_str (za_cons (zn 3) (za_cons (ze_ifExp (zt_cmpP (op_neD hu) (zn 5) (ze_tup za_nil) (nomark _)) (zn 5) (ze_tup (za_cons (ze_fn F_law_take hr (by decide) rfl (za_cons (zn 0) (za_cons (zn 3) za_nil))) za_nil))) za_nil)))))))) zss_nil)
      (zss_one (zs_ret (ze_ix ix_P (ze_lst (za_cons (ze_tup (za_cons ze_str za_nil)) (za_cons (ze_tup (za_cons ze_str za_nil)) za_nil))) (ze_op op_fdivP (zn 1) ze_int) (fun _ _ => rfl))))))))))), ?_⟩
  refine ⟨a, 9, rfl, hh, by decide, by decide, fun x H1 x0 x1 k1 => ?_⟩
  have tail : ∀ (y : Int), ∃ mm : Int, y < 3 → 0 ≤ y → atI [V.int 4, .int 10, .int 59] y = some (.int mm) ∧ 1 ≤ mm ∧ mm ≤ 59 := fun y => by
    by_cases h0 : y = 0
    · exact ⟨4, fun _ _ => by subst h0; exact ⟨rfl, by decide, by decide⟩⟩
    by_cases h1 : y = 1
    · exact ⟨10, fun _ _ => by subst h1; exact ⟨rfl, by decide, by decide⟩⟩
    refine ⟨59, fun a b => ?_⟩
    have : y = 2 := by omega
    subst this
    exact ⟨rfl, by decide, by decide⟩
  have : x = 0 ∨ x = 1 ∨ x = 2 ∨ x = 3 ∨ x = 4 ∨ x = 5 ∨ x = 6 ∨ x = 7 ∨ x = 8 := by omega
  rcases this with rfl | rfl | rfl | rfl | rfl | rfl | rfl | rfl | rfl
  · refine ⟨by show 3 ≤ sizeLine; decide, fun w hw => ?_⟩
    have yw := Same.new hw (.tup [V.int 1, .int 2, .int 4])
    refine ⟨w, _, rfl, .inr (SqT.of upd_same), rfl, rfl, ?_⟩
    generalize upd H1 w (.tup [V.int 1, .int 2, .int 4]) = Hw at yw
    have k1 := k1.same yw
    refine ⟨by show 3 ≤ sizeLine; decide, fun d hd => ?_⟩
    have y1 := Same.new hd (.lst [V.int 4, .int 10, .int 59])
    have gd : upd Hw d (.lst [V.int 4, .int 10, .int 59]) d = some (.lst [V.int 4, .int 10, .int 59]) := upd_same
    have da : d ≠ a := k1.2.ne hd
    have k2 := k1.same y1
    generalize upd Hw d (.lst [V.int 4, .int 10, .int 59]) = H2 at gd k2
    refine ⟨a, 3, rfl, k2.2, by decide, by decide, fun u H3 u0 u1 k3 => ?_⟩
    obtain ⟨mm, em⟩ := tail u
    obtain ⟨em, m0, m1⟩ := em u1 u0
    refine ⟨_, .inl (SqL.of (k3.1 _ _ da gd)), .int mm, em, ?_⟩
    refine ⟨a, mm, rfl, k3.2, by omega, by omega, fun v H4 v0 v1 k4 => ?_⟩
    obtain ⟨v, rfl⟩ : ∃ t' : Nat, v = (t' : Int) := ⟨v.toNat, by omega⟩
    have ev : ((2 + v : Nat) : Int) = 2 + (v : Int) := Int.natCast_add 2 v
    have kk := (k2.trans k3).trans k4
    refine ⟨by show 1 ≤ sizeLine; decide, fun p1 hp1 => ⟨by show 1 ≤ sizeLine; decide, fun p2 hp2 => ⟨by show 2 ≤ sizeLine; decide, fun d2 hd2 => ?_⟩⟩⟩
    have z1 := Same.new hp1 (.tup [V.str "all"])
    have z2 := Same.new hp2 (.tup [V.str "own"])
    have z3 := Same.new hd2 (.lst [V.ref p1, V.ref p2])
    refine ⟨⟨by decide, by decide⟩, _, .inl (SqL.of upd_same), .ref p1, rfl, ?_⟩
    exact q p1 .all _ (z3 _ _ (z2 _ _ upd_same)) trivial (((kk.same z1).same z2).same z3)
  · refine ⟨by show 3 ≤ sizeLine; decide, fun w hw => ?_⟩
    have yw := Same.new hw (.tup [V.int 1, .int 2, .int 4])
    refine ⟨w, _, rfl, .inr (SqT.of upd_same), rfl, rfl, ?_⟩
    generalize upd H1 w (.tup [V.int 1, .int 2, .int 4]) = Hw at yw
    have k1 := k1.same yw
    refine ⟨by show 5 ≤ sizeLine; decide, fun d hd => ?_⟩
    have y1 := Same.new hd (.lst [V.str "", .str "most", .str "few", .str "", .str "off"])
    refine ⟨_, .inl (SqL.of upd_same), .str "most", rfl, ?_⟩
    refine ⟨a, rfl, k1.2.same y1, fun r H3 r1 r2 k3 => ?_⟩
    refine ⟨by show 2 ≤ sizeLine; decide, fun c hc => ?_⟩
    exact q c (.most r) _ upd_same r2 (((k1.same y1).trans k3).same (Same.new hc _))
  · refine ⟨by show 3 ≤ sizeLine; decide, fun w hw => ?_⟩
    have yw := Same.new hw (.tup [V.int 1, .int 2, .int 4])
    refine ⟨w, _, rfl, .inr (SqT.of upd_same), rfl, rfl, ?_⟩
    generalize upd H1 w (.tup [V.int 1, .int 2, .int 4]) = Hw at yw
    have k1 := k1.same yw
    refine ⟨by show 5 ≤ sizeLine; decide, fun d hd => ?_⟩
    have y1 := Same.new hd (.lst [V.str "", .str "most", .str "few", .str "", .str "off"])
    refine ⟨_, .inl (SqL.of upd_same), .str "few", rfl, ?_⟩
    refine ⟨a, rfl, k1.2.same y1, fun r H3 r1 r2 k3 => ?_⟩
    refine ⟨by show 2 ≤ sizeLine; decide, fun c hc => ?_⟩
    exact q c (.few r) _ upd_same r2 (((k1.same y1).trans k3).same (Same.new hc _))
  · refine ⟨by show 3 ≤ sizeLine; decide, fun w hw => ?_⟩
    have yw := Same.new hw (.tup [V.int 1, .int 2, .int 4])
    refine ⟨w, _, rfl, .inr (SqT.of upd_same), rfl, rfl, ?_⟩
    generalize upd H1 w (.tup [V.int 1, .int 2, .int 4]) = Hw at yw
    have k1 := k1.same yw
    refine ⟨a, rfl, k1.2, fun r H3 r1 r2 k3 => ?_⟩
    refine ⟨a, rfl, k3.2, fun l H4 l1 l2 k4 => ?_⟩
    refine ⟨by show 3 ≤ sizeLine; decide, fun c hc => ?_⟩
    exact q c (.box r l) _ upd_same ⟨r2, l2⟩ (((k1.trans k3).trans k4).same (Same.new hc _))
  · refine ⟨by show 3 ≤ sizeLine; decide, fun w hw => ?_⟩
    have yw := Same.new hw (.tup [V.int 1, .int 2, .int 4])
    refine ⟨w, _, rfl, .inr (SqT.of upd_same), rfl, rfl, ?_⟩
    generalize upd H1 w (.tup [V.int 1, .int 2, .int 4]) = Hw at yw
    have k1 := k1.same yw
    refine ⟨by show 5 ≤ sizeLine; decide, fun d hd => ?_⟩
    have y1 := Same.new hd (.lst [V.str "", .str "most", .str "few", .str "", .str "off"])
    refine ⟨_, .inl (SqL.of upd_same), .str "off", rfl, ?_⟩
    refine ⟨a, rfl, k1.2.same y1, fun r H3 r1 r2 k3 => ?_⟩
    refine ⟨by show 2 ≤ sizeLine; decide, fun c hc => ?_⟩
    exact q c (.off r) _ upd_same ⟨r1, r2⟩ (((k1.same y1).trans k3).same (Same.new hc _))
  · refine ⟨by show 3 ≤ sizeLine; decide, fun w hw => ?_⟩
    have yw := Same.new hw (.tup [V.int 1, .int 2, .int 4])
    refine ⟨w, _, rfl, .inr (SqT.of upd_same), rfl, rfl, ?_⟩
    generalize upd H1 w (.tup [V.int 1, .int 2, .int 4]) = Hw at yw
    have k1 := k1.same yw
    refine ⟨by show 3 ≤ sizeLine; decide, fun d hd => ?_⟩
    have y1 := Same.new hd (.lst [V.int 4, .int 10, .int 59])
    have gd : upd Hw d (.lst [V.int 4, .int 10, .int 59]) d = some (.lst [V.int 4, .int 10, .int 59]) := upd_same
    have da : d ≠ a := k1.2.ne hd
    have k2 := k1.same y1
    generalize upd Hw d (.lst [V.int 4, .int 10, .int 59]) = H2 at gd k2
    refine ⟨a, 3, rfl, k2.2, by decide, by decide, fun u H3 u0 u1 k3 => ?_⟩
    obtain ⟨mm, em⟩ := tail u
    obtain ⟨em, m0, m1⟩ := em u1 u0
    refine ⟨_, .inl (SqL.of (k3.1 _ _ da gd)), .int mm, em, ?_⟩
    refine ⟨a, mm, rfl, k3.2, by omega, by omega, fun v H4 v0 v1 k4 => ?_⟩
    obtain ⟨v, rfl⟩ : ∃ t' : Nat, v = (t' : Int) := ⟨v.toNat, by omega⟩
    have ev : ((2 + v : Nat) : Int) = 2 + (v : Int) := Int.natCast_add 2 v
    have kk := (k2.trans k3).trans k4
    refine ⟨by show 2 ≤ sizeLine; decide, fun c hc => ?_⟩
    exact q c (.times (2 + v)) _ (by show _ = some (HO.tup [V.str "times", V.int ((2 + v : Nat) : Int)]); rw [ev]; exact upd_same) ⟨by omega, by omega⟩ (kk.same (Same.new hc _))
  · refine ⟨by show 3 ≤ sizeLine; decide, fun w hw => ?_⟩
    have yw := Same.new hw (.tup [V.int 1, .int 2, .int 4])
    refine ⟨w, _, rfl, .inr (SqT.of upd_same), rfl, rfl, ?_⟩
    generalize upd H1 w (.tup [V.int 1, .int 2, .int 4]) = Hw at yw
    have k1 := k1.same yw
    refine ⟨by show 3 ≤ sizeLine; decide, fun d hd => ?_⟩
    have y1 := Same.new hd (.lst [V.int 4, .int 10, .int 59])
    have gd : upd Hw d (.lst [V.int 4, .int 10, .int 59]) d = some (.lst [V.int 4, .int 10, .int 59]) := upd_same
    have da : d ≠ a := k1.2.ne hd
    have k2 := k1.same y1
    generalize upd Hw d (.lst [V.int 4, .int 10, .int 59]) = H2 at gd k2
    refine ⟨a, 3, rfl, k2.2, by decide, by decide, fun u H3 u0 u1 k3 => ?_⟩
    obtain ⟨mm, em⟩ := tail u
    obtain ⟨em, m0, m1⟩ := em u1 u0
    refine ⟨_, .inl (SqL.of (k3.1 _ _ da gd)), .int mm, em, ?_⟩
    refine ⟨a, mm, rfl, k3.2, by omega, by omega, fun v H4 v0 v1 k4 => ?_⟩
    obtain ⟨v, rfl⟩ : ∃ t' : Nat, v = (t' : Int) := ⟨v.toNat, by omega⟩
    have ev : ((2 + v : Nat) : Int) = 2 + (v : Int) := Int.natCast_add 2 v
    have kk := (k2.trans k3).trans k4
    refine ⟨a, 3, rfl, kk.2, by decide, by decide, fun t H5 t0 t1 k5 => ?_⟩
    obtain ⟨t, rfl⟩ : ∃ t' : Nat, t = (t' : Int) := ⟨t.toNat, by omega⟩
    refine ⟨2 + (v : Int), rfl, by omega, by omega, ?_⟩
    have kk5 := kk.trans k5
    refine cmp_range (fun i zs H' => i ≤ 2 + v ∧ Step a H H' ∧ ∃ ls : List Int, ls.length ≤ i ∧ zs = ls.map V.int) ⟨Nat.zero_le _, kk5, [], Nat.le_refl _, rfl⟩ ?_ ?_
    · rintro i zs H' hi ⟨_, st, ls, ll, rfl⟩
      refine ⟨by rw [List.length_map]; exact small1000 (by omega), ?_⟩
      refine ⟨a, 1 + (t : Int), rfl, st.2, by omega, by omega, fun x H6 x0 x1 k6 => ?_⟩
      refine iteD (fun c => ?_) (fun c => ?_)
      · exact ⟨by omega, st.trans k6, ls ++ [0 + (i : Int)], by rw [List.length_append]; show ls.length + 1 ≤ _; omega, by rw [List.map_append]; rfl⟩
      · exact ⟨by omega, st.trans k6, ls, by omega, rfl⟩
    · rintro zs H' ⟨_, st, ls, ll, rfl⟩ D hD
      have yD := Same.new hD (.lst (ls.map V.int))
      refine ⟨_, .inl (SqL.of upd_same), fun R H7 y7 hR7 => ?_⟩
      have st7 := (st.same yD).same y7
      refine ⟨Nat.zero_le _, fun e he => ?_⟩
      have ye := Same.new he (.tup [])
      refine ⟨_, _, .ints (ye _ _ hR7), .ints (ns := []) upd_same, shaped_ints _, shaped_ints [], ?_⟩
      have st8 := st7.same ye
      have hR8 := ye _ _ hR7
      generalize upd H7 e (.tup []) = H8 at st8 hR8
      refine iteB (fun c => ?_) (fun c => ?_)
      · refine ⟨by show 3 ≤ sizeLine; decide, fun c hc => ?_⟩
        exact q c (.rests (2 + v) ls) _ ⟨R, by rw [ev]; exact upd_same, (Same.new hc _) _ _ hR8⟩ ⟨by omega, by omega⟩ (st8.same (Same.new hc _))
      · refine ⟨a, 2 + (v : Int), rfl, st8.2, by omega, by omega, fun x H9 x0 x1 k9 => ?_⟩
        refine ⟨by show 1 ≤ sizeLine; decide, fun o ho => ?_⟩
        refine ⟨by show 3 ≤ sizeLine; decide, fun c hc => ?_⟩
        exact q c (.rests (2 + v) [x]) _ ⟨o, by rw [ev]; exact upd_same, (Same.new hc _) _ _ upd_same⟩ ⟨by omega, by omega⟩ (((st8.trans k9).same (Same.new ho _)).same (Same.new hc _))
  · refine ⟨by show 3 ≤ sizeLine; decide, fun w hw => ?_⟩
    have yw := Same.new hw (.tup [V.int 1, .int 2, .int 4])
    refine ⟨w, _, rfl, .inr (SqT.of upd_same), rfl, rfl, ?_⟩
    generalize upd H1 w (.tup [V.int 1, .int 2, .int 4]) = Hw at yw
    have k1 := k1.same yw
    refine ⟨by show 3 ≤ sizeLine; decide, fun d hd => ?_⟩
    have y1 := Same.new hd (.lst [V.int 4, .int 10, .int 59])
    have gd : upd Hw d (.lst [V.int 4, .int 10, .int 59]) d = some (.lst [V.int 4, .int 10, .int 59]) := upd_same
    have da : d ≠ a := k1.2.ne hd
    have k2 := k1.same y1
    generalize upd Hw d (.lst [V.int 4, .int 10, .int 59]) = H2 at gd k2
    refine ⟨a, 3, rfl, k2.2, by decide, by decide, fun u H3 u0 u1 k3 => ?_⟩
    obtain ⟨mm, em⟩ := tail u
    obtain ⟨em, m0, m1⟩ := em u1 u0
    refine ⟨_, .inl (SqL.of (k3.1 _ _ da gd)), .int mm, em, ?_⟩
    refine ⟨a, mm, rfl, k3.2, by omega, by omega, fun v H4 v0 v1 k4 => ?_⟩
    obtain ⟨v, rfl⟩ : ∃ t' : Nat, v = (t' : Int) := ⟨v.toNat, by omega⟩
    have ev : ((2 + v : Nat) : Int) = 2 + (v : Int) := Int.natCast_add 2 v
    have kk := (k2.trans k3).trans k4
    refine ⟨by show 1 ≤ sizeLine; decide, fun p1 hp1 => ⟨by show 1 ≤ sizeLine; decide, fun p2 hp2 => ⟨by show 2 ≤ sizeLine; decide, fun d2 hd2 => ?_⟩⟩⟩
    have z1 := Same.new hp1 (.tup [V.str "all"])
    have z2 := Same.new hp2 (.tup [V.str "own"])
    have z3 := Same.new hd2 (.lst [V.ref p1, V.ref p2])
    refine ⟨⟨by decide, by decide⟩, _, .inl (SqL.of upd_same), .ref p2, rfl, ?_⟩
    exact q p2 .own _ (z3 _ _ upd_same) trivial (((kk.same z1).same z2).same z3)
  · refine ⟨by show 3 ≤ sizeLine; decide, fun w hw => ?_⟩
    have yw := Same.new hw (.tup [V.int 1, .int 2, .int 4])
    refine ⟨w, _, rfl, .inr (SqT.of upd_same), rfl, rfl, ?_⟩
    generalize upd H1 w (.tup [V.int 1, .int 2, .int 4]) = Hw at yw
    have k1 := k1.same yw
    refine ⟨a, 3, rfl, k1.2, by decide, by decide, fun t H4 t0 t1 k4 => ?_⟩
    obtain ⟨t, rfl⟩ : ∃ t' : Nat, t = (t' : Int) := ⟨t.toNat, by omega⟩
    refine ⟨by show 2 ≤ sizeLine; decide, fun c hc => ?_⟩
    exact q c (.off (1 + t)) _ (by show _ = some (HO.tup [V.str "off", V.int ((1 + t : Nat) : Int)]); rw [Int.natCast_add 1 t]; exact upd_same) ⟨by omega, by omega⟩ ((k1.trans k4).same (Same.new hc _))
end
end K25
set_option Elab.async false
set_option linter.all false
set_option maxRecDepth 100000
set_option exponentiation.threshold 100
set_option maxHeartbeats 4000000
namespace K25
open PySem L2 MRow M14 M25
theorem mulG {a b : Int} {A B : Nat} (ha : a.natAbs < 2 ^ A) (hb : b.natAbs < 2 ^ B) (h : A + B ≤ 100000000) : IntMulOk a b := by
  have h1 := PyProof.Rows.intBits_le ha
  have h2 := PyProof.Rows.intBits_le hb
  unfold IntMulOk Builtin.Int.intTooBig
  have h3 : ¬ ((((Builtin.Int.intBits a + Builtin.Int.intBits b : Nat) : Int)) > ((bitsLine : Nat) : Int)) := by
    have e : bitsLine = 134217728 := by decide
    rw [e]
    omega
  rw [Bool.and_eq_true]
  rintro ⟨_, z⟩
  exact h3 (of_decide_eq_true z)
theorem sum_to (F : Nat → Int) : ∀ m, ((List.range m).map F).sum = sumTo m F
  | 0 => rfl
  | m + 1 => by
    rw [List.range_succ, List.map_append, List.sum_append_int, sum_to F m]
    show sumTo m F + (F m + 0) = sumTo m F + F m
    omega
noncomputable def Sm2 (f : Nat → Int) (L : Nat) : Prop := ∀ j, j < L → (f j).natAbs < 2 ^ 1000000
section
variable {P : Program} {w : World} {K : PySem.W.Frag} {mg : Str → Option Value} {base : Heap} {f : Addr} {fd : FuncData}
theorem sc_tm : FnScope ["one", "other", "told", "n"] ["one", "other"] (defScope (top 4)) := ⟨rfl, rfl, rfl, by decide +kernel, rfl, by decide +kernel, by decide +kernel⟩
noncomputable def sp_tm : Sp := fun vs H Q _ => ∃ (a b : Addr) (f g : Nat → Int) (L M : Nat), vs = [.ref a, .ref b] ∧ H a = some (.tup ((tb f L).map V.int)) ∧ H b = some (.tup ((tb g M).map V.int)) ∧ L ≤ 1000 ∧ M ≤ 1000 ∧ Sm2 f L ∧ Sm2 g M ∧ ∀ r H', Same H H' → H' r = some (.tup ((tb (conv f g) (min L M)).map V.int)) → Q (.ref r) H'
theorem ok_tm (F : Fun K "times" "times" (top 4) f fd) (m_len : mg "len" = none) (m_min : mg "min" = none) (m_range : mg "range" = none) (m_sum : mg "sum" = none) (m_tuple : mg "tuple" = none) : FnOk P w K mg base CX0 1 f fd ["one", "other"] sp_tm := by
  refine F.okz sc_tm (fun vs H Q E h => ?_) (fun cdv A outer s H vs Q E hr h => ?_)
  · obtain ⟨a, b, u, v, L, M, rfl, _⟩ := h; rfl
  obtain ⟨a, b, u, v, L, M, rfl, ha, hb, hL, hM, su, sv, q⟩ := h
  have nd := sc_tm.nd
  refine ⟨_, (zss_cons (zs_set (i := 2) nd rfl (Or.inl rfl) (ze_lst za_nil))
      (zss_cons (zs_for PassesOwn.never rfl (zi_range1 rfl m_range (za_cons (zcb_min rfl rfl m_min (za_cons (zcb_len rfl m_len (za_cons (zn 0) za_nil) rfl rfl) (za_cons (zcb_len rfl m_len (za_cons (zn 1) za_nil) rfl rfl) za_nil)) rfl rfl) za_nil)) (zg_name (i := 3) nd rfl (Or.inr rfl)) (zss_one (zs_expr (zm_append (zn 2) (za_cons (zcb_sum rfl rfl m_sum (za_cons (ze_comp ["i"] [("one", 0), ("other", 1), ("n", 3)] rfl ⟨rfl, by decide +kernel, by decide +kernel, rfl, rfl⟩ (zi_range1 rfl m_range (za_cons (ze_op op_addP (zn 3) ze_int) za_nil)) kpg_name (fun _ _ _ _ => zg_name (i := 0) (show List.Nodup (["i", "one", "other", "n"] : List Str) by decide +kernel) rfl (Or.inl rfl)) (fun _ _ _ _ => zif_nil) (fun _ _ _ _ => (ze_op op_mulQ (ze_ix (ix_P' rfl) (zn 1) (zn 0) (fun _ _ => rfl)) (ze_ix (ix_P' rfl) (zn 2) (ze_op op_subP (zn 3) (zn 0)) (fun _ _ => rfl))))) za_nil) rfl rfl) za_nil)))))
      (zss_one (zs_ret (zcb_tuple rfl m_tuple (za_cons (zn 2) za_nil) rfl rfl))))), ?_⟩
  refine ⟨by show 0 ≤ sizeLine; decide, fun D hD => ?_⟩
  have yD := Same.new hD (.lst [])
  have gD : upd H D (.lst []) D = some (.lst ((tb (conv u v) 0).map V.int)) := upd_same
  generalize upd H D (.lst []) = H0 at yD gD
  refine ⟨_, .inr (yD _ _ ha), ?_⟩
  refine ⟨_, .inr (yD _ _ hb), ?_⟩
  rw [List.length_map, List.length_map, tb_len, tb_len]
  have em : (if (M : Int) < (L : Int) then (M : Int) else (L : Int)) = ((min L M : Nat) : Int) := by split <;> omega
  refine ⟨((min L M : Nat) : Int), congrArg (fun z => [V.int z]) em, by omega, by omega, ?_⟩
  rw [Int.toNat_natCast]
  refine for_range (fun n σ H' => n ≤ min L M ∧ Same H H' ∧ H' D = some (.lst ((tb (conv u v) n).map V.int)) ∧ ∃ x3, σ = [some (.ref a), some (.ref b), some (.ref D), x3]) ⟨Nat.zero_le _, yD, gD, _, rfl⟩ ?_ ?_
  · rintro n σ H1 hn ⟨_, y1, hD1, x3, rfl⟩
    refine ⟨tyL hD1, ?_⟩
    have en : (0 : Int) + (n : Int) + 1 = ((n + 1 : Nat) : Int) := by omega
    refine ⟨((n + 1 : Nat) : Int), congrArg (fun z => [V.int z]) en, by omega, by omega, ?_⟩
    rw [Int.toNat_natCast]
    refine cmp_range (fun i zs H' => i ≤ n + 1 ∧ H' = H1 ∧ zs = ((List.range i).map fun (j : Nat) => u j * v (n - j)).map V.int) ⟨Nat.zero_le _, rfl, rfl⟩ ?_ ?_
    · rintro i zs H' hi ⟨_, rfl, rfl⟩
      refine ⟨by rw [List.length_map, List.length_map, List.length_range]; exact small1000 (by omega), ?_⟩
      refine ⟨_, .inr (y1 _ _ ha), .int (u i), atI_of (j := i) (by omega) (by rw [List.getElem?_map, tb_get (by omega)]; rfl), ?_⟩
      refine ⟨_, .inr (y1 _ _ hb), .int (v (n - i)), atI_of (j := n - i) (by show (0 : Int) + (n : Int) - (0 + (i : Int)) = _; omega) (by rw [List.getElem?_map, tb_get (by omega)]; rfl), ?_⟩
      refine ⟨mulG (su i (by omega)) (sv (n - i) (by omega)) (by decide), by omega, rfl, ?_⟩
      rw [List.range_succ, List.map_append, List.map_append]
      rfl
    · rintro zs H' ⟨_, rfl, rfl⟩ C hC
      have yC := Same.new hC (.lst (((List.range (n + 1)).map fun (j : Nat) => u j * v (n - j)).map V.int))
      refine ⟨_, .inl (SqL.of upd_same), ?_⟩
      rw [sum_to]
      have hD2 := yC _ _ hD1
      refine ⟨_, hD2, by rw [List.length_map, tb_len]; exact small1000 (by omega), ?_⟩
      refine ⟨by omega, Same.updN (y1.trans yC) hD, ?_, _, rfl⟩
      rw [upd_same, tb_succ, List.map_append]
      rfl
  · rintro σ H1 ⟨_, y1, hD1, x3, rfl⟩
    exact ⟨_, .inl (SqL.of hD1), fun r H2 y2 hr2 => q r H2 (y1.trans y2) hr2⟩
theorem sc_ud : FnScope ["row", "told", "n"] ["row"] (defScope (top 5)) := ⟨rfl, rfl, rfl, by decide +kernel, rfl, by decide +kernel, by decide +kernel⟩
noncomputable def sp_ud : Sp := fun vs H Q _ => ∃ (a : Addr) (u : Nat → Int) (L : Nat), vs = [.ref a] ∧ H a = some (.tup ((tb u L).map V.int)) ∧ 1 ≤ L ∧ L ≤ 1000 ∧ Sm2 u L ∧ Sm2 (iv u) L ∧ ∀ r H', Same H H' → H' r = some (.tup ((tb (iv u) L).map V.int)) → Q (.ref r) H'
theorem ok_ud (F : Fun K "undone" "undone" (top 5) f fd) (m_len : mg "len" = none) (m_range : mg "range" = none) (m_sum : mg "sum" = none) (m_tuple : mg "tuple" = none) : FnOk P w K mg base CX0 1 f fd ["row"] sp_ud := by
  refine F.okz sc_ud (fun vs H Q E h => ?_) (fun cdv A outer s H vs Q E hr h => ?_)
  · obtain ⟨a, u, L, rfl, _⟩ := h; rfl
  obtain ⟨a, u, L, rfl, ha, l1, l2, su, si, q⟩ := h
  have nd := sc_ud.nd
  refine ⟨_, (zss_cons (zs_set (i := 1) nd rfl (Or.inr rfl) (ze_lst (za_cons ze_int za_nil)))
      (zss_cons (zs_for PassesOwn.never rfl (zi_range2 rfl m_range (za_cons ze_int (za_cons (zcb_len rfl m_len (za_cons (zn 0) za_nil) rfl rfl) za_nil))) (zg_name (i := 2) nd rfl (Or.inr rfl)) (zss_one (zs_expr (zm_append (zn 1) (za_cons (ze_un un_neg (zcb_sum rfl rfl m_sum (za_cons (ze_comp ["i"] [("row", 0), ("told", 1), ("n", 2)] rfl ⟨rfl, by decide +kernel, by decide +kernel, rfl, rfl⟩ (zi_range2 rfl m_range (za_cons ze_int (za_cons (ze_op op_addP (zn 2) ze_int) za_nil))) kpg_name (fun _ _ _ _ => zg_name (i := 0) (show List.Nodup (["i", "row", "told", "n"] : List Str) by decide +kernel) rfl (Or.inl rfl)) (fun _ _ _ _ => zif_nil) (fun _ _ _ _ => (ze_op op_mulQ (ze_ix (ix_P' rfl) (zn 1) (zn 0) (fun _ _ => rfl)) (ze_ix (ix_P' rfl) (zn 2) (ze_op op_subP (zn 3) (zn 0)) (fun _ _ => rfl))))) za_nil) rfl rfl)) za_nil)))))
      (zss_one (zs_ret (zcb_tuple rfl m_tuple (za_cons (zn 1) za_nil) rfl rfl))))), ?_⟩
  refine ⟨by show 1 ≤ sizeLine; decide, fun D hD => ?_⟩
  have yD := Same.new hD (.lst [V.int 1])
  have gD : upd H D (.lst [V.int 1]) D = some (.lst ((tb (iv u) 1).map V.int)) := upd_same
  generalize upd H D (.lst [V.int 1]) = H0 at yD gD
  refine ⟨_, .inr (yD _ _ ha), ?_⟩
  rw [List.length_map, tb_len]
  refine ⟨1, (L : Int), rfl, ⟨by omega, by omega, by omega, by omega⟩, ?_⟩
  have eL : ((L : Int) - 1).toNat = L - 1 := by omega
  rw [eL]
  refine for_range (fun i σ H' => i ≤ L - 1 ∧ Same H H' ∧ H' D = some (.lst ((tb (iv u) (i + 1)).map V.int)) ∧ ∃ x2, σ = [some (.ref a), some (.ref D), x2]) ⟨Nat.zero_le _, yD, gD, _, rfl⟩ ?_ ?_
  · rintro n σ H1 hn ⟨_, y1, hD1, x2, rfl⟩
    refine ⟨tyL hD1, ?_⟩
    have en : (1 : Int) + (n : Int) + 1 = ((n + 2 : Nat) : Int) := by omega
    refine ⟨1, ((n + 2 : Nat) : Int), congrArg (fun z => [V.int 1, V.int z]) en, ⟨by omega, by omega, by omega, by omega⟩, ?_⟩
    have et : (((n + 2 : Nat) : Int) - 1).toNat = n + 1 := by omega
    rw [et]
    refine cmp_range (fun i zs H' => i ≤ n + 1 ∧ H' = H1 ∧ zs = ((List.range i).map fun (k : Nat) => u (k + 1) * iv u (n - k)).map V.int) ⟨Nat.zero_le _, rfl, rfl⟩ ?_ ?_
    · rintro i zs H' hi ⟨_, rfl, rfl⟩
      refine ⟨by rw [List.length_map, List.length_map, List.length_range]; exact small1000 (by omega), ?_⟩
      refine ⟨_, .inr (y1 _ _ ha), .int (u (i + 1)), atI_of (j := i + 1) (by omega) (by rw [List.getElem?_map, tb_get (by omega)]; rfl), ?_⟩
      refine ⟨_, .inl (SqL.of hD1), .int (iv u (n - i)), atI_of (j := n - i) (by show (1 : Int) + (n : Int) - (1 + (i : Int)) = _; omega) (by rw [List.getElem?_map, tb_get (by omega)]; rfl), ?_⟩
      refine ⟨mulG (su (i + 1) (by omega)) (si (n - i) (by omega)) (by decide), by omega, rfl, ?_⟩
      rw [List.range_succ, List.map_append, List.map_append]
      rfl
    · rintro zs H' ⟨_, rfl, rfl⟩ C hC
      have yC := Same.new hC (.lst (((List.range (n + 1)).map fun (k : Nat) => u (k + 1) * iv u (n - k)).map V.int))
      refine ⟨_, .inl (SqL.of upd_same), ?_⟩
      rw [sum_to]
      have hD2 := yC _ _ hD1
      refine ⟨_, rfl, ?_⟩
      refine ⟨_, hD2, by rw [List.length_map, tb_len]; exact small1000 (by omega), ?_⟩
      refine ⟨by omega, Same.updN (y1.trans yC) hD, ?_, _, rfl⟩
      rw [upd_same, tb_succ (iv u) (n + 1), List.map_append, iv_succ]
      rfl
  · rintro σ H1 ⟨_, y1, hD1, x2, rfl⟩
    rw [show L - 1 + 1 = L by omega] at hD1
    refine ⟨_, .inl (SqL.of hD1), fun r H2 y2 hr2 => q r H2 (y1.trans y2) hr2⟩
theorem sc_pr : FnScope ["powers", "row", "size", "power", "turn"] ["powers"] (defScope (top 10)) := ⟨rfl, rfl, rfl, by decide +kernel, rfl, by decide +kernel, by decide +kernel⟩
noncomputable def sp_pr : Sp := fun vs H Q _ => ∃ (a : Addr) (ps : List Int), vs = [.ref a] ∧ H a = some (.tup (ps.map V.int)) ∧ ps.length ≤ 600 ∧ (∀ p ∈ ps, p.natAbs ≤ 20) ∧ ∀ r H', Same H H' → H' r = some (.tup ((tb (M21.prod ps) (ps.length + 1)).map V.int)) → Q (.ref r) H'
theorem ok_pr (F : Fun K "product" "product" (top 10) f fd) (m_enumerate : mg "enumerate" = none) (m_len : mg "len" = none) (m_range : mg "range" = none) (m_tuple : mg "tuple" = none) (F_begun : FnA P w K mg base "begun" 1 ["most"] sp_begun) (F_put_on : FnA P w K mg base "put_on" 1 ["row", "size"] sp_put_on) (F_taken_off : FnA P w K mg base "taken_off" 1 ["row", "size"] sp_to) : FnOk P w K mg base CX0 2 f fd ["powers"] sp_pr := by
  refine F.okz sc_pr (fun vs H Q E h => ?_) (fun cdv A outer s H vs Q E hr h => ?_)
  · obtain ⟨a, ps, rfl, _⟩ := h; rfl
  obtain ⟨a, ps, rfl, ha, hl, sm, q⟩ := h
  have nd := sc_pr.nd
  refine ⟨_, (zss_cons (zs_set (i := 1) nd rfl (Or.inl rfl) (ze_fn F_begun hr (by decide) rfl (za_cons (zcb_len rfl m_len (za_cons (zn 0) za_nil) rfl rfl) za_nil)))
      (zss_cons (zs_for PassesOwn.never rfl (zi_enum1 rfl m_enumerate (za_cons (zn 0) za_nil)) (zg_tup rfl (zgs_cons (zg_name (i := 2) nd rfl (Or.inl rfl)) (zgs_cons (zg_name (i := 3) nd rfl (Or.inl rfl)) zgs_nil))) (zss_cons (zs_for PassesOwn.never rfl (zi_range1 rfl m_range (za_cons (zn 3) za_nil)) (zg_name (i := 4) nd rfl (Or.inl rfl)) (zss_one (zs_set (i := 1) nd rfl (Or.inl rfl) (ze_fn F_put_on hr (by decide) rfl (za_cons (zn 1) (za_cons (zn 2) za_nil))))))
      (zss_one (zs_for PassesOwn.never rfl (zi_range1 rfl m_range (za_cons (ze_un un_neg (zn 3)) za_nil)) (zg_name (i := 4) nd rfl (Or.inl rfl)) (zss_one (zs_set (i := 1) nd rfl (Or.inl rfl) (ze_fn F_taken_off hr (by decide) rfl (za_cons (zn 1) (za_cons (zn 2) za_nil)))))))))
      (zss_one (zs_ret (zcb_tuple rfl m_tuple (za_cons (zn 1) za_nil) rfl rfl))))), ?_⟩
  refine ⟨_, .inr ha, ?_⟩
  rw [List.length_map]
  refine ⟨ps.length, rfl, by omega, fun r0 H1 hr0 y1 hr1 => ?_⟩
  refine ⟨_, y1 _ _ ha, ?_⟩
  refine for_enum1 (xs := ps.map V.int) (fun i σ H' => Same H H' ∧ (∃ r, H' r = some (.lst ((tb (M21.prod (ps.take i)) (ps.length + 1)).map V.int)) ∧ ∃ x2 x3 x4, σ = [some (.ref a), some (.ref r), x2, x3, x4])) ⟨y1, r0, hr1, _, _, _, rfl⟩ ?_ ?_ ?_
  · rintro i σ H' _ ⟨y, _⟩
    exact y _ _ ha
  · rintro i x σ H' pp hx ⟨y, r, hr', x2, x3, x4, rfl⟩ hpp
    have hi : i < ps.length := by have := (List.getElem?_eq_some_iff.mp hx).1; simpa using this
    rw [getI hi] at hx
    cases hx
    have yp := Same.new hpp (.tup [V.int ((i + 1 : Nat) : Int), .int ps[i]])
    refine ⟨pp, _, rfl, SqT.of upd_same, rfl, _, _, rfl, _, _, rfl, rfl, ?_⟩
    have y2 := y.trans yp
    have hr2 := yp _ _ hr'
    generalize upd H' pp (.tup [V.int ((i + 1 : Nat) : Int), .int ps[i]]) = H2 at yp y2 hr2
    have pb := sm _ (List.getElem_mem hi)
    have et : M21.prod (ps.take (i + 1)) = M21.pw (M21.prod (ps.take i)) (i + 1) ps[i] := by
      rw [List.take_succ, List.getElem?_eq_getElem hi]
      show M21.prod (ps.take i ++ [ps[i]]) = _
      rw [M21.prod_snoc, List.length_take, Nat.min_eq_left (by omega)]
    generalize M21.prod (ps.take i) = g at hr2 et
    generalize ps[i] = p at pb et
    refine ⟨p, rfl, by omega, by omega, ?_⟩
    refine for_range (fun k σ H' => k ≤ 20 ∧ Same H H' ∧ ∃ r, H' r = some (.lst ((tb (M21.iter k (fun h => put h (i + 1)) g) (ps.length + 1)).map V.int)) ∧ ∃ x4, σ = [some (.ref a), some (.ref r), some (.int ((i + 1 : Nat) : Int)), some (.int p), x4]) ⟨by decide, y2, r, hr2, _, rfl⟩ ?_ ?_
    · rintro k σ H3 hk ⟨_, y3, r3, hr3, x4, rfl⟩
      refine ⟨r3, i + 1, ps.length + 1, _, rfl, by omega, by omega, by omega, hr3, fun r4 H4 hr4 y4 hr4' => ?_⟩
      exact ⟨by omega, y3.trans y4, r4, hr4', _, rfl⟩
    · rintro σ H3 ⟨_, y3, r3, hr3, x4, rfl⟩
      refine ⟨p, rfl, ?_⟩
      refine ⟨-p, rfl, by omega, by omega, ?_⟩
      refine for_range (fun k σ H' => k ≤ 20 ∧ Same H H' ∧ ∃ r, H' r = some (.lst ((tb (M21.iter k (fun h => M21.off h (i + 1)) (M21.iter p.toNat (fun h => put h (i + 1)) g)) (ps.length + 1)).map V.int)) ∧ ∃ x4, σ = [some (.ref a), some (.ref r), some (.int ((i + 1 : Nat) : Int)), some (.int p), x4]) ⟨by decide, y3, r3, hr3, _, rfl⟩ ?_ ?_
      · rintro k σ H5 hk ⟨_, y5, r5, hr5, x4, rfl⟩
        refine ⟨r5, i + 1, ps.length + 1, _, rfl, by omega, by omega, by omega, .inl hr5, fun r6 H6 hr6 y6 hr6' => ?_⟩
        exact ⟨by omega, y5.trans y6, r6, hr6', _, rfl⟩
      · rintro σ H5 ⟨_, y5, r5, hr5, x4, rfl⟩
        refine ⟨y5, r5, ?_, _, _, _, rfl⟩
        rw [hr5, et]
        unfold M21.pw
        by_cases hp : 0 ≤ p
        · rw [if_pos hp, show (-p).toNat = 0 by omega]
          rfl
        · rw [if_neg hp, show p.toNat = 0 by omega]
          rfl
  · rintro σ H' ⟨y, r, hr', x2, x3, x4, rfl⟩
    rw [List.take_of_length_le (by rw [List.length_map]; exact Nat.le_refl _)] at hr'
    exact ⟨_, .inl (SqL.of hr'), fun r2 H2 y2 hr2 => q r2 H2 (y.trans y2) hr2⟩
end
end K25
set_option Elab.async false
set_option linter.all false
set_option maxRecDepth 100000
set_option exponentiation.threshold 100
set_option maxHeartbeats 4000000
namespace K25
open PySem L2 MRow M14 M25
theorem tbI_len (f : Nat → Int) (L : Nat) : ((tb f L).map V.int).length = L := by rw [List.length_map, tb_len]
theorem tbI_get {f : Nat → Int} {L j : Nat} (h : j < L) : ((tb f L).map V.int)[j]? = some (.int (f j)) := by rw [List.getElem?_map, tb_get h]; rfl
noncomputable def tm (ps : List Int) (i : Nat) : Int := ((i + 1 : Nat) : Int) * ps.getD i 0
noncomputable def svl (ps : List Int) (D j : Nat) : List Int := ((List.range D).filter fun i => decide (j % (i + 1) = 0)).map (tm ps)
noncomputable def sv (ps : List Int) (D j : Nat) : Int := (svl ps D j).sum
theorem svl_succ (ps : List Int) (D j : Nat) : svl ps (D + 1) j = svl ps D j ++ if j % (D + 1) = 0 then [tm ps D] else [] := by
  unfold svl
  rw [List.range_succ, List.filter_append, List.map_append]
  congr 1
  by_cases h : j % (D + 1) = 0
  · rw [if_pos h, List.filter_cons_of_pos (by simpa using h)]; rfl
  · rw [if_neg h, List.filter_cons_of_neg (by simpa using h)]; rfl
theorem sv_succ (ps : List Int) (D j : Nat) : sv ps (D + 1) j = sv ps D j + if j % (D + 1) = 0 then tm ps D else 0 := by
  unfold sv
  rw [svl_succ, List.sum_append_int]
  split
  · rw [List.sum_cons, List.sum_nil, Int.add_zero]
  · rfl
theorem sv_is (ps : List Int) (j : Nat) : sv ps ps.length j = M21.sv ps j := M24.dvl_sum ps j ps.length
theorem by_own {ps : List Int} {g : Nat → Int} {n : Nat} (h : ∀ j, j ≤ n → M21.prod ps j = g j) {i : Nat} (hi : i < n) :
    ((List.range (i + 1)).map fun t => M21.sv ps (t + 1) * g (i - t)).sum = ((i + 1 : Nat) : Int) * g (i + 1) := by
  have s := M24.step_own h hi
  have g0 : g 0 = 1 := by rw [← h 0 (by omega)]; exact (M21.prod_steps n ps).1
  rw [List.range_succ, List.map_append, List.sum_append_int]
  show _ + (M21.sv ps (i + 1) * g (i - i) + 0) = _
  rw [Nat.sub_self, g0, Int.mul_one]
  omega
noncomputable def svp (ps : List Int) (i j : Nat) : Int := M21.sm i fun t => ps.getD t 0 * M21.ind (t + 1) j
noncomputable def lA (ps : List Int) (i k : Nat) : Int := M21.sv ps (k + 1) - svp ps i (k + 1)
theorem lA_own {ps : List Int} {i : Nat} (h : i < ps.length) : lA ps i i = ((i + 1 : Nat) : Int) * ps.getD i 0 := by
  unfold lA svp M21.sv
  obtain ⟨c, hc⟩ : ∃ c, ps.length = (i + 1) + c := ⟨ps.length - (i + 1), by omega⟩
  rw [hc, M21.sm_shift, M21.sm_succ, M21.sm_none (n := c)]
  · unfold M21.ind
    rw [if_pos (Nat.mod_self _), Int.mul_comm]
    omega
  · intro t ht
    unfold M21.ind
    rw [if_neg (by rw [Nat.mod_eq_of_lt (by omega)]; omega), Int.mul_zero]
theorem lA_succ (ps : List Int) (i k : Nat) : lA ps (i + 1) k = lA ps i k - if (k + 1) % (i + 1) = 0 then ((i + 1 : Nat) : Int) * ps.getD i 0 else 0 := by
  unfold lA svp
  rw [M21.sm_succ]
  have : ps.getD i 0 * M21.ind (i + 1) (k + 1) = if (k + 1) % (i + 1) = 0 then ((i + 1 : Nat) : Int) * ps.getD i 0 else 0 := by
    unfold M21.ind
    split
    · rw [Int.mul_comm]
    · rw [Int.mul_zero]
  rw [this]
  omega
section
variable {P : Program} {w : World} {K : PySem.W.Frag} {mg : Str → Option Value} {base : Heap} {f : Addr} {fd : FuncData}
theorem sc_so : FnScope ["powers", "many", "steps", "d", "j"] ["powers"] (defScope (top 11)) := ⟨rfl, rfl, rfl, by decide +kernel, rfl, by decide +kernel, by decide +kernel⟩
noncomputable def sp_so : Sp := fun vs H Q _ => ∃ (a : Addr) (ps : List Int), vs = [.ref a] ∧ H a = some (.tup (ps.map V.int)) ∧ ps.length ≤ 600 ∧ ∀ r H', Same H H' → H' r = some (.tup ((tb (fun k => M21.sv ps (k + 1)) ps.length).map V.int)) → Q (.ref r) H'
theorem ok_so (F : Fun K "steps_of" "steps_of" (top 11) f fd) (m_len : mg "len" = none) (m_range : mg "range" = none) (m_tuple : mg "tuple" = none) : FnOk P w K mg base CX0 1 f fd ["powers"] sp_so := by
  refine F.okz sc_so (fun vs H Q E h => ?_) (fun cdv A outer s H vs Q E hr h => ?_)
  · obtain ⟨a, ps, rfl, _⟩ := h; rfl
  obtain ⟨a, ps, rfl, ha, hl, q⟩ := h
  have nd := sc_so.nd
  have hu := hr.units
  obtain ⟨N, eN⟩ : ∃ N, N = ps.length := ⟨_, rfl⟩
  refine ⟨_, (zss_cons (zs_set (i := 1) nd rfl (Or.inl rfl) (zcb_len rfl m_len (za_cons (zn 0) za_nil) rfl rfl))
      (zss_cons (zs_set (i := 2) nd rfl (Or.inl rfl) (ze_op op_mulQ (ze_lst (za_cons ze_int za_nil)) (zn 1)))
      (zss_cons (zs_for PassesOwn.never rfl (zi_range2 rfl m_range (za_cons ze_int (za_cons (ze_op op_addP (zn 1) ze_int) za_nil))) (zg_name (i := 3) nd rfl (Or.inl rfl)) (zss_one (zs_for PassesOwn.never rfl (zi_range3 rfl m_range (za_cons (zn 3) (za_cons (ze_op op_addP (zn 1) ze_int) (za_cons (zn 3) za_nil)))) (zg_name (i := 4) nd rfl (Or.inl rfl)) (zss_one (zs_augS (zn 2) (ze_op op_subP (zn 4) ze_int) get_list (ze_op op_mulQ (zn 3) (ze_ix ix_P (zn 0) (ze_op op_subP (zn 3) ze_int) (fun _ _ => rfl))) ip_addP set_listP)))))
      (zss_one (zs_ret (zcb_tuple rfl m_tuple (za_cons (zn 2) za_nil) rfl rfl)))))), ?_⟩
  refine ⟨_, .inr ha, ?_⟩
  rw [List.length_map, ← eN]
  refine ⟨by show 1 ≤ sizeLine; decide, fun d hd => ?_⟩
  have yd := Same.new hd (.lst [V.int 0])
  refine ⟨⟨by omega, by omega⟩, .inl ⟨_, upd_same, le_line (by show 1 * (N : Int).toNat ≤ 1000; omega), fun L hL => ?_⟩⟩
  rw [rep_flat, Int.toNat_natCast]
  have yL := Same.new hL (.lst ((List.replicate N (0 : Int)).map V.int))
  have hLH : H L = none := fresh_back yd hL
  have y0 := yd.trans yL
  have gL : upd (upd H d (.lst [V.int 0])) L (.lst ((List.replicate N (0 : Int)).map V.int)) L = some (.lst (((List.range N).map fun k => sv ps 0 (k + 1)).map V.int)) := by
    rw [upd_same]
    congr 3
    refine List.ext_getElem (by simp) fun i h1 h2 => ?_
    rw [List.getElem_replicate, List.getElem_map]
    rfl
  generalize upd (upd H d (.lst [V.int 0])) L (.lst ((List.replicate N (0 : Int)).map V.int)) = H0 at yL y0 gL
  refine ⟨1, (N : Int) + 1, rfl, ⟨by omega, by omega, by omega, by omega⟩, ?_⟩
  have eM : ((N : Int) + 1 - 1).toNat = N := by omega
  refine for_range (fun i σ H' => i ≤ N ∧ Same H H' ∧ H' L = some (.lst (((List.range N).map fun k => sv ps i (k + 1)).map V.int)) ∧ ∃ x3 x4, σ = [some (.ref a), some (.int N), some (.ref L), x3, x4]) ⟨Nat.zero_le _, y0, gL, _, _, rfl⟩ ?_ ?_
  · rintro i σ H' hi ⟨_, y, hL', x3, x4, rfl⟩
    have hi' : i < N := by omega
    have ek : (1 : Int) + (i : Int) = ((i + 1 : Nat) : Int) := by omega
    rw [ek]
    refine ⟨((i + 1 : Nat) : Int), (N : Int) + 1, ((i + 1 : Nat) : Int), rfl, ⟨by omega, ⟨by omega, by omega⟩, M27.small_up (by omega) (by omega) (by omega) (by omega) (by omega) (by omega)⟩, ?_⟩
    refine for_rangeS (fun j σ H' => Same H H' ∧ H' L = some (.lst (((List.range N).map fun k => if (k + 1) % (i + 1) = 0 ∧ k + 1 < (i + 1) + j * (i + 1) then sv ps (i + 1) (k + 1) else sv ps i (k + 1)).map V.int)) ∧ ∃ x4, σ = [some (.ref a), some (.int N), some (.ref L), some (.int ((i + 1 : Nat) : Int)), x4]) ⟨y, ?_, _, rfl⟩ ?_ ?_
    · rw [hL']
      congr 3
      refine List.map_congr_left fun k hk => ?_
      rw [if_neg]
      rintro ⟨h1, h2⟩
      have : i + 1 ≤ k + 1 := Nat.le_of_dvd (by omega) (Nat.dvd_of_mod_eq_zero h1)
      omega
    · rintro j σ H2 hj ⟨y2, hL2, x4, rfl⟩
      have hlt := M27.size_lt (by omega) hj
      have ej : ((i + 1 : Nat) : Int) + (j : Int) * ((i + 1 : Nat) : Int) = (((i + 1) + j * (i + 1) : Nat) : Int) := by rw [Int.natCast_add (i + 1) (j * (i + 1)), Int.natCast_mul j (i + 1)]
      rw [ej] at hlt ⊢
      obtain ⟨m, em⟩ : ∃ m, (i + 1) + j * (i + 1) = m + 1 := ⟨i + j * (i + 1), by omega⟩
      rw [em] at hlt ⊢
      have hm : m < N := by omega
      have dv : (m + 1) % (i + 1) = 0 := by rw [← em]; exact Nat.mod_eq_zero_of_dvd ⟨1 + j, by grind⟩
      have e1 : (((m + 1 : Nat) : Int) - 1).toNat = m := by omega
      refine ⟨_, .int (sv ps i (m + 1)), SqL.of hL2, by omega, ?_, ?_⟩
      · rw [e1, List.getElem?_map, List.getElem?_map, List.getElem?_range hm]
        show some (V.int (if _ then _ else _)) = _
        rw [if_neg (by rw [em]; omega)]
      refine ⟨_, .inr (y2 _ _ ha), .int (ps.getD i 0), atI_of (j := i) (by omega) ?_, mulL (by omega) (by omega), ?_⟩
      · rw [getI (show i < ps.length by omega), List.getD_eq_getElem?_getD, List.getElem?_eq_getElem (show i < ps.length by omega)]; rfl
      refine ⟨_, hL2, by omega, by rw [e1]; simpa using hm, Same.updN y2 hLH, ?_, _, rfl⟩
      rw [upd_same, e1]
      congr 2
      refine List.ext_getElem? fun k => ?_
      rw [List.getElem?_set]
      by_cases hk : m = k
      · subst hk
        rw [if_pos rfl, if_pos (by simpa using hm), List.getElem?_map, List.getElem?_map, List.getElem?_range hm]
        show some (V.int (sv ps i (m + 1) + ((i + 1 : Nat) : Int) * ps.getD i 0)) = some (V.int (if _ then _ else _))
        rw [if_pos ⟨dv, by rw [Nat.add_mul, Nat.one_mul]; omega⟩, sv_succ, if_pos dv]
        rfl
      · rw [if_neg hk]
        by_cases hkN : k < N
        · rw [List.getElem?_map, List.getElem?_map, List.getElem?_map, List.getElem?_map, List.getElem?_range hkN]
          show some (V.int (if _ then _ else _)) = some (V.int (if _ then _ else _))
          congr 2
          by_cases h1 : (k + 1) % (i + 1) = 0
          · by_cases h2 : k + 1 < (i + 1) + j * (i + 1)
            · rw [if_pos ⟨h1, h2⟩, if_pos ⟨h1, by rw [Nat.add_mul, Nat.one_mul]; omega⟩]
            · rw [if_neg fun z => h2 z.2, if_neg]
              rintro ⟨_, h3⟩
              obtain ⟨t, ht⟩ := Nat.dvd_of_mod_eq_zero h1
              have e5 : (i + 1) * (1 + j) = m + 1 := by rw [← em]; grind
              have e6 : (i + 1) + (j + 1) * (i + 1) = (i + 1) * (2 + j) := by grind
              rw [ht, e6] at h3
              have ht2 : t < 2 + j := Nat.lt_of_mul_lt_mul_left h3
              have h4 : (i + 1) * (1 + j) ≤ (i + 1) * t := by rw [e5, ← ht]; omega
              have ht3 : 1 + j ≤ t := Nat.le_of_mul_le_mul_left h4 (by omega)
              have : t = 1 + j := by omega
              subst this
              omega
          · rw [if_neg fun z => h1 z.1, if_neg fun z => h1 z.1]
        · rw [List.getElem?_eq_none (by simpa using hkN), List.getElem?_eq_none (by simpa using hkN)]
    · rintro σ H2 ⟨y2, hL2, x4, rfl⟩
      refine ⟨by omega, y2, ?_, _, _, rfl⟩
      rw [hL2]
      congr 3
      refine List.map_congr_left fun k hk => ?_
      have hk' := List.mem_range.mp hk
      rw [sv_succ]
      by_cases h1 : (k + 1) % (i + 1) = 0
      · have := M27.size_all (a := ((i + 1 : Nat) : Int)) (b := (N : Int) + 1) (m := ((i + 1 : Nat) : Int)) (by omega) (j := ((k + 1 : Nat) : Int)) (by omega)
        rw [if_pos ⟨h1, by rw [← Int.natCast_mul, ← Int.natCast_add] at this; exact Int.ofNat_lt.mp this⟩, if_pos h1]
      · rw [if_neg fun z => h1 z.1, if_neg h1, Int.add_zero]
  · rintro σ H' ⟨_, y, hL', x3, x4, rfl⟩
    rw [eM] at hL'
    refine ⟨_, .inl (SqL.of hL'), fun r H3 y3 hr3 => q r H3 (y.trans y3) ?_⟩
    rw [hr3]
    congr 3
    rw [← eN]
    show (List.range N).map (fun k => sv ps N (k + 1)) = (List.range N).map fun k => M21.sv ps (k + 1)
    refine List.map_congr_left fun k hk => ?_
    rw [eN]
    exact sv_is ps (k + 1)
theorem sc_bs : FnScope ["steps", "row", "n", "total"] ["steps"] (defScope (top 12)) := ⟨rfl, rfl, rfl, by decide +kernel, rfl, by decide +kernel, by decide +kernel⟩
noncomputable def sp_bs : Sp := fun vs H Q _ => ∃ (a : Addr) (n : Nat) (g : Nat → Int) (ps : List Int), vs = [.ref a] ∧ n ≤ 600 ∧ H a = some (.tup ((tb (fun k => M21.sv ps (k + 1)) n).map V.int)) ∧ (∀ j, j ≤ n → M21.prod ps j = g j) ∧ (∀ j, j ≤ n → (g j).natAbs < M25.B) ∧ ∀ r H', Same H H' → H' r = some (.tup ((tb g (n + 1)).map V.int)) → Q (.ref r) H'
theorem ok_bs (F : Fun K "by_steps" "by_steps" (top 12) f fd) (m_len : mg "len" = none) (m_range : mg "range" = none) (m_sum : mg "sum" = none) (m_tuple : mg "tuple" = none)  : FnOk P w K mg base CX0 1 f fd ["steps"] sp_bs := by
  refine F.okz sc_bs (fun vs H Q E h => ?_) (fun cdv A outer s H vs Q E hr h => ?_)
  · obtain ⟨a, n, g, ps, rfl, _⟩ := h; rfl
  obtain ⟨a, n, g, ps, rfl, hn, ha, hp, hB, q⟩ := h
  have nd := sc_bs.nd
  have hu := hr.units
  have g0 : g 0 = 1 := by rw [← hp 0 (by omega)]; exact (M21.prod_steps n ps).1
  have sml := fun i (hi : i < n) => sv_sm hn hp hB hi
  have gsm := row_sm hB
  have own := fun i (hi : i < n) => by_own hp hi
  generalize M21.sv ps = sv at *
  refine ⟨_, (zss_cons (zs_set (i := 1) nd rfl (Or.inr rfl) (ze_lst (za_cons ze_int za_nil)))
      (zss_cons (zs_for PassesOwn.never rfl (zi_range2 rfl m_range (za_cons ze_int (za_cons (ze_op op_addP (zcb_len rfl m_len (za_cons (zn 0) za_nil) rfl rfl) ze_int) za_nil))) (zg_name (i := 2) nd rfl (Or.inr rfl)) (zss_cons (zs_set (i := 3) nd rfl (Or.inl rfl) (zcb_sum rfl rfl m_sum (za_cons (ze_comp ["j"] [("steps", 0), ("row", 1), ("n", 2)] rfl ⟨rfl, by decide +kernel, by decide +kernel, rfl, rfl⟩ (zi_range2 rfl m_range (za_cons ze_int (za_cons (ze_op op_addP (zn 2) ze_int) za_nil))) kpg_name (fun _ _ _ _ => zg_name (i := 0) (show List.Nodup (["j", "steps", "row", "n"] : List Str) by decide +kernel) rfl (Or.inl rfl)) (fun _ _ _ _ => zif_nil) (fun _ _ _ _ => (ze_op op_mulQ (ze_ix (ix_P' rfl) (zn 1) (ze_op op_subP (zn 0) ze_int) (fun _ _ => rfl)) (ze_ix (ix_P' rfl) (zn 2) (ze_op op_subP (zn 3) (zn 0)) (fun _ _ => rfl))))) za_nil) rfl rfl))
      (zss_cons (zs_if (zt_cmpP (op_neD hu) (ze_op op_modP (zn 3) (zn 2)) ze_int (nomark _)) (zss_one zs_no) zss_nil)
      (zss_one (zs_expr (zm_append (zn 1) (za_cons (ze_op op_fdivP (zn 3) (zn 2)) za_nil)))))))
      (zss_one (zs_ret (zcb_tuple rfl m_tuple (za_cons (zn 1) za_nil) rfl rfl))))), ?_⟩
  refine ⟨by show 1 ≤ sizeLine; decide, fun L hL => ?_⟩
  have yL := Same.new hL (.lst [V.int 1])
  have gL : upd H L (.lst [V.int 1]) L = some (.lst ((tb g 1).map V.int)) := by
    rw [upd_same]
    show _ = some (HO.lst [V.int (g 0)])
    rw [g0]
  generalize upd H L (.lst [V.int 1]) = H1 at yL gL
  refine ⟨_, .inr (yL _ _ ha), ?_⟩
  rw [tbI_len]
  refine ⟨1, (n : Int) + 1, rfl, ⟨by omega, by omega, by omega, by omega⟩, ?_⟩
  have eN : ((n : Int) + 1 - 1).toNat = n := by omega
  rw [eN]
  refine for_range (fun i σ H' => i ≤ n ∧ Same H H' ∧ H' L = some (.lst ((tb g (i + 1)).map V.int)) ∧ ∃ x2 x3, σ = [some (.ref a), some (.ref L), x2, x3]) ⟨Nat.zero_le _, yL, gL, _, _, rfl⟩ ?_ ?_
  · rintro i σ H2 hi ⟨_, y2, hL2, x2, x3, rfl⟩
    have ek : (1 : Int) + (i : Int) = ((i + 1 : Nat) : Int) := by omega
    rw [ek]
    refine ⟨1, ((i + 1 : Nat) : Int) + 1, rfl, ⟨by omega, by omega, by omega, by omega⟩, ?_⟩
    have eM : (((i + 1 : Nat) : Int) + 1 - 1).toNat = i + 1 := by omega
    rw [eM]
    refine cmp_range (fun j zs H4 => H4 = H2 ∧ j ≤ i + 1 ∧ zs = ((List.range j).map fun t => sv (t + 1) * g (i - t)).map V.int) ⟨rfl, Nat.zero_le _, rfl⟩ ?_ ?_
    · rintro j zs H4 hj ⟨rfl, _, rfl⟩
      have ej : (1 : Int) + (j : Int) = ((j + 1 : Nat) : Int) := by omega
      rw [ej]
      refine ⟨by rw [List.length_map, List.length_map, List.length_range]; exact small1000 (by omega), ?_⟩
      refine ⟨_, .inr (y2 _ _ ha), .int (sv (j + 1)), atI_of (j := j) (by omega) (tbI_get (f := fun k => sv (k + 1)) (by omega)), ?_⟩
      refine ⟨_, .inl (SqL.of hL2), .int (g (i - j)), atI_of (j := i - j) (by omega) (tbI_get (by omega)), ?_⟩
      refine ⟨mulG (sml j (by omega)) (gsm (i - j) (by omega)) (by decide), rfl, by omega, ?_⟩
      rw [List.range_succ, List.map_append, List.map_append]
      rfl
    · rintro zs H4 ⟨rfl, _, rfl⟩ D hD
      have yD := Same.new hD (.lst (((List.range (i + 1)).map fun t => sv (t + 1) * g (i - t)).map V.int))
      have gl := yD _ _ hL2
      have yy := y2.trans yD
      refine ⟨_, .inl (SqL.of upd_same), ?_⟩
      generalize upd H4 D (.lst (((List.range (i + 1)).map fun t => sv (t + 1) * g (i - t)).map V.int)) = H5 at gl yy
      refine ⟨show (0 : Int) < ((i + 1 : Nat) : Int) by omega, ?_⟩
      have e := own i (by omega)
      refine iteB (fun c => ?_) (fun _ => ?_)
      · exfalso
        have z : (!decide (V.int (((List.range (i + 1)).map fun t => sv (t + 1) * g (i - t)).sum % ((i + 1 : Nat) : Int)) = V.int 0)) = true := c
        rw [e, Int.mul_emod_right] at z
        simp at z
      · refine ⟨tyL gl, ⟨by omega, by omega⟩, ?_⟩
        refine ⟨_, gl, by rw [tbI_len]; exact small1000 (by omega), ?_⟩
        refine ⟨by omega, Same.updN yy hL, ?_, _, _, rfl⟩
        rw [upd_same, tb_succ g (i + 1), List.map_append]
        have e2 : ((List.range (i + 1)).map fun t => sv (t + 1) * g (i - t)).sum / ((i + 1 : Nat) : Int) = g (i + 1) := by rw [e]; exact Int.mul_ediv_cancel_left _ (by omega)
        rw [← e2]
        rfl
  · rintro σ H2 ⟨_, y2, hL2, x2, x3, rfl⟩
    exact ⟨_, .inl (SqL.of hL2), fun r H3 y3 hr3 => q r H3 (y2.trans y3) hr3⟩
theorem sc_sf : FnScope ["row", "steps", "n", "known"] ["row"] (defScope (top 13)) := ⟨rfl, rfl, rfl, by decide +kernel, rfl, by decide +kernel, by decide +kernel⟩
noncomputable def sp_sf : Sp := fun vs H Q _ => ∃ (a : Addr) (n : Nat) (g : Nat → Int) (ps : List Int), vs = [.ref a] ∧ n ≤ 600 ∧ H a = some (.tup ((tb g (n + 1)).map V.int)) ∧ ps.length = n ∧ (∀ j, j ≤ n → M21.prod ps j = g j) ∧ (∀ j, j ≤ n → (g j).natAbs < M25.B) ∧ ∀ r H', H r = none → Same H H' → H' r = some (.lst ((tb (fun i => M21.sv ps (i + 1)) n).map V.int)) → Q (.ref r) H'
theorem ok_sf (F : Fun K "steps_found" "steps_found" (top 13) f fd) (m_len : mg "len" = none) (m_range : mg "range" = none) (m_sum : mg "sum" = none)  : FnOk P w K mg base CX0 1 f fd ["row"] sp_sf := by
  refine F.okz sc_sf (fun vs H Q E h => ?_) (fun cdv A outer s H vs Q E hr h => ?_)
  · obtain ⟨a, n, g, ps, rfl, _⟩ := h; rfl
  obtain ⟨a, n, g, ps, rfl, hn, ha, lp, hp, hB, q⟩ := h
  have nd := sc_sf.nd
  have hu := hr.units
  have sml := fun i (hi : i < n) => sv_sm hn hp hB hi
  have gsm := row_sm hB
  have own := fun i (hi : i < n) => M24.step_own hp hi
  generalize M21.sv ps = sv at *
  refine ⟨_, (zss_cons (zs_set (i := 1) nd rfl (Or.inr rfl) (ze_lst za_nil))
      (zss_cons (zs_for PassesOwn.never rfl (zi_range2 rfl m_range (za_cons ze_int (za_cons (zcb_len rfl m_len (za_cons (zn 0) za_nil) rfl rfl) za_nil))) (zg_name (i := 2) nd rfl (Or.inr rfl)) (zss_cons (zs_set (i := 3) nd rfl (Or.inl rfl) (zcb_sum rfl rfl m_sum (za_cons (ze_comp ["j"] [("steps", 1), ("row", 0), ("n", 2)] rfl ⟨rfl, by decide +kernel, by decide +kernel, rfl, rfl⟩ (zi_range2 rfl m_range (za_cons ze_int (za_cons (zn 2) za_nil))) kpg_name (fun _ _ _ _ => zg_name (i := 0) (show List.Nodup (["j", "steps", "row", "n"] : List Str) by decide +kernel) rfl (Or.inl rfl)) (fun _ _ _ _ => zif_nil) (fun _ _ _ _ => (ze_op op_mulQ (ze_ix (ix_P' rfl) (zn 1) (ze_op op_subP (zn 0) ze_int) (fun _ _ => rfl)) (ze_ix (ix_P' rfl) (zn 2) (ze_op op_subP (zn 3) (zn 0)) (fun _ _ => rfl))))) za_nil) rfl rfl))
      (zss_one (zs_expr (zm_append (zn 1) (za_cons (ze_op op_subP (ze_op op_mulQ (zn 2) (ze_ix ix_P (zn 0) (zn 2) (fun _ _ => rfl))) (zn 3)) za_nil))))))
      (zss_one (zs_ret (zn 1))))), ?_⟩
  refine ⟨Nat.zero_le _, fun L hL => ?_⟩
  have yL := Same.new hL (.lst [])
  have gL : upd H L (.lst []) L = some (.lst ((tb (fun i => sv (i + 1)) 0).map V.int)) := upd_same
  generalize upd H L (.lst []) = H1 at yL gL
  refine ⟨_, .inr (yL _ _ ha), ?_⟩
  rw [tbI_len]
  refine ⟨1, ((n + 1 : Nat) : Int), rfl, ⟨by omega, by omega, by omega, by omega⟩, ?_⟩
  have eN : (((n + 1 : Nat) : Int) - 1).toNat = n := by omega
  rw [eN]
  refine for_range (fun i σ H' => i ≤ n ∧ Same H H' ∧ H' L = some (.lst ((tb (fun i => sv (i + 1)) i).map V.int)) ∧ ∃ x2 x3, σ = [some (.ref a), some (.ref L), x2, x3]) ⟨Nat.zero_le _, yL, gL, _, _, rfl⟩ ?_ ?_
  · rintro i σ H4 hi ⟨_, y4, hS4, x2, x3, rfl⟩
    have ek : (1 : Int) + (i : Int) = ((i + 1 : Nat) : Int) := by omega
    rw [ek]
    refine ⟨1, ((i + 1 : Nat) : Int), rfl, ⟨by omega, by omega, by omega, by omega⟩, ?_⟩
    have eM : (((i + 1 : Nat) : Int) - 1).toNat = i := by omega
    rw [eM]
    refine cmp_range (fun j zs H5 => H5 = H4 ∧ j ≤ i ∧ zs = ((List.range j).map fun t => sv (t + 1) * g (i - t)).map V.int) ⟨rfl, Nat.zero_le _, rfl⟩ ?_ ?_
    · rintro j zs H5 hj ⟨rfl, _, rfl⟩
      have ej : (1 : Int) + (j : Int) = ((j + 1 : Nat) : Int) := by omega
      rw [ej]
      refine ⟨by rw [List.length_map, List.length_map, List.length_range]; exact small1000 (by omega), ?_⟩
      refine ⟨_, .inl (SqL.of hS4), .int (sv (j + 1)), atI_of (j := j) (by omega) (tbI_get (f := fun i => sv (i + 1)) (by omega)), ?_⟩
      refine ⟨_, .inr (y4 _ _ ha), .int (g (i - j)), atI_of (j := i - j) (by omega) (tbI_get (by omega)), ?_⟩
      refine ⟨mulG (sml j (by omega)) (gsm (i - j) (by omega)) (by decide), rfl, by omega, ?_⟩
      rw [List.range_succ, List.map_append, List.map_append]
      rfl
    · rintro zs H5 ⟨rfl, _, rfl⟩ D hD
      have yD := Same.new hD (.lst (((List.range i).map fun t => sv (t + 1) * g (i - t)).map V.int))
      have gl := yD _ _ hS4
      have yy := y4.trans yD
      refine ⟨_, .inl (SqL.of upd_same), ?_⟩
      generalize upd H5 D (.lst (((List.range i).map fun t => sv (t + 1) * g (i - t)).map V.int)) = H6 at gl yy
      refine ⟨tyL gl, ?_⟩
      refine ⟨_, .inr (yy _ _ ha), .int (g (i + 1)), atI_of (j := i + 1) rfl (tbI_get (by omega)), ?_⟩
      refine ⟨mulL (by omega) (by omega), ?_⟩
      refine ⟨_, gl, by rw [tbI_len]; exact small1000 (by omega), ?_⟩
      refine ⟨by omega, Same.updN yy hL, ?_, _, _, rfl⟩
      rw [upd_same, tb_succ, List.map_append, ← own i (by omega)]
      rfl
  · rintro σ H4 ⟨_, y4, hS4, x2, x3, rfl⟩
    exact q L H4 hL y4 hS4
theorem sc_pf : FnScope ["row", "left", "many", "powers", "d", "power", "j"] ["row"] (defScope (top 14)) := ⟨rfl, rfl, rfl, by decide +kernel, rfl, by decide +kernel, by decide +kernel⟩
noncomputable def sp_pf : Sp := fun vs H Q _ => ∃ (a : Addr) (n : Nat) (g : Nat → Int), vs = [.ref a] ∧ n ≤ 600 ∧ H a = some (.tup ((tb g (n + 1)).map V.int)) ∧ g 0 = 1 ∧ (∀ j, j ≤ n → (g j).natAbs < M25.B) ∧ ∀ r H' (ps : List Int), Same H H' → H' r = some (.tup (ps.map V.int)) → ps.length = n → (∀ j, j ≤ n → M21.prod ps j = g j) → Q (.ref r) H'
theorem ok_pf (F : Fun K "powers_found" "powers_found" (top 14) f fd) (m_len : mg "len" = none) (m_range : mg "range" = none) (m_tuple : mg "tuple" = none) (F_steps_found : FnA P w K mg base "steps_found" 1 ["row"] sp_sf) : FnOk P w K mg base CX0 2 f fd ["row"] sp_pf := by
  refine F.okz sc_pf (fun vs H Q E h => ?_) (fun cdv A outer s H vs Q E hr h => ?_)
  · obtain ⟨a, n, g, rfl, _⟩ := h; rfl
  obtain ⟨a, n, g, rfl, hn, ha, g0, hB, q⟩ := h
  have nd := sc_pf.nd
  have hu := hr.units
  obtain ⟨ps, lp, ep⟩ := M21.prod_of g g0 n
  refine ⟨_, (zss_cons (zs_set (i := 1) nd rfl (Or.inl rfl) (ze_fn F_steps_found hr (by decide) rfl (za_cons (zn 0) za_nil)))
      (zss_cons (zs_set (i := 2) nd rfl (Or.inl rfl) (zcb_len rfl m_len (za_cons (zn 1) za_nil) rfl rfl))
      (zss_cons (zs_set (i := 3) nd rfl (Or.inl rfl) (ze_lst za_nil))
      (zss_cons (zs_for PassesOwn.never rfl (zi_range2 rfl m_range (za_cons ze_int (za_cons (ze_op op_addP (zn 2) ze_int) za_nil))) (zg_name (i := 4) nd rfl (Or.inl rfl)) (zss_cons (zs_set (i := 5) nd rfl (Or.inl rfl) (ze_op op_fdivP (ze_ix ix_P (zn 1) (ze_op op_subP (zn 4) ze_int) (fun _ _ => rfl)) (zn 4)))
      (zss_cons (zs_expr (zm_append (zn 3) (za_cons (zn 5) za_nil)))
      (zss_one (zs_for PassesOwn.never rfl (zi_range3 rfl m_range (za_cons (zn 4) (za_cons (ze_op op_addP (zn 2) ze_int) (za_cons (zn 4) za_nil)))) (zg_name (i := 6) nd rfl (Or.inl rfl)) (zss_one (zs_augS (zn 1) (ze_op op_subP (zn 6) ze_int) get_list (ze_op op_mulQ (zn 4) (zn 5)) ip_subP set_listP)))))))
      (zss_one (zs_ret (zcb_tuple rfl m_tuple (za_cons (zn 3) za_nil) rfl rfl))))))), ?_⟩
  refine ⟨a, n, g, ps, rfl, hn, ha, lp, ep, hB, fun L H1 hL y1 hL1 => ?_⟩
  refine ⟨_, .inl (SqL.of hL1), ?_⟩
  rw [List.length_map, tb_len]
  obtain ⟨N, eN⟩ : ∃ N, N = n := ⟨_, rfl⟩
  have hl0 : tb (fun i => M21.sv ps (i + 1)) n = (List.range N).map fun k => lA ps 0 k := by
    rw [eN]
    show (List.range n).map (fun i => M21.sv ps (i + 1)) = _
    refine List.map_congr_left fun k _ => ?_
    show _ = M21.sv ps (k + 1) - 0
    omega
  have lpN : ps.length = N := by rw [lp, eN]
  rw [← eN]
  refine ⟨by show 0 ≤ sizeLine; decide, fun R hR => ?_⟩
  have yR := Same.new hR (.lst [])
  have gR : upd H1 R (.lst []) R = some (.lst ((ps.take 0).map V.int)) := upd_same
  have hL2 := yR _ _ hL1
  have RL : R ≠ L := fun z => by rw [z, hL1] at hR; cases hR
  have hRH : H R = none := fresh_back y1 hR
  have y2 := y1.trans yR
  generalize upd H1 R (.lst []) = H2 at yR gR hL2 y2
  rw [hl0] at hL2
  refine ⟨1, (N : Int) + 1, rfl, ⟨by omega, by omega, by omega, by omega⟩, ?_⟩
  have eM : ((N : Int) + 1 - 1).toNat = N := by omega
  refine for_range (fun i σ H' => i ≤ N ∧ Same H H' ∧ H' L = some (.lst (((List.range N).map fun k => lA ps i k).map V.int)) ∧ H' R = some (.lst ((ps.take i).map V.int)) ∧ ∃ x4 x5 x6, σ = [some (.ref a), some (.ref L), some (.int N), some (.ref R), x4, x5, x6]) ⟨Nat.zero_le _, y2, hL2, gR, _, _, _, rfl⟩ ?_ ?_
  · rintro i σ H' hi ⟨_, y, hL', hR', x4, x5, x6, rfl⟩
    have hi' : i < N := by omega
    have ek : (1 : Int) + (i : Int) = ((i + 1 : Nat) : Int) := by omega
    rw [ek]
    refine ⟨_, .inl (SqL.of hL'), .int (lA ps i i), atI_of (j := i) (by omega) (by rw [List.getElem?_map, List.getElem?_map, List.getElem?_range hi']; rfl), ?_⟩
    refine ⟨⟨by omega, by omega⟩, ?_⟩
    have epw : lA ps i i / ((i + 1 : Nat) : Int) = ps.getD i 0 := by rw [lA_own (by omega)]; exact Int.mul_ediv_cancel_left _ (by omega)
    have egd : ps.getD i 0 = ps[i]'(by omega) := by rw [List.getD_eq_getElem?_getD, List.getElem?_eq_getElem (show i < ps.length by omega)]; rfl
    refine ⟨tyL hR', _, hR', by rw [List.length_map, List.length_take]; exact small1000 (by omega), ?_⟩
    have y3 : Same H (upd H' R (.lst ((ps.take i).map V.int ++ [V.int (lA ps i i / ((i + 1 : Nat) : Int))]))) := Same.updN y hRH
    have hR3 : upd H' R (.lst ((ps.take i).map V.int ++ [V.int (lA ps i i / ((i + 1 : Nat) : Int))])) R = some (.lst ((ps.take (i + 1)).map V.int)) := by
      rw [upd_same, epw, List.take_succ, List.getElem?_eq_getElem (show i < ps.length by omega), List.map_append, egd]
      rfl
    have hL3 : upd H' R (.lst ((ps.take i).map V.int ++ [V.int (lA ps i i / ((i + 1 : Nat) : Int))])) L = some (.lst (((List.range N).map fun k => lA ps i k).map V.int)) := by rw [upd_ne (Ne.symm RL)]; exact hL'
    generalize upd H' R (.lst ((ps.take i).map V.int ++ [V.int (lA ps i i / ((i + 1 : Nat) : Int))])) = H3 at y3 hR3 hL3
    refine ⟨((i + 1 : Nat) : Int), (N : Int) + 1, ((i + 1 : Nat) : Int), rfl, ⟨by omega, ⟨by omega, by omega⟩, M27.small_up (by omega) (by omega) (by omega) (by omega) (by omega) (by omega)⟩, ?_⟩
    refine for_rangeS (fun j σ H' => Same H H' ∧ H' L = some (.lst (((List.range N).map fun k => if (k + 1) % (i + 1) = 0 ∧ k + 1 < (i + 1) + j * (i + 1) then lA ps (i + 1) k else lA ps i k).map V.int)) ∧ H' R = some (.lst ((ps.take (i + 1)).map V.int)) ∧ ∃ x6, σ = [some (.ref a), some (.ref L), some (.int N), some (.ref R), some (.int ((i + 1 : Nat) : Int)), some (.int (lA ps i i / ((i + 1 : Nat) : Int))), x6]) ⟨y3, ?_, hR3, _, rfl⟩ ?_ ?_
    · rw [hL3]
      congr 3
      refine List.map_congr_left fun k hk => ?_
      rw [if_neg]
      rintro ⟨h1, h2⟩
      have : i + 1 ≤ k + 1 := Nat.le_of_dvd (by omega) (Nat.dvd_of_mod_eq_zero h1)
      omega
    · rintro j σ H4 hj ⟨y4, hL4, hR4, x6, rfl⟩
      have hlt := M27.size_lt (by omega) hj
      have ej : ((i + 1 : Nat) : Int) + (j : Int) * ((i + 1 : Nat) : Int) = (((i + 1) + j * (i + 1) : Nat) : Int) := by rw [Int.natCast_add (i + 1) (j * (i + 1)), Int.natCast_mul j (i + 1)]
      rw [ej] at hlt ⊢
      obtain ⟨m, em⟩ : ∃ m, (i + 1) + j * (i + 1) = m + 1 := ⟨i + j * (i + 1), by omega⟩
      rw [em] at hlt ⊢
      have hm : m < N := by omega
      have dv : (m + 1) % (i + 1) = 0 := by rw [← em]; exact Nat.mod_eq_zero_of_dvd ⟨1 + j, by grind⟩
      have e1 : (((m + 1 : Nat) : Int) - 1).toNat = m := by omega
      refine ⟨_, .int (lA ps i m), SqL.of hL4, by omega, ?_, ?_⟩
      · rw [e1, List.getElem?_map, List.getElem?_map, List.getElem?_range hm]
        show some (V.int (if _ then _ else _)) = _
        rw [if_neg (by rw [em]; omega)]
      refine ⟨mulL (by omega) (by omega), ?_⟩
      refine ⟨_, hL4, by omega, by rw [e1]; simpa using hm, Same.updN y4 hL, ?_, by rw [upd_ne RL]; exact hR4, _, rfl⟩
      rw [upd_same, e1]
      congr 2
      refine List.ext_getElem? fun k => ?_
      rw [List.getElem?_set]
      by_cases hk : m = k
      · subst hk
        rw [if_pos rfl, if_pos (by simpa using hm), List.getElem?_map, List.getElem?_map, List.getElem?_range hm]
        show some (V.int (lA ps i m - ((i + 1 : Nat) : Int) * (lA ps i i / ((i + 1 : Nat) : Int)))) = some (V.int (if _ then _ else _))
        rw [if_pos ⟨dv, by rw [Nat.add_mul, Nat.one_mul]; omega⟩, lA_succ, if_pos dv, epw]
      · rw [if_neg hk]
        by_cases hkN : k < N
        · rw [List.getElem?_map, List.getElem?_map, List.getElem?_map, List.getElem?_map, List.getElem?_range hkN]
          show some (V.int (if _ then _ else _)) = some (V.int (if _ then _ else _))
          congr 2
          by_cases h1 : (k + 1) % (i + 1) = 0
          · by_cases h2 : k + 1 < (i + 1) + j * (i + 1)
            · rw [if_pos ⟨h1, h2⟩, if_pos ⟨h1, by rw [Nat.add_mul, Nat.one_mul]; omega⟩]
            · rw [if_neg fun z => h2 z.2, if_neg]
              rintro ⟨_, h3⟩
              obtain ⟨t, ht⟩ := Nat.dvd_of_mod_eq_zero h1
              have e5 : (i + 1) * (1 + j) = m + 1 := by rw [← em]; grind
              have e6 : (i + 1) + (j + 1) * (i + 1) = (i + 1) * (2 + j) := by grind
              rw [ht, e6] at h3
              have ht2 : t < 2 + j := Nat.lt_of_mul_lt_mul_left h3
              have h4 : (i + 1) * (1 + j) ≤ (i + 1) * t := by rw [e5, ← ht]; omega
              have ht3 : 1 + j ≤ t := Nat.le_of_mul_le_mul_left h4 (by omega)
              have : t = 1 + j := by omega
              subst this
              omega
          · rw [if_neg fun z => h1 z.1, if_neg fun z => h1 z.1]
        · rw [List.getElem?_eq_none (by simpa using hkN), List.getElem?_eq_none (by simpa using hkN)]
    · rintro σ H4 ⟨y4, hL4, hR4, x6, rfl⟩
      refine ⟨by omega, y4, ?_, hR4, _, _, _, rfl⟩
      rw [hL4]
      congr 3
      refine List.map_congr_left fun k hk => ?_
      have hk' := List.mem_range.mp hk
      rw [lA_succ]
      by_cases h1 : (k + 1) % (i + 1) = 0
      · have := M27.size_all (a := ((i + 1 : Nat) : Int)) (b := (N : Int) + 1) (m := ((i + 1 : Nat) : Int)) (by omega) (j := ((k + 1 : Nat) : Int)) (by omega)
        rw [if_pos ⟨h1, by rw [← Int.natCast_mul, ← Int.natCast_add] at this; exact Int.ofNat_lt.mp this⟩, if_pos h1]
      · rw [if_neg fun z => h1 z.1, if_neg h1, Int.sub_zero]
  · rintro σ H' ⟨_, y, _, hR', x4, x5, x6, rfl⟩
    rw [eM, List.take_of_length_le (by omega)] at hR'
    refine ⟨_, .inl (SqL.of hR'), fun r H5 y5 hr5 => q r H5 ps (y.trans y5) hr5 lp ep⟩
end
end K25
set_option Elab.async false
set_option linter.all false
set_option maxRecDepth 100000
set_option exponentiation.threshold 100
set_option maxHeartbeats 4000000
namespace K25
open PySem L2 MRow M27 M80 M17 M12 M24 M14 M11 M25
theorem cf_at {k : Kn} (hok : k.Ok) {n j : Nat} (hn : n ≤ 600) (hj : j ≤ n) : ∃ m x, m ≤ 600 ∧ cf k n j = x ∧ 0 ≤ x ∧ x ≤ PL dl (ups m) j := by
  have fin : ∀ (p : Nat → Bool), ∃ m x, m ≤ 600 ∧ PL dl (fl p n) j = x ∧ 0 ≤ x ∧ x ≤ PL dl (ups m) j := fun p => ⟨n, _, hn, (cn_all p n j).symm, cn_lim n j _⟩
  cases k with
  | all => have := fin (fun _ => true); rw [fl_all] at this; exact this
  | most k => have := fin (fun s => decide (s ≤ k)); rw [fl_most] at this; exact this
  | few k => have := fin (fun s => decide (s ≤ k)); rw [fl_most] at this; exact this
  | times m =>
    have := fin (fun s => decide (0 < (s : Int) % (m : Int)))
    rw [← fl_times hok.1 hj] at this
    exact this
  | rests m rs => exact fin _
  | box k l =>
    refine ⟨min k n, _, by omega, rfl, ?_⟩
    have e : cf (.box k l) n j = cn (min k n) j (inb (min k n) l) := by rw [cn_box, Nat.min_self]; rfl
    rw [e]
    exact cn_lim _ _ _
  | off d =>
    refine ⟨j, _, by omega, rfl, ?_⟩
    have e : cf (.off d) n j = cn j j (vd d) := (cn_off hok.1 (by omega)).symm
    rw [e]
    exact cn_lim _ _ _
  | own =>
    refine ⟨n, _, hn, rfl, ?_⟩
    have a := below_lim (odds n) dl (fun x hx => (odds_pos hx).1) (fun j => by unfold dl; split <;> decide) j
    have e : PL dl (odds n) j ≤ PL dl (ups n) j := by
      rw [← fl_odd, ← fl_all n, ← cn_all, ← cn_all]
      have := cn_lim n j (fun l => l.all fun s => decide (s % 2 = 1))
      rw [← fl_all, ← cn_all] at this
      exact this.2
    exact ⟨a.1, Int.le_trans a.2 e⟩
theorem cf_B {k : Kn} (hok : k.Ok) {n : Nat} (hn : n ≤ 600) (j : Nat) (hj : j ≤ n) : (cf k n j).natAbs < B := by
  obtain ⟨m, x, hm, e, h0, h1⟩ := cf_at hok hn hj
  rw [e]
  exact R_B hm (by omega) h0 h1
theorem cf_one {k : Kn} (hok : k.Ok) (n : Nat) (hn : n ≤ 600) : cf k n 0 = 1 := by
  cases k with
  | all => exact R_zero n
  | most k => exact R_zero _
  | few k => exact R_zero _
  | times m => show below m (ups n) dl 0 = 1; rw [fl_times hok.1 (Nat.zero_le n)]; exact (fl_steps _ 0 n).1
  | rests m rs => exact (fl_steps (fun s => decide ((s : Int) % (m : Int) ∈ rs)) 0 n).1
  | box k l =>
    show bx l (min k n) 0 = 1
    rw [← box_prod (l := l) (k := k) (n := n) (j := 0) (Nat.zero_le _)]
    exact (M21.prod_steps 0 _).1
  | off d =>
    show fow d 0 = 1
    have := fow_is (d := d) (m := 1) (n := 0) (j := 0) (by show 0 < 0 + 1 + d * 0; omega) (by decide) (Nat.le_refl 0)
    rw [← this]
    rfl
  | own =>
    show below 2 (odds n) dl 0 = 1
    rw [← own_prod (Nat.zero_le n)]
    exact (M21.prod_steps 0 _).1
noncomputable def prK (p : Int × Int) : Key × V := (.inl p.1, .int p.2)
theorem signs_at (j : Nat) : ∀ k, (valV (mergeK [] ((M15.stp k).1.map prK)) (.inl (j : Int))).getD (.int 0) = .int (if j < k then M15.sgv (M15.stp j).2 j else 0)
  | 0 => by rw [if_neg (Nat.not_lt_zero _)]; rfl
  | k + 1 => by
    have ih := signs_at j k
    show (valV (mergeK [] ((M15.dst (M15.stp k) k).1.map prK)) (.inl (j : Int))).getD (.int 0) = _
    have sg : M15.sgv (M15.stp k).2 k = if M15.sqf 130 (M15.stp k).2 (24 * (k : Int) + 1) * M15.sqf 130 (M15.stp k).2 (24 * (k : Int) + 1) = 24 * (k : Int) + 1 then 1 - 2 * ((M15.sqf 130 (M15.stp k).2 (24 * (k : Int) + 1) + 1) / 6 % 2) else 0 := rfl
    unfold M15.dst
    dsimp only
    by_cases c : M15.sqf 130 (M15.stp k).2 (24 * (k : Int) + 1) * M15.sqf 130 (M15.stp k).2 (24 * (k : Int) + 1) = 24 * (k : Int) + 1
    · rw [if_pos c] at sg ⊢
      rw [← sg, List.map_append]
      have e : mergeK [] ((M15.stp k).1.map prK ++ [((k : Int), M15.sgv (M15.stp k).2 k)].map prK) = putK (mergeK [] ((M15.stp k).1.map prK)) (.inl (k : Int)) (.int (M15.sgv (M15.stp k).2 k)) := by
        unfold mergeK
        rw [List.foldl_append]
        rfl
      rw [e, valV_put]
      by_cases hj : j = k
      · subst hj
        rw [if_pos rfl, if_pos (by omega)]
        rfl
      · rw [if_neg fun z => hj (by have := Sum.inl.inj z; omega), ih]
        congr 1
        by_cases h : j < k
        · rw [if_pos h, if_pos (by omega)]
        · rw [if_neg h, if_neg (by omega)]
    · rw [if_neg c] at sg ⊢
      rw [ih]
      congr 1
      by_cases h : j < k
      · rw [if_pos h, if_pos (by omega)]
      · rw [if_neg h]
        by_cases hj : j = k
        · subst hj; rw [if_pos (by omega), sg]
        · rw [if_neg (by omega)]
theorem prs_refs {H : Hp} : ∀ {us : List V} {ps : List (Int × Int)}, Prs H us ps → ∃ cs : List Addr, us = cs.map V.ref ∧ cs.length = (ps.map prK).length ∧ ∀ (j : Nat) c kv, cs[j]? = some c → (ps.map prK)[j]? = some kv → H c = some (.tup [kV kv.1, kv.2])
  | _, _, .nil => ⟨[], rfl, rfl, fun j c kv h => by simp at h⟩
  | _, _, .cons h r => by
    obtain ⟨cs, e, l, g⟩ := prs_refs r
    obtain ⟨d, rfl, hd⟩ := h
    refine ⟨d :: cs, by rw [e]; rfl, by rw [List.length_cons, List.map_cons, List.length_cons, l], fun j c kv h1 h2 => ?_⟩
    cases j with
    | zero =>
      have e1 : d = c := Option.some.inj h1
      rw [List.map_cons] at h2
      have e2 := Option.some.inj h2
      rw [← e1, ← e2]
      exact hd
    | succ j => exact g j c kv h1 h2
section
variable {P : Program} {w : World} {K : PySem.W.Frag} {mg : Str → Option Value} {base : Heap} {f : Addr} {fd : FuncData}
theorem sc_corners : FnScope ["most", "told", "k", "near", "sign", "far"] ["most"] (defScope (top 29)) := ⟨rfl, rfl, rfl, by decide +kernel, rfl, by decide +kernel, by decide +kernel⟩
noncomputable def sp_cor : Sp := fun vs H Q _ => ∃ n : Nat, vs = [.int n] ∧ n ≤ 600 ∧ ∀ r H' us, Same H H' → H' r = some (.tup us) → Prs H' us (M15.cor (n : Int)) → Q (.ref r) H'
theorem ok_corners (F : Fun K "corners" "corners" (top 29) f fd) (m_tuple : mg "tuple" = none) : FnOk P w K mg base CX0 1 f fd ["most"] sp_cor := by
  refine F.okz sc_corners (fun vs H Q E h => ?_) (fun cdv A outer s H vs Q E hr h => ?_)
  · obtain ⟨n, rfl, _⟩ := h; rfl
  obtain ⟨n, rfl, hn, q⟩ := h
  have nd := sc_corners.nd
  have hu := hr.units
  have hcl := (M15.cor_in hn).2
  have body : ∃ t, ZSs (cxOf CX0 P w K mg base ["most", "told", "k", "near", "sign", "far"] "corners" (defScope (top 29)) f cdv A outer s H E).nox ((forBody ((defBody (top 29)).getD 3 (.Pass ⟨0, 0, 0, 0⟩))).drop 1) t ∧
      ∀ (D : Ends) (H5 : Hp) (tt : Addr) (k : Nat) (us : List V) (ps : List (Int × Int)) (p5 : Option V) (sv : Int), sv = M15.sgn k → k ≤ 24 → H tt = none → Same H H5 → H5 tt = some (.lst us) → Prs H5 us ps → us.length + 2 ≤ 1000 →
        (∀ H' us' p4 p5, Same H H' → H' tt = some (.lst us') → Prs H' us' (ps ++ M15.cpart n k) → D.nx [some (.int n), some (.ref tt), some (.int ((k + 1 : Nat) : Int)), some (.int (M15.near (k + 1))), p4, p5] H') →
        t D [some (.int n), some (.ref tt), some (.int k), some (.int (M15.near k)), some (.int sv), p5] H5 := by
    refine ⟨_, (zss_cons (zs_expr (zm_append (zn 1) (za_cons (ze_tup (za_cons (zn 3) (za_cons (zn 4) za_nil))) za_nil)))
      (zss_cons (zs_set (i := 5) nd rfl (Or.inl rfl) (ze_op op_addP (zn 3) (zn 2)))
      (zss_cons (zs_if (ZW.zt (zw_and (zt_cmpP op_gtP (zn 2) ze_int (nomark _)) (zw_and1 (zt_cmpP op_leP (zn 5) (zn 0) (nomark _))))) (zss_one (zs_expr (zm_append (zn 1) (za_cons (ze_tup (za_cons (zn 5) (za_cons (zn 4) za_nil))) za_nil)))) zss_nil)
      (zss_cons (zs_aug (i := 2) nd rfl (Or.inl rfl) ze_int ip_addP)
      (zss_one (zs_set (i := 3) nd rfl (Or.inl rfl) (ze_op op_fdivP (ze_op op_mulQ (zn 2) (ze_op op_subP (ze_op op_mulQ ze_int (zn 2)) ze_int)) ze_int))))))), ?_⟩
    intro D H5 tt k us ps p5 sv hsv hk htt y hus hp hlen fin
    subst hsv
    refine ⟨tyL hus, by show 2 ≤ sizeLine; decide, fun d hd => ?_⟩
    have g1 := Same.new hd (.tup [.int (M15.near k), .int (M15.sgn k)])
    refine ⟨_, g1 _ _ hus, small1000 (by omega), ?_⟩
    have hus2 : (upd (upd H5 d (.tup [.int (M15.near k), .int (M15.sgn k)])) tt (.lst (us ++ [.ref d]))) tt = some (.lst (us ++ [.ref d])) := upd_same
    have hp2 : Prs (upd (upd H5 d (.tup [.int (M15.near k), .int (M15.sgn k)])) tt (.lst (us ++ [.ref d]))) (us ++ [.ref d]) (ps ++ [(M15.near k, M15.sgn k)]) := Prs.updL (g1 _ _ hus) ((hp.same g1).snoc (p := (M15.near k, M15.sgn k)) ⟨d, rfl, upd_same⟩)
    have y2 : Same H (upd (upd H5 d (.tup [.int (M15.near k), .int (M15.sgn k)])) tt (.lst (us ++ [.ref d]))) := Same.updN (y.trans g1) htt
    generalize upd (upd H5 d (.tup [.int (M15.near k), .int (M15.sgn k)])) tt (.lst (us ++ [.ref d])) = H6 at hus2 hp2 y2
    have e1 : ((k : Int) + 1) = ((k + 1 : Nat) : Int) := by omega
    have endd : ∀ (D2 : Ends) (H7 : Hp) (us7 : List V) (p4 p5 : Option V), D2.nx = D.nx → Same H H7 → H7 tt = some (.lst us7) → Prs H7 us7 (ps ++ M15.cpart n k) → D2.nx [some (.int n), some (.ref tt), some (.int ((k + 1 : Nat) : Int)), some (.int (M15.near (k + 1))), p4, p5] H7 := fun D2 H7 us7 p4 p5 e a b c => by rw [e]; exact fin H7 us7 p4 p5 a b c
    have fini : ∀ (H7 : Hp) (us7 : List V), Same H H7 → H7 tt = some (.lst us7) → Prs H7 us7 (ps ++ M15.cpart n k) →
        (∃ x, ([some (V.int n), some (.ref tt), some (.int k), some (.int (M15.near k)), some (.int (M15.sgn k)), some (.int (M15.near k + k))] : St)[2]? = some (some x) ∧ True) := fun _ _ _ _ _ => ⟨_, rfl, trivial⟩
    have tailok : ∀ (H7 : Hp) (us7 : List V), Same H H7 → H7 tt = some (.lst us7) → Prs H7 us7 (ps ++ M15.cpart n k) →
        IntMulOk 3 ((k : Int) + 1) ∧ IntMulOk ((k : Int) + 1) (3 * ((k : Int) + 1) - 1) ∧ CDiv (((k : Int) + 1) * (3 * ((k : Int) + 1) - 1)) 2 ∧ D.nx [some (.int n), some (.ref tt), some (.int ((k : Int) + 1)), some (.int (((k : Int) + 1) * (3 * ((k : Int) + 1) - 1) / 2)), some (.int (M15.sgn k)), some (.int (M15.near k + k))] H7 := fun H7 us7 a b c => by
      refine ⟨mulL (by decide) (by decide), mulL (by omega) (by omega), ⟨by decide, by decide⟩, ?_⟩
      have := fin H7 us7 (some (.int (M15.sgn k))) (some (.int (M15.near k + k))) a b c
      unfold M15.near at this ⊢
      rw [← e1] at this
      exact this
    refine iteD (fun c => ?_) (fun c => ?_)
    · refine iteD (fun c2 => ?_) (fun c2 => ?_)
      · refine ⟨tyL hus2, by show 2 ≤ sizeLine; decide, fun d2 hd2 => ?_⟩
        have g3 := Same.new hd2 (.tup [.int (M15.near k + k), .int (M15.sgn k)])
        refine ⟨_, g3 _ _ hus2, by rw [List.length_append, List.length_singleton]; exact small1000 (by omega), ?_⟩
        refine ⟨.int k, rfl, tailok _ _ (Same.updN (y2.trans g3) htt) upd_same ?_⟩
        have := Prs.updL (ys := us ++ [.ref d] ++ [.ref d2]) (g3 _ _ hus2) ((hp2.same g3).snoc (p := (M15.near k + k, M15.sgn k)) ⟨d2, rfl, upd_same⟩)
        unfold M15.cpart
        rw [if_pos ⟨c, c2⟩]
        have e5 : ps ++ [(M15.near k, M15.sgn k), (M15.near k + k, M15.sgn k)] = ps ++ [(M15.near k, M15.sgn k)] ++ [(M15.near k + k, M15.sgn k)] := by simp
        rw [e5]
        exact this
      · refine ⟨.int k, rfl, tailok _ _ y2 hus2 ?_⟩
        unfold M15.cpart
        rw [if_neg (fun z => c2 z.2)]
        exact hp2
    · refine iteF ?_
      refine ⟨.int k, rfl, tailok _ _ y2 hus2 ?_⟩
      unfold M15.cpart
      rw [if_neg (fun z => c z.1)]
      exact hp2
  obtain ⟨t3, ht3, body⟩ := body
  refine ⟨_, (zss_cons (zs_set (i := 1) nd rfl (Or.inl rfl) (ze_lst za_nil))
      (zss_cons (zs_set (i := 2) nd rfl (Or.inl rfl) ze_int)
      (zss_cons (zs_set (i := 3) nd rfl (Or.inl rfl) ze_int)
      (zss_cons (zs_while PassesOwn.never (zt_cmpP op_leP (zn 3) (zn 0) (nomark _)) (zss_cons (zs_set (i := 4) nd rfl (Or.inl rfl) (ze_ifExp (zt_cmpP (op_eqD hu) (ze_op op_modP (zn 2) ze_int) ze_int (nomark _)) ze_int (ze_un un_neg ze_int)))
      ht3))
      (zss_one (zs_ret (zcb_tuple rfl m_tuple (za_cons (zn 1) za_nil) rfl rfl))))))), ?_⟩
  refine ⟨Nat.zero_le _, fun t ht => ?_⟩
  have g0 := Same.new ht (.lst [])
  refine while_by2 (fun m σ H' => ∃ (k : Nat) (us : List V) (ps : List (Int × Int)) (p4 p5 : Option V), k + m = 25 ∧ Same H H' ∧ σ = [some (.int n), some (.ref t), some (.int k), some (.int (M15.near k)), p4, p5] ∧ H' t = some (.lst us) ∧ Prs H' us ps ∧ M15.cl m n k ps = M15.cor n)
    25 ⟨0, [], [], none, none, rfl, g0, rfl, upd_same, .nil, rfl⟩ ?_
  rintro m σ H' ⟨k, us, ps, p4, p5, hkm, y, rfl, hus, hp, hcor⟩
  refine iteD (fun c => ?_) (fun c => ?_)
  · cases m with
    | zero => have := M15.near_big (k := k) (by omega); omega
    | succ m =>
    have hstep : M15.cl m n (k + 1) (ps ++ M15.cpart n k) = M15.cor n := by
      rw [← hcor]
      conv => rhs; unfold M15.cl
      rw [if_pos c]
    have hlen : us.length + 2 ≤ 1000 := by
      have := M15.cl_len m n (k + 1) (ps ++ M15.cpart n k)
      rw [hstep, List.length_append] at this
      rw [hp.length]
      omega
    refine ⟨_, fun _ _ z => z, ?_⟩
    refine ⟨(show (0 : Int) < 2 by decide), ?_⟩
    refine iteD (fun c2 => ?_) (fun c2 => ?_)
    · have e2 : (1 : Int) = M15.sgn k := by unfold M15.sgn; rw [if_pos (V.int.inj c2)]
      exact body _ H' t k us ps p5 1 e2 (by omega) ht y hus hp hlen fun H' us' p4 p5 a b c => ⟨m, Nat.lt_succ_self m, k + 1, us', _, p4, p5, by omega, a, rfl, b, c, hstep⟩
    · have e2 : -1 = M15.sgn k := by unfold M15.sgn; rw [if_neg (fun z => c2 (show V.int ((k : Int) % 2) = V.int 0 by rw [z]))]
      exact ⟨_, rfl, body _ H' t k us ps p5 (-1) e2 (by omega) ht y hus hp hlen fun H' us' p4 p5 a b c => ⟨m, Nat.lt_succ_self m, k + 1, us', _, p4, p5, by omega, a, rfl, b, c, hstep⟩⟩
  · have e : ps = M15.cor n := by
      rw [← hcor]
      cases m with
      | zero => rfl
      | succ m => conv => rhs; unfold M15.cl
                  rw [if_neg c]
    subst e
    exact ⟨_, .inl (SqL.of hus), fun r H2 y2 hr2 => q r H2 us (y.trans y2) hr2 (hp.same y2)⟩
theorem sc_rt : FnScope ["_law_kind_here", "_law_most", "_law_row", "_law_powers", "_law_found", "_law_back"] ["_law_kind_here", "_law_most"] (defScope (top 35)) := ⟨rfl, rfl, rfl, by decide +kernel, rfl, by decide +kernel, by decide +kernel⟩
noncomputable def sp_rt : Sp := fun vs H Q _ => ∃ (c : Addr) (n : Nat) (k : Kn), vs = [.ref c, .int n] ∧ n ≤ 600 ∧ KnAt H c k ∧ k.Ok ∧ ∀ H', Same H H' → Q (.bl true) H'
theorem ok_rt (F : Fun K "_law_right" "_law_right" (top 35) f fd) (m_len : mg "len" = none) (m_tuple : mg "tuple" = none) (F_by_steps : FnA P w K mg base "by_steps" 1 ["steps"] sp_bs) (F_counts : FnA P w K mg base "counts" 4 ["kind", "most"] sp_counts) (F_powers_found : FnA P w K mg base "powers_found" 2 ["row"] sp_pf) (F_powers_of : FnA P w K mg base "powers_of" 3 ["kind", "most"] sp_po) (F_product : FnA P w K mg base "product" 2 ["powers"] sp_pr) (F_steps_of : FnA P w K mg base "steps_of" 1 ["powers"] sp_so) (F_times : FnA P w K mg base "times" 1 ["one", "other"] sp_tm) (F_undone : FnA P w K mg base "undone" 1 ["row"] sp_ud) : FnOk P w K mg base CX0 5 f fd ["_law_kind_here", "_law_most"] sp_rt := by
  refine F.okz sc_rt (fun vs H Q E h => ?_) (fun cdv A outer s H vs Q E hr h => ?_)
  · obtain ⟨c, n, k, rfl, _⟩ := h; rfl
  obtain ⟨c, n, k, rfl, hn, hk, hok, q⟩ := h
  have nd := sc_rt.nd
  have hu := hr.units
  have hB := fun j hj => cf_B hok hn j hj
  have g0 := cf_one hok n hn
  have pr := fun (hb : ¬ big k) j (hj : j ≤ n) => pws_prod hb hok hn hj
  have pl : (pws k n).length = n := by unfold pws; exact pwl_len _ _ _
  have ps1 : ∀ x ∈ pws k n, x.natAbs ≤ 1 := fun x hx => by
    obtain ⟨i, hi, e⟩ := List.getElem_of_mem hx
    have := pwl_small (pa (like k)) (pb (like k)) n i
    have e2 : (pwl (pa (like k)) (pb (like k)) n).getD i 0 = x := by
      rw [List.getD_eq_getElem?_getD]
      show ((pws k n)[i]?).getD 0 = x
      rw [List.getElem?_eq_getElem hi, e]
      rfl
    rw [e2] at this
    exact this
  refine ⟨_, (zss_cons (zs_set (i := 2) nd rfl (Or.inl rfl) (ze_fn F_counts hr (by decide) rfl (za_cons (zn 0) (za_cons (zn 1) za_nil))))
      (zss_cons (zs_set (i := 3) nd rfl (Or.inl rfl) (ze_fn F_powers_of hr (by decide) rfl (za_cons (zn 0) (za_cons (zn 1) za_nil))))
      (zss_cons (zs_set (i := 4) nd rfl (Or.inl rfl) (ze_fn F_powers_found hr (by decide) rfl (za_cons (zn 2) za_nil)))
      (zss_cons (zs_if (ZW.zt (zw_or (zt_cmpP (op_neD hu) (zcb_len rfl m_len (za_cons (zn 2) za_nil) rfl rfl) (ze_op op_addP (zn 1) ze_int) (nomark _)) (zw_or (zt_cmpP (op_neD hu) (ze_ix ix_P (zn 2) ze_int (fun _ _ => rfl)) ze_int (nomark _)) (zw_or1 (zt_cmpP (op_neD hu) (ze_fn F_by_steps hr (by decide) rfl (za_cons (ze_fn F_steps_of hr (by decide) rfl (za_cons (zn 4) za_nil)) za_nil)) (zn 2) (nomark _)))))) (zss_one (zs_ret ze_bl)) zss_nil)
      (zss_cons (zs_set (i := 5) nd rfl (Or.inl rfl) (ze_fn F_undone hr (by decide) rfl (za_cons (zn 2) za_nil)))
      (zss_cons (zs_if (ZW.zt (zw_or (zt_cmpP (op_neD hu) (ze_fn F_times hr (by decide) rfl (za_cons (zn 2) (za_cons (zn 5) za_nil))) (ze_op op_addP (ze_tup (za_cons ze_int za_nil)) (ze_op op_mulQ (ze_tup (za_cons ze_int za_nil)) (zn 1))) (nomark _)) (zw_or1 (zt_cmpP (op_neD hu) (ze_fn F_undone hr (by decide) rfl (za_cons (zn 5) za_nil)) (zn 2) (nomark _))))) (zss_one (zs_ret ze_bl)) zss_nil)
      (zss_cons (zs_if (zt_cmpP op_isP (zn 3) ze_non (nomark _)) (zss_one (zs_ret (ze_andP (ze_cmpR (op_eqD hu) (ze_ix ix_P (zn 0) ze_int (fun _ _ => rfl)) ze_str (nomark _)) (ze_one (ze_cmpR op_gtP (ze_ix ix_P (zn 0) ze_int (fun _ _ => rfl)) ze_int (nomark _)))))) zss_nil)
      (zss_cons (zs_if (ZW.zt (zw_or (zt_cmpP (op_neD hu) (zn 4) (zn 3) (nomark _)) (zw_or1 (zt_cmpP (op_neD hu) (ze_fn F_product hr (by decide) rfl (za_cons (zn 3) za_nil)) (zn 2) (nomark _))))) (zss_one (zs_ret ze_bl)) zss_nil)
      (zss_one (zs_ret (ze_cmpR (op_eqD hu) (ze_fn F_product hr (by decide) rfl (za_cons (zcb_tuple rfl m_tuple (za_cons (ze_comp ["_law_power"] [] rfl ⟨rfl, by decide +kernel, by decide +kernel, rfl, rfl⟩ (zi_tup (zn 3)) kpg_name (fun _ _ _ _ => zg_name (i := 0) (show List.Nodup (["_law_power"] : List Str) by decide +kernel) rfl (Or.inl rfl)) (fun _ _ _ _ => zif_nil) (fun _ _ _ _ => (ze_un un_neg (zn 0)))) za_nil) rfl rfl) za_nil)) (zn 5) (nomark _)))))))))))), ?_⟩
  refine ⟨c, n, k, rfl, hn, hk, hok, fun r1 H1 y1 hr1 => ?_⟩
  generalize cf k n = g at hr1 hB g0 pr
  refine ⟨c, n, k, rfl, hn, hk.same y1, hok, fun hb H2 z2 => ?_, fun p2 H2 hb z2 hp2 => ?_⟩
  · have hr2 := z2 _ _ hr1
    have y2 := y1.trans z2
    refine ⟨r1, n, g, rfl, hn, hr2, g0, hB, fun r3 H3 ps y3 hr3 lp ep => ?_⟩
    have z3 := y3 _ _ hr2
    refine ⟨_, .inr z3, ?_⟩
    rw [tbI_len]
    refine iteB (fun c => ?_) (fun _ => ?_)
    · exfalso
      have z : (!decide (V.int ((n + 1 : Nat) : Int) = V.int ((n : Int) + 1))) = true := c
      rw [Int.natCast_add] at z
      simp at z
    refine ⟨_, .inr z3, .int (g 0), atI_of (j := 0) rfl (tbI_get (by omega)), ?_⟩
    refine iteB (fun c => ?_) (fun _ => ?_)
    · exfalso
      have z : (!decide (V.int (g 0) = V.int 1)) = true := c
      rw [g0] at z
      simp at z
    refine ⟨r3, ps, rfl, hr3, by omega, fun r4 H4 y4 hr4 => ?_⟩
    rw [lp] at hr4
    refine ⟨r4, n, g, ps, rfl, hn, hr4, ep, hB, fun r5 H5 y5 hr5 => ?_⟩
    have y35 := y4.trans y5
    refine ⟨_, _, .ints hr5, .ints (y35 _ _ z3), shaped_ints _, shaped_ints _, ?_⟩
    refine iteB (fun c => absurd c (by rw [if_pos rfl, eqv_self (shaped_ints _)]; decide)) (fun _ => ?_)
    have z5 := y35 _ _ z3
    refine ⟨r1, g, n + 1, rfl, z5, by omega, by omega, fun j hj => row_sm hB j (by omega), fun j hj => iv_sm hn g0 hB j (by omega), fun r6 H6 y6 hr6 => ?_⟩
    have z6 := y6 _ _ z5
    refine ⟨r1, r6, g, iv g, n + 1, n + 1, rfl, z6, hr6, by omega, by omega, fun j hj => row_sm hB j (by omega), fun j hj => iv_sm hn g0 hB j (by omega), fun r7 H7 y7 hr7 => ?_⟩
    rw [Nat.min_self, show tb (conv g (iv g)) (n + 1) = tb dl (n + 1) from tb_ext fun j _ => iv_conv g0 j] at hr7
    refine ⟨by show 1 ≤ sizeLine; decide, fun t1 ht1 => ?_⟩
    have w1 := Same.new ht1 (.tup [V.int 1])
    have v1 : upd H7 t1 (.tup [V.int 1]) t1 = some (.tup (([1] : List Int).map V.int)) := upd_same
    generalize upd H7 t1 (.tup [V.int 1]) = G1 at w1 v1
    refine ⟨by show 1 ≤ sizeLine; decide, fun t2 ht2 => ?_⟩
    have w2 := Same.new ht2 (.tup [V.int 0])
    have v2 : upd G1 t2 (.tup [V.int 0]) t2 = some (.tup [V.int 0]) := upd_same
    generalize upd G1 t2 (.tup [V.int 0]) = G2 at w2 v2
    refine ⟨⟨by omega, by omega⟩, .inr ⟨_, v2, le_line (by show 1 * (n : Int).toNat ≤ 1000; omega), fun t3 G3 w3 v3 => ?_⟩⟩
    rw [rep_flat, Int.toNat_natCast] at v3
    refine .inr ⟨_, _, w3 _ _ (w2 _ _ v1), v3, by rw [List.length_map, List.length_map, List.length_replicate, sizeLine_eq]; show 1 + n ≤ _; omega, fun t4 G4 w4 v4 => ?_⟩
    rw [← List.map_append, show ([1] : List Int) ++ List.replicate n 0 = tb dl (n + 1) from (tb_dl n).symm] at v4
    have yG := ((w1.trans w2).trans w3).trans w4
    refine ⟨_, _, .ints (yG _ _ hr7), .ints v4, shaped_ints _, shaped_ints _, ?_⟩
    refine iteB (fun c => absurd c (by rw [if_pos rfl, eqv_self (shaped_ints _)]; decide)) (fun _ => ?_)
    have y7G := y7.trans yG
    have z8 := y7G _ _ z6
    have b8 := y7G _ _ hr6
    refine ⟨r6, iv g, n + 1, rfl, b8, by omega, by omega, fun j hj => iv_sm hn g0 hB j (by omega), fun j hj => by rw [iv_back g0]; exact row_sm hB j (by omega), fun r9 H9 y9 hr9 => ?_⟩
    rw [show tb (iv (iv g)) (n + 1) = tb g (n + 1) from tb_ext fun j _ => iv_back g0 j] at hr9
    refine ⟨_, _, .ints hr9, .ints (y9 _ _ z8), shaped_ints _, shaped_ints _, ?_⟩
    refine iteB (fun c => absurd c (by rw [if_pos rfl, eqv_self (shaped_ints _)]; decide)) (fun _ => ?_)
    have yall := ((((y2.trans y3).trans y35).trans y6).trans y7G).trans y9
    cases k with
    | off d =>
      have hk9 : H9 c = some (.tup [.str "off", .int d]) := yall _ _ hk
      refine ⟨_, .inr hk9, .str "off", rfl, ?_⟩
      refine ⟨_, .inr hk9, .int d, rfl, ?_⟩
      show Q (.bl (decide ((2 : Int) < (d : Int)))) H9
      rw [decide_eq_true (show (2 : Int) < (d : Int) by have : 3 ≤ d := hb; omega)]
      exact q _ yall
    | all => exact hb.elim
    | most k => exact hb.elim
    | few k => exact hb.elim
    | times m => exact hb.elim
    | rests m rs => exact hb.elim
    | box k l => exact hb.elim
    | own => exact hb.elim
  · have hr2 := z2 _ _ hr1
    have y2 := y1.trans z2
    refine ⟨r1, n, g, rfl, hn, hr2, g0, hB, fun r3 H3 ps y3 hr3 lp ep => ?_⟩
    have z3 := y3 _ _ hr2
    refine ⟨_, .inr z3, ?_⟩
    rw [tbI_len]
    refine iteB (fun c => ?_) (fun _ => ?_)
    · exfalso
      have z : (!decide (V.int ((n + 1 : Nat) : Int) = V.int ((n : Int) + 1))) = true := c
      rw [Int.natCast_add] at z
      simp at z
    refine ⟨_, .inr z3, .int (g 0), atI_of (j := 0) rfl (tbI_get (by omega)), ?_⟩
    refine iteB (fun c => ?_) (fun _ => ?_)
    · exfalso
      have z : (!decide (V.int (g 0) = V.int 1)) = true := c
      rw [g0] at z
      simp at z
    refine ⟨r3, ps, rfl, hr3, by omega, fun r4 H4 y4 hr4 => ?_⟩
    rw [lp] at hr4
    refine ⟨r4, n, g, ps, rfl, hn, hr4, ep, hB, fun r5 H5 y5 hr5 => ?_⟩
    have y35 := y4.trans y5
    refine ⟨_, _, .ints hr5, .ints (y35 _ _ z3), shaped_ints _, shaped_ints _, ?_⟩
    refine iteB (fun c => absurd c (by rw [if_pos rfl, eqv_self (shaped_ints _)]; decide)) (fun _ => ?_)
    have z5 := y35 _ _ z3
    refine ⟨r1, g, n + 1, rfl, z5, by omega, by omega, fun j hj => row_sm hB j (by omega), fun j hj => iv_sm hn g0 hB j (by omega), fun r6 H6 y6 hr6 => ?_⟩
    have z6 := y6 _ _ z5
    refine ⟨r1, r6, g, iv g, n + 1, n + 1, rfl, z6, hr6, by omega, by omega, fun j hj => row_sm hB j (by omega), fun j hj => iv_sm hn g0 hB j (by omega), fun r7 H7 y7 hr7 => ?_⟩
    rw [Nat.min_self, show tb (conv g (iv g)) (n + 1) = tb dl (n + 1) from tb_ext fun j _ => iv_conv g0 j] at hr7
    refine ⟨by show 1 ≤ sizeLine; decide, fun t1 ht1 => ?_⟩
    have w1 := Same.new ht1 (.tup [V.int 1])
    have v1 : upd H7 t1 (.tup [V.int 1]) t1 = some (.tup (([1] : List Int).map V.int)) := upd_same
    generalize upd H7 t1 (.tup [V.int 1]) = G1 at w1 v1
    refine ⟨by show 1 ≤ sizeLine; decide, fun t2 ht2 => ?_⟩
    have w2 := Same.new ht2 (.tup [V.int 0])
    have v2 : upd G1 t2 (.tup [V.int 0]) t2 = some (.tup [V.int 0]) := upd_same
    generalize upd G1 t2 (.tup [V.int 0]) = G2 at w2 v2
    refine ⟨⟨by omega, by omega⟩, .inr ⟨_, v2, le_line (by show 1 * (n : Int).toNat ≤ 1000; omega), fun t3 G3 w3 v3 => ?_⟩⟩
    rw [rep_flat, Int.toNat_natCast] at v3
    refine .inr ⟨_, _, w3 _ _ (w2 _ _ v1), v3, by rw [List.length_map, List.length_map, List.length_replicate, sizeLine_eq]; show 1 + n ≤ _; omega, fun t4 G4 w4 v4 => ?_⟩
    rw [← List.map_append, show ([1] : List Int) ++ List.replicate n 0 = tb dl (n + 1) from (tb_dl n).symm] at v4
    have yG := ((w1.trans w2).trans w3).trans w4
    refine ⟨_, _, .ints (yG _ _ hr7), .ints v4, shaped_ints _, shaped_ints _, ?_⟩
    refine iteB (fun c => absurd c (by rw [if_pos rfl, eqv_self (shaped_ints _)]; decide)) (fun _ => ?_)
    have y7G := y7.trans yG
    have z8 := y7G _ _ z6
    have b8 := y7G _ _ hr6
    refine ⟨r6, iv g, n + 1, rfl, b8, by omega, by omega, fun j hj => iv_sm hn g0 hB j (by omega), fun j hj => by rw [iv_back g0]; exact row_sm hB j (by omega), fun r9 H9 y9 hr9 => ?_⟩
    rw [show tb (iv (iv g)) (n + 1) = tb g (n + 1) from tb_ext fun j _ => iv_back g0 j] at hr9
    refine ⟨_, _, .ints hr9, .ints (y9 _ _ z8), shaped_ints _, shaped_ints _, ?_⟩
    refine iteB (fun c => absurd c (by rw [if_pos rfl, eqv_self (shaped_ints _)]; decide)) (fun _ => ?_)
    have yall := ((((y2.trans y3).trans y35).trans y6).trans y7G).trans y9
    have e : ps = pws k n := pow_one (by rw [lp, pl]) fun j hj => by rw [ep j (by omega), pr hb j (by omega)]
    have hp9 := y9 _ _ (y7G _ _ (y6 _ _ (y35 _ _ (y3 _ _ hp2))))
    have hr39 := y9 _ _ (y7G _ _ (y6 _ _ (y35 _ _ hr3)))
    have b9 := y9 _ _ b8
    have z9 := y9 _ _ z8
    rw [e] at hr39
    generalize pws k n = qs at hp9 hr39 pl ps1 pr e
    refine ⟨_, _, .ints hr39, .ints hp9, shaped_ints _, shaped_ints _, ?_⟩
    refine iteB (fun c => absurd c (by rw [if_pos rfl, eqv_self (shaped_ints _)]; decide)) (fun _ => ?_)
    refine ⟨p2, qs, rfl, hp9, by omega, fun p hp => Nat.le_trans (ps1 p hp) (by decide), fun rA HA yA hrA => ?_⟩
    rw [pl, show tb (M21.prod qs) (n + 1) = tb g (n + 1) from tb_ext fun j hj => pr hb j (by omega)] at hrA
    refine ⟨_, _, .ints hrA, .ints (yA _ _ z9), shaped_ints _, shaped_ints _, ?_⟩
    refine iteB (fun c => absurd c (by rw [if_pos rfl, eqv_self (shaped_ints _)]; decide)) (fun _ => ?_)
    have hpA := yA _ _ hp9
    refine ⟨p2, rfl, ⟨_, SqT.of hpA⟩, cmp_tup (xs := qs.map V.int) (fun i ys H' => H' = HA ∧ i ≤ qs.length ∧ ys = ((qs.take i).map fun p => -p).map V.int) ⟨rfl, Nat.zero_le _, rfl⟩ ?_ ?_ ?_⟩
    · rintro i ys H' _ ⟨rfl, _⟩
      exact SqT.of hpA
    · rintro i x ys H' hx ⟨rfl, hi, rfl⟩
      have hi' : i < qs.length := by have := (List.getElem?_eq_some_iff.mp hx).1; rw [List.length_map] at this; exact this
      have ex : x = .int qs[i] := by rw [getI hi'] at hx; exact (Option.some.inj hx).symm
      subst ex
      refine ⟨by rw [List.length_map, List.length_map, List.length_take]; exact small1000 (by omega), ?_⟩
      refine ⟨_, rfl, rfl, hi', ?_⟩
      rw [List.take_succ, List.getElem?_eq_getElem hi', List.map_append, List.map_append]
      rfl
    · rintro ys H' ⟨rfl, _, rfl⟩ D hD
      rw [List.length_map, List.take_of_length_le (Nat.le_refl _)]
      have yD := Same.new hD (.lst ((qs.map fun p => -p).map V.int))
      refine ⟨_, .inl (SqL.of upd_same), fun rB HB yB hrB => ?_⟩
      refine ⟨rB, qs.map fun p => -p, rfl, hrB, by rw [List.length_map]; omega, fun p hp => ?_, fun rC HC yC hrC => ?_⟩
      · obtain ⟨x, hx, rfl⟩ := List.mem_map.mp hp
        have := ps1 x hx
        omega
      · rw [List.length_map, pl, show tb (M21.prod (qs.map fun p => -p)) (n + 1) = tb (iv g) (n + 1) from tb_ext fun j hj => by rw [neg_iv]; exact iv_ext (N := n) (fun i hi => pr hb i hi) j (by omega)] at hrC
        have yend := ((yA.trans yD).trans yB).trans yC
        refine ⟨_, _, .ints hrC, .ints (yend _ _ b9), shaped_ints _, shaped_ints _, ?_⟩
        rw [if_neg (by decide), eqv_self (shaped_ints _)]
        exact q _ (yall.trans yend)
end
end K25
set_option Elab.async false
set_option linter.all false
set_option maxRecDepth 100000
set_option exponentiation.threshold 100
set_option maxHeartbeats 4000000
namespace K25
open PySem L2 MRow M27 M80 M17 M12 M24 M14 M11 M25
theorem KnAt.step {H H1 : Hp} {a c : Addr} {k : Kn} (h : Hand H a) (hc : KnAt H c k) (x : Step a H H1) : KnAt H1 c k := by
  cases k with
  | rests m rs => obtain ⟨d, e1, e2⟩ := hc; exact ⟨d, x.tup h e1, x.tup h e2⟩
  | all => exact x.tup h hc
  | most k => exact x.tup h hc
  | times m => exact x.tup h hc
  | few k => exact x.tup h hc
  | box k l => exact x.tup h hc
  | off d => exact x.tup h hc
  | own => exact x.tup h hc
section
variable {P : Program} {w : World} {K : PySem.W.Frag} {mg : Str → Option Value} {base : Heap} {f : Addr} {fd : FuncData}
theorem sc_law : FnScope ["_law_script", "_law_k", "_law_pot_here", "_law_kind_here", "_law_many", "_law_most", "_law_signs"] ["_law_script"] (defScope (top 36)) := ⟨rfl, rfl, rfl, by decide +kernel, rfl, by decide +kernel, by decide +kernel⟩
noncomputable def sp_law (K : PySem.W.Frag) : Sp := fun vs H Q _ => ∃ (a : Addr) (ns : List Int), vs = [.ref a] ∧ SqL K H a (ns.map V.int) ∧ ns.length ≤ 63 ∧ ∀ H', Q (.bl true) H'
theorem ok_law (F : Fun K "law" "law" (top 36) f fd) (m_dict : mg "dict" = none) (m_len : mg "len" = none) (m_min : mg "min" = none) (m_range : mg "range" = none) (m_tuple : mg "tuple" = none) (F_law_kind : FnA P w K mg base "_law_kind" 3 ["_law_pot_here"] sp_kd) (F_law_pot : FnA P w K mg base "_law_pot" 1 ["_law_script", "_law_k"] (sp_pot K)) (F_law_right : FnA P w K mg base "_law_right" 5 ["_law_kind_here", "_law_most"] sp_rt) (F_law_take : FnA P w K mg base "_law_take" 1 ["_law_pot_here", "_law_many"] sp_take) (F_corners : FnA P w K mg base "corners" 1 ["most"] sp_cor) (F_counts : FnA P w K mg base "counts" 4 ["kind", "most"] sp_counts) (F_undone : FnA P w K mg base "undone" 1 ["row"] sp_ud) : FnOk P w K mg base CX0 6 f fd ["_law_script"] (sp_law K) := by
  refine F.okz sc_law (fun vs H Q E h => ?_) (fun cdv A outer s H vs Q E hr h => ?_)
  · obtain ⟨a, ns, rfl, _⟩ := h; rfl
  obtain ⟨a, ns, rfl, hS, hl, q⟩ := h
  have nd := sc_law.nd
  have hu := hr.units
  have hu1 : (A.deeper (PyProof.Rows.envOfC "law" (defScope (top 36)) s.heap.objs.size f cdv)).units + 1 < cLine := by have := hu; omega
  refine ⟨_, (zss_cons (zs_for PassesOwn.never rfl (zi_range1 rfl m_range (za_cons (ze_op op_addP ze_int (zcb_min rfl rfl m_min (za_cons ze_int (za_cons (zcb_len rfl m_len (za_cons (zn 0) za_nil) rfl rfl) za_nil)) rfl rfl)) za_nil)) (zg_name (i := 1) nd rfl (Or.inl rfl)) (zss_cons (zs_set (i := 2) nd rfl (Or.inl rfl) (ze_fn F_law_pot hr (by decide) rfl (za_cons (zn 0) (za_cons (zn 1) za_nil))))
      (zss_cons (zs_par (i := 3) (j := 4) rfl nd rfl rfl (by decide) rfl rfl (za_cons (ze_fn F_law_kind hr (by decide) rfl (za_cons (zn 2) za_nil)) (za_cons (ze_ix ix_P (ze_lst (za_cons ze_int (za_cons ze_int (za_cons ze_int (za_cons ze_int za_nil))))) (ze_fn F_law_take hr (by decide) rfl (za_cons (zn 2) (za_cons ze_int za_nil))) (fun _ _ => rfl)) za_nil)) rfl)
      (zss_one (zs_if (zt_not (zt_valP (ze_fn F_law_right hr (by decide) rfl (za_cons (zn 3) (za_cons (ze_fn F_law_take hr (by decide) rfl (za_cons (zn 2) (za_cons (zn 4) za_nil))) za_nil))))) (zss_one (zs_ret ze_bl)) zss_nil)))))
      (zss_cons (zs_set (i := 2) nd rfl (Or.inl rfl) (ze_fn F_law_pot hr (by decide) rfl (za_cons (zn 0) (za_cons ze_int za_nil))))
      (zss_cons (zs_set (i := 5) nd rfl (Or.inl rfl) (ze_fn F_law_take hr (by decide) rfl (za_cons (zn 2) (za_cons ze_int za_nil))))
      (zss_cons (zs_if (zt_not (zt_valP (ze_fn F_law_right hr (by decide) rfl (za_cons (ze_fn F_law_kind hr (by decide) rfl (za_cons (zn 2) za_nil)) (za_cons ze_int za_nil))))) (zss_one (zs_ret ze_bl)) zss_nil)
      (zss_cons (zs_set (i := 6) nd rfl (Or.inr rfl) (zcb_dictT rfl rfl m_dict (za_cons (ze_fn F_corners hr (by decide) rfl (za_cons (zn 5) za_nil)) za_nil) rfl rfl))
      (zss_one (zs_ret (ze_cmpR (op_eqD hu) (ze_fn F_undone hr (by decide) rfl (za_cons (ze_fn F_counts hr (by decide) rfl (za_cons (ze_tup (za_cons ze_str za_nil)) (za_cons (zn 5) za_nil))) za_nil)) (zcb_tuple rfl m_tuple (za_cons (ze_comp ["_law_n"] [("_law_signs", 6)] rfl ⟨rfl, by decide +kernel, by decide +kernel, rfl, rfl⟩ (zi_range1 rfl m_range (za_cons (ze_op op_addP (zn 5) ze_int) za_nil)) kpg_name (fun _ _ _ _ => zg_name (i := 0) (show List.Nodup (["_law_n", "_law_signs"] : List Str) by decide +kernel) rfl (Or.inl rfl)) (fun _ _ _ _ => zif_nil) (fun _ _ _ _ => (ze_dget2 hu1 (zn 1) (zn 0) ze_int ⟨rfl, rfl, rfl, rfl⟩))) za_nil) rfl rfl) (nomark _))))))))), ?_⟩
  refine ⟨_, .inl hS, ?_⟩
  rw [List.length_map]
  have hm : 0 ≤ (if (ns.length : Int) < 3 then (ns.length : Int) else 3) ∧ (if (ns.length : Int) < 3 then (ns.length : Int) else 3) ≤ 3 := by split <;> omega
  refine ⟨1 + (if (ns.length : Int) < 3 then (ns.length : Int) else 3), rfl, by omega, by omega, ?_⟩
  refine for_range (fun i σ H' => Same H H' ∧ ∃ x1 x2 x3 x4 x5, σ = [some (.ref a), x1, x2, x3, x4, x5, none]) ⟨Same.refl _, _, _, _, _, _, rfl⟩ ?_ ?_
  · rintro i σ H' hi ⟨y, x1, x2, x3, x4, x5, rfl⟩
    refine ⟨a, 0 + (i : Int), ns, rfl, SqL.same y hS, by omega, by omega, fun p H1 hp y1 hh => ?_⟩
    have pH : H p = none := fresh_back y hp
    refine ⟨p, rfl, hh, fun c k H2 hc hok k2 => ?_⟩
    refine ⟨by show 4 ≤ sizeLine; decide, fun d hd => ?_⟩
    have yd := Same.new hd (.lst [V.int 201, .int 121, .int 31, .int 6])
    have gd : upd H2 d (.lst [V.int 201, .int 121, .int 31, .int 6]) d = some (.lst [V.int 201, .int 121, .int 31, .int 6]) := upd_same
    have dp : d ≠ p := k2.2.ne hd
    have k3 := k2.same yd
    have hc3 := hc.same yd
    generalize upd H2 d (.lst [V.int 201, .int 121, .int 31, .int 6]) = H3 at gd k3 hc3
    refine ⟨p, 4, rfl, k3.2, by decide, by decide, fun u H4 u0 u1 k4 => ?_⟩
    obtain ⟨mo, emo, mo0, mo1⟩ : ∃ mo : Int, atI [V.int 201, .int 121, .int 31, .int 6] u = some (.int mo) ∧ 1 ≤ mo ∧ mo ≤ 201 := by
      have : u = 0 ∨ u = 1 ∨ u = 2 ∨ u = 3 := by omega
      rcases this with rfl | rfl | rfl | rfl <;> exact ⟨_, rfl, by decide, by decide⟩
    refine ⟨_, .inl (SqL.of (k4.1 _ _ dp gd)), .int mo, emo, ?_⟩
    refine ⟨_, _, rfl, ?_⟩
    have hc4 : KnAt H4 c k := KnAt.step k3.2 hc3 k4
    have kk := k3.trans k4
    refine ⟨p, mo, rfl, kk.2, by omega, by omega, fun r H5 r0 r1 k5 => ?_⟩
    obtain ⟨n, rfl⟩ : ∃ n : Nat, r = (n : Int) := ⟨r.toNat, by omega⟩
    refine ⟨c, n, k, rfl, by omega, KnAt.step kk.2 hc4 k5, hok, fun H6 y6 => ⟨fun b o e => ?_, _, _, _, _, _, rfl⟩⟩
    have nb : b ≠ p := fun z => by rw [z, pH] at e; cases e
    exact y6 _ _ (k5.1 b o nb (kk.1 b o nb (y1 _ _ (y _ _ e))))
  · rintro σ H' ⟨y, x1, x2, x3, x4, x5, rfl⟩
    refine ⟨a, 0, ns, rfl, SqL.same y hS, by omega, by omega, fun p H1 hp y1 hh => ?_⟩
    refine ⟨p, 601, rfl, hh, by decide, by decide, fun r H2 r0 r1 k2 => ?_⟩
    obtain ⟨n, rfl⟩ : ∃ n : Nat, r = (n : Int) := ⟨r.toNat, by omega⟩
    have hn : n ≤ 600 := by omega
    refine ⟨p, rfl, k2.2, fun c k H3 hc hok k3 => ?_⟩
    refine ⟨c, 600, k, rfl, by decide, hc, hok, fun H4 y4 => ?_⟩
    refine ⟨n, rfl, hn, fun t H5 us y5 ht5 hP => ?_⟩
    obtain ⟨cs, eus, lcs, hcs⟩ := prs_refs hP
    rw [eus] at ht5
    have cl := (M15.cor_in hn).2
    refine ⟨(M15.cor (n : Int)).map prK, cs, ht5, lcs, by rw [List.length_map, sizeLine_eq]; omega, hcs, fun D hD => ?_⟩
    have gD : upd H5 D (.dK (mergeK [] ((M15.cor (n : Int)).map prK))) D = some (.dK (mergeK [] ((M15.cor (n : Int)).map prK))) := upd_same
    have sg := fun j => signs_at j (n + 1)
    rw [← M15.cor_due hn] at sg
    generalize mergeK [] ((M15.cor (n : Int)).map prK) = kvs at gD sg
    generalize upd H5 D (.dK kvs) = H6 at gD
    refine ⟨by show 1 ≤ sizeLine; decide, fun o1 ho1 => ?_⟩
    have yo := Same.new ho1 (.tup [V.str "all"])
    have ko : KnAt (upd H6 o1 (.tup [V.str "all"])) o1 .all := upd_same
    have gD := yo _ _ gD
    generalize upd H6 o1 (.tup [V.str "all"]) = H7 at ko gD
    refine ⟨o1, n, .all, rfl, hn, ko, trivial, fun r8 H8 y8 hr8 => ?_⟩
    have hB := fun j hj => cf_B (k := .all) trivial hn j hj
    have g0 := cf_one (k := .all) trivial n hn
    refine ⟨r8, cf .all n, n + 1, rfl, hr8, by omega, by omega, fun j hj => row_sm hB j (by omega), fun j hj => iv_sm hn g0 hB j (by omega), fun r9 H9 y9 hr9 => ?_⟩
    have gD := y9 _ _ (y8 _ _ gD)
    refine ⟨(n : Int) + 1, rfl, by omega, by omega, ?_⟩
    have e1 : ((n : Int) + 1).toNat = n + 1 := by omega
    rw [e1]
    have sv : ∀ j, j ≤ n → (valV kvs (.inl (j : Int))).getD (.int 0) = .int (iv (cf .all n) j) := fun j hj => by
      rw [sg j, if_pos (by omega), ← M15.L_sgn hn hj, L_iv, ← PL_ups]
      rfl
    refine cmp_range (fun i zs H' => i ≤ n + 1 ∧ H' = H9 ∧ zs = (tb (iv (cf .all n)) i).map V.int) ⟨Nat.zero_le _, rfl, rfl⟩ ?_ ?_
    · rintro i zs H' hi ⟨_, rfl, rfl⟩
      have e0 : (0 : Int) + (i : Int) = (i : Int) := by omega
      rw [e0]
      refine ⟨by rw [tbI_len]; exact small1000 (by omega), ?_⟩
      refine ⟨D, rfl, .inl ⟨_, .inl gD⟩, valV kvs (.inl (i : Int)), DGet.k (k := .inl (i : Int)) gD, ?_⟩
      refine ⟨by omega, rfl, ?_⟩
      rw [tb_succ, List.map_append, sv i (by omega)]
      rfl
    · rintro zs H' ⟨_, rfl, rfl⟩ C hC
      have yC := Same.new hC (.lst ((tb (iv (cf .all n)) (n + 1)).map V.int))
      refine ⟨_, .inl (SqL.of upd_same), fun rX HX yX hrX => ?_⟩
      refine ⟨_, _, .ints (yX _ _ (yC _ _ hr9)), .ints hrX, shaped_ints _, shaped_ints _, ?_⟩
      rw [if_neg (by decide), eqv_self (shaped_ints _)]
      exact q _
end
end K25
set_option Elab.async false
set_option linter.all false
set_option maxRecDepth 100000
set_option maxHeartbeats 4000000
namespace K25
open PySem L2
theorem fnA {P : Program} {w : World} {K : PySem.W.Frag} {mg : Str → Option Value} {base : Heap} {x : Str} {k : Nat} {ps : List Str} {sp : Sp} {f : Addr} {fd : FuncData} (F : FnOk P w K mg base CX0 k f fd ps sp) (b : Binds K fd ps []) (kp : PySem.W.keepIn K (.ref f) = true) (m : mg x = some (.ref f)) : FnA P w K mg base x k ps sp := ⟨⟨f, fd, F, b, kp, m⟩⟩
theorem us1 {α : Type} {p : List α → Prop} (h : ∀ a, p [a]) : ∀ us : List α, us.length = 1 → p us
  | [a], _ => h a
theorem us2 {α : Type} {p : List α → Prop} (h : ∀ a b, p [a, b]) : ∀ us : List α, us.length = 2 → p us
  | [a, b], _ => h a b
theorem us3 {α : Type} {p : List α → Prop} (h : ∀ a b c, p [a, b, c]) : ∀ us : List α, us.length = 3 → p us
  | [a, b, c], _ => h a b c
theorem all_mk {l : PySem.W.OpenLaw} {w : World} {K : PySem.W.Frag} {h : Heap} {mg : Str → Option Value} {fa f1 f2 f3 f4 f5 f6 f7 f8 f9 f10 f11 f12 f13 f14 f15 f16 f17 f18 f19 f20 f21 f22 f23 f24 f25 f26 f27 f28 : Addr} (X : K.In h) (G : h.Ns mainGlobals mg) (hfa : mg "law" = some (.ref fa))
    {od1 an1 od2 an2 od3 an3 od4 an4 od5 an5 od6 an6 od7 an7 od8 an8 od9 an9 od10 an10 od11 an11 od12 an12 od13 an13 od14 an14 od15 an15 od16 an16 od17 an17 od18 an18 od19 an19 od20 an20 od21 an21 od22 an22 od23 an23 od24 an24 od25 an25 od26 an26 od27 an27 od28 an28 : Option Addr} {sl1 sl2 sl3 sl4 sl5 sl6 sl7 sl8 sl9 sl10 sl11 sl12 sl13 sl14 sl15 sl16 sl17 sl18 sl19 sl20 sl21 sl22 sl23 sl24 sl25 sl26 sl27 sl28 : Array (Option Value)} {oc1 kV1 dc1 pm1 cd1 ct1 oc2 kV2 dc2 pm2 cd2 ct2 oc3 kV3 dc3 pm3 cd3 ct3 oc4 kV4 dc4 pm4 cd4 ct4 oc5 kV5 dc5 pm5 cd5 ct5 oc6 kV6 dc6 pm6 cd6 ct6 oc7 kV7 dc7 pm7 cd7 ct7 oc8 kV8 dc8 pm8 cd8 ct8 oc9 kV9 dc9 pm9 cd9 ct9 oc10 kV10 dc10 pm10 cd10 ct10 oc11 kV11 dc11 pm11 cd11 ct11 oc12 kV12 dc12 pm12 cd12 ct12 oc13 kV13 dc13 pm13 cd13 ct13 oc14 kV14 dc14 pm14 cd14 ct14 oc15 kV15 dc15 pm15 cd15 ct15 oc16 kV16 dc16 pm16 cd16 ct16 oc17 kV17 dc17 pm17 cd17 ct17 oc18 kV18 dc18 pm18 cd18 ct18 oc19 kV19 dc19 pm19 cd19 ct19 oc20 kV20 dc20 pm20 cd20 ct20 oc21 kV21 dc21 pm21 cd21 ct21 oc22 kV22 dc22 pm22 cd22 ct22 oc23 kV23 dc23 pm23 cd23 ct23 oc24 kV24 dc24 pm24 cd24 ct24 oc25 kV25 dc25 pm25 cd25 ct25 oc26 kV26 dc26 pm26 cd26 ct26 oc27 kV27 dc27 pm27 cd27 ct27 oc28 kV28 dc28 pm28 cd28 ct28 : Value}
    (a1 : PySem.W.nsIn K mainGlobals "times" = some (some (.ref f1))) (l1 : K.lookup f1 = some ⟨oc1, od1, .func (PySem.W.fnOf "times" "times" (defArgs (top 4)) (defBody (top 4)) (defScope (top 4)) .none kV1 dc1 pm1 an1 cd1 ct1), sl1⟩) (c1 : PySem.W.codeIn K cd1 "times" = true) (k1 : PySem.W.keepIn K (.ref f1) = true)
    (a2 : PySem.W.nsIn K mainGlobals "undone" = some (some (.ref f2))) (l2 : K.lookup f2 = some ⟨oc2, od2, .func (PySem.W.fnOf "undone" "undone" (defArgs (top 5)) (defBody (top 5)) (defScope (top 5)) .none kV2 dc2 pm2 an2 cd2 ct2), sl2⟩) (c2 : PySem.W.codeIn K cd2 "undone" = true) (k2 : PySem.W.keepIn K (.ref f2) = true)
    (a3 : PySem.W.nsIn K mainGlobals "begun" = some (some (.ref f3))) (l3 : K.lookup f3 = some ⟨oc3, od3, .func (PySem.W.fnOf "begun" "begun" (defArgs (top 6)) (defBody (top 6)) (defScope (top 6)) .none kV3 dc3 pm3 an3 cd3 ct3), sl3⟩) (c3 : PySem.W.codeIn K cd3 "begun" = true) (k3 : PySem.W.keepIn K (.ref f3) = true)
    (a4 : PySem.W.nsIn K mainGlobals "put_on" = some (some (.ref f4))) (l4 : K.lookup f4 = some ⟨oc4, od4, .func (PySem.W.fnOf "put_on" "put_on" (defArgs (top 7)) (defBody (top 7)) (defScope (top 7)) .none kV4 dc4 pm4 an4 cd4 ct4), sl4⟩) (c4 : PySem.W.codeIn K cd4 "put_on" = true) (k4 : PySem.W.keepIn K (.ref f4) = true)
    (a5 : PySem.W.nsIn K mainGlobals "taken_off" = some (some (.ref f5))) (l5 : K.lookup f5 = some ⟨oc5, od5, .func (PySem.W.fnOf "taken_off" "taken_off" (defArgs (top 8)) (defBody (top 8)) (defScope (top 8)) .none kV5 dc5 pm5 an5 cd5 ct5), sl5⟩) (c5 : PySem.W.codeIn K cd5 "taken_off" = true) (k5 : PySem.W.keepIn K (.ref f5) = true)
    (a6 : PySem.W.nsIn K mainGlobals "product" = some (some (.ref f6))) (l6 : K.lookup f6 = some ⟨oc6, od6, .func (PySem.W.fnOf "product" "product" (defArgs (top 10)) (defBody (top 10)) (defScope (top 10)) .none kV6 dc6 pm6 an6 cd6 ct6), sl6⟩) (c6 : PySem.W.codeIn K cd6 "product" = true) (k6 : PySem.W.keepIn K (.ref f6) = true)
    (a7 : PySem.W.nsIn K mainGlobals "steps_of" = some (some (.ref f7))) (l7 : K.lookup f7 = some ⟨oc7, od7, .func (PySem.W.fnOf "steps_of" "steps_of" (defArgs (top 11)) (defBody (top 11)) (defScope (top 11)) .none kV7 dc7 pm7 an7 cd7 ct7), sl7⟩) (c7 : PySem.W.codeIn K cd7 "steps_of" = true) (k7 : PySem.W.keepIn K (.ref f7) = true)
    (a8 : PySem.W.nsIn K mainGlobals "by_steps" = some (some (.ref f8))) (l8 : K.lookup f8 = some ⟨oc8, od8, .func (PySem.W.fnOf "by_steps" "by_steps" (defArgs (top 12)) (defBody (top 12)) (defScope (top 12)) .none kV8 dc8 pm8 an8 cd8 ct8), sl8⟩) (c8 : PySem.W.codeIn K cd8 "by_steps" = true) (k8 : PySem.W.keepIn K (.ref f8) = true)
    (a9 : PySem.W.nsIn K mainGlobals "steps_found" = some (some (.ref f9))) (l9 : K.lookup f9 = some ⟨oc9, od9, .func (PySem.W.fnOf "steps_found" "steps_found" (defArgs (top 13)) (defBody (top 13)) (defScope (top 13)) .none kV9 dc9 pm9 an9 cd9 ct9), sl9⟩) (c9 : PySem.W.codeIn K cd9 "steps_found" = true) (k9 : PySem.W.keepIn K (.ref f9) = true)
    (a10 : PySem.W.nsIn K mainGlobals "powers_found" = some (some (.ref f10))) (l10 : K.lookup f10 = some ⟨oc10, od10, .func (PySem.W.fnOf "powers_found" "powers_found" (defArgs (top 14)) (defBody (top 14)) (defScope (top 14)) .none kV10 dc10 pm10 an10 cd10 ct10), sl10⟩) (c10 : PySem.W.codeIn K cd10 "powers_found" = true) (k10 : PySem.W.keepIn K (.ref f10) = true)
    (a11 : PySem.W.nsIn K mainGlobals "of_sizes" = some (some (.ref f11))) (l11 : K.lookup f11 = some ⟨oc11, od11, .func (PySem.W.fnOf "of_sizes" "of_sizes" (defArgs (top 16)) (defBody (top 16)) (defScope (top 16)) .none kV11 dc11 pm11 an11 cd11 ct11), sl11⟩) (c11 : PySem.W.codeIn K cd11 "of_sizes" = true) (k11 : PySem.W.keepIn K (.ref f11) = true)
    (a12 : PySem.W.nsIn K mainGlobals "of_sizes_below" = some (some (.ref f12))) (l12 : K.lookup f12 = some ⟨oc12, od12, .func (PySem.W.fnOf "of_sizes_below" "of_sizes_below" (defArgs (top 17)) (defBody (top 17)) (defScope (top 17)) .none kV12 dc12 pm12 an12 cd12 ct12), sl12⟩) (c12 : PySem.W.codeIn K cd12 "of_sizes_below" = true) (k12 : PySem.W.keepIn K (.ref f12) = true)
    (a13 : PySem.W.nsIn K mainGlobals "in_box" = some (some (.ref f13))) (l13 : K.lookup f13 = some ⟨oc13, od13, .func (PySem.W.fnOf "in_box" "in_box" (defArgs (top 18)) (defBody (top 18)) (defScope (top 18)) .none kV13 dc13 pm13 an13 cd13 ct13), sl13⟩) (c13 : PySem.W.codeIn K cd13 "in_box" = true) (k13 : PySem.W.keepIn K (.ref f13) = true)
    (a14 : PySem.W.nsIn K mainGlobals "falling_by" = some (some (.ref f14))) (l14 : K.lookup f14 = some ⟨oc14, od14, .func (PySem.W.fnOf "falling_by" "falling_by" (defArgs (top 19)) (defBody (top 19)) (defScope (top 19)) .none kV14 dc14 pm14 an14 cd14 ct14), sl14⟩) (c14 : PySem.W.codeIn K cd14 "falling_by" = true) (k14 : PySem.W.keepIn K (.ref f14) = true)
    (a15 : PySem.W.nsIn K mainGlobals "counted" = some (some (.ref f15))) (l15 : K.lookup f15 = some ⟨oc15, od15, .func (PySem.W.fnOf "counted" "counted" (defArgs (top 20)) (defBody (top 20)) (defScope (top 20)) .none kV15 dc15 pm15 an15 cd15 ct15), sl15⟩) (c15 : PySem.W.codeIn K cd15 "counted" = true) (k15 : PySem.W.keepIn K (.ref f15) = true)
    (a16 : PySem.W.nsIn K mainGlobals "counts" = some (some (.ref f16))) (l16 : K.lookup f16 = some ⟨oc16, od16, .func (PySem.W.fnOf "counts" "counts" (defArgs (top 21)) (defBody (top 21)) (defScope (top 21)) .none kV16 dc16 pm16 an16 cd16 ct16), sl16⟩) (c16 : PySem.W.codeIn K cd16 "counts" = true) (k16 : PySem.W.keepIn K (.ref f16) = true)
    (a17 : PySem.W.nsIn K mainGlobals "in_box_at" = some (some (.ref f17))) (l17 : K.lookup f17 = some ⟨oc17, od17, .func (PySem.W.fnOf "in_box_at" "in_box_at" (defArgs (top 23)) (defBody (top 23)) (defScope (top 23)) .none kV17 dc17 pm17 an17 cd17 ct17), sl17⟩) (c17 : PySem.W.codeIn K cd17 "in_box_at" = true) (k17 : PySem.W.keepIn K (.ref f17) = true)
    (a18 : PySem.W.nsIn K mainGlobals "own_at" = some (some (.ref f18))) (l18 : K.lookup f18 = some ⟨oc18, od18, .func (PySem.W.fnOf "own_at" "own_at" (defArgs (top 24)) (defBody (top 24)) (defScope (top 24)) .none kV18 dc18 pm18 an18 cd18 ct18), sl18⟩) (c18 : PySem.W.codeIn K cd18 "own_at" = true) (k18 : PySem.W.keepIn K (.ref f18) = true)
    (a19 : PySem.W.nsIn K mainGlobals "power_at" = some (some (.ref f19))) (l19 : K.lookup f19 = some ⟨oc19, od19, .func (PySem.W.fnOf "power_at" "power_at" (defArgs (top 25)) (defBody (top 25)) (defScope (top 25)) .none kV19 dc19 pm19 an19 cd19 ct19), sl19⟩) (c19 : PySem.W.codeIn K cd19 "power_at" = true) (k19 : PySem.W.keepIn K (.ref f19) = true)
    (a20 : PySem.W.nsIn K mainGlobals "of_like_counts" = some (some (.ref f20))) (l20 : K.lookup f20 = some ⟨oc20, od20, .func (PySem.W.fnOf "of_like_counts" "of_like_counts" (defArgs (top 26)) (defBody (top 26)) (defScope (top 26)) .none kV20 dc20 pm20 an20 cd20 ct20), sl20⟩) (c20 : PySem.W.codeIn K cd20 "of_like_counts" = true) (k20 : PySem.W.keepIn K (.ref f20) = true)
    (a21 : PySem.W.nsIn K mainGlobals "powers_of" = some (some (.ref f21))) (l21 : K.lookup f21 = some ⟨oc21, od21, .func (PySem.W.fnOf "powers_of" "powers_of" (defArgs (top 27)) (defBody (top 27)) (defScope (top 27)) .none kV21 dc21 pm21 an21 cd21 ct21), sl21⟩) (c21 : PySem.W.codeIn K cd21 "powers_of" = true) (k21 : PySem.W.keepIn K (.ref f21) = true)
    (a22 : PySem.W.nsIn K mainGlobals "corners" = some (some (.ref f22))) (l22 : K.lookup f22 = some ⟨oc22, od22, .func (PySem.W.fnOf "corners" "corners" (defArgs (top 29)) (defBody (top 29)) (defScope (top 29)) .none kV22 dc22 pm22 an22 cd22 ct22), sl22⟩) (c22 : PySem.W.codeIn K cd22 "corners" = true) (k22 : PySem.W.keepIn K (.ref f22) = true)
    (a23 : PySem.W.nsIn K mainGlobals "_law_pot" = some (some (.ref f23))) (l23 : K.lookup f23 = some ⟨oc23, od23, .func (PySem.W.fnOf "_law_pot" "_law_pot" (defArgs (top 31)) (defBody (top 31)) (defScope (top 31)) .none kV23 dc23 pm23 an23 cd23 ct23), sl23⟩) (c23 : PySem.W.codeIn K cd23 "_law_pot" = true) (k23 : PySem.W.keepIn K (.ref f23) = true)
    (a24 : PySem.W.nsIn K mainGlobals "_law_take" = some (some (.ref f24))) (l24 : K.lookup f24 = some ⟨oc24, od24, .func (PySem.W.fnOf "_law_take" "_law_take" (defArgs (top 32)) (defBody (top 32)) (defScope (top 32)) .none kV24 dc24 pm24 an24 cd24 ct24), sl24⟩) (c24 : PySem.W.codeIn K cd24 "_law_take" = true) (k24 : PySem.W.keepIn K (.ref f24) = true)
    (a25 : PySem.W.nsIn K mainGlobals "_law_number" = some (some (.ref f25))) (l25 : K.lookup f25 = some ⟨oc25, od25, .func (PySem.W.fnOf "_law_number" "_law_number" (defArgs (top 33)) (defBody (top 33)) (defScope (top 33)) .none kV25 dc25 pm25 an25 cd25 ct25), sl25⟩) (c25 : PySem.W.codeIn K cd25 "_law_number" = true) (k25 : PySem.W.keepIn K (.ref f25) = true)
    (a26 : PySem.W.nsIn K mainGlobals "_law_kind" = some (some (.ref f26))) (l26 : K.lookup f26 = some ⟨oc26, od26, .func (PySem.W.fnOf "_law_kind" "_law_kind" (defArgs (top 34)) (defBody (top 34)) (defScope (top 34)) .none kV26 dc26 pm26 an26 cd26 ct26), sl26⟩) (c26 : PySem.W.codeIn K cd26 "_law_kind" = true) (k26 : PySem.W.keepIn K (.ref f26) = true)
    (a27 : PySem.W.nsIn K mainGlobals "_law_right" = some (some (.ref f27))) (l27 : K.lookup f27 = some ⟨oc27, od27, .func (PySem.W.fnOf "_law_right" "_law_right" (defArgs (top 35)) (defBody (top 35)) (defScope (top 35)) .none kV27 dc27 pm27 an27 cd27 ct27), sl27⟩) (c27 : PySem.W.codeIn K cd27 "_law_right" = true) (k27 : PySem.W.keepIn K (.ref f27) = true)
    (a28 : PySem.W.nsIn K mainGlobals "law" = some (some (.ref f28))) (l28 : K.lookup f28 = some ⟨oc28, od28, .func (PySem.W.fnOf "law" "law" (defArgs (top 36)) (defBody (top 36)) (defScope (top 36)) .none kV28 dc28 pm28 an28 cd28 ct28), sl28⟩) (c28 : PySem.W.codeIn K cd28 "law" = true) (k28 : PySem.W.keepIn K (.ref f28) = true)
    (z1 : PySem.W.nsIn K mainGlobals "len" = some none) (z2 : PySem.W.nsIn K mainGlobals "min" = some none) (z3 : PySem.W.nsIn K mainGlobals "range" = some none) (z4 : PySem.W.nsIn K mainGlobals "sum" = some none) (z5 : PySem.W.nsIn K mainGlobals "tuple" = some none) (z6 : PySem.W.nsIn K mainGlobals "list" = some none) (z7 : PySem.W.nsIn K mainGlobals "enumerate" = some none) (z8 : PySem.W.nsIn K mainGlobals "int" = some none) (z9 : PySem.W.nsIn K mainGlobals "abs" = some none) (z10 : PySem.W.nsIn K mainGlobals "dict" = some none) :
    ∃ fd : FuncData, (∀ (s : Shared) (v : Value), BindsTo s fd ⟨[v], []⟩ [("_law_script", v)]) ∧ ∀ base : Heap, K.In base → base.Ns mainGlobals mg → FnOk l.prog w K mg base CX0 6 fa fd ["_law_script"] (sp_law K) := by
  have e := hfa.symm.trans (PySem.W.mg_of X G a28)
  cases e
  have F1 := fun_mk (st := top 4) l1 c1 k1
  have b1 := F1.binds (ps := ["one", "other"]) fun _ _ _ _ _ _ => us2 fun _ _ => rfl
  have F2 := fun_mk (st := top 5) l2 c2 k2
  have b2 := F2.binds (ps := ["row"]) fun _ _ _ _ _ _ => us1 fun _ => rfl
  have F3 := fun_mk (st := top 6) l3 c3 k3
  have b3 := F3.binds (ps := ["most"]) fun _ _ _ _ _ _ => us1 fun _ => rfl
  have F4 := fun_mk (st := top 7) l4 c4 k4
  have b4 := F4.binds (ps := ["row", "size"]) fun _ _ _ _ _ _ => us2 fun _ _ => rfl
  have F5 := fun_mk (st := top 8) l5 c5 k5
  have b5 := F5.binds (ps := ["row", "size"]) fun _ _ _ _ _ _ => us2 fun _ _ => rfl
  have F6 := fun_mk (st := top 10) l6 c6 k6
  have b6 := F6.binds (ps := ["powers"]) fun _ _ _ _ _ _ => us1 fun _ => rfl
  have F7 := fun_mk (st := top 11) l7 c7 k7
  have b7 := F7.binds (ps := ["powers"]) fun _ _ _ _ _ _ => us1 fun _ => rfl
  have F8 := fun_mk (st := top 12) l8 c8 k8
  have b8 := F8.binds (ps := ["steps"]) fun _ _ _ _ _ _ => us1 fun _ => rfl
  have F9 := fun_mk (st := top 13) l9 c9 k9
  have b9 := F9.binds (ps := ["row"]) fun _ _ _ _ _ _ => us1 fun _ => rfl
  have F10 := fun_mk (st := top 14) l10 c10 k10
  have b10 := F10.binds (ps := ["row"]) fun _ _ _ _ _ _ => us1 fun _ => rfl
  have F11 := fun_mk (st := top 16) l11 c11 k11
  have b11 := F11.binds (ps := ["some", "most"]) fun _ _ _ _ _ _ => us2 fun _ _ => rfl
  have F12 := fun_mk (st := top 17) l12 c12 k12
  have b12 := F12.binds (ps := ["some", "m", "most"]) fun _ _ _ _ _ _ => us3 fun _ _ _ => rfl
  have F13 := fun_mk (st := top 18) l13 c13 k13
  have b13 := F13.binds (ps := ["k", "l", "most"]) fun _ _ _ _ _ _ => us3 fun _ _ _ => rfl
  have F14 := fun_mk (st := top 19) l14 c14 k14
  have b14 := F14.binds (ps := ["d", "most"]) fun _ _ _ _ _ _ => us2 fun _ _ => rfl
  have F15 := fun_mk (st := top 20) l15 c15 k15
  have b15 := F15.binds (ps := ["kind", "most"]) fun _ _ _ _ _ _ => us2 fun _ _ => rfl
  have F16 := fun_mk (st := top 21) l16 c16 k16
  have b16 := F16.binds (ps := ["kind", "most"]) fun _ _ _ _ _ _ => us2 fun _ _ => rfl
  have F17 := fun_mk (st := top 23) l17 c17 k17
  have b17 := F17.binds (ps := ["k", "l", "size"]) fun _ _ _ _ _ _ => us3 fun _ _ _ => rfl
  have F18 := fun_mk (st := top 24) l18 c18 k18
  have b18 := F18.binds (ps := ["size"]) fun _ _ _ _ _ _ => us1 fun _ => rfl
  have F19 := fun_mk (st := top 25) l19 c19 k19
  have b19 := F19.binds (ps := ["kind", "size"]) fun _ _ _ _ _ _ => us2 fun _ _ => rfl
  have F20 := fun_mk (st := top 26) l20 c20 k20
  have b20 := F20.binds (ps := ["kind"]) fun _ _ _ _ _ _ => us1 fun _ => rfl
  have F21 := fun_mk (st := top 27) l21 c21 k21
  have b21 := F21.binds (ps := ["kind", "most"]) fun _ _ _ _ _ _ => us2 fun _ _ => rfl
  have F22 := fun_mk (st := top 29) l22 c22 k22
  have b22 := F22.binds (ps := ["most"]) fun _ _ _ _ _ _ => us1 fun _ => rfl
  have F23 := fun_mk (st := top 31) l23 c23 k23
  have b23 := F23.binds (ps := ["_law_script", "_law_k"]) fun _ _ _ _ _ _ => us2 fun _ _ => rfl
  have F24 := fun_mk (st := top 32) l24 c24 k24
  have b24 := F24.binds (ps := ["_law_pot_here", "_law_many"]) fun _ _ _ _ _ _ => us2 fun _ _ => rfl
  have F25 := fun_mk (st := top 33) l25 c25 k25
  have b25 := F25.binds (ps := ["_law_pot_here"]) fun _ _ _ _ _ _ => us1 fun _ => rfl
  have F26 := fun_mk (st := top 34) l26 c26 k26
  have b26 := F26.binds (ps := ["_law_pot_here"]) fun _ _ _ _ _ _ => us1 fun _ => rfl
  have F27 := fun_mk (st := top 35) l27 c27 k27
  have b27 := F27.binds (ps := ["_law_kind_here", "_law_most"]) fun _ _ _ _ _ _ => us2 fun _ _ => rfl
  have F28 := fun_mk (st := top 36) l28 c28 k28
  have m_len := PySem.W.mg_none_of X G z1
  have m_min := PySem.W.mg_none_of X G z2
  have m_range := PySem.W.mg_none_of X G z3
  have m_sum := PySem.W.mg_none_of X G z4
  have m_tuple := PySem.W.mg_none_of X G z5
  have m_list := PySem.W.mg_none_of X G z6
  have m_enumerate := PySem.W.mg_none_of X G z7
  have m_int := PySem.W.mg_none_of X G z8
  have m_abs := PySem.W.mg_none_of X G z9
  have m_dict := PySem.W.mg_none_of X G z10
  refine ⟨PySem.W.fnOf "law" "law" (defArgs (top 36)) (defBody (top 36)) (defScope (top 36)) .none kV28 dc28 pm28 an28 cd28 ct28, fun s v => .of_eq rfl, fun base _ _ => ?_⟩
  have A1 : FnA l.prog w K mg base "times" 1 ["one", "other"] sp_tm := fnA (ok_tm F1 m_len m_min m_range m_sum m_tuple) b1 k1 (PySem.W.mg_of X G a1)
  have A2 : FnA l.prog w K mg base "undone" 1 ["row"] sp_ud := fnA (ok_ud F2 m_len m_range m_sum m_tuple) b2 k2 (PySem.W.mg_of X G a2)
  have A3 : FnA l.prog w K mg base "begun" 1 ["most"] sp_begun := fnA (ok_begun F3) b3 k3 (PySem.W.mg_of X G a3)
  have A4 : FnA l.prog w K mg base "put_on" 1 ["row", "size"] sp_put_on := fnA (ok_put_on F4 m_len m_list m_range) b4 k4 (PySem.W.mg_of X G a4)
  have A5 : FnA l.prog w K mg base "taken_off" 1 ["row", "size"] sp_to := fnA (ok_to F5 m_len m_list m_range) b5 k5 (PySem.W.mg_of X G a5)
  have A6 : FnA l.prog w K mg base "product" 2 ["powers"] sp_pr := fnA (ok_pr F6 m_enumerate m_len m_range m_tuple A3 A4 A5) b6 k6 (PySem.W.mg_of X G a6)
  have A7 : FnA l.prog w K mg base "steps_of" 1 ["powers"] sp_so := fnA (ok_so F7 m_len m_range m_tuple) b7 k7 (PySem.W.mg_of X G a7)
  have A8 : FnA l.prog w K mg base "by_steps" 1 ["steps"] sp_bs := fnA (ok_bs F8 m_len m_range m_sum m_tuple) b8 k8 (PySem.W.mg_of X G a8)
  have A9 : FnA l.prog w K mg base "steps_found" 1 ["row"] sp_sf := fnA (ok_sf F9 m_len m_range m_sum) b9 k9 (PySem.W.mg_of X G a9)
  have A10 : FnA l.prog w K mg base "powers_found" 2 ["row"] sp_pf := fnA (ok_pf F10 m_len m_range m_tuple A9) b10 k10 (PySem.W.mg_of X G a10)
  have A11 : FnA l.prog w K mg base "of_sizes" 2 ["some", "most"] sp_of_sizes := fnA (ok_of_sizes F11 A3 A4) b11 k11 (PySem.W.mg_of X G a11)
  have A12 : FnA l.prog w K mg base "of_sizes_below" 2 ["some", "m", "most"] sp_osb := fnA (ok_osb F12 A3 A4 A5) b12 k12 (PySem.W.mg_of X G a12)
  have A13 : FnA l.prog w K mg base "in_box" 2 ["k", "l", "most"] sp_ib := fnA (ok_ib F13 m_min m_range A3 A4 A5) b13 k13 (PySem.W.mg_of X G a13)
  have A14 : FnA l.prog w K mg base "falling_by" 2 ["d", "most"] sp_fb := fnA (ok_fb F14 m_range A3 A4) b14 k14 (PySem.W.mg_of X G a14)
  have A15 : FnA l.prog w K mg base "counted" 3 ["kind", "most"] sp_counted := fnA (ok_counted F15 m_list m_min m_range A14 A13 A11 A12) b15 k15 (PySem.W.mg_of X G a15)
  have A16 : FnA l.prog w K mg base "counts" 4 ["kind", "most"] sp_counts := fnA (ok_counts F16 m_tuple A15) b16 k16 (PySem.W.mg_of X G a16)
  have A17 : FnA l.prog w K mg base "in_box_at" 1 ["k", "l", "size"] sp_iba := fnA (ok_iba F17 m_int) b17 k17 (PySem.W.mg_of X G a17)
  have A18 : FnA l.prog w K mg base "own_at" 1 ["size"] sp_oa := fnA (ok_oa F18) b18 k18 (PySem.W.mg_of X G a18)
  have A19 : FnA l.prog w K mg base "power_at" 2 ["kind", "size"] sp_pt := fnA (ok_pt F19 m_int A17 A18) b19 k19 (PySem.W.mg_of X G a19)
  have A20 : FnA l.prog w K mg base "of_like_counts" 1 ["kind"] sp_ol := fnA (ok_ol F20) b20 k20 (PySem.W.mg_of X G a20)
  have A21 : FnA l.prog w K mg base "powers_of" 3 ["kind", "most"] sp_po := fnA (ok_po F21 m_range m_tuple A20 A19) b21 k21 (PySem.W.mg_of X G a21)
  have A22 : FnA l.prog w K mg base "corners" 1 ["most"] sp_cor := fnA (ok_corners F22 m_tuple) b22 k22 (PySem.W.mg_of X G a22)
  have A23 : FnA l.prog w K mg base "_law_pot" 1 ["_law_script", "_law_k"] (sp_pot K) := fnA (ok_pot F23 m_abs m_int m_len) b23 k23 (PySem.W.mg_of X G a23)
  have A24 : FnA l.prog w K mg base "_law_take" 1 ["_law_pot_here", "_law_many"] sp_take := fnA (ok_take F24) b24 k24 (PySem.W.mg_of X G a24)
  have A25 : FnA l.prog w K mg base "_law_number" 2 ["_law_pot_here"] sp_nr := fnA (ok_nr F25 A24) b25 k25 (PySem.W.mg_of X G a25)
  have A26 : FnA l.prog w K mg base "_law_kind" 3 ["_law_pot_here"] sp_kd := fnA (ok_kd F26 m_range m_tuple A25 A24) b26 k26 (PySem.W.mg_of X G a26)
  have A27 : FnA l.prog w K mg base "_law_right" 5 ["_law_kind_here", "_law_most"] sp_rt := fnA (ok_rt F27 m_len m_tuple A8 A16 A10 A21 A6 A7 A1 A2) b27 k27 (PySem.W.mg_of X G a27)
  exact ok_law F28 m_dict m_len m_min m_range m_tuple A26 A23 A27 A24 A22 A16 A2
theorem walk {l : PySem.W.OpenLaw} {q : Program} {loose : List Str} {XP : (Str → Option Value) → Heap → Prop} {YP : World → Heap → Prop} {d : DefRec} {K : Params → PySem.W.Frag} (hn : l.most = some 63) (hdf : d.params.defaults = [])
    (hY : ∀ (w : World) (h : Heap), YP w h → (K w.params).In h)
    (F : ∀ (w : World) (mg : Str → Option Value) (fa : Addr) (h : Heap), (K w.params).In h → h.Ns mainGlobals mg → mg d.name = some (.ref fa) →
      ∃ fd : FuncData, (∀ (s : Shared) (u : Value), BindsTo s fd ⟨[u], []⟩ [("_law_script", u)]) ∧ ∀ base : Heap, (K w.params).In base → base.Ns mainGlobals mg → FnOk l.prog w (K w.params) mg base CX0 6 fa fd ["_law_script"] (sp_law (K w.params))) :
    PySem.W.WalkO q loose XP YP l.row.toRowW d [] (fun f vs => PySem.call f vs) :=
  L2.walk_of (n := 63) (k := 6) (x := "_law_script") (CX := fun _ => CX0) (sp := fun w => sp_law (K w.params)) hn (by decide) hdf ⟨rfl, by decide, by decide, rfl⟩ hY F (fun _ _ a ns hl _ hS => ⟨a, ns, rfl, hS, hl, fun _ => rfl⟩) fun _ _ _ _ _ z => z
end K25
open PySem PySem.W PyProof.Rows
set_option maxRecDepth 100000 in
set_option maxHeartbeats 0 in
theorem PySem.Challenge.cw_partrests_k25_whole_rows_agree_holds : PySem.Challenge.rw_partrests_k25_whole_rows_agree.Holds := by
  w_on; o_law; k_head; (case hw => w_witness2)
  k_fill
  refine K25.walk (l := PySem.Challenge.rw_partrests_k25_whole_rows_agree) rfl rfl (fun w h Y => PySem.W.kIn_of Y) ?F
  case F =>
    intro w mg fa h KX G hmg
    refine' K25.all_mk KX G hmg ?a1 ?l1 ?c1 ?k1 ?a2 ?l2 ?c2 ?k2 ?a3 ?l3 ?c3 ?k3 ?a4 ?l4 ?c4 ?k4 ?a5 ?l5 ?c5 ?k5 ?a6 ?l6 ?c6 ?k6 ?a7 ?l7 ?c7 ?k7 ?a8 ?l8 ?c8 ?k8 ?a9 ?l9 ?c9 ?k9 ?a10 ?l10 ?c10 ?k10 ?a11 ?l11 ?c11 ?k11 ?a12 ?l12 ?c12 ?k12 ?a13 ?l13 ?c13 ?k13 ?a14 ?l14 ?c14 ?k14 ?a15 ?l15 ?c15 ?k15 ?a16 ?l16 ?c16 ?k16 ?a17 ?l17 ?c17 ?k17 ?a18 ?l18 ?c18 ?k18 ?a19 ?l19 ?c19 ?k19 ?a20 ?l20 ?c20 ?k20 ?a21 ?l21 ?c21 ?k21 ?a22 ?l22 ?c22 ?k22 ?a23 ?l23 ?c23 ?k23 ?a24 ?l24 ?c24 ?k24 ?a25 ?l25 ?c25 ?k25 ?a26 ?l26 ?c26 ?k26 ?a27 ?l27 ?c27 ?k27 ?a28 ?l28 ?c28 ?k28  ?z1 ?z2 ?z3 ?z4 ?z5 ?z6 ?z7 ?z8 ?z9 ?z10
    (case a1 => k_is); (case l1 => k_is); (case c1 => k_is); (case k1 => k_is)
    (case a2 => k_is); (case l2 => k_is); (case c2 => k_is); (case k2 => k_is)
    (case a3 => k_is); (case l3 => k_is); (case c3 => k_is); (case k3 => k_is)
    (case a4 => k_is); (case l4 => k_is); (case c4 => k_is); (case k4 => k_is)
    (case a5 => k_is); (case l5 => k_is); (case c5 => k_is); (case k5 => k_is)
    (case a6 => k_is); (case l6 => k_is); (case c6 => k_is); (case k6 => k_is)
    (case a7 => k_is); (case l7 => k_is); (case c7 => k_is); (case k7 => k_is)
    (case a8 => k_is); (case l8 => k_is); (case c8 => k_is); (case k8 => k_is)
    (case a9 => k_is); (case l9 => k_is); (case c9 => k_is); (case k9 => k_is)
    (case a10 => k_is); (case l10 => k_is); (case c10 => k_is); (case k10 => k_is)
    (case a11 => k_is); (case l11 => k_is); (case c11 => k_is); (case k11 => k_is)
    (case a12 => k_is); (case l12 => k_is); (case c12 => k_is); (case k12 => k_is)
    (case a13 => k_is); (case l13 => k_is); (case c13 => k_is); (case k13 => k_is)
    (case a14 => k_is); (case l14 => k_is); (case c14 => k_is); (case k14 => k_is)
    (case a15 => k_is); (case l15 => k_is); (case c15 => k_is); (case k15 => k_is)
    (case a16 => k_is); (case l16 => k_is); (case c16 => k_is); (case k16 => k_is)
    (case a17 => k_is); (case l17 => k_is); (case c17 => k_is); (case k17 => k_is)
    (case a18 => k_is); (case l18 => k_is); (case c18 => k_is); (case k18 => k_is)
    (case a19 => k_is); (case l19 => k_is); (case c19 => k_is); (case k19 => k_is)
    (case a20 => k_is); (case l20 => k_is); (case c20 => k_is); (case k20 => k_is)
    (case a21 => k_is); (case l21 => k_is); (case c21 => k_is); (case k21 => k_is)
    (case a22 => k_is); (case l22 => k_is); (case c22 => k_is); (case k22 => k_is)
    (case a23 => k_is); (case l23 => k_is); (case c23 => k_is); (case k23 => k_is)
    (case a24 => k_is); (case l24 => k_is); (case c24 => k_is); (case k24 => k_is)
    (case a25 => k_is); (case l25 => k_is); (case c25 => k_is); (case k25 => k_is)
    (case a26 => k_is); (case l26 => k_is); (case c26 => k_is); (case k26 => k_is)
    (case a27 => k_is); (case l27 => k_is); (case c27 => k_is); (case k27 => k_is)
    (case a28 => k_is); (case l28 => k_is); (case c28 => k_is); (case k28 => k_is)
    (case z1 => k_is)
    (case z2 => k_is)
    (case z3 => k_is)
    (case z4 => k_is)
    (case z5 => k_is)
    (case z6 => k_is)
    (case z7 => k_is)
    (case z8 => k_is)
    (case z9 => k_is)
    (case z10 => k_is)

