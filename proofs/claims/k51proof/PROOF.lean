import PyProof.Rows.All
import Wide.All
import OpenK.AllK
import Wide.FinOn
import Lean
import PyProof.EqAt
import PyProof.EqKinds
import PyProof.TupleCall
import PySem.Challenge.RW_partrests_k51_whole_lists_in_rounds
set_option Elab.async false
set_option linter.all false
set_option maxRecDepth 100000
noncomputable section
abbrev zA0:=@List.length_map
abbrev zA1:=@Nat.le_refl
abbrev zA2:=@List.map_append
abbrev zA3:=@List.getD_eq_getElem?_getD
abbrev zA4:=@List.map_congr_left
abbrev zA5:=@List.length_append
abbrev zA6:=@List.mem_range
abbrev zA7:=@List.size_toArray
abbrev zA8:=@List.mem_cons_self
abbrev zA9:=@List.map_cons
abbrev zB0:=@List.mem_append_right
abbrev zB1:=@List.getElem_mem
abbrev zB2:=@List.mem_cons
abbrev zB3:=@List.sum_cons
abbrev zB4:=@List.mem_cons_of_mem
abbrev zB5:=@List.range_succ
abbrev zB6:=@List.append_assoc
abbrev zB7:=@List.length_take
abbrev zB8:=@Nat.ne_of_lt
abbrev zB9:=@List.length_cons
abbrev zC0:=@List.sum_append
abbrev zC1:=@List.mem_append
abbrev zC2:=@List.take_of_length_le
abbrev zC3:=@Bool.false_ne_true
abbrev zC4:=@Bool.false_eq_true
abbrev zC5:=@List.mem_map
abbrev zC6:=@Nat.zero_le
abbrev zC7:=@List.length_drop
abbrev zC8:=@Nat.le_trans
abbrev zC9:=@Int.le_of_lt
abbrev zD0:=@Array.length_toList
abbrev zD1:=@List.pairwise_append
abbrev zD2:=@List.length_range
abbrev zD3:=@List.drop_eq_getElem_cons
abbrev zD4:=@List.mem_singleton
abbrev zD5:=@List.flatten_cons
abbrev zD6:=@Int.le_trans
abbrev zD7:=@Nat.lt_of_lt_of_le
abbrev zD8:=@List.flatMap_cons
abbrev zD9:=@List.ext_getElem
abbrev zE0:=@List.take_append_drop
abbrev zE1:=@List.take_succ
abbrev zE2:=@Array.toList_push
abbrev zE3:=@List.append_nil
abbrev zE4:=@List.map_map
abbrev zE5:=@List.mem_iff_getElem
abbrev zE6:=@List.Perm.append_left
abbrev zE7:=@Int.le_refl
abbrev zE8:=@List.pairwise_iff_getElem
abbrev zE9:=@Bool.and_eq_true
abbrev zF0:=@Int.emod_lt_of_pos
abbrev zF1:=@List.map_nil
abbrev zF2:=@List.lookup_cons
abbrev zF3:=@Nat.mod_eq_of_lt
abbrev zF4:=@Int.toNat_natCast
abbrev zF5:=@Nat.add_zero
abbrev zF6:=@Int.emod_nonneg
abbrev zF7:=@List.getElem_take
abbrev zF8:=@List.mem_append_left
abbrev zF9:=@List.getElem_append_right
abbrev zG0:=@List.getElem_range
abbrev zG1:=@Nat.lt_succ_self
abbrev zG2:=@List.getElem_map
abbrev zG3:=@List.getElem_append_left
abbrev zG4:=@List.replicate_succ
abbrev zG5:=@List.length_pos_iff
abbrev zG6:=@List.pairwise_map
abbrev zG7:=@List.mem_of_getElem?
abbrev zG8:=@Nat.lt_irrefl
abbrev zG9:=@List.reverse_perm
abbrev zH0:=@List.length_replicate
abbrev zH1:=@List.perm_append_comm
abbrev zH2:=@List.mem_filter
abbrev zH3:=@List.sum_nil
abbrev zH4:=@List.filter_append
abbrev zH5:=@List.cons_append
abbrev zH6:=@List.filter_cons_of_neg
abbrev zH7:=@List.filter_cons_of_pos
abbrev zH8:=@Nat.lt_succ_of_lt
abbrev zH9:=@List.Perm.append_right
abbrev zI0:=@Array.perm_iff_toList_perm
abbrev zI1:=@Int.add_mul_emod_self_left
abbrev zI2:=@List.flatten_append
abbrev zI3:=@List.extract_eq_drop_take
abbrev zI4:=@Int.mul_le_mul_of_nonneg_right
abbrev zI5:=@Nat.add_assoc
abbrev zI6:=@Int.mul_add
abbrev zI7:=@List.take_sublist
abbrev zI8:=@List.drop_sublist
abbrev zI9:=@Array.toList_append
abbrev zJ0:=@Nat.le_of_lt
abbrev zJ1:=@Nat.zero_add
abbrev zJ2:=@List.not_mem_nil
namespace L2
open PySem PySem.Spec PyProof.Rows
abbrev Key:=Sum Int Str
def jA:Key->Value->Bool
 | .inl k,v=>Value.isInt k v
 | .inr x,v=>Value.isStrOf x v
def keyH (w:World):Key->Int
 | .inl k=>hashInt k
 | .inr x=>hashStr w x
theorem aJ:∀ {k:Key} {v:Value},jA k v=true->(∃ i t,k=Sum.inl i/\v=Value.int i t)\/(∃ x t,k=Sum.inr x/\v=Value.str x t)
 | .inl i,v,h=>by
   obtain ⟨t,e⟩:=Value.isInt_shape (k:=i) (v:=v) h
   exact .inl ⟨i,t,rfl,e⟩
 | .inr x,v,h=>by
   obtain ⟨t,e⟩:=Value.isStrOf_shape (x:=x) (v:=v) h
   exact .inr ⟨x,t,rfl,e⟩
theorem lI (i:Int) (t:Tok):jA (.inl i) (.int i t)=true:=by simp [jA,Value.isInt]
theorem lH (x:Str) (t:Tok):jA (.inr x) (.str x t)=true:=by simp [jA,Value.isStrOf]
theorem key_ll (a b:Int):decide ((Sum.inl a:Key)=Sum.inl b)=(a == b):=by
 by_cases e:a=b
 · subst e;simp
 · have h:¬ (Sum.inl a:Key)=Sum.inl b:=fun q=>e (Sum.inl.inj q)
   rw [decide_eq_false h]
   exact (beq_eq_false_iff_ne.mpr e).symm
theorem key_rr (a b:Str):decide ((Sum.inr a:Key)=Sum.inr b)=decide (a=b):=by
 by_cases e:a=b
 · subst e;simp
 · have h:¬ (Sum.inr a:Key)=Sum.inr b:=fun q=>e (Sum.inr.inj q)
   rw [decide_eq_false h,decide_eq_false e]
theorem key_lr (a:Int) (b:Str):decide ((Sum.inl a:Key)=Sum.inr b)=false:=decide_eq_false (fun q=>nomatch q)
theorem key_rl (a:Str) (b:Int):decide ((Sum.inr a:Key)=Sum.inl b)=false:=decide_eq_false (fun q=>nomatch q)
def aX (prog:Program) (w:World):PySem.KeyKind prog w Key where
 is:=jA
 hash:=keyH w
 inj:=fun v a b ha hb=>by
  rcases aJ ha with ⟨i,t,rfl,rfl⟩ | ⟨x,t,rfl,rfl⟩
  · rcases aJ hb with ⟨j,u,rfl,e⟩ | ⟨y,u,rfl,e⟩
    · injection e with e1 _;rw [e1]
    · exact nomatch e
  · rcases aJ hb with ⟨j,u,rfl,e⟩ | ⟨y,u,rfl,e⟩
    · exact nomatch e
    · injection e with e1 _;rw [e1]
 byValue:=fun k v h=>by
  rcases aJ h with ⟨i,t,rfl,rfl⟩ | ⟨x,t,rfl,rfl⟩ <;> rfl
 pyHash:=fun hv h=>by
  rcases aJ hv with ⟨i,t,rfl,rfl⟩ | ⟨x,t,rfl,rfl⟩
  · exact wpAny_pyHash_int h
  · exact wpAny_pyHash_str h
 eqBool:=fun hu hv h=>by
  rcases aJ hu with ⟨i,t,rfl,rfl⟩ | ⟨x,t,rfl,rfl⟩
  · rcases aJ hv with ⟨j,u,rfl,rfl⟩ | ⟨y,u,rfl,rfl⟩
    · rw [key_ll] at h;exact wpAny_eqBool_int h
    · rw [key_lr] at h;exact SeqAt.EqAt.int_str i t y u _ _ _ _ h
  · rcases aJ hv with ⟨j,u,rfl,rfl⟩ | ⟨y,u,rfl,rfl⟩
    · rw [key_rl] at h;exact SeqAt.EqAt.str_int x t j u _ _ _ _ h
    · rw [key_rr] at h;exact wpAny_eqBool_str h
 «strs»:=fun k x t v h=>by
  rcases aJ h with ⟨i,u,rfl,e⟩ | ⟨y,u,rfl,e⟩
  · exact nomatch e
  · injection e with e1 _
    subst e1
    cases v <;> rfl
theorem gS (prog:Program) (w:World) (i:Int) (t:Tok):(aX prog w).is (.inl i) (.int i t)=true:=lI i t
theorem gR (prog:Program) (w:World) (x:Str) (t:Tok):(aX prog w).is (.inr x) (.str x t)=true:=lH x t
inductive V where
 | non | bl (b:Bool) | int (i:Int) | str (x:Str) | byt (b:Array UInt8) | flt (b:UInt64) | ref (a:Addr) | ty (n:String)
 deriving DecidableEq
def RelV:V->Value->Prop
 | .non,u=>u=Value.none
 | .bl b,u=>u=Value.bool b
 | .int i,u=>∃ t,u=Value.int i t
 | .str x,u=>∃ t,u=Value.str x t
 | .byt b,u=>∃ t,u=Value.bytes b t
 | .flt b,u=>∃ t,u=Value.float b t
 | .ref a,u=>u=Value.ref a
 | .ty n,u=>u=Value.type n
abbrev Vals:List V->List Value->Prop:=Paired RelV
theorem Vals.length {xs:List V} {us:List Value} (r:Vals xs us):xs.length=us.length:=Paired.length r
theorem Vals.get:∀ {xs:List V} {us:List Value} {i:Nat} {x:V},Vals xs us->xs[i]? = some x->∃ u,us[i]? = some u/\RelV x u
 | _,_,_,_,.nil,e=>by simp at e
 | _,_,0,_,.cons r _,e=>by simp at e;subst e;exact ⟨_,rfl,r⟩
 | _,_,i+1,x,.cons _ t,e=>by
   obtain ⟨u,h1,h2⟩:=Vals.get (i:=i) (x:=x) t (by simpa using e)
   exact ⟨u,by simpa using h1,h2⟩
theorem Vals.set {x:V} {u:Value} (r:RelV x u):∀ {xs:List V} {us:List Value} (i:Nat),Vals xs us->Vals (xs.set i x) (us.set i u)
 | _,_,_,.nil=>.nil
 | _,_,0,.cons _ t=>.cons r t
 | _,_,i+1,.cons q t=>.cons q (Vals.set r i t)
theorem Vals.append:∀ {xs ys:List V} {us ws:List Value},Vals xs us->Vals ys ws->Vals (xs++ys) (us++ws)
 | _,_,_,_,.nil,s=>s
 | _,_,_,_,.cons r t,s=>.cons r (Vals.append t s)
theorem Vals.take:∀ {xs:List V} {us:List Value} (n:Nat),Vals xs us->Vals (xs.take n) (us.take n)
 | _,_,0,_=>.nil
 | _,_,_+1,.nil=>.nil
 | _,_,n+1,.cons r t=>.cons r (Vals.take n t)
theorem Vals.drop:∀ {xs:List V} {us:List Value} (n:Nat),Vals xs us->Vals (xs.drop n) (us.drop n)
 | _,_,0,r=>r
 | _,_,_+1,.nil=>.nil
 | _,_,n+1,.cons _ t=>Vals.drop n t
def TupD (h:Heap) (a:Addr) (items:Array Value):Prop:=∃ n,h.get? a=some { cls:=.type "tuple",data:=.seq items n }
theorem TupD.tup {h:Heap} {a:Addr} {items:Array Value} (p:TupD h a items):IsTup h a items:=let ⟨n,e⟩:=p;⟨_,e,rfl,n,rfl⟩
theorem TupD.new (h:Heap) (items:Array Value):TupD (h.push { cls:=.type "tuple",data:=.seq items }) h.objs.size items:=⟨_,Heap.get?_push_size _ rfl⟩
def RelO:Option V->Option Value->Prop
 | some v,some u=>RelV v u
 | none,none=>True
 | _,_=>False
def KV {κ:Type}:List (κ×V)->List (κ×Value)->Prop:=Paired fun (p:κ×V) (q:κ×Value)=>p.1=q.1/\RelV p.2 q.2
def kV:Key->V
 | .inl i=>.int i
 | .inr x=>.str x
inductive HO where
 /-- a list -/
 | lst (xs:List V)
 /-- a tuple (never changes) -/
 | tup (xs:List V)
 /-- a dict whose keys are ints and texts;one whose keys are tuples of ints and texts (the empty one is both) -/
 | dK (kvs:List (Key×V)) | dT (kvs:List (List Key×V))
 /-- a set of ints: its members,its size -/
 | set (S:Int->Bool) (n:Nat)
 /-- an instance of the class at C,its dict at dx,its attributes -/
 | ins (C dx:Addr) (fs:List (Str×V))
 /-- the dict of the instance at x -/
 | own (x:Addr)
 /-- the dict of an exception -/
 | xd (fs:List (Str×V))
 /-- a bound method,f of x -/
 | met (f x:Addr)
 /-- a range object lo,lo+1,.. below hi -/
 | rng (lo hi:Int)
 /-- a thing that is known to the object (the script;a dict while a loop walks it): read,never written while it is so -/
 | frz (o:Obj) (u:HO)
 /-- a code object's table -/
 | tbl (ps:Array Value)
 /-- any other thing,by what is true of its one object (a def of one's own: SetO a S n:=HO.ext fun h=>..) -/
 | ext (φ:Heap->Prop)
abbrev Hp:=Addr->Option HO
def upd (H:Hp) (a:Addr) (o:HO):Hp:=fun b=>if b=a then some o else H b
theorem ad {H:Hp} {a:Addr} {o:HO}:upd H a o a=some o:=by unfold upd;rw [if_pos rfl]
theorem ao {H:Hp} {a b:Addr} {o:HO} (h:b≠a):upd H a o b=H b:=by unfold upd;rw [if_neg h]
theorem li {H:Hp} {a b:Addr} {o u:HO} (h:H a=some o) (h':H b=some u) (d:o≠u):a≠b:=by
 intro e;subst e;rw [h] at h';exact d (Option.some.inj h')
theorem aB {H:Hp} {a b:Addr} {o:HO} (h:H a=some o) (h':H b=none):a≠b:=by
 intro e;subst e;rw [h] at h';cases h'
section
variable (P:Program) (w:World)
def ObjOk (H:Hp) (h:Heap) (a:Addr):HO->Prop
 | .lst xs=>xs.length<=sizeLine/\∃ (its:List Value) (n:Nat),Vals xs its/\h.get? a=some { cls:=.type "list",data:=.seq its.toArray n }
 | .tup xs=>xs.length<=sizeLine/\∃ its:List Value,Vals xs its/\TupD h a its.toArray
 | .dK kvs=>kvs.length<=sizeLine/\(a == sysModules)=false/\∃ vs,KV kvs vs/\h.DictOf (aX P w) a vs
 | .dT kvs=>kvs.length<=sizeLine/\(a == sysModules)=false/\∃ xs:List (List Key×Addr×Value),
  Paired (fun (p:List Key×V) (q:List Key×Addr×Value)=>p.1=q.1/\H q.2.1=some (.tup (p.1.map kV))/\RelV p.2 q.2.2) kvs xs /\
  ∃ o es ep,h.get? a=some o/\o.ExactDict/\o.data=.dict es ep/\es.toList=xs.map (entryOfKey (tupleKind (aX P w)))/\(xs.map (·.1)).Nodup
 | .set S n=>h.SetOf (intKind P w) a S n
 | .ins C dx fs=>H dx=some (.own a)/\fs.length<=1000/\dx≠a/\h.get? a=some (PySem.W.instObj C dx) /\
  ∃ mA,h.Ns1 dx mA/\(∀ f,RelO (fs.lookup f) (mA f))/\PySem.Within mA (fs.map (·.1))
 | .own _=>∃ o,h.get? a=some o
 | .xd fs=>∃ mA,h.Ns1 a mA/\∀ f,RelO (fs.lookup f) (mA f)
 | .rng lo hi=>∃ t u v,h.get? a=some { cls:=.type "range",data:=.fields #[.int lo t,.int hi u,.int 1 v] }
 | .frz o u=>h.get? a=some o/\ObjOk H h a u
 | .tbl ps=>h.get? a=some { cls:=.none,data:=.fields ps }
 | .met f x=>h.get? a=some (PySem.W.methodObj (.ref f) (.ref x))
 | .ext φ=>φ h/\(∃ o,h.get? a=some o)/\∀ h1 h2:Heap,φ h1->(∀ o,h1.get? a=some o->h2.get? a=some o)->φ h2
def HOk (H:Hp) (h:Heap):Prop:=∀ a o,H a=some o->ObjOk P w H h a o
end
section
variable {P:Program} {w:World} {H H':Hp} {h h':Heap} {a:Addr} {o:HO}
theorem ObjOk.lt (x:ObjOk P w H h a o):a<h.objs.size:=by
 cases o with
 | lst xs=>obtain ⟨_,_,_,_,e⟩:=x;exact Heap.lt_size e
 | tup xs=>obtain ⟨_,_,_,p⟩:=x;exact p.tup.lt
 | dK kvs=>obtain ⟨_,_,_,_,o,_,_,e,_⟩:=x;exact Heap.lt_size e
 | dT kvs=>obtain ⟨_,_,_,_,o,_,_,e,_⟩:=x;exact Heap.lt_size e
 | set S n=>obtain ⟨o,_,_,_,e,_⟩:=x;exact Heap.lt_size e
 | ins C dx fs=>obtain ⟨_,_,_,e,_⟩:=x;exact Heap.lt_size e
 | own y=>obtain ⟨_,e⟩:=x;exact Heap.lt_size e
 | xd fs=>obtain ⟨_,⟨_,_,_,e,_⟩,_⟩:=x;exact Heap.lt_size e
 | rng lo hi=>obtain ⟨_,_,_,e⟩:=x;exact Heap.lt_size e
 | frz ob u=>obtain ⟨e,_⟩:=x;exact Heap.lt_size e
 | tbl ps=>exact Heap.lt_size (show h.get? a=some _ from x)
 | met f y=>exact Heap.lt_size (show h.get? a=some _ from x)
 | ext φ=>obtain ⟨_,⟨_,e⟩,_⟩:=x;exact Heap.lt_size e
theorem Paired.mapP {α β:Type} {F G:α->β->Prop}:∀ {l₁:List α} {l₂:List β},Paired F l₁ l₂->(∀ a b,F a b->G a b)->Paired G l₁ l₂
 | _,_,.nil,_=>.nil
 | _,_,.cons r t,f=>.cons (f _ _ r) (Paired.mapP t f)
theorem ObjOk.stay (x:ObjOk P w H h a o) (k:∀ b u,(b=a\/H b=some (.own a))->h.get? b=some u->h'.get? b=some u)
 (ho:∀ b,H b=some (.own a)->H' b=some (.own a)) (ht:∀ b xs,H b=some (.tup xs)->H' b=some (.tup xs)):ObjOk P w H' h' a o:=by
 induction o with
 | lst xs=>obtain ⟨z,its,n,r,e⟩:=x;exact ⟨z,its,n,r,k _ _ (.inl rfl) e⟩
 | tup xs=>obtain ⟨z,its,r,ob,e⟩:=x;exact ⟨z,its,r,ob,k _ _ (.inl rfl) e⟩
 | dK kvs=>obtain ⟨z,y,vs,r,ob,es,ep,e,c⟩:=x;exact ⟨z,y,vs,r,ob,es,ep,k _ _ (.inl rfl) e,c⟩
 | dT kvs=>
   obtain ⟨z,y,xs,r,ob,es,ep,e,c⟩:=x
   exact ⟨z,y,xs,Paired.mapP r fun p q z=>⟨z.1,ht _ _ z.2.1,z.2.2⟩,ob,es,ep,k _ _ (.inl rfl) e,c⟩
 | set S n=>obtain ⟨ob,es,ep,t,e,c⟩:=x;exact ⟨ob,es,ep,t,k _ _ (.inl rfl) e,c⟩
 | ins C dx fs=>
   obtain ⟨d,z,ne,e,mA,⟨od,es,ep,e2,c⟩,r⟩:=x
   exact ⟨ho _ d,z,ne,k _ _ (.inl rfl) e,mA,⟨od,es,ep,k _ _ (.inr d) e2,c⟩,r⟩
 | own y=>obtain ⟨ob,e⟩:=x;exact ⟨ob,k _ _ (.inl rfl) e⟩
 | xd fs=>obtain ⟨mA,⟨od,es,ep,e,c⟩,r⟩:=x;exact ⟨mA,⟨od,es,ep,k _ _ (.inl rfl) e,c⟩,r⟩
 | rng lo hi=>obtain ⟨t,u,v,e⟩:=x;exact ⟨t,u,v,k _ _ (.inl rfl) e⟩
 | frz ob u ih=>obtain ⟨e,q⟩:=x;exact ⟨k _ _ (.inl rfl) e,ih q⟩
 | tbl ps=>
   have e:h.get? a=some { cls:=.none,data:=.fields ps }:=x
   show h'.get? a=some { cls:=.none,data:=.fields ps }
   exact k a _ (.inl rfl) e
 | met f y=>
   have e:h.get? a=some (PySem.W.methodObj (.ref f) (.ref y)):=x
   show h'.get? a=some (PySem.W.methodObj (.ref f) (.ref y))
   exact k a _ (.inl rfl) e
 | ext φ=>obtain ⟨p,⟨o,e⟩,st⟩:=x;exact ⟨st _ _ p fun o q=>k _ _ (.inl rfl) q,⟨o,k _ _ (.inl rfl) e⟩,st⟩
theorem HOk.lt (x:HOk P w H h) (e:H a=some o):a<h.objs.size:=(x a o e).lt
theorem HOk.fresh (x:HOk P w H h) (e:h.objs.size<=a):H a=none:=by
 cases q:H a with
 | none=>rfl
 | some u=>exact absurd (zD7 (x.lt q) e) (zG8 _)
theorem HOk.kept (x:HOk P w H h) (k:∀ b u,h.get? b=some u->h'.get? b=some u):HOk P w H h':=fun a o e=>
 (x a o e).stay (fun b u _ q=>k b u q) (fun _ q=>q) fun _ _ q=>q
theorem HOk.laid (x:HOk P w H h) (k:∀ b u,h.get? b=some u->h'.get? b=some u) (hp:h.objs.size<=a) (new:ObjOk P w (upd H a o) h' a o):HOk P w (upd H a o) h':=fun b u e=>by
 have hn:=x.fresh hp
 by_cases hb:b=a
 · subst hb;rw [ad] at e;cases e;exact new
 · rw [ao hb] at e
   exact (x b u e).stay (fun c v _ q=>k c v q) (fun c q=>by rw [ao (aB q hn)];exact q) fun c xs q=>by rw [ao (aB q hn)];exact q
end
def Rd (H:Hp) (a:Addr) (u:HO):Prop:=H a=some u\/∃ o,H a=some (.frz o u)
theorem Rd.ok {P:Program} {w:World} {H:Hp} {h:Heap} {a:Addr} {u:HO} (r:Rd H a u) (x:HOk P w H h):ObjOk P w H h a u:=by
 rcases r with r | ⟨o,r⟩
 · exact x a u r
 · obtain ⟨_,q⟩:=x a _ r
   exact q
def Mut:Option HO->Prop
 | some (.lst _)=>True
 | some (.dK _)=>True
 | some (.dT _)=>True
 | some (.set _ _)=>True
 | some (.ins _ _ _)=>True
 | some (.ext _)=>True
 | _=>False
section
variable {P:Program} {w:World} {H:Hp} {h h':Heap} {x e:Addr} {o':HO}
theorem HOk.write (ok:HOk P w H h) (mu:Mut (H x)) (he:e=x\/H e=some (.own x)) (k:∀ b u,b≠e->h.get? b=some u->h'.get? b=some u) (heo:∃ u,h'.get? e=some u)
 (new:ObjOk P w (upd H x o') h' x o'):HOk P w (upd H x o') h':=fun b u q=>by
 have nown:∀ c y,H c=some (.own y)->c≠x:=fun c y r z=>by subst z;rw [r] at mu;exact mu
 have ntup:∀ c xs,H c=some (.tup xs)->c≠x:=fun c xs r z=>by subst z;rw [r] at mu;exact mu
 by_cases hb:b=x
 · subst hb;rw [ad] at q;cases q;exact new
 · rw [ao hb] at q
   by_cases hbe:b=e
   · have q':H b=some (.own x):=by
      rcases he with z | z
      · exact absurd (hbe.trans z) hb
      · rw [hbe];exact z
     rw [q] at q';cases q'
     obtain ⟨v,hv⟩:=heo
     exact ⟨v,by rw [hbe];exact hv⟩
   · refine (ok b u q).stay (fun c v hc r=>k c v ?_ r) (fun c r=>by rw [ao (nown c b r)];exact r) fun c xs r=>by rw [ao (ntup c xs r)];exact r
     rcases hc with rfl | hc
     · exact hbe
     · rintro rfl
       rcases he with z | z
       · exact nown c b hc z
       · rw [hc] at z;cases z;exact hb rfl
end
structure Un (fs ex:List Addr) (H H':Hp) (h h':Heap):Prop where
 keep:∀ b o,h.get? b=some o->H b=none->b∉fs->b∉ex->h'.get? b=some o
 slot:∀ b o,h.get? b=some o->H b=none->b∈fs->b∉ex->∃ sl,h'.get? b=some { o with slots:=sl }
 free:∀ b o,h.get? b=some o->H b=none->b∉ex->H' b=none
 there:∀ b o,h.get? b=some o->b∉ex->∃ o',h'.get? b=some o'
 tups:∀ b xs,H b=some (.tup xs)->H' b=some (.tup xs)
 frzs:∀ b o u,H b=some (.frz o u)->H' b=some (.frz o u)
 tbls:∀ b ps,H b=some (.tbl ps)->∃ more,H' b=some (.tbl (ps++more))
section
variable {fs fs' ex ex':List Addr} {H H1 H2:Hp} {h h1 h2 h':Heap} {a x e:Addr} {o:HO}
theorem Un.any (u:Un fs ex H H1 h h1) {b:Addr} {ob:Obj} (q:h.get? b=some ob) (n:H b=none) (hx:b∉ex):∃ sl,h1.get? b=some { ob with slots:=sl }:=by
 by_cases hb:b∈fs
 · exact u.slot b ob q n hb hx
 · exact ⟨ob.slots,u.keep b ob q n hb hx⟩
theorem Un.kept (k:∀ b u,h.get? b=some u->h'.get? b=some u):Un fs ex H H h h':=
 ⟨fun b ob q _ _ _=>k b ob q,fun b ob q _ _ _=>⟨ob.slots,k b ob q⟩,fun _ _ _ n _=>n,fun b ob q _=>⟨ob,k b ob q⟩,fun _ _ q=>q,fun _ _ _ q=>q,fun _ ps q=>⟨#[],by rw [q];simp⟩⟩
theorem Un.refl:Un fs ex H H h h:=Un.kept fun _ _ q=>q
theorem Un.laid (k:∀ b u,h.get? b=some u->h'.get? b=some u) (hp:h.objs.size<=a) (hn:H a=none):Un fs ex H (upd H a o) h h' where
 keep:=fun b u q _ _ _=>k b u q
 slot:=fun b u q _ _ _=>⟨u.slots,k b u q⟩
 free:=fun b u q n _=>by rw [ao (zB8 (zD7 (Heap.lt_size q) hp))];exact n
 there:=fun b u q _=>⟨u,k b u q⟩
 tups:=fun b xs q=>by rw [ao (aB q hn)];exact q
 frzs:=fun b u xs q=>by rw [ao (aB q hn)];exact q
 tbls:=fun b ps q=>⟨#[],by rw [ao (aB q hn),q];simp⟩
theorem Un.write (mu:Mut (H x)) (he:e=x\/H e=some (.own x)) (k:∀ b u,b≠e->h.get? b=some u->h'.get? b=some u) (heo:∃ u,h'.get? e=some u):Un fs ex H (upd H x o) h h':=by
 have hx:∀ b,H b=none->b≠x:=fun b n z=>by subst z;rw [n] at mu;exact mu
 have hb:∀ b,H b=none->b≠e:=fun b n z=>by
  subst z
  rcases he with r | r
  · exact hx b n r
  · rw [n] at r;cases r
 have hm:∀ b u,H b=some u->¬ Mut (some u)->b≠x:=fun b u q nm z=>by subst z;rw [q] at mu;exact nm mu
 refine ⟨fun b u q n _ _=>k b u (hb b n) q,fun b u q n _ _=>⟨u.slots,k b u (hb b n) q⟩,fun b u q n _=>by rw [ao (hx b n)];exact n,fun b u q _=>?_,
  fun b xs q=>by rw [ao (hm b _ q fun z=>z)];exact q,fun b u xs q=>by rw [ao (hm b _ q fun z=>z)];exact q,fun b ps q=>⟨#[],by rw [ao (hm b _ q fun z=>z),q];simp⟩⟩
 by_cases hbe:b=e
 · subst hbe;exact heo
 · exact ⟨u,k b u hbe q⟩
end
def trk (h:Heap) (H:Hp):List Addr:=(List.range h.objs.size).filter fun a=>(H a).isSome
def oI (h:Heap) (H:Hp):Heap:=PySem.W.hideAll h (trk h H)
theorem lO (h:Heap) (H:Hp):(oI h H).objs.size=h.objs.size:=PySem.W.hideAll_size _ _
theorem oH {h:Heap} {H:Hp} {b:Addr} {o:Obj} (e:h.get? b=some o) (n:H b=none):(oI h H).get? b=some o:=
 PySem.W.hideAll_get _ e fun hm=>by
  have q:(H b).isSome=true:=(zH2.mp hm).2
  rw [n] at q;simp at q
theorem sj {h:Heap} {H:Hp} {b:Addr} {o:Obj} (e:(oI h H).get? b=some o):h.get? b=some o/\H b=none:=by
 have e':h.get? b=some o:=PySem.W.of_hideAll (trk h H) e
 refine ⟨e',?_⟩
 cases q:H b with
 | none=>rfl
 | some x=>
   have hm:b∈trk h H:=zH2.mpr ⟨zA6.mpr (Heap.lt_size e'),by simp [q]⟩
   have z:(oI h H).get? b=none:=PySem.W.hideAll_none (trk h H) hm
   rw [z] at e;cases e
structure Mod (K:PySem.W.Frag) (mg:Str->Option Value) (base:Heap):Prop where
 kin:K.In base
 glob:base.Ns mainGlobals mg
 blt:∃ mb,base.Ns builtinsNs mb/\∀ x:Str,x≠"__name__"->mb x=bootBuiltins x
 nolimit:base.NoLimit
structure Cx where
 prog:Program
 w:World
 K:PySem.W.Frag
 mg:Str->Option Value
 base:Heap
 A:Around
 N:List Str
 s₀:Shared
 H₀:Hp
 env:Env
 outer:List Env
 stack:List Env
 ex:List Addr
 fn:Str->Bool
 calm:Bool
 pn:List (Addr×Obj)
 xe:Value->Shared->Prop
def frs (l:List Env):List Addr:=l.filterMap (·.frame)
abbrev Cx.fs (X:Cx):List Addr:=frs X.outer
def Vis (sc:Scope) (x:Str):Prop:=sc.names.lookup x=some .local\/sc.names.lookup x=some .cell\/sc.names.lookup x=some .free
def Loc (sc:Scope) (x:Str):Prop:=sc.names.lookup x=some .local\/sc.names.lookup x=some .cell
def Look (env:Env) (h:Heap) (m:Str->Option Value) (x:Str) (u:Value):Prop:=
 (env.kindOf x=some .local/\m x=some u)\/((env.kindOf x=some .cell\/env.kindOf x=some .free)/\∃ c,env.cells.lookup x=some c/\h.IsCell c (some u))
structure Cx.Ok (X:Cx):Prop where
 mod:Mod X.K X.mg X.base
 kind:X.env.scope.kind=.function
 glob:X.env.globals=mainGlobals
 blt:X.env.builtins=builtinsNs
 above:X.s₀.heap.objs.size<=X.env.locals
 inj:∀ x y c,X.env.cells.lookup x=some c->X.env.cells.lookup y=some c->x=y
 has:∀ x,(X.env.kindOf x=some .cell\/X.env.kindOf x=some .free)->∃ c,X.env.cells.lookup x=some c
 cab:∀ x c,X.fn x=true->X.env.cells.lookup x=some c->X.s₀.heap.objs.size<=c
 hd:X.calm=true->X.A.handled=none
 frames:X.A.frames=some X.stack
 stk:X.stack=X.outer\/(X.stack=X.env::X.outer/\X.env.frame=some X.env.locals)
 exf:∀ b∈X.ex,b≠X.env.locals/\∀ x c,X.env.cells.lookup x=some c->c≠b
 bs:∀ b o,X.base.get? b=some o->X.s₀.heap.get? b=some o/\X.H₀ b=none
 bsz:X.base.objs.size<=X.s₀.heap.objs.size
 noex:∀ b o,X.base.get? b=some o->b∉X.ex
 exfs:∀ b∈X.ex,b∉X.fs
 funs:X.s₀.heap.FunFrames X.base X.outer
 frf:∀ b∈X.fs,X.H₀ b=none
structure Inv (X:Cx) (pins:List (Addr×Obj)) (σ:List (Option V)) (H:Hp) (s:Shared):Prop where
 ok:X.Ok
 os:s.os=X.s₀.os
 bare:AllBare s.gens
 base:Un X.fs X.ex X.H₀ H X.s₀.heap s.heap
 loc:∃ m,s.heap.Ns X.env.locals m/\∀ (i:Nat) (x:Str) (v:V),X.N[i]? = some x->σ[i]? = some (some v)->Vis X.env.scope x->∃ u,RelV v u/\Look X.env s.heap m x u
 cell:∀ x c,X.env.cells.lookup x=some c->∃ v,s.heap.IsCell c v
 free:H X.env.locals=none
 freeC:∀ x c,X.env.cells.lookup x=some c->H c=none
 pin:∀ p∈X.pn++pins,s.heap.get? p.1=some p.2/\H p.1=none/\p.1≠X.env.locals/\p.1∉X.fs/\∀ v,p.2.data≠.cell v
 hok:HOk X.prog X.w H s.heap
 len:σ.length=X.N.length
section
variable {X:Cx} {pins:List (Addr×Obj)} {σ:List (Option V)} {H H':Hp} {s:Shared} {h':Heap}
theorem Cx.Ok.nofr (ok:X.Ok) {b:Addr} {o:Obj} (e:X.base.get? b=some o):b∉X.fs:=fun hb=>by
 have:=(ok.funs.mem hb).1
 rw [e] at this;cases this
theorem Inv.bs (I:Inv X pins σ H s):∀ b o,X.base.get? b=some o->s.heap.get? b=some o/\H b=none:=fun b o e=>
 ⟨I.base.keep b o (I.ok.bs b o e).1 (I.ok.bs b o e).2 (I.ok.nofr e) (I.ok.noex b o e),I.base.free b o (I.ok.bs b o e).1 (I.ok.bs b o e).2 (I.ok.noex b o e)⟩
theorem Inv.bk (I:Inv X pins σ H s):∀ b o,X.base.get? b=some o->s.heap.get? b=some o:=fun b o e=>(I.bs b o e).1
theorem Inv.mod (I:Inv X pins σ H s):Mod X.K X.mg X.base:=I.ok.mod
theorem Inv.kIn (I:Inv X pins σ H s):X.K.In s.heap:=I.ok.mod.kin.keeps I.bk
theorem Inv.lt (I:Inv X pins σ H s):X.env.locals<s.heap.objs.size:=let ⟨_,hn,_⟩:=I.loc;hn.lt
theorem Inv.sz (I:Inv X pins σ H s):X.s₀.heap.objs.size<=s.heap.objs.size:=zC8 I.ok.above (zJ0 I.lt)
theorem Inv.nofs (I:Inv X pins σ H s) {a:Addr} (h:s.heap.objs.size<=a):a∉X.fs:=fun hb=>by
 obtain ⟨_,o,ho,_⟩:=I.ok.funs.mem hb
 exact absurd (zD7 (Heap.lt_size ho) (zC8 I.sz h)) (zG8 _)
theorem Inv.cne (I:Inv X pins σ H s):∀ x c,X.env.cells.lookup x=some c->c≠X.env.locals:=fun x c e z=>by
 obtain ⟨v,o,ho,hd⟩:=I.cell x c e
 obtain ⟨m,⟨o',es,ep,ho',hd',_⟩,_⟩:=I.loc
 rw [z,ho'] at ho;cases ho;rw [hd'] at hd;cases hd
theorem Inv.funs (I:Inv X pins σ H s):s.heap.FunFrames X.base X.outer:=by
 have all:∀ (l:List Env),(∀ b∈frs l,b∈X.fs)->X.s₀.heap.FunFrames X.base l->s.heap.FunFrames X.base l:=by
  intro l
  induction l with
  | nil=>intro _ _;trivial
  | cons env r ih=>
    intro hs hl
    obtain ⟨hk,⟨L,o,hf,hn,ho,hd⟩,hr⟩:=hl
    have hL:L∈X.fs:=hs L (by unfold frs;rw [List.filterMap_cons,hf];exact zA8)
    obtain ⟨sl,e⟩:=I.base.slot L o ho (I.ok.frf L hL) hL fun z=>I.ok.exfs L z hL
    exact ⟨hk,⟨L,_,hf,hn,e,hd⟩,ih (fun b hb=>hs b (by unfold frs;rw [List.filterMap_cons,hf];exact zB4 _ hb)) hr⟩
 exact all X.outer (fun _ hb=>hb) I.ok.funs
theorem Inv.stack (I:Inv X pins σ H s):s.heap.FunFrames X.base X.stack:=by
 rcases I.ok.stk with e | ⟨e,hf⟩
 · rw [e];exact I.funs
 · rw [e]
   obtain ⟨m,hn,_⟩:=I.loc
   refine .cons (by rw [I.ok.kind];decide) hf hn ?_ I.funs
   exact Heap.get?_none_of_le (zC8 I.ok.bsz I.ok.above)
theorem Inv.stkSub (I:Inv X pins σ H s):∀ b∈frs X.stack,b∈X.env.locals::X.fs:=fun b hb=>by
 rcases I.ok.stk with e | ⟨e,hf⟩
 · rw [e] at hb;exact zB4 _ hb
 · rw [e] at hb
   unfold frs at hb
   rw [List.filterMap_cons,hf] at hb
   exact hb
theorem Inv.stkFree (I:Inv X pins σ H s):∀ b∈frs X.stack,H b=none:=fun b hb=>by
 rcases zB2.mp (I.stkSub b hb) with e | hb
 · rw [e];exact I.free
 · obtain ⟨_,o,ho,_⟩:=I.ok.funs.mem hb
   exact I.base.free b o ho (I.ok.frf b hb) fun z=>I.ok.exfs b z hb
theorem Inv.step {g':Array GenState} {t':Nat} {d':Drawn} {ch:List Addr} (I:Inv X pins σ H s)
 (hch:∀ b∈ch,(b∈X.ex\/X.s₀.heap.objs.size<=b)/\b≠X.env.locals/\(∀ x c,X.env.cells.lookup x=some c->c≠b)/\∀ p∈X.pn++pins,p.1≠b)
 (keep:∀ b o,b≠X.env.locals->b∉X.fs->b∉ch->s.heap.get? b=some o->H b=none->h'.get? b=some o)
 (slot:∀ b o,b≠X.env.locals->b∈X.fs->b∉ch->s.heap.get? b=some o->H b=none->∃ sl,h'.get? b=some { o with slots:=sl }) (free:∀ b o,b∉ch->s.heap.get? b=some o->H b=none->H' b=none)
 (there:∀ b o,b∉ch->s.heap.get? b=some o->∃ o',h'.get? b=some o')
 (tups:∀ b xs,H b=some (.tup xs)->H' b=some (.tup xs)) (frzs:∀ b o u,H b=some (.frz o u)->H' b=some (.frz o u)) (tbls:∀ b ps,H b=some (.tbl ps)->∃ more,H' b=some (.tbl (ps++more)))
 (ns:∀ m,s.heap.Ns X.env.locals m->h'.Ns X.env.locals m) (hok:HOk X.prog X.w H' h') (hg:AllBare g') :
 Inv X pins σ H' { s with heap:=h',gens:=g',drawn:=d',toks:=t' }:=by
 have neL:∀ b o,X.s₀.heap.get? b=some o->b≠X.env.locals:=fun b o e=>zB8 (zD7 (Heap.lt_size e) I.ok.above)
 have neC:∀ b o,X.s₀.heap.get? b=some o->b∉X.ex->b∉ch:=fun b o e hx hb=>by
  rcases (hch b hb).1 with z | z
  · exact hx z
  · exact absurd (zD7 (Heap.lt_size e) z) (zG8 _)
 have cellK:∀ x c,X.env.cells.lookup x=some c->∀ v,s.heap.IsCell c v->h'.IsCell c v:=fun x c e v ⟨o,ho,hd⟩=>by
  have nch:c∉ch:=fun z=>(hch c z).2.2.1 x c e rfl
  by_cases hc:c∈X.fs
  · obtain ⟨sl,q⟩:=slot c o (I.cne x c e) hc nch ho (I.freeC x c e)
    exact ⟨_,q,hd⟩
  · exact ⟨o,keep c o (I.cne x c e) hc nch ho (I.freeC x c e),hd⟩
 refine ⟨I.ok,I.os,hg,⟨fun b o e n hb hx=>?_,fun b o e n hb hx=>?_,fun b o e n hx=>?_,fun b o e hx=>?_,fun b xs e=>tups b xs (I.base.tups b xs e),fun b o xs e=>frzs b o xs (I.base.frzs b o xs e),fun b ps e=>?_⟩,?_,fun x c e=>?_,?_,fun x c e=>?_,fun p hp=>?_,hok,I.len⟩
 · exact keep b o (neL b o e) hb (neC b o e hx) (I.base.keep b o e n hb hx) (I.base.free b o e n hx)
 · obtain ⟨sl,e1⟩:=I.base.slot b o e n hb hx
   obtain ⟨sl',e2⟩:=slot b _ (neL b o e) hb (neC b o e hx) e1 (I.base.free b o e n hx)
   exact ⟨sl',e2⟩
 · obtain ⟨o',e1⟩:=I.base.there b o e hx
   exact free b o' (neC b o e hx) e1 (I.base.free b o e n hx)
 · obtain ⟨o',e1⟩:=I.base.there b o e hx
   exact there b o' (neC b o e hx) e1
 · obtain ⟨m1,e1⟩:=I.base.tbls b ps e
   obtain ⟨m2,e2⟩:=tbls b _ e1
   exact ⟨m1++m2,by rw [e2,Array.append_assoc]⟩
 · obtain ⟨m,hn,hl⟩:=I.loc
   refine ⟨m,ns m hn,fun i x v e1 e2 e3=>?_⟩
   obtain ⟨u,r,l⟩:=hl i x v e1 e2 e3
   refine ⟨u,r,?_⟩
   rcases l with l | ⟨k,c,e,z⟩
   · exact .inl l
   · exact .inr ⟨k,c,e,cellK x c e _ z⟩
 · obtain ⟨v,z⟩:=I.cell x c e
   exact ⟨v,cellK x c e v z⟩
 · obtain ⟨m,⟨o,_,_,ho,_⟩,_⟩:=I.loc
   exact free _ o (fun z=>(hch _ z).2.1 rfl) ho I.free
 · obtain ⟨v,o,ho,hd⟩:=I.cell x c e
   exact free c o (fun z=>(hch c z).2.2.1 x c e rfl) ho (I.freeC x c e)
 · obtain ⟨e,n,ne,nf,d⟩:=I.pin p hp
   have nch:p.1∉ch:=fun z=>(hch p.1 z).2.2.2 p hp rfl
   exact ⟨keep p.1 p.2 ne nf nch e n,free p.1 p.2 nch e n,ne,nf,d⟩
theorem Inv.un {t':Nat} (I:Inv X pins σ H s) (u:Un X.fs [] H H' s.heap h') (hok:HOk X.prog X.w H' h'):Inv X pins σ H' { s with heap:=h',toks:=t' }:=by
 obtain ⟨m,⟨o,es,ep,ho,r⟩,_⟩:=id I.loc
 obtain ⟨sl,hL⟩:=u.any ho I.free (by simp)
 exact I.step (g':=s.gens) (d':=s.drawn) (ch:=[]) (fun _ z=>nomatch z) (fun b o _ hb _ e n=>u.keep b o e n hb (by simp)) (fun b o _ hb _ e n=>u.slot b o e n hb (by simp)) (fun b o _ e n=>u.free b o e n (by simp)) (fun b o _ e=>u.there b o e (by simp)) u.tups u.frzs u.tbls (fun m' hm=>by
  obtain ⟨o',es',ep',ho',r'⟩:=hm
  rw [ho] at ho';cases ho'
  exact ⟨_,es',ep',hL,r'⟩) hok I.bare
theorem Inv.call {g':Array GenState} {t':Nat} {d':Drawn} {ch:List Addr} (I:Inv X pins σ H s) (u:Un (frs X.stack) ch H H' s.heap h') (hok:HOk X.prog X.w H' h') (hg:AllBare g')
 (hch:∀ b∈ch,(b∈X.ex\/X.s₀.heap.objs.size<=b)/\b≠X.env.locals/\(∀ x c,X.env.cells.lookup x=some c->c≠b)/\∀ p∈X.pn++pins,p.1≠b) :
 Inv X pins σ H' { s with heap:=h',gens:=g',drawn:=d',toks:=t' }:=by
 obtain ⟨m,⟨o,es,ep,ho,r⟩,_⟩:=id I.loc
 obtain ⟨sl,hL⟩:=u.any ho I.free fun z=>(hch _ z).2.1 rfl
 exact I.step (ch:=ch) hch (fun b o hL hb hc e n=>u.keep b o e n (fun z=>(zB2.mp (I.stkSub b z)).elim hL hb) hc) (fun b o _ _ hc e n=>u.any e n hc) (fun b o hc e n=>u.free b o e n hc) (fun b o hc e=>u.there b o e hc) u.tups u.frzs u.tbls (fun m' hm=>by
  obtain ⟨o',es',ep',ho',r'⟩:=hm
  rw [ho] at ho';cases ho'
  exact ⟨_,es',ep',hL,r'⟩) hok hg
theorem Inv.turned {t':Nat} {it:Addr} (I:Inv X pins σ H s) (k:∀ b o,b≠it->s.heap.get? b=some o->h'.get? b=some o) (hn:H it=none) (hL:it≠X.env.locals)
 (h1:it∈X.ex\/X.s₀.heap.objs.size<=it) (h2:∀ x c,X.env.cells.lookup x=some c->c≠it) (h3:∀ p∈X.pn++pins,p.1≠it):Inv X pins σ H { s with heap:=h',toks:=t' }:=by
 have nit:∀ b u,H b=some u->b≠it:=fun b u e z=>by rw [z,hn] at e;cases e
 refine I.step (g':=s.gens) (d':=s.drawn) (ch:=[it]) (fun b hb=>?_) (fun b o _ _ hc e _=>k b o (fun z=>hc (by simp [z])) e) (fun b o _ _ hc e _=>⟨o.slots,k b o (fun z=>hc (by simp [z])) e⟩) (fun _ _ _ _ n=>n)
  (fun b o hc e=>⟨o,k b o (fun z=>hc (by simp [z])) e⟩) (fun _ _ e=>e) (fun _ _ _ e=>e) (fun b ps e=>⟨#[],by rw [e];simp⟩) (fun m hm=>?_) (fun b u e=>?_) I.bare
 · have e:b=it:=by simpa using hb
   subst e
   exact ⟨h1,hL,h2,h3⟩
 · obtain ⟨o,es,ep,ho,r⟩:=hm
   exact ⟨o,es,ep,k _ o (Ne.symm hL) ho,r⟩
 · refine (I.hok b u e).stay (fun c v hc q=>k c v ?_ q) (fun _ q=>q) fun _ _ q=>q
   rcases hc with z | z
   · rw [z];exact nit b u e
   · exact nit c _ z
theorem Inv.tok (I:Inv X pins σ H s) (t:Nat):Inv X pins σ H { s with toks:=t }:=I.un (h':=s.heap) (t':=t) Un.refl I.hok
theorem Inv.kept {t':Nat} (I:Inv X pins σ H s) (k:∀ b u,s.heap.get? b=some u->h'.get? b=some u):Inv X pins σ H { s with heap:=h',toks:=t' }:=I.un (Un.kept k) (I.hok.kept k)
theorem Inv.laid {a:Addr} {o:HO} {t':Nat} (I:Inv X pins σ H s) (k:∀ b u,s.heap.get? b=some u->h'.get? b=some u) (hp:s.heap.objs.size<=a) (new:ObjOk X.prog X.w (upd H a o) h' a o) :
 Inv X pins σ (upd H a o) { s with heap:=h',toks:=t' }:=I.un (Un.laid k hp (I.hok.fresh hp)) (I.hok.laid k hp new)
theorem Inv.write {x e:Addr} {o:HO} {t':Nat} (I:Inv X pins σ H s) (mu:Mut (H x)) (he:e=x\/H e=some (.own x)) (k:∀ b u,b≠e->s.heap.get? b=some u->h'.get? b=some u) (heo:∃ u,h'.get? e=some u)
 (new:ObjOk X.prog X.w (upd H x o) h' x o):Inv X pins σ (upd H x o) { s with heap:=h',toks:=t' }:=I.un (Un.write mu he k heo) (I.hok.write mu he k heo new)
theorem Inv.weak {σ':List (Option V)} (I:Inv X pins σ H s) (hl:σ'.length=σ.length) (w:∀ (i:Nat) v,σ'[i]? = some (some v)->σ[i]? = some (some v)):Inv X pins σ' H s:=
 ⟨I.ok,I.os,I.bare,I.base,let ⟨m,hn,hl'⟩:=I.loc;⟨m,hn,fun i x v e1 e2 e3=>hl' i x v e1 (w i v e2) e3⟩,I.cell,I.free,I.freeC,I.pin,I.hok,hl.trans I.len⟩
theorem Inv.pins_of {pins':List (Addr×Obj)} (I:Inv X pins σ H s) (h:∀ p∈pins',s.heap.get? p.1=some p.2/\H p.1=none/\p.1≠X.env.locals/\p.1∉X.fs/\∀ v,p.2.data≠.cell v):Inv X pins' σ H s:=
 ⟨I.ok,I.os,I.bare,I.base,I.loc,I.cell,I.free,I.freeC,fun p hp=>(zC1.mp hp).elim (fun z=>I.pin p (zF8 _ z)) (h p),I.hok,I.len⟩
theorem iE {N:List Str} (hN:N.Nodup) {i j:Nat} {x:Str} (a:N[i]? = some x) (b:N[j]? = some x):i=j:=by
 obtain ⟨h1,e1⟩:=List.getElem?_eq_some_iff.mp a
 obtain ⟨h2,e2⟩:=List.getElem?_eq_some_iff.mp b
 exact (List.getElem_inj hN).mp (e1.trans e2.symm)
theorem fG {M:Model} {A:Around} {E:Value->Shared->Prop} {i:Nat} {x:Str} {v:V} {u:Value} {Q:Unit->Shared->Prop} (I:Inv X pins σ H s) (hN:X.N.Nodup) (hi:X.N[i]? = some x) (hx:Loc X.env.scope x) (r:RelV v u)
 (h:∀ s',Inv X pins (σ.set i (some v)) H s'->(∃ a,Heap.SameBut a s.heap s'.heap/\(a=X.env.locals\/X.env.cells.lookup x=some a))->Q () s') (hf:X.fn x=true\/X.env.scope.names.lookup x=some .local:=by first | exact .inl rfl | exact .inr rfl | assumption):wpAny M A (storeName X.env x u) Q E s:=by
 obtain ⟨m,hn,hl⟩:=id I.loc
 have hcls:(X.env.scope.kind == .class||(X.env.scope.kind == .module&&X.env.locals != X.env.globals))=false:=by rw [I.ok.kind];rfl
 have hiσ:i<σ.length:=by rw [I.len];exact (List.getElem?_eq_some_iff.mp hi).1
 have cne:=I.cne
 have tracked:∀ {a:Addr} {h':Heap},(∃ o,s.heap.get? a=some o/\H a=none)->Heap.SameBut a s.heap h'->HOk X.prog X.w H h':=fun {a h'} ha hs b ob e=>by
  obtain ⟨_,_,hfree⟩:=ha
  refine (I.hok b ob e).stay (fun c w' hc q=>(hs.2 c ?_).trans q) (fun _ q=>q) fun _ _ q=>q
  rintro rfl
  rcases hc with rfl | hc
  · rw [hfree] at e;cases e
  · rw [hfree] at hc;cases hc
 rcases hx with hk | hk
 · refine wpAny_storeName_local hk hn (fun h' hn' hs=>?_) hcls
   obtain ⟨oL,_,_,hoL,_⟩:=id hn
   refine h _ ⟨I.ok,I.os,I.bare,⟨fun b o e n hb hx=>?_,fun b o e n hb hx=>?_,I.base.free,fun b o e hx=>?_,I.base.tups,I.base.frzs,I.base.tbls⟩,⟨_,hn',fun j y v' e1 e2 e3=>?_⟩,fun y c e=>?_,I.free,I.freeC,fun p hp=>?_,tracked ⟨oL,hoL,I.free⟩ hs,by simpa using I.len⟩ ⟨_,hs,.inl rfl⟩
   · exact (hs.2 b (zB8 (zD7 (Heap.lt_size e) I.ok.above))).trans (I.base.keep b o e n hb hx)
   · obtain ⟨sl,e1⟩:=I.base.slot b o e n hb hx
     exact ⟨sl,(hs.2 b (zB8 (zD7 (Heap.lt_size e) I.ok.above))).trans e1⟩
   · obtain ⟨o',e1⟩:=I.base.there b o e hx
     exact ⟨o',(hs.2 b (zB8 (zD7 (Heap.lt_size e) I.ok.above))).trans e1⟩
   · by_cases hj:j=i
     · subst hj
       rw [hi] at e1;cases e1
       rw [List.getElem?_set_self hiσ] at e2
       cases e2
       exact ⟨u,r,.inl ⟨hk,by simp⟩⟩
     · rw [List.getElem?_set_ne (Ne.symm hj)] at e2
       obtain ⟨u',r',q⟩:=hl j y v' e1 e2 e3
       refine ⟨u',r',?_⟩
       rcases q with ⟨k,e⟩ | ⟨k,c,e,z⟩
       · refine .inl ⟨k,?_⟩
         have:y≠x:=fun e=>hj (iE hN e1 (e▸hi))
         simp [this,e]
       · exact .inr ⟨k,c,e,z.sameBut hs (cne y c e)⟩
   · obtain ⟨w',z⟩:=I.cell y c e
     exact ⟨w',z.sameBut hs (cne y c e)⟩
   · obtain ⟨e,n,ne,nf,d⟩:=I.pin p hp
     exact ⟨(hs.2 p.1 ne).trans e,n,ne,nf,d⟩
 · have hfn:X.fn x=true:=by
    rcases hf with z | z
    · exact z
    · rw [z] at hk;cases hk
   obtain ⟨c,hc⟩:=I.ok.has x (.inl hk)
   obtain ⟨w',z⟩:=I.cell x c hc
   refine wpAny_storeName_cell I.ok.kind hk hc z (fun h' hc' hs=>?_)
   obtain ⟨oc,hoc,hocd⟩:=id z
   refine h { s with heap:=h' } ⟨I.ok,I.os,I.bare,⟨fun b o e n hb hx=>?_,fun b o e n hb hx=>?_,I.base.free,fun b o e hx=>?_,I.base.tups,I.base.frzs,I.base.tbls⟩,⟨m,hn.sameBut hs (Ne.symm (cne x c hc)),fun j y v' e1 e2 e3=>?_⟩,fun y c' e=>?_,I.free,I.freeC,fun p hp=>?_,tracked ⟨oc,hoc,I.freeC x c hc⟩ hs,by simpa using I.len⟩ ⟨c,hs,.inr hc⟩
   · exact (hs.2 b (zB8 (zD7 (Heap.lt_size e) (I.ok.cab x c hfn hc)))).trans (I.base.keep b o e n hb hx)
   · obtain ⟨sl,e1⟩:=I.base.slot b o e n hb hx
     exact ⟨sl,(hs.2 b (zB8 (zD7 (Heap.lt_size e) (I.ok.cab x c hfn hc)))).trans e1⟩
   · obtain ⟨o',e1⟩:=I.base.there b o e hx
     exact ⟨o',(hs.2 b (zB8 (zD7 (Heap.lt_size e) (I.ok.cab x c hfn hc)))).trans e1⟩
   · by_cases hj:j=i
     · subst hj
       rw [hi] at e1;cases e1
       rw [List.getElem?_set_self hiσ] at e2
       cases e2
       exact ⟨u,r,.inr ⟨.inl hk,c,hc,hc'⟩⟩
     · rw [List.getElem?_set_ne (Ne.symm hj)] at e2
       obtain ⟨u',r',q⟩:=hl j y v' e1 e2 e3
       refine ⟨u',r',?_⟩
       rcases q with q | ⟨k,c',e,z'⟩
       · exact .inl q
       · refine .inr ⟨k,c',e,z'.sameBut hs ?_⟩
         rintro rfl
         exact hj (iE hN e1 (I.ok.inj _ _ _ e hc▸hi))
   · by_cases hcc:c'=c
     · subst hcc;exact ⟨_,hc'⟩
     · obtain ⟨w2,z2⟩:=I.cell y c' e
       exact ⟨w2,z2.sameBut hs hcc⟩
   · obtain ⟨e,n,ne,nf,d⟩:=I.pin p hp
     refine ⟨(hs.2 p.1 ?_).trans e,n,ne,nf,d⟩
     intro q
     rw [q,hoc] at e
     have q':oc=p.2:=Option.some.inj e
     exact d w' (by rw [← q'];exact hocd)
theorem df {M:Model} {A:Around} {E:Value->Shared->Prop} {i:Nat} {x:Str} {v:V} {u:Value} {Q:Unit->Shared->Prop} (I:Inv X pins σ H s) (hN:X.N.Nodup) (hi:X.N[i]? = some x) (hx:Loc X.env.scope x) (r:RelV v u)
 (h:∀ s',Inv X pins (σ.set i (some v)) H s'->Q () s') (hf:X.fn x=true\/X.env.scope.names.lookup x=some .local:=by first | exact .inl rfl | exact .inr rfl | assumption):wpAny M A (storeName X.env x u) Q E s:=
 fG I hN hi hx r (fun s' I' _=>h s' I') hf
theorem Inv.call' {s':Shared} {ch:List Addr} (I:Inv X pins σ H s) (ho:s'.os=s.os) (u:Un (frs X.stack) ch H H' s.heap s'.heap) (hok:HOk X.prog X.w H' s'.heap) (hg:AllBare s'.gens)
 (hch:∀ b∈ch,(b∈X.ex\/X.s₀.heap.objs.size<=b)/\b≠X.env.locals/\(∀ x c,X.env.cells.lookup x=some c->c≠b)/\∀ p∈X.pn++pins,p.1≠b):Inv X pins σ H' s':=by
 obtain ⟨h',g',d',t',o'⟩:=s'
 have e:o'=s.os:=ho
 subst e
 exact I.call (g':=g') (t':=t') (d':=d') u hok hg hch
end
abbrev XK:=Value->Option Addr->Hp->Prop
abbrev St:=List (Option V)
abbrev VK:=V->Hp->Prop
abbrev TE:=St->Hp->VK->Prop
abbrev TT:=St->Hp->(Bool->Hp->Prop)->Prop
abbrev TA:=St->Hp->(List V->Hp->Prop)->Prop
structure Ends where
 nx:St->Hp->Prop
 rt:VK
 bk:St->Hp->Prop:=fun _ _=>False
 ct:St->Hp->Prop:=fun _ _=>False
abbrev TS:=Ends->St->Hp->Prop
def EP (X:Cx) (pins:List (Addr×Obj)) (σ:St) (Q:VK) (u:Value) (s':Shared):Prop:=∃ v H',Inv X pins σ H' s'/\RelV v u/\Q v H'
def TP (X:Cx) (pins:List (Addr×Obj)) (σ:St) (Q:Bool->Hp->Prop) (b:Bool) (s':Shared):Prop:=∃ H',Inv X pins σ H' s'/\Q b H'
def AP (X:Cx) (pins:List (Addr×Obj)) (σ:St) (Q:List V->Hp->Prop) (us:List Value) (s':Shared):Prop:=∃ vs H',Inv X pins σ H' s'/\Vals vs us/\Q vs H'
def SP (X:Cx) (pins:List (Addr×Obj)) (D:Ends) (f:Flow) (s':Shared):Prop:=
 match f with
 | .next=>∃ σ' H',Inv X pins σ' H' s'/\D.nx σ' H'
 | .brk=>∃ σ' H',Inv X pins σ' H' s'/\D.bk σ' H'
 | .cont=>∃ σ' H',Inv X pins σ' H' s'/\D.ct σ' H'
 | .ret u=>∃ v σ' H',Inv X pins σ' H' s'/\RelV v u/\D.rt v H'
def PE (X:Cx) (e:Expr) (t:TE):Prop:=
 ∀ (pins:List (Addr×Obj)) (s:Shared) (σ:St) (H:Hp) (Q:VK),Inv X pins σ H s->t σ H Q->wpAny (model X.prog X.w) X.A (eval e X.env) (EP X pins σ Q) X.xe s
@[irreducible] def ZE (X:Cx) (e:Expr) (t:TE):Prop:=PE X e t
theorem ZE.p {X:Cx} {e:Expr} {t:TE}  (h:ZE X e t):PE X e t:=by unfold ZE at h;exact h
def PT (X:Cx) (e:Expr) (t:TT):Prop:=
 ∀ (pins:List (Addr×Obj)) (s:Shared) (σ:St) (H:Hp) (Q:Bool->Hp->Prop),Inv X pins σ H s->t σ H Q->wpAny (model X.prog X.w) X.A (isTrue e X.env (eval e X.env)) (TP X pins σ Q) X.xe s
@[irreducible] def ZT (X:Cx) (e:Expr) (t:TT):Prop:=PT X e t
def PW (X:Cx) (e:Expr) (t:TT):Prop:=
 ∀ (whole:Sem Value) (pins:List (Addr×Obj)) (s:Shared) (σ:St) (H:Hp) (Q:Bool->Hp->Prop),Inv X pins σ H s->t σ H Q->wpAny (model X.prog X.w) X.A (isTrue e X.env whole) (TP X pins σ Q) X.xe s
@[irreducible] def ZW (X:Cx) (e:Expr) (t:TT):Prop:=PW X e t
theorem PW.pt {X:Cx} {e:Expr} {t:TT} (h:PW X e t):PT X e t:=h _
theorem ZW.zt {X:Cx} {e:Expr} {t:TT} (h:ZW X e t):ZT X e t:=by with_unfolding_all exact PW.pt h
def PA (X:Cx) (es:List Expr) (t:TA):Prop:=
 ∀ (pos:Pos) (pins:List (Addr×Obj)) (s:Shared) (σ:St) (H:Hp) (Q:List V->Hp->Prop),Inv X pins σ H s->t σ H Q->wpAny (model X.prog X.w) X.A (spliced (backTo pos (starEach es X.env))) (AP X pins σ Q) X.xe s
@[irreducible] def ZA (X:Cx) (es:List Expr) (t:TA):Prop:=PA X es t
def PS (X:Cx) (st:Stmt) (t:TS):Prop:=
 ∀ (pins:List (Addr×Obj)) (s:Shared) (σ:St) (H:Hp) (D:Ends),Inv X pins σ H s->t D σ H->wpAny (model X.prog X.w) X.A (exec st X.env) (SP X pins D) X.xe s
@[irreducible] def ZS (X:Cx) (st:Stmt) (t:TS):Prop:=PS X st t
def PSs (X:Cx) (st:List Stmt) (t:TS):Prop:=
 ∀ (pins:List (Addr×Obj)) (s:Shared) (σ:St) (H:Hp) (D:Ends),Inv X pins σ H s->t D σ H->wpAny (model X.prog X.w) X.A (execs st X.env) (SP X pins D) X.xe s
@[irreducible] def ZSs (X:Cx) (st:List Stmt) (t:TS):Prop:=PSs X st t
theorem ZSs.p {X:Cx} {st:List Stmt} {t:TS}  (h:ZSs X st t):PSs X st t:=by unfold ZSs at h;exact h
theorem thn {α:Type} {t:Sem α} {Q Q':α->Shared->Prop} {M:Model} {A:Around} {E:Value->Shared->Prop} {s:Shared} (h:wpAny M A t Q E s) (hQ:∀ a s,Q a s->Q' a s):wpAny M A t Q' E s:=wpAny_mono h hQ fun _ _ x=>x
section
variable {X:Cx}
def tVar (i:Nat):TE:=fun σ H Q=>∃ v,σ[i]? = some (some v)/\Q v H
def tC (v:V):TE:=fun _ H Q=>Q v H
theorem pe_var {i:Nat} {x:Str} {pos:Pos} (hN:X.N[i]? = some x) (hv:Vis X.env.scope x) (hd:(x == ("__debug__" : Str))=false:=by decide) (hcd:(x == ("__classdict__" : Str))=false:=by decide):PE X (.Name x pos) (tVar i):=by
 intro pins s σ H Q I h
 obtain ⟨v,e,h⟩:=h
 obtain ⟨m,hn,hl⟩:=I.loc
 obtain ⟨u,r,l⟩:=hl i x v hN e hv
 have fin:EP X pins σ Q u s:=⟨v,H,I,r,h⟩
 rcases l with ⟨hk,hm⟩ | ⟨hk,c,hc,hcell⟩
 · exact wpAny_Name (wpAny_loadName_local I.ok.kind hk hn hm fin) hd
 · rcases hk with hk | hk
   · exact wpAny_Name (wpAny_loadName_cell I.ok.kind hk hc hcell fin) hd
   · exact wpAny_Name (wpAny_loadName_free I.ok.kind hk hc hcell fin hcd) hd
theorem pe_int {i j pos}:PE X (.Constant (.int i) j pos) (tC (.int i)):=fun _ _ _ H _ I h=>wpAny_Constant_int ⟨.int i,H,I.tok _,⟨_,rfl⟩,h⟩
theorem ah {i j pos}:ZE X (.Constant (.int i) j pos) (tC (.int i)):=by with_unfolding_all exact pe_int
theorem pe_bl {b j pos}:PE X (.Constant (.bool b) j pos) (tC (.bl b)):=fun _ _ _ H _ I h=>Constant_bool ⟨.bl b,H,I,rfl,h⟩
theorem i6 {b j pos}:ZE X (.Constant (.bool b) j pos) (tC (.bl b)):=by with_unfolding_all exact pe_bl
theorem pe_non {j pos}:PE X (.Constant .none j pos) (tC .non):=fun _ _ _ H _ I h=>Constant_none ⟨.non,H,I,rfl,h⟩
theorem hV {j pos}:ZE X (.Constant .none j pos) (tC .non):=by with_unfolding_all exact pe_non
def Gl (X:Cx) (x:Str):Prop:=X.env.kindOf x=some .globalImplicit
theorem lC {E:Value->Shared->Prop} {pins:List (Addr×Obj)} {s:Shared} {σ:St} {H:Hp} {x:Str} {u:Value} {pos:Pos} {Q:Value->Shared->Prop} (I:Inv X pins σ H s) (hg:Gl X x) (hm:X.mg x=some u) (h:Q u s)
 (hd:(x == ("__debug__" : Str))=false:=by decide):wpAny (model X.prog X.w) X.A (eval (.Name x pos) X.env) Q E s:=
 Calls.Name_function_global I.ok.kind hg (Calls.loadGlobal_global (by rw [I.ok.glob];exact I.mod.glob.keeps I.bk) hm h) hd
theorem dI {E:Value->Shared->Prop} {pins:List (Addr×Obj)} {s:Shared} {σ:St} {H:Hp} {x:Str} {u:Value} {pos:Pos} {Q:Value->Shared->Prop} (I:Inv X pins σ H s) (hg:Gl X x) (hm:X.mg x=none) (hv:bootBuiltins x=some u) (h:Q u s)
 (hn:x≠"__name__":=by decide) (hd:(x == ("__debug__" : Str))=false:=by decide):wpAny (model X.prog X.w) X.A (eval (.Name x pos) X.env) Q E s:=by
 obtain ⟨mb,h1,h2⟩:=I.mod.blt
 exact Calls.Name_function_global I.ok.kind hg (Calls.loadGlobal_builtin (by rw [I.ok.glob];exact I.mod.glob.keeps I.bk) hm (by rw [I.ok.blt];exact h1.keeps I.bk) ((h2 x hn).trans hv) h) hd
theorem rL {x:Str} {v:V} {u:Value} {pos:Pos} (hg:Gl X x) (hm:X.mg x=some u) (r:RelV v u) (hd:(x == ("__debug__" : Str))=false:=by decide):PE X (.Name x pos) (tC v):=
 fun _ _ _ H _ I h=>lC I hg hm ⟨v,H,I,r,h⟩ hd
variable {a b:Expr} {ta tb:TE} {pos:Pos}
def PC (X:Cx) (op:CmpOp) (a b:Expr) (t:TE):Prop:=
 ∀ (pins:List (Addr×Obj)) (s:Shared) (σ:St) (H:Hp) (Q:VK),Inv X pins σ H s->t σ H Q ->
   wpAny (model X.prog X.w) X.A (eval a X.env) (fun v s₁=>wpAny (model X.prog X.w) X.A (eval b X.env) (fun u s₂=>wpAny (model X.prog X.w) X.A (compareOp op v u) (EP X pins σ Q) X.xe s₂) X.xe s₁) X.xe s
@[irreducible] def ZC (X:Cx) (op:CmpOp) (a b:Expr) (t:TE):Prop:=PC X op a b t
def tB (t:TE):TT:=fun σ H Q=>t σ H fun x H1=>∃ c,x=.bl c/\Q c H1
theorem pe_cmp {op:CmpOp} {t:TE} (h:PC X op a b t) (h1:behindInMarks op b=false:=by first | exact nobehind _ (by decide) (by decide) | rfl):PE X (.Compare a [op] [b] pos) t:=fun pins s σ H Q I hw=>wpAny_Compare1 (h pins s σ H Q I hw) h1
theorem pt_cmp {op:CmpOp} {t:TE} (h:PC X op a b t) (h1:behindInMarks op b=false:=by first | exact nobehind _ (by decide) (by decide) | rfl):PT X (.Compare a [op] [b] pos) (tB t):=by
 intro pins s σ H Q I hw
 refine wpAny_isTrue_Compare1 (thn (h pins s σ H _ I hw) fun v s1 h1=>thn h1 fun u s2 h2=>thn h2 fun c s3 ⟨x,H1,I1,r1,q1⟩=>?_) h1
 obtain ⟨d,rfl,q⟩:=q1
 cases r1
 exact wpAny_truthy_bool ⟨H1,I1,q⟩
theorem o3 {op:CmpOp} {t:TE} (h:ZC X op a b t) (h1:behindInMarks op b=false:=by first | exact nobehind _ (by decide) (by decide) | rfl):ZT X (.Compare a [op] [b] pos) (tB t):=by with_unfolding_all exact pt_cmp h h1
variable {tA tB':TT} {rest:List Expr}
def tAnd (t u:TT):TT:=fun σ H Q=>t σ H fun c H1=>if c=true then u σ H1 Q else Q false H1
def tOr (t u:TT):TT:=fun σ H Q=>t σ H fun c H1=>if c=true then Q true H1 else u σ H1 Q
def tNot (t:TT):TT:=fun σ H Q=>t σ H fun c H1=>Q (!c) H1
theorem qX (ha:PT X a tA):PW X (.BoolOp .And [a] pos) tA:=by
 intro wh pins s σ H Q I h
 refine isTrue_and (thn (ha pins s σ H Q I h) fun c s1 e=>?_)
 cases c with
 | true=>exact isTrue_and_nil e
 | false=>exact e
theorem p9 (ha:ZT X a tA):ZW X (.BoolOp .And [a] pos) tA:=by with_unfolding_all exact qX ha
theorem pw_or1 (ha:PT X a tA):PW X (.BoolOp .Or [a] pos) tA:=by
 intro wh pins s σ H Q I h
 refine isTrue_or (thn (ha pins s σ H Q I h) fun c s1 e=>?_)
 cases c with
 | false=>exact isTrue_or_nil e
 | true=>exact e
theorem o1 (ha:ZT X a tA):ZW X (.BoolOp .Or [a] pos) tA:=by with_unfolding_all exact pw_or1 ha
theorem pw_and (ha:PT X a tA) (hb:PW X (.BoolOp .And (b::rest) pos) tB'):PW X (.BoolOp .And (a::b::rest) pos) (tAnd tA tB'):=by
 intro wh pins s σ H Q I h
 refine isTrue_and (thn (ha pins s σ H _ I h) fun c s1 ⟨H1,I1,q1⟩=>?_)
 cases c with
 | true=>exact hb wh pins s1 σ H1 Q I1 q1
 | false=>exact ⟨H1,I1,q1⟩
theorem zw_and (ha:ZT X a tA) (hb:ZW X (.BoolOp .And (b::rest) pos) tB'):ZW X (.BoolOp .And (a::b::rest) pos) (tAnd tA tB'):=by with_unfolding_all exact pw_and ha hb
theorem pw_or (ha:PT X a tA) (hb:PW X (.BoolOp .Or (b::rest) pos) tB'):PW X (.BoolOp .Or (a::b::rest) pos) (tOr tA tB'):=by
 intro wh pins s σ H Q I h
 refine isTrue_or (thn (ha pins s σ H _ I h) fun c s1 ⟨H1,I1,q1⟩=>?_)
 cases c with
 | true=>exact ⟨H1,I1,q1⟩
 | false=>exact hb wh pins s1 σ H1 Q I1 q1
theorem zw_or (ha:ZT X a tA) (hb:ZW X (.BoolOp .Or (b::rest) pos) tB'):ZW X (.BoolOp .Or (a::b::rest) pos) (tOr tA tB'):=by with_unfolding_all exact pw_or ha hb
theorem pt_not (ha:PT X a tA):PT X (.UnaryOp .Not a pos) (tNot tA):=by
 intro pins s σ H Q I h
 exact isTrue_not (ha pins s σ H (fun c H1=>Q (!c) H1) I h)
theorem zt_not (ha:ZT X a tA):ZT X (.UnaryOp .Not a pos) (tNot tA):=by with_unfolding_all exact pt_not ha
theorem pe_one {op} {t:TE} (h:PE X a t):PE X (.BoolOp op [a] pos) t:=fun pins s σ H Q I hw=>BoolOp_one (h pins s σ H Q I hw)
theorem ze_one {op} {t:TE} (h:ZE X a t):ZE X (.BoolOp op [a] pos) t:=by with_unfolding_all exact pe_one h
def tIf (t:TT) (ta tb:TE):TE:=fun σ H Q=>t σ H fun c H1=>if c=true then ta σ H1 Q else tb σ H1 Q
theorem n9 {c:Expr} (hc:PT X c tA) (ha:PE X a ta) (hb:PE X b tb):PE X (.IfExp c a b pos) (tIf tA ta tb):=by
 intro pins s σ H Q I h
 refine wpAny_IfExp (thn (hc pins s σ H _ I h) fun d s1 ⟨H1,I1,q1⟩=>?_)
 cases d with
 | true=>exact ha pins s1 σ H1 Q I1 q1
 | false=>exact hb pins s1 σ H1 Q I1 q1
theorem mZ {c:Expr} (hc:ZT X c tA) (ha:ZE X a ta) (hb:ZE X b tb):ZE X (.IfExp c a b pos) (tIf tA ta tb):=by with_unfolding_all exact n9 hc ha hb
end
def SqL (K:PySem.W.Frag) (H:Hp) (a:Addr) (xs:List V):Prop:=
 Rd H a (.lst xs) \/
  ∃ (o:Obj) (its:Array Value) (n:Nat),K.lookup a=some o/\o.cls=.type "list"/\o.dict=none/\o.data=.seq its n/\its.size<=sizeLine/\Vals xs its.toList
def SqT (K:PySem.W.Frag) (H:Hp) (a:Addr) (xs:List V):Prop:=
 Rd H a (.tup xs) \/
  ∃ (o:Obj) (its:Array Value) (n:Nat),K.lookup a=some o/\o.cls=.type "tuple"/\o.data=.seq its n/\its.size<=sizeLine/\Vals xs its.toList
def absV:Value->Option V
 | .none=>some .non
 | .bool b=>some (.bl b)
 | .int i _=>some (.int i)
 | .str x _=>some (.str x)
 | .bytes b _=>some (.byt b)
 | .float b _=>some (.flt b)
 | .ref a=>some (.ref a)
 | .type n=>some (.ty n)
 | _=>none
theorem RelV.abs {x:V} {u:Value} (r:RelV x u):absV u=some x:=by
 cases x with
 | non=>cases r;rfl
 | bl _=>cases r;rfl
 | int _=>obtain ⟨t,rfl⟩:=r;rfl
 | str _=>obtain ⟨t,rfl⟩:=r;rfl
 | byt _=>obtain ⟨t,rfl⟩:=r;rfl
 | flt _=>obtain ⟨t,rfl⟩:=r;rfl
 | ref _=>cases r;rfl
 | ty _=>cases r;rfl
theorem RelV.inj {x y:V} {u:Value} (r:RelV x u) (q:RelV y u):x=y:=Option.some.inj (r.abs.symm.trans q.abs)
theorem Vals.inj:∀ {xs ys:List V} {us:List Value},Vals xs us->Vals ys us->xs=ys
 | _,_,_,.nil,.nil=>rfl
 | _,_,_,.cons r t,.cons r' t'=>by rw [r.inj r',Vals.inj t t']
section
variable {X:Cx} {pins:List (Addr×Obj)} {σ:St} {H:Hp} {s:Shared} {a:Addr} {xs ys:List V}
theorem SqL.of {K:PySem.W.Frag} (h:H a=some (.lst xs)):SqL K H a xs:=.inl (.inl h)
theorem SqT.of {K:PySem.W.Frag} (h:H a=some (.tup xs)):SqT K H a xs:=.inl (.inl h)
theorem Inv.list (I:Inv X pins σ H s) (h:SqL X.K H a xs):∃ its:List Value,Vals xs its/\PlainL s.heap a its.toArray/\xs.length<=sizeLine:=by
 rcases h with h | ⟨o,its,n,hk,hc,hd,hs,hz,r⟩
 · obtain ⟨z,its,n,r,e⟩:=h.ok I.hok
   exact ⟨its,r,⟨_,n,e,rfl,rfl,rfl⟩,z⟩
 · refine ⟨its.toList,r,⟨o,n,I.kIn a o hk,hc,hd,by simpa using hs⟩,?_⟩
   have e:=r.length
   simp only [zD0] at e
   lia
theorem Inv.tuple (I:Inv X pins σ H s) (h:SqT X.K H a xs):∃ its:List Value,Vals xs its/\IsTup s.heap a its.toArray/\xs.length<=sizeLine:=by
 rcases h with h | ⟨o,its,n,hk,hc,hs,hz,r⟩
 · obtain ⟨z,its,r,p⟩:=h.ok I.hok
   exact ⟨its,r,p.tup,z⟩
 · refine ⟨its.toList,r,⟨o,I.kIn a o hk,hc,n,by simpa using hs⟩,?_⟩
   have e:=r.length
   simp only [zD0] at e
   lia
theorem Inv.list_inj (I:Inv X pins σ H s) (h:SqL X.K H a xs) (h':SqL X.K H a ys):xs=ys:=by
 obtain ⟨its,r,⟨o,n,e,_,_,d⟩,_⟩:=I.list h
 obtain ⟨its',r',⟨o',n',e',_,_,d'⟩,_⟩:=I.list h'
 rw [e] at e';cases e'
 rw [d] at d'
 injection d' with d1 _
 have:its=its':=by simpa using congrArg Array.toList d1
 subst this
 exact r.inj r'
theorem Inv.tuple_inj (I:Inv X pins σ H s) (h:SqT X.K H a xs) (h':SqT X.K H a ys):xs=ys:=by
 obtain ⟨its,r,⟨o,e,_,n,d⟩,_⟩:=I.tuple h
 obtain ⟨its',r',⟨o',e',_,n',d'⟩,_⟩:=I.tuple h'
 rw [e] at e';cases e'
 rw [d] at d'
 injection d' with d1 _
 have:its=its':=by simpa using congrArg Array.toList d1
 subst this
 exact r.inj r'
end
abbrev Cx.wish (X:Cx) (E:Value->Shared->Prop):Cx:={ X with xe:=E }
abbrev Cx.nox (X:Cx):Cx:=X.wish fun _ _=>False
theorem Cx.Ok.wish {X:Cx} (ok:X.Ok) (E:Value->Shared->Prop):(X.wish E).Ok:=
 ⟨ok.mod,ok.kind,ok.glob,ok.blt,ok.above,ok.inj,ok.has,ok.cab,ok.hd,ok.frames,ok.stk,ok.exf,ok.bs,ok.bsz,ok.noex,ok.exfs,ok.funs,ok.frf⟩
theorem Cx.Ok.unwish {X:Cx} {E:Value->Shared->Prop} (ok:(X.wish E).Ok):X.Ok:=
 ⟨ok.mod,ok.kind,ok.glob,ok.blt,ok.above,ok.inj,ok.has,ok.cab,ok.hd,ok.frames,ok.stk,ok.exf,ok.bs,ok.bsz,ok.noex,ok.exfs,ok.funs,ok.frf⟩
section
variable {X:Cx} {pins:List (Addr×Obj)} {σ:St} {H:Hp} {s:Shared} {E:Value->Shared->Prop}
theorem Inv.wish (I:Inv X pins σ H s) (E:Value->Shared->Prop):Inv (X.wish E) pins σ H s:=⟨I.ok.wish E,I.os,I.bare,I.base,I.loc,I.cell,I.free,I.freeC,I.pin,I.hok,I.len⟩
theorem Inv.unwish (I:Inv (X.wish E) pins σ H s):Inv X pins σ H s:=⟨I.ok.unwish,I.os,I.bare,I.base,I.loc,I.cell,I.free,I.freeC,I.pin,I.hok,I.len⟩
theorem SP.unwish {D:Ends} {f:Flow} {s':Shared} (h:SP (X.wish E) pins D f s'):SP X pins D f s':=by
 cases f with
 | next=>obtain ⟨σ',H',I,q⟩:=h;exact ⟨σ',H',I.unwish,q⟩
 | brk=>obtain ⟨σ',H',I,q⟩:=h;exact ⟨σ',H',I.unwish,q⟩
 | cont=>obtain ⟨σ',H',I,q⟩:=h;exact ⟨σ',H',I.unwish,q⟩
 | ret u=>obtain ⟨v,σ',H',I,r,q⟩:=h;exact ⟨v,σ',H',I.unwish,r,q⟩
theorem PSs.nox {st:List Stmt} {t:TS} (h:PSs X.nox st t):PSs X st t:=fun pins s σ H D I hw=>
 wpAny_mono (h pins s σ H D (I.wish _) hw) (fun _ _ q=>q.unwish) fun _ _ z=>False.elim z
end
section
variable {X:Cx} {st:Stmt} {rest:List Stmt} {t u:TS} {e:Expr} {te:TE} {pos:Pos}
def tNext:TS:=fun D σ H=>D.nx σ H
def tSeq (t u:TS):TS:=fun D σ H=>t { D with nx:=u D } σ H
theorem rk:PSs X [] tNext:=fun _ _ σ H _ I h=>wpAny_execs_nil ⟨σ,H,I,h⟩
theorem bb:ZSs X [] tNext:=by with_unfolding_all exact rk
theorem nX (h1:PS X st t) (h2:PSs X rest u):PSs X (st::rest) (tSeq t u):=by
 intro pins s σ H D I h
 refine wpAny_execs_cons (thn (h1 pins s σ H { D with nx:=u D } I h) fun f s1 q=>?_)
 cases f with
 | next=>
   obtain ⟨σ',H',I',q⟩:=q
   exact h2 pins s1 σ' H' D I' q
 | ret v=>exact q
 | brk=>exact q
 | cont=>exact q
theorem af (h1:ZS X st t) (h2:ZSs X rest u):ZSs X (st::rest) (tSeq t u):=by with_unfolding_all exact nX h1 h2
theorem rh (h1:PS X st t):PSs X [st] t:=by
 intro pins s σ H D I h
 refine wpAny_execs_cons (thn (h1 pins s σ H D I h) fun f s1 q=>?_)
 cases f with
 | next=>exact wpAny_execs_nil q
 | ret v=>exact q
 | brk=>exact q
 | cont=>exact q
theorem ai (h1:ZS X st t):ZSs X [st] t:=by with_unfolding_all exact rh h1
theorem Inv.quiet {pins:List (Addr×Obj)} {σ:St} {H:Hp} {s:Shared} (I:Inv X pins σ H s):interactive X.env=false:=by simp [interactive,I.ok.kind]
def tDrop (te:TE):TS:=fun D σ H=>te σ H fun _ H1=>D.nx σ H1
theorem rm (he:PE X e te) (hs:swapsWith e none pos.line X.env=pure false:=by rfl):PS X (.Expr e pos) (tDrop te):=by
 intro pins s σ H D I h
 exact wpAny_Expr_any (thn (he pins s σ H _ I h) fun v s1 ⟨x,H1,I1,r1,q1⟩=>⟨σ,H1,I1,q1⟩) I.quiet hs
theorem cO (he:ZE X e te) (hs:swapsWith e none pos.line X.env=pure false:=by rfl):ZS X (.Expr e pos) (tDrop te):=by with_unfolding_all exact rm he hs
def tRet (te:TE):TS:=fun D σ H=>te σ H D.rt
theorem ps_ret (he:PE X e te):PS X (.Return (some e) pos) (tRet te):=by
 intro pins s σ H D I h
 exact wpAny_Return_some (thn (he pins s σ H _ I h) fun v s1 ⟨x,H1,I1,r1,q1⟩=>⟨x,σ,H1,I1,r1,q1⟩)
theorem aC (he:ZE X e te):ZS X (.Return (some e) pos) (tRet te):=by with_unfolding_all exact ps_ret he
def tIfS (c:TT) (t u:TS):TS:=fun D σ H=>c σ H fun b H1=>if b=true then t D σ H1 else u D σ H1
theorem ps_if {c:Expr} {a b:List Stmt} {tc:TT} (hc:PT X c tc) (ha:PSs X a t) (hb:PSs X b u):PS X (.If c a b pos) (tIfS tc t u):=by
 intro pins s σ H D I h
 refine wpAny_If (thn (hc pins s σ H _ I h) fun d s1 ⟨H1,I1,q1⟩=>?_)
 cases d with
 | true=>exact ha pins s1 σ H1 D I1 q1
 | false=>exact hb pins s1 σ H1 D I1 q1
theorem cY {c:Expr} {a b:List Stmt} {tc:TT} (hc:ZT X c tc) (ha:ZSs X a t) (hb:ZSs X b u):ZS X (.If c a b pos) (tIfS tc t u):=by with_unfolding_all exact ps_if hc ha hb
end
abbrev TG:=V->St->Hp->(St->Hp->Prop)->Prop
abbrev TGs:=List V->St->Hp->(St->Hp->Prop)->Prop
def PG (X:Cx) (target:Expr) (t:TG):Prop:=
 ∀ (pins:List (Addr×Obj)) (s:Shared) (σ:St) (H:Hp) (v:V) (u:Value) (Q:St->Hp->Prop),Inv X pins σ H s->RelV v u->t v σ H Q ->
   wpAny (model X.prog X.w) X.A (assign target X.env u) (fun _ s'=>∃ σ' H',Inv X pins σ' H' s'/\Q σ' H') X.xe s
@[irreducible] def ZG (X:Cx) (target:Expr) (t:TG):Prop:=PG X target t
def PGs (X:Cx) (ts:List Expr) (t:TGs):Prop:=
 ∀ (pins:List (Addr×Obj)) (s:Shared) (σ:St) (H:Hp) (vs:List V) (us:List Value) (Q:St->Hp->Prop),Inv X pins σ H s->Vals vs us->t vs σ H Q ->
   wpAny (model X.prog X.w) X.A (assignInOrder ((assignEach ts X.env).map (·.2)) us) (fun _ s'=>∃ σ' H',Inv X pins σ' H' s'/\Q σ' H') X.xe s
@[irreducible] def ZGs (X:Cx) (ts:List Expr) (t:TGs):Prop:=PGs X ts t
abbrev tf:=V->V->V->Hp->(Hp->Prop)->Prop
def tI (X:Cx) (t:tf):Prop:=
 ∀ (pins:List (Addr×Obj)) (s:Shared) (σ:St) (H:Hp) (o i v:V) (ov iv u:Value) (Q:Hp->Prop),Inv X pins σ H s->RelV o ov->RelV i iv->RelV v u->t o i v H Q ->
   wpAny (model X.prog X.w) X.A (setItem ov iv u) (fun _ s'=>∃ H',Inv X pins σ H' s'/\Q H') X.xe s
abbrev TIp:=V->V->Hp->VK->Prop
def PIp (X:Cx) (op:Operator) (t:TIp):Prop:=
 ∀ (pins:List (Addr×Obj)) (s:Shared) (σ:St) (H:Hp) (x y:V) (v u:Value) (Q:VK),Inv X pins σ H s->RelV x v->RelV y u->t x y H Q ->
   wpAny (model X.prog X.w) X.A (inplaceOp op v u) (EP X pins σ Q) X.xe s
section
variable {X:Cx} {pos:Pos}
def da (i:Nat):TG:=fun v σ H Q=>Q (σ.set i (some v)) H
theorem rK {i:Nat} {x:Str} (hN:X.N.Nodup) (hi:X.N[i]? = some x) (hx:Loc X.env.scope x) (hf:X.fn x=true\/X.env.scope.names.lookup x=some .local:=by first | exact .inl rfl | exact .inr rfl | assumption):PG X (.Name x pos) (da i):=by
 intro pins s σ H v u Q I r h
 exact wpAny_assign_Name (df I hN hi hx r (fun s' I'=>⟨_,H,I',h⟩) hf)
theorem aj {i:Nat} {x:Str} (hN:X.N.Nodup) (hi:X.N[i]? = some x) (hx:Loc X.env.scope x) (hf:X.fn x=true\/X.env.scope.names.lookup x=some .local:=by first | exact .inl rfl | exact .inr rfl | assumption):ZG X (.Name x pos) (da i):=by with_unfolding_all exact rK hN hi hx hf
def gNil:TGs:=fun vs σ H Q=>vs=[]/\Q σ H
def jC (t:TG) (u:TGs):TGs:=fun vs σ H Q=>∃ v r,vs=v::r/\t v σ H fun σ' H'=>u r σ' H' Q
theorem rJ:PGs X [] gNil:=by
 intro pins s σ H vs us Q I r h
 obtain ⟨e,h⟩:=h
 subst e
 cases r
 exact assignInOrder_nil ⟨σ,H,I,h⟩
theorem bx:ZGs X [] gNil:=by with_unfolding_all exact rJ
theorem n5 {e:Expr} {es:List Expr} {t:TG} {u:TGs} (h1:PG X e t) (h2:PGs X es u)
 (hs:(assignEach (e::es) X.env).map (·.2)=assign e X.env::(assignEach es X.env).map (·.2):=by rfl):PGs X (e::es) (jC t u):=by
 intro pins s σ H vs us Q I r h
 obtain ⟨v,vr,e1,h⟩:=h
 subst e1
 cases r with
 | cons r rr=>
   rw [hs]
   refine assignInOrder_cons (thn (h1 pins s σ H _ _ _ I r h) fun _ s1 ⟨σ1,H1,I1,q1⟩=>?_)
   exact h2 pins s1 σ1 H1 _ _ Q I1 rr q1
theorem aA {e:Expr} {es:List Expr} {t:TG} {u:TGs} (h1:ZG X e t) (h2:ZGs X es u)
 (hs:(assignEach (e::es) X.env).map (·.2)=assign e X.env::(assignEach es X.env).map (·.2):=by rfl):ZGs X (e::es) (jC t u):=by with_unfolding_all exact n5 h1 h2 hs
def gTup (K:PySem.W.Frag) (n:Nat) (t:TGs):TG:=fun v σ H Q=>∃ a xs,v=.ref a/\SqT K H a xs/\xs.length=n/\t xs σ H Q
theorem pg_tup {es:List Expr} {k:Nat} {t:TGs} {n:Nat} (hc:X.calm=true) (h:PGs X es t)
 (hn:(assignEach es X.env).length=n:=by rfl) (hst:(assignEach es X.env).findIdx? (·.1)=none:=by rfl):PG X (.Tuple es k pos) (gTup X.K n t):=by
 intro pins s σ H v u Q I r hw
 obtain ⟨a,xs,e1,hq,hl,hw⟩:=hw
 subst e1
 cases r
 obtain ⟨its,rv,ht,hz⟩:=I.tuple hq
 refine assign_Tuple_tuple (I.ok.hd hc) ht (by simp [hn,← hl,rv.length]) hst fun h' hx=>?_
 have I1:Inv X pins σ H { s with heap:=h' }:=I.kept (t':=s.toks) fun b o e=>hx b o (zB8 (Heap.lt_size e)) e
 exact h pins _ σ H xs _ Q I1 (by simpa using rv) hw
theorem ce {es:List Expr} {k:Nat} {t:TGs} {n:Nat} (hc:X.calm=true) (h:ZGs X es t)
 (hn:(assignEach es X.env).length=n:=by rfl) (hst:(assignEach es X.env).findIdx? (·.1)=none:=by rfl):ZG X (.Tuple es k pos) (gTup X.K n t):=by with_unfolding_all exact pg_tup hc h hn hst
def gSub (to ti:TE) (t:tf):TG:=fun v σ H Q=>to σ H fun o H1=>ti σ H1 fun i H2=>t o i v H2 fun H3=>Q σ H3
theorem pg_sub {o i:Expr} {to ti:TE} {t:tf} (ho:PE X o to) (hi:PE X i ti) (hs:tI X t)
 (ha:∀ v,assign (.Subscript o i pos) X.env v=(do
   let ov ← holding [v] (eval o X.env)
   let iv ← holding [v,ov] (eval i X.env)
   standAt pos
   holding [v,ov,iv] (setItem ov iv v)
   release [v,ov,iv] []):=by intro _;rfl):PG X (.Subscript o i pos) (gSub to ti t):=by
 intro pins s σ H v u Q I r h
 rw [ha]
 refine wpAny_bind (wpAny_holding (thn (ho pins s σ H _ I h) fun ov s1 ⟨x,H1,I1,r1,q1⟩=>?_))
 refine wpAny_bind (wpAny_holding (thn (hi pins s1 σ H1 _ I1 q1) fun iv s2 ⟨y,H2,I2,r2,q2⟩=>?_))
 refine wpAny_bind (wpAny_standAt (wpAny_bind (wpAny_holding (thn (hs pins s2 σ H2 x y v ov iv u _ I2 r1 r2 r q2) fun _ s3 ⟨H3,I3,q3⟩=>?_))))
 exact wpAny_release ⟨σ,H3,I3,q3⟩
theorem fB {o i:Expr} {to ti:TE} {t:tf} (ho:ZE X o to) (hi:ZE X i ti) (hs:tI X t)
 (ha:∀ v,assign (.Subscript o i pos) X.env v=(do
   let ov ← holding [v] (eval o X.env)
   let iv ← holding [v,ov] (eval i X.env)
   standAt pos
   holding [v,ov,iv] (setItem ov iv v)
   release [v,ov,iv] []):=by intro _;rfl):ZG X (.Subscript o i pos) (gSub to ti t):=by with_unfolding_all exact pg_sub ho hi hs ha
def tw (te:TE) (g:TG):TS:=fun D σ H=>te σ H fun x H1=>g x σ H1 D.nx
theorem ps_asg {tg e:Expr} {te:TE} {g:TG} (he:PE X e te) (hg:PG X tg g) (hs:swapsWithSole [tg] e pos.line X.env=pure false:=by rfl) (hw:swappedStores [tg] e X.env=pure none:=by rfl)
 (h1:(assignEach [tg] X.env).map (·.2)=[assign tg X.env]:=by rfl):PS X (.Assign [tg] e pos) (tw te g):=by
 intro pins s σ H D I h
 refine wpAny_Assign_stores (thn (he pins s σ H _ I h) fun v s1 ⟨x,H1,I1,r1,q1⟩=>?_) hs hw
 rw [h1]
 exact thn (hg pins s1 σ H1 x v _ I1 r1 q1) fun _ s2 q=>q
theorem d8 {tg e:Expr} {te:TE} {g:TG} (he:ZE X e te) (hg:ZG X tg g) (hs:swapsWithSole [tg] e pos.line X.env=pure false:=by rfl) (hw:swappedStores [tg] e X.env=pure none:=by rfl)
 (h1:(assignEach [tg] X.env).map (·.2)=[assign tg X.env]:=by rfl):ZS X (.Assign [tg] e pos) (tw te g):=by with_unfolding_all exact ps_asg he hg hs hw h1
theorem ps_set {i:Nat} {x:Str} {e:Expr} {te:TE} {pos':Pos} (hN:X.N.Nodup) (hi:X.N[i]? = some x) (hx:Loc X.env.scope x) (he:PE X e te) (hs:swapsWith e (some (.Name x pos')) pos.line X.env=pure false:=by rfl) (hf:X.fn x=true\/X.env.scope.names.lookup x=some .local:=by first | exact .inl rfl | exact .inr rfl | assumption) :
 PS X (.Assign [.Name x pos'] e pos) (tw te (da i)):=by
 intro pins s σ H D I h
 refine wpAny_Assign_Name (thn (he pins s σ H _ I h) fun v s1 ⟨y,H1,I1,r1,q1⟩=>?_) hs
 exact df I1 hN hi hx r1 (fun s2 I2=>⟨_,H1,I2,q1⟩) hf
theorem ay {i:Nat} {x:Str} {e:Expr} {te:TE} {pos':Pos} (hN:X.N.Nodup) (hi:X.N[i]? = some x) (hx:Loc X.env.scope x) (he:ZE X e te) (hs:swapsWith e (some (.Name x pos')) pos.line X.env=pure false:=by rfl) (hf:X.fn x=true\/X.env.scope.names.lookup x=some .local:=by first | exact .inl rfl | exact .inr rfl | assumption) :
 ZS X (.Assign [.Name x pos'] e pos) (tw te (da i)):=by with_unfolding_all exact ps_set hN hi hx he hs hf
def tPar (i j:Nat) (ta:TA):TS:=fun D σ H=>ta σ H fun vs H1=>∃ v w,vs=[v,w]/\D.nx ((σ.set i (some v)).set j (some w)) H1
theorem ps_par {i j:Nat} {x y:Str} {a b:Expr} {ta:TA} {px py pt:Pos} {kt k2 pt2} (hc:X.calm=true) (hN:X.N.Nodup) (hi:X.N[i]? = some x) (hj:X.N[j]? = some y) (hij:i≠j)
 (hx:X.env.scope.names.lookup x=some .local) (hy:X.env.scope.names.lookup y=some .local) (ha:PA X [a,b] ta)
 (hw:swappedStores [.Tuple [.Name x px,.Name y py] kt pt] (.Tuple [a,b] k2 pt2) X.env=pure (some [x,y]))
 (hs:swapsWithSole [.Tuple [.Name x px,.Name y py] kt pt] (.Tuple [a,b] k2 pt2) pos.line X.env=pure false:=by rfl) :
 PS X (.Assign [.Tuple [.Name x px,.Name y py] kt pt] (.Tuple [a,b] k2 pt2) pos) (tPar i j ta):=by
 intro pins s σ H D I h
 rw [exec_Assign_arm]
 refine wpAny_bind (wpAny_standAt ?_)
 rw [hs]
 refine wpAny_bind (wpAny_pure ?_)
 rw [if_neg (by decide)]
 refine wpAny_bind (Tuple_ (thn (ha _ pins s σ H _ I h) fun us s1 ⟨vs,H1,I1,r1,q1⟩=>?_))
 obtain ⟨v,w,e1,q1⟩:=q1
 subst e1
 obtain ⟨u1,u2,rfl,rv,rw'⟩:∃ u1 u2,us=[u1,u2]/\RelV v u1/\RelV w u2:=by
  cases r1 with
  | cons p q=>
    cases q with
    | cons p' q'=>
      cases q'
      exact ⟨_,_,rfl,p,p'⟩
 refine wpAny_newObj_type ?_ (by show 2<=sizeLine;decide)
 have I2:Inv X pins σ H1 { s1 with heap:=s1.heap.push { cls:=.type "tuple",data:=.seq [u1,u2].toArray } }:=I1.kept (t':=s1.toks) fun b o e=>Heap.get?_push_of_some _ e
 rw [hw]
 refine wpAny_bind (wpAny_pure ?_)
 show wpAny (model X.prog X.w) X.A (do rule "assign.swapped-stores";let items ← unpackItems (.ref s1.heap.objs.size) 2 none;assignInOrder [fun v=>bindName X.env y v,fun v=>bindName X.env x v] items.reverse;pure Flow.next) _ _ _
 refine wpAny_bind (wpAny_rule (wpAny_bind (unpackItems_tuple (items:=#[u1,u2]) (I.ok.hd hc) (IsTup.new s1.heap _) fun h' hx'=>?_)))
 have I3:=I2.kept (h':=h') (t':=s1.toks) fun b o e=>hx' b o (zB8 (Heap.lt_size e)) e
 show wpAny _ _ (assignInOrder [fun v=>bindName X.env y v,fun v=>bindName X.env x v] [u2,u1] >>= fun _=>pure Flow.next) _ _ _
 refine wpAny_bind (assignInOrder_cons (wpAny_bindName (df I3 hN hj (.inl hy) rw' (fun s2 I4=>?_) (.inr hy))))
 refine assignInOrder_cons (wpAny_bindName (df I4 hN hi (.inl hx) rv (fun s3 I5=>assignInOrder_nil (wpAny_pure ?_)) (.inr hx)))
 rw [List.set_comm _ _ (Ne.symm hij)] at I5
 exact ⟨_,H1,I5,q1⟩
theorem o4 {i j:Nat} {x y:Str} {a b:Expr} {ta:TA} {px py pt:Pos} {kt k2 pt2} (hc:X.calm=true) (hN:X.N.Nodup) (hi:X.N[i]? = some x) (hj:X.N[j]? = some y) (hij:i≠j)
 (hx:X.env.scope.names.lookup x=some .local) (hy:X.env.scope.names.lookup y=some .local) (ha:ZA X [a,b] ta)
 (hw:swappedStores [.Tuple [.Name x px,.Name y py] kt pt] (.Tuple [a,b] k2 pt2) X.env=pure (some [x,y]))
 (hs:swapsWithSole [.Tuple [.Name x px,.Name y py] kt pt] (.Tuple [a,b] k2 pt2) pos.line X.env=pure false:=by rfl) :
 ZS X (.Assign [.Tuple [.Name x px,.Name y py] kt pt] (.Tuple [a,b] k2 pt2) pos) (tPar i j ta):=by with_unfolding_all exact ps_par hc hN hi hj hij hx hy ha hw hs
def tAugS (to ti te:TE) (tget:V->V->Hp->VK->Prop) (tip:TIp) (tset:tf):TS:=fun D σ H=>to σ H fun o H1=>ti σ H1 fun i H2=>tget o i H2 fun x H3=>te σ H3 fun y H4=>tip x y H4 fun z H5=>tset o i z H5 fun H6=>D.nx σ H6
def PGet (X:Cx) (t:V->V->Hp->VK->Prop):Prop:=
 ∀ (pins:List (Addr×Obj)) (s:Shared) (σ:St) (H:Hp) (o i:V) (ov iv:Value) (Q:VK),Inv X pins σ H s->RelV o ov->RelV i iv->t o i H Q ->
   wpAny (model X.prog X.w) X.A (getItem ov iv) (EP X pins σ Q) X.xe s
theorem rz {o i e:Expr} {to ti te:TE} {tget:V->V->Hp->VK->Prop} {tip:TIp} {tset:tf} {op:Operator} {tpos:Pos} (ho:PE X o to) (hi:PE X i ti) (hg:PGet X tget) (he:PE X e te) (hp:PIp X op tip) (hs:tI X tset)
 (ha:∀ ov iv new,augStore i ov iv new=(do holding [new,ov,iv] (setItem ov iv new);release [new,ov,iv] [];pure .next):=by intros;rfl):PS X (.AugAssign (.Subscript o i tpos) op e pos) (tAugS to ti te tget tip tset):=by
 intro pins s σ H D I h
 refine wpAny_AugAssign_SubscriptAny (thn (ho pins s σ H _ I h) fun ov s1 ⟨x1,H1,I1,r1,q1⟩=>?_) ha
 refine thn (hi pins s1 σ H1 _ I1 q1) fun iv s2 ⟨x2,H2,I2,r2,q2⟩=>?_
 refine thn (hg pins s2 σ H2 x1 x2 ov iv _ I2 r1 r2 q2) fun old s3 ⟨x3,H3,I3,r3,q3⟩=>?_
 refine thn (he pins s3 σ H3 _ I3 q3) fun v s4 ⟨x4,H4,I4,r4,q4⟩=>?_
 refine thn (hp pins s4 σ H4 x3 x4 old v _ I4 r3 r4 q4) fun new s5 ⟨x5,H5,I5,r5,q5⟩=>?_
 exact thn (hs pins s5 σ H5 x1 x2 x5 ov iv new _ I5 r1 r2 r5 q5) fun _ s6 ⟨H6,I6,q6⟩=>⟨σ,H6,I6,q6⟩
theorem qc {o i e:Expr} {to ti te:TE} {tget:V->V->Hp->VK->Prop} {tip:TIp} {tset:tf} {op:Operator} {tpos:Pos} (ho:ZE X o to) (hi:ZE X i ti) (hg:PGet X tget) (he:ZE X e te) (hp:PIp X op tip) (hs:tI X tset)
 (ha:∀ ov iv new,augStore i ov iv new=(do holding [new,ov,iv] (setItem ov iv new);release [new,ov,iv] [];pure .next):=by intros;rfl):ZS X (.AugAssign (.Subscript o i tpos) op e pos) (tAugS to ti te tget tip tset):=by with_unfolding_all exact rz ho hi hg he hp hs ha
def ipI (f:Int->Int->Int):TIp:=fun x y H Q=>∃ i j,x=.int i/\y=.int j/\Q (.int (f i j)) H
theorem ip_add:PIp X .Add (ipI fun i j=>i+j):=by
 intro pins s σ H x y v u Q I r1 r2 h
 obtain ⟨i,j,e1,e2,q⟩:=h
 subst e1;subst e2
 obtain ⟨t,rfl⟩:=r1
 obtain ⟨t',rfl⟩:=r2
 exact iadd_int ⟨.int _,H,I.tok _,⟨_,rfl⟩,q⟩
end
structure It where
 go:Nat->Hp->Prop
 yld:Nat->Hp->V->Hp->Prop
 stop:Nat->Hp->Prop
def de (X:Cx) (pins:List (Addr×Obj)) (H:Hp) (b:Addr):Prop:=
 H b=none/\b≠X.env.locals/\b∉X.fs/\(b∈X.ex\/X.s₀.heap.objs.size<=b)/\(∀ x c,X.env.cells.lookup x=some c->c≠b)/\∀ p∈X.pn++pins,p.1≠b
theorem Inv.fpOk {X:Cx} {pins:List (Addr×Obj)} {σ:St} {H H':Hp} {s:Shared} {b:Addr} (I:Inv X pins σ H s) (hb:s.heap.objs.size<=b) (hn:H' b=none):de X pins H' b:=by
 refine ⟨hn,Nat.ne_of_gt (zD7 I.lt hb),I.nofs hb,.inr (zC8 I.sz hb),fun x c e z=>?_,fun p hp z=>?_⟩
 · obtain ⟨v,q⟩:=I.cell x c e
   exact absurd (zD7 q.lt (by rw [z];exact hb)) (zG8 _)
 · exact absurd (zD7 (Heap.lt_size (I.pin p hp).1) (by rw [z];exact hb)) (zG8 _)
structure Turn (P:Program) (w:World) (K:PySem.W.Frag) (tg:Expr) (J:It) (fp:List Addr) (it:Addr) (tn:Nat->Heap->Prop):Prop where
 mem:it∈fp
 obj:∀ i h,tn i h->∀ b∈fp,∃ o,h.get? b=some o/\∀ v,o.data≠.cell v
 keep:∀ i h h',tn i h->(∀ b∈fp,∀ o,h.get? b=some o->h'.get? b=some o)->tn i h'
 item:∀ (X:Cx),X.prog=P->X.w=w->X.K=K->X.calm=true->∀ (i:Nat) (pins:List (Addr×Obj)) (s:Shared) (σ:St) (H:Hp) (E:Value->Shared->Prop),Inv X pins σ H s->(∀ b∈fp,de X pins H b)->tn i s.heap->J.go i H ->
  wpAny (model P w) X.A (pyNext (.ref it)) (fun r s1=>∃ u,r=some u /\
   wpAny (model P w) X.A (letOwnedTupleGo tg (.ref it) u) (fun _ s2=>∃ x H',Inv X pins σ H' s2/\RelV x u/\J.yld i H x H'/\tn (i+1) s2.heap/\∀ b∈fp,H' b=none) E s1) E s
 done:∀ (X:Cx),X.prog=P->X.w=w->X.K=K->X.calm=true->∀ (i:Nat) (pins:List (Addr×Obj)) (s:Shared) (σ:St) (H:Hp) (E:Value->Shared->Prop),Inv X pins σ H s->(∀ b∈fp,de X pins H b)->tn i s.heap->J.stop i H ->
  wpAny (model P w) X.A (pyNext (.ref it)) (fun r s1=>r=none/\Inv X pins σ H s1) E s
 self:∀ (A:Around) (i:Nat) (s:Shared) (Q:Value->Shared->Prop) (E:Value->Shared->Prop),tn i s.heap->Q (.ref it) s->wpAny (model P w) A (pyIter (.ref it)) Q E s
abbrev TI:=St->Hp->(It->Hp->Prop)->Prop
def PIE (X:Cx) (pins:List (Addr×Obj)) (σ:St) (tg:Expr) (R:It->Hp->Prop) (itv:Value) (s2:Shared):Prop:=
 ∃ (it:Addr) (fp:List Addr) (tn:Nat->Heap->Prop) (J:It) (H':Hp),itv=.ref it/\Inv X pins σ H' s2/\Turn X.prog X.w X.K tg J fp it tn/\tn 0 s2.heap/\(∀ b∈fp,de X pins H' b)/\R J H'
def PI (X:Cx) (tg iter:Expr) (wi:TI):Prop:=
 ∀ (pins:List (Addr×Obj)) (s:Shared) (σ:St) (H:Hp) (R:It->Hp->Prop),Inv X pins σ H s->wi σ H R ->
   wpAny (model X.prog X.w) X.A (eval iter X.env) (fun v s1=>wpAny (model X.prog X.w) X.A (pyIter v) (PIE X pins σ tg R) X.xe s1) X.xe s
@[irreducible] def ZI (X:Cx) (tg iter:Expr) (wi:TI):Prop:=PI X tg iter wi
theorem lP {M:Model} {A:Around} {E:Value->Shared->Prop} {s:Shared} {tg:Expr} {it:Addr} {u:Value} {o:Obj} {n:String} {vs:Array Value} {Q:Unit->Shared->Prop} (ho:s.heap.get? it=some o) (hc:o.cls=.type n) (hd:o.data=.fields vs)
 (hn:["enumerate","zip","dict_itemiterator","dict_reverseitemiterator","odict_iterator","itertools.zip_longest","itertools.pairwise"].contains n=false) (hQ:Q () s):wpAny M A (letOwnedTupleGo tg (.ref it) u) Q E s:=by
 unfold letOwnedTupleGo
 cases tg <;> first
  | exact wpAny_pure hQ
  | (cases u <;> first
      | exact wpAny_pure hQ
      | (refine wpAny_bind (wpAny_load ho ?_)
         rw [hc,hd]
         show wpAny M A (if (["enumerate","zip","dict_itemiterator","dict_reverseitemiterator","odict_iterator","itertools.zip_longest","itertools.pairwise"].contains n&&vs[0]? == some (rawInt _))=true then _ else _) Q E s
         rw [if_neg (by intro h;rw [hn,Bool.false_and] at h;cases h)]
         exact wpAny_pure hQ))
def Itl (K:PySem.W.Frag) (a:Addr):It:=
 ⟨fun i H=>∃ xs x,SqL K H a xs/\xs[i]? = some x,fun i H x H'=>H'=H/\∀ xs,SqL K H a xs->xs[i]? = some x,fun i H=>∃ xs,SqL K H a xs/\xs.length<=i⟩
def Itt (K:PySem.W.Frag) (a:Addr):It:=
 ⟨fun i H=>∃ xs x,SqT K H a xs/\xs[i]? = some x,fun i H x H'=>H'=H/\∀ xs,SqT K H a xs->xs[i]? = some x,fun i H=>∃ xs,SqT K H a xs/\xs.length<=i⟩
def Itr (lo:Int) (n:Nat):It:=⟨fun i _=>i<n,fun i H x H'=>H'=H/\x=.int (lo+i),fun i _=>n<=i⟩
theorem kd {P:Program} {w:World} {K:PySem.W.Frag} {tg:Expr} (a it:Addr):Turn P w K tg (Itl K a) [it] it (fun i h=>h.IsListIter it a i) where
 mem:=by simp
 obj:=fun i h st b hb=>by
  have e:b=it:=by simpa using hb
  subst e
  obtain ⟨o,e,c,d⟩:=st
  exact ⟨o,e,fun v z=>by rw [d] at z;cases z⟩
 keep:=fun i h h' st k=>st.at fun o e=>k it (by simp) o e
 item:=by
  intro X hP hw hK hc i pins s σ H E I hf st hg
  subst hP hw hK
  obtain ⟨xs,x,hq,hx⟩:=hg
  obtain ⟨its,rv,p,hz⟩:=I.list hq
  obtain ⟨u,hu,ru⟩:=rv.get hx
  obtain ⟨f0,f1,f2,f3,f4,f5⟩:=hf it (by simp)
  refine wpAny_pyNext_list_item st p.isList (x:=u) (by simpa using hu) fun h' st' sb=>?_
  have I1:Inv X pins σ H { s with heap:=h' }:=I.turned (t':=s.toks) (fun b o hb e=>(sb.2 b hb).trans e) f0 f1 f3 f4 f5
  obtain ⟨o,e,c,d⟩:=id st'
  exact ⟨u,rfl,lP (s:={ s with heap:=h' }) e c d (by decide) ⟨x,H,I1,ru,⟨rfl,fun ys hy=>by rw [I.list_inj hy hq];exact hx⟩,st',fun b hb=>(hf b hb).1⟩⟩
 done:=by
  intro X hP hw hK hc i pins s σ H E I hf st hg
  subst hP hw hK
  obtain ⟨xs,hq,hx⟩:=hg
  obtain ⟨its,rv,p,hz⟩:=I.list hq
  obtain ⟨f0,f1,f2,f3,f4,f5⟩:=hf it (by simp)
  have hl:=rv.length
  exact wpAny_pyNext_list_end (I.ok.hd hc) st p.isList (by simp;lia) fun h' eb=>⟨rfl,I.turned (t':=s.toks) (fun b o hb e=>eb b o hb e) f0 f1 f3 f4 f5⟩
 self:=fun _ _ _ _ _ st h=>wpAny_pyIter_listiter st h
theorem jd {P:Program} {w:World} {K:PySem.W.Frag} {tg:Expr} (a it:Addr):Turn P w K tg (Itt K a) [it] it (fun i h=>h.IsTupleIter it a i) where
 mem:=by simp
 obj:=fun i h st b hb=>by
  have e:b=it:=by simpa using hb
  subst e
  obtain ⟨o,e,c,d⟩:=st
  exact ⟨o,e,fun v z=>by rw [d] at z;cases z⟩
 keep:=fun i h h' st k=>st.at fun o e=>k it (by simp) o e
 item:=by
  intro X hP hw hK hc i pins s σ H E I hf st hg
  subst hP hw hK
  obtain ⟨xs,x,hq,hx⟩:=hg
  obtain ⟨its,rv,p,hz⟩:=I.tuple hq
  obtain ⟨u,hu,ru⟩:=rv.get hx
  obtain ⟨f0,f1,f2,f3,f4,f5⟩:=hf it (by simp)
  refine wpAny_pyNext_tuple_item st (show s.heap.IsTuple a its.toArray from p) (x:=u) (by simpa using hu) fun h' st' sb=>?_
  have I1:Inv X pins σ H { s with heap:=h' }:=I.turned (t':=s.toks) (fun b o hb e=>(sb.2 b hb).trans e) f0 f1 f3 f4 f5
  obtain ⟨o,e,c,d⟩:=id st'
  exact ⟨u,rfl,lP (s:={ s with heap:=h' }) e c d (by decide) ⟨x,H,I1,ru,⟨rfl,fun ys hy=>by rw [I.tuple_inj hy hq];exact hx⟩,st',fun b hb=>(hf b hb).1⟩⟩
 done:=by
  intro X hP hw hK hc i pins s σ H E I hf st hg
  subst hP hw hK
  obtain ⟨xs,hq,hx⟩:=hg
  obtain ⟨its,rv,p,hz⟩:=I.tuple hq
  obtain ⟨f0,f1,f2,f3,f4,f5⟩:=hf it (by simp)
  have hl:=rv.length
  exact wpAny_pyNext_tuple_end (I.ok.hd hc) st (show s.heap.IsTuple a its.toArray from p) (by simp;lia) fun h' eb=>⟨rfl,I.turned (t':=s.toks) (fun b o hb e=>eb b o hb e) f0 f1 f3 f4 f5⟩
 self:=fun _ _ _ _ _ st h=>wpAny_pyIter_tupleiter st h
theorem je {P:Program} {w:World} {K:PySem.W.Frag} {tg:Expr} (it:Addr) (lo:Int) (n:Nat):Turn P w K tg (Itr lo n) [it] it (fun i h=>IsRangeIter h it (lo+(i:Nat)*1) ((n:Int) - (i:Nat)) 1) where
 mem:=by simp
 obj:=fun i h st b hb=>by
  have e:b=it:=by simpa using hb
  subst e
  exact ⟨_,st,fun v z=>by
   have z':Data.fields _=Data.cell v:=z
   cases z'⟩
 keep:=fun i h h' st k=>k it (by simp) _ st
 item:=by
  intro X hP hw hK hc i pins s σ H E I hf st hg
  subst hP hw hK
  obtain ⟨f0,f1,f2,f3,f4,f5⟩:=hf it (by simp)
  have W:=Walks.range (prog:=X.prog) (w:=X.w) (I.ok.hd hc) it lo 1 n
  refine W.item i s _ _ hg st fun v h' tk hv st' kk=>?_
  obtain ⟨t,rfl⟩:=hv
  have I1:Inv X pins σ H { s with heap:=h',toks:=tk }:=I.turned (fun b o hb e=>kk b o (by simpa using hb) e) f0 f1 f3 f4 f5
  refine ⟨_,rfl,lP (s:={ s with heap:=h',toks:=tk }) (n:="range_iterator") st' rfl rfl (by decide) ⟨.int (lo+i),H,I1,⟨t,?_⟩,⟨rfl,rfl⟩,st',fun b hb=>(hf b hb).1⟩⟩
  rw [Int.mul_one]
 done:=by
  intro X hP hw hK hc i pins s σ H E I hf st hg
  subst hP hw hK
  obtain ⟨f0,f1,f2,f3,f4,f5⟩:=hf it (by simp)
  exact wpAny_pyNext_range_end (I.ok.hd hc) st (by have:n<=i:=hg;lia) fun h' eb=>⟨rfl,I.turned (t':=s.toks) (fun b o hb e=>eb b o hb e) f0 f1 f3 f4 f5⟩
 self:=fun _ _ _ _ _ st h=>wpAny_pyIter_rangeiter st h
section
variable {X:Cx} {tg:Expr}
def iList (K:PySem.W.Frag) (tl:TE):TI:=fun σ H R=>tl σ H fun x H1=>∃ a,x=.ref a/\(∃ xs,SqL K H1 a xs)/\R (Itl K a) H1
def iTup (K:PySem.W.Frag) (tl:TE):TI:=fun σ H R=>tl σ H fun x H1=>∃ a,x=.ref a/\(∃ xs,SqT K H1 a xs)/\R (Itt K a) H1
theorem rH {l:Expr} {tl:TE} (hl:PE X l tl):PI X tg l (iList X.K tl):=by
 intro pins s σ H R I h
 refine thn (hl pins s σ H _ I h) fun v s1 ⟨x,H1,I1,r1,q1⟩=>?_
 obtain ⟨a,e,⟨xs,hq⟩,q⟩:=q1
 subst e
 cases r1
 obtain ⟨its,rv,p,hz⟩:=I1.list hq
 refine wpAny_pyIter_list p.isList ?_
 refine ⟨s1.heap.objs.size,[s1.heap.objs.size],_,_,H1,rfl,I1.kept (t':=s1.toks) fun b o e=>Heap.get?_push_of_some _ e,kd a _,⟨_,Heap.get?_push_size _ rfl,rfl,rfl⟩,fun b hb=>?_,q⟩
 have e:b=s1.heap.objs.size:=by simpa using hb
 subst e
 exact I1.fpOk (zA1 _) (I1.hok.fresh (zA1 _))
theorem aP {l:Expr} {tl:TE} (hl:ZE X l tl):ZI X tg l (iList X.K tl):=by with_unfolding_all exact rH hl
theorem pi_tup {l:Expr} {tl:TE} (hl:PE X l tl):PI X tg l (iTup X.K tl):=by
 intro pins s σ H R I h
 refine thn (hl pins s σ H _ I h) fun v s1 ⟨x,H1,I1,r1,q1⟩=>?_
 obtain ⟨a,e,⟨xs,hq⟩,q⟩:=q1
 subst e
 cases r1
 obtain ⟨its,rv,p,hz⟩:=I1.tuple hq
 refine wpAny_pyIter_tuple (show s1.heap.IsTuple a its.toArray from p) ?_
 refine ⟨s1.heap.objs.size,[s1.heap.objs.size],_,_,H1,rfl,I1.kept (t':=s1.toks) fun b o e=>Heap.get?_push_of_some _ e,jd a _,⟨_,Heap.get?_push_size _ rfl,rfl,rfl⟩,fun b hb=>?_,q⟩
 have e:b=s1.heap.objs.size:=by simpa using hb
 subst e
 exact I1.fpOk (zA1 _) (I1.hok.fresh (zA1 _))
theorem hU {l:Expr} {tl:TE} (hl:ZE X l tl):ZI X tg l (iTup X.K tl):=by with_unfolding_all exact pi_tup hl
theorem nF {pins:List (Addr×Obj)} {σ:St} {H:Hp} {s:Shared} {R:It->Hp->Prop} {E:Value->Shared->Prop} {lo hi:Int} {t u v:Tok} {tk:Nat} (I:Inv X pins σ H s) (h1:-(2 ^ 62)<=lo) (h2:lo<2 ^ 62) (h3:-(2 ^ 62)<=hi) (h4:hi<2 ^ 62)
 (q:R (Itr lo (hi - lo).toNat) H):wpAny (model X.prog X.w) X.A (pyIter (.ref s.heap.objs.size)) (PIE X pins σ tg R) E { s with heap:=s.heap.push { cls:=.type "range",data:=.fields #[.int lo t,.int hi u,.int 1 v] },toks:=tk }:=by
 refine wpAny_pyIter_range (IsRange.new ..) (small_one h1 h2 h3 h4) ?_
 have I1:Inv X pins σ H { s with heap:=s.heap.push { cls:=.type "range",data:=.fields #[.int lo t,.int hi u,.int 1 v] },toks:=tk }:=I.kept fun b o e=>Heap.get?_push_of_some _ e
 refine ⟨(s.heap.push { cls:=.type "range",data:=.fields #[.int lo t,.int hi u,.int 1 v] }).objs.size,[(s.heap.push { cls:=.type "range",data:=.fields #[.int lo t,.int hi u,.int 1 v] }).objs.size],_,_,H,rfl,
  I1.kept (t':=tk) fun b o e=>Heap.get?_push_of_some _ e,je _ lo (hi - lo).toNat,?_,fun b hb=>?_,q⟩
 · have e1:lo+((0:Nat):Int)*1=lo:=by simp
   have e2:(((hi - lo).toNat:Nat):Int) - ((0:Nat):Int)=Builtin.Range.rangeSize lo hi 1:=by rw [rangeSize_one];split <;> lia
   show IsRangeIter _ _ (lo+((0:Nat):Int)*1) ((((hi - lo).toNat:Nat):Int) - ((0:Nat):Int)) 1
   rw [e1,e2]
   exact Heap.get?_push_size _ rfl
 · have e:b=(s.heap.push { cls:=.type "range",data:=.fields #[.int lo t,.int hi u,.int 1 v] }).objs.size:=by simpa using hb
   subst e
   exact I1.fpOk (zA1 _) (I1.hok.fresh (zA1 _))
def iRng1 (ta:TA):TI:=fun σ H R=>ta σ H fun vs H1=>∃ j:Int,vs=[.int j]/\-(2 ^ 62)<=j/\j<2 ^ 62/\R (Itr 0 j.toNat) H1
theorem kU {a:Expr} {ta:TA} {p pos:Pos} (hg:Gl X "range") (hm:X.mg "range" = none) (ha:PA X [a] ta) (hs:starEach [a] X.env=[(false,eval a X.env)]:=by rfl):PI X tg (.Call (.Name "range" p) [a] [] pos) (iRng1 ta):=by
 intro pins s σ H R I h
 refine Call_ (dI I hg hm boot_range (PyProof.Rows.callWith_type1 (thn (ha pos pins s σ H _ I h) fun us s1 ⟨vs,H1,I1,r1,q1⟩=>?_) hs rfl))
 obtain ⟨j,e,q1,q2,q⟩:=q1
 subst e
 cases r1 with
 | cons r rr=>
   cases rr
   obtain ⟨t,rfl⟩:=r
   exact call_range_1 (nF I1 (by lia) (by lia) q1 q2 (by simpa using q))
theorem bQ {a:Expr} {ta:TA} {p pos:Pos} (hg:Gl X "range") (hm:X.mg "range" = none) (ha:ZA X [a] ta) (hs:starEach [a] X.env=[(false,eval a X.env)]:=by rfl):ZI X tg (.Call (.Name "range" p) [a] [] pos) (iRng1 ta):=by with_unfolding_all exact kU hg hm ha hs
def tFor (wi:TI) (g:TG) (tb:TS):TS:=fun D σ H=>wi σ H fun J H1=>∃ W:Nat->Nat->St->Hp->Prop,(∃ m,W 0 m σ H1)/\∀ i m σ H,W i m σ H ->
 (J.stop i H/\D.nx σ H)\/(J.go i H/\∃ N:St->Hp->Prop,(∀ σ' H',N σ' H'->∃ m',m' < m/\W (i+1) m' σ' H')/\∀ x H',J.yld i H x H'->g x σ H' fun σ2 H2=>tb { D with nx:=N,ct:=N,bk:=D.nx } σ2 H2)
def bq (fp:List Addr) (h:Heap):List (Addr×Obj):=fp.filterMap fun b=>(h.get? b).map fun o=>(b,o)
theorem bA {fp:List Addr} {h:Heap} {b:Addr} {o:Obj} (hb:b∈fp) (e:h.get? b=some o):(b,o)∈bq fp h:=List.mem_filterMap.mpr ⟨b,hb,by rw [e];rfl⟩
theorem cD {fp:List Addr} {h:Heap} {p:Addr×Obj} (hp:p∈bq fp h):p.1∈fp/\h.get? p.1=some p.2:=by
 obtain ⟨b,hb,e⟩:=List.mem_filterMap.mp hp
 cases q:h.get? b with
 | none=>rw [q] at e;cases e
 | some o=>
   rw [q] at e
   have e':(b,o)=p:=Option.some.inj e
   subst e'
   exact ⟨hb,q⟩
theorem Inv.pinned {pins:List (Addr×Obj)} {σ:St} {H:Hp} {s:Shared} {fp:List Addr} (I:Inv X pins σ H s) (hf:∀ b∈fp,de X pins H b) (ho:∀ b∈fp,∃ o,s.heap.get? b=some o/\∀ v,o.data≠.cell v):Inv X (pins++bq fp s.heap) σ H s:=
 I.pins_of fun p hp=>(zC1.mp hp).elim (fun z=>I.pin p (zB0 _ z)) fun z=>by
  obtain ⟨hb,e⟩:=cD z
  obtain ⟨f0,f1,f2,_⟩:=hf p.1 hb
  obtain ⟨o,e',d⟩:=ho p.1 hb
  rw [e] at e';cases e'
  exact ⟨e,f0,f1,f2,d⟩
theorem Inv.unpinned {pins pl:List (Addr×Obj)} {σ:St} {H:Hp} {s:Shared} (I:Inv X (pins++pl) σ H s):Inv X pins σ H s:=I.pins_of fun p hp=>I.pin p (zB0 _ (zF8 _ hp))
theorem ps_for {iter:Expr} {body:List Stmt} {wi:TI} {g:TG} {tb:TS} {pos:Pos} (hp:PassesOwn (model X.prog X.w) X.A X.env X.xe) (hc:X.calm=true) (hi:PI X tg iter wi) (hg:PG X tg g) (hb:PSs X body tb)
 (hs:∀ x,foldedSetIterable iter X.env x=pure x:=by intro _;rfl):PS X (.For tg iter body [] pos) (tFor wi g tb):=by
 intro pins s σ H D I h
 refine wpAny_For (thn (hi pins s σ H _ I h) fun v s1 h1=>thn h1 fun itv s2 h2=>?_) hs
 obtain ⟨it,fp,tn,J,H2,e,I2,T,st2,f2,W,⟨m0,w0⟩,turn⟩:=h2
 subst e
 -- what stays true of the iterator's objects through the loop
 have stat:∀ {H':Hp},(∀ b∈fp,H' b=none)->∀ b∈fp,de X pins H' b:=fun hn b hb=>⟨hn b hb,(f2 b hb).2⟩
 refine codeAny_forLoop_any (fun n s'=>∃ i σ' H',Inv X pins σ' H' s'/\tn i s'.heap/\(∀ b∈fp,H' b=none)/\W i n σ' H') ?_ m0 ⟨0,σ,H2,I2,st2,fun b hb=>(f2 b hb).1,w0⟩
 rintro n s3 ⟨i,σ3,H3,I3,st3,fr3,w3⟩
 rcases turn i n σ3 H3 w3 with ⟨stop,qn⟩ | ⟨go,N,hN,step⟩
 · refine wpAny_passesOwn hp (thn (T.done X rfl rfl rfl hc i pins s3 σ3 H3 X.xe I3 (stat fr3) st3 stop) fun r s4 ⟨hr,I4⟩=>?_)
   subst hr
   exact wpAny_execs_nil ⟨σ3,H3,I4,qn⟩
 · refine wpAny_passesOwn hp (thn (T.item X rfl rfl rfl hc i pins s3 σ3 H3 X.xe I3 (stat fr3) st3 go) fun r s4 ⟨u,hr,h4⟩=>?_)
   subst hr
   refine wpAny_passesOwn hp (thn h4 fun _ s5 ⟨x,H5,I5,r5,y5,st5,fr5⟩=>?_)
   have I5':=I5.pinned (stat fr5) (T.obj _ _ st5)
   refine wpAny_passesOwn hp (thn (hg _ s5 σ3 H5 x u _ I5' r5 (step x H5 y5)) fun _ s6 ⟨σ6,H6,I6,q6⟩=>?_)
   refine wpAny_passesOwn hp (thn (hb _ s6 σ6 H6 _ I6 q6) fun f s7 q7=>?_)
   have again:∀ {σ7:St} {H7:Hp},Inv X (pins++bq fp s5.heap) σ7 H7 s7->N σ7 H7->∃ m,m<n/\∃ i σ' H',Inv X pins σ' H' s7/\tn i s7.heap/\(∀ b∈fp,H' b=none)/\W i m σ' H':=fun {σ7 H7} I7 n7=>by
    obtain ⟨m',hm,w7⟩:=hN σ7 H7 n7
    refine ⟨m',hm,i+1,σ7,H7,I7.unpinned,T.keep _ _ _ st5 fun b hb o e=>(I7.pin (b,o) (zB0 _ (zB0 _ (bA hb e)))).1,fun b hb=>?_,w7⟩
    obtain ⟨o,e,d⟩:=T.obj _ _ st5 b hb
    exact (I7.pin (b,o) (zB0 _ (zB0 _ (bA hb e)))).2.1
   cases f with
   | next=>obtain ⟨σ7,H7,I7,n7⟩:=q7;exact again I7 n7
   | cont=>obtain ⟨σ7,H7,I7,n7⟩:=q7;exact again I7 n7
   | brk=>obtain ⟨σ7,H7,I7,q7⟩:=q7;exact ⟨σ7,H7,I7.unpinned,q7⟩
   | ret v=>obtain ⟨x7,σ7,H7,I7,r7,q7⟩:=q7;exact ⟨x7,σ7,H7,I7.unpinned,r7,q7⟩
theorem bo {iter:Expr} {body:List Stmt} {wi:TI} {g:TG} {tb:TS} {pos:Pos} (hp:PassesOwn (model X.prog X.w) X.A X.env X.xe) (hc:X.calm=true) (hi:ZI X tg iter wi) (hg:ZG X tg g) (hb:ZSs X body tb)
 (hs:∀ x,foldedSetIterable iter X.env x=pure x:=by intro _;rfl):ZS X (.For tg iter body [] pos) (tFor wi g tb):=by with_unfolding_all exact ps_for hp hc hi hg hb hs
end
theorem bN {K:PySem.W.Frag} {a:Addr} {xs:List V} {g:TG} {tb:TS} {D:Ends} {σ:St} {H:Hp} (Pv:Nat->St->Hp->Prop) (h0:Pv 0 σ H) (hl:∀ i σ H,i<=xs.length->Pv i σ H->SqL K H a xs)
 (hs:∀ i x σ H,xs[i]? = some x->Pv i σ H->g x σ H fun σ2 H2=>tb { D with nx:=Pv (i+1),ct:=Pv (i+1),bk:=D.nx } σ2 H2) (hd:∀ σ H,Pv xs.length σ H->D.nx σ H) :
 ∃ W:Nat->Nat->St->Hp->Prop,(∃ m,W 0 m σ H)/\∀ i m σ H,W i m σ H ->
   ((Itl K a).stop i H/\D.nx σ H)\/((Itl K a).go i H/\∃ N:St->Hp->Prop,(∀ σ' H',N σ' H'->∃ m',m' < m/\W (i+1) m' σ' H')/\∀ x H',(Itl K a).yld i H x H'->g x σ H' fun σ2 H2=>tb { D with nx:=N,ct:=N,bk:=D.nx } σ2 H2):=by
 refine ⟨fun i m σ H=>m=xs.length - i/\i<=xs.length/\Pv i σ H,⟨xs.length,by simp,zC6 _,h0⟩,?_⟩
 rintro i m σ H ⟨rfl,hi,p⟩
 have q:=hl i σ H hi p
 by_cases hlt:i<xs.length
 · refine .inr ⟨⟨xs,xs[i],q,by simp [hlt]⟩,Pv (i+1),fun σ' H' p'=>⟨xs.length - (i+1),by lia,rfl,hlt,p'⟩,fun x H' y=>?_⟩
   obtain ⟨e,y⟩:=y
   subst e
   exact hs i x σ _ (y xs q) p
 · have e:i=xs.length:=by lia
   subst e
   exact .inl ⟨⟨xs,q,zA1 _⟩,hd σ H p⟩
theorem dN {lo:Int} {n:Nat} {g:TG} {tb:TS} {D:Ends} {σ:St} {H:Hp} (Pv:Nat->St->Hp->Prop) (h0:Pv 0 σ H)
 (hs:∀ i σ H,i<n->Pv i σ H->g (.int (lo+i)) σ H fun σ2 H2=>tb { D with nx:=Pv (i+1),ct:=Pv (i+1),bk:=D.nx } σ2 H2) (hd:∀ σ H,Pv n σ H->D.nx σ H) :
 ∃ W:Nat->Nat->St->Hp->Prop,(∃ m,W 0 m σ H)/\∀ i m σ H,W i m σ H ->
   ((Itr lo n).stop i H/\D.nx σ H)\/((Itr lo n).go i H/\∃ N:St->Hp->Prop,(∀ σ' H',N σ' H'->∃ m',m' < m/\W (i+1) m' σ' H')/\∀ x H',(Itr lo n).yld i H x H'->g x σ H' fun σ2 H2=>tb { D with nx:=N,ct:=N,bk:=D.nx } σ2 H2):=by
 refine ⟨fun i m σ H=>m=n - i/\i<=n/\Pv i σ H,⟨n,by simp,zC6 _,h0⟩,?_⟩
 rintro i m σ H ⟨rfl,hi,p⟩
 by_cases hlt:i<n
 · refine .inr ⟨hlt,Pv (i+1),fun σ' H' p'=>⟨n - (i+1),by lia,rfl,hlt,p'⟩,fun x H' y=>?_⟩
   obtain ⟨e,y⟩:=y
   subst e y
   exact hs i σ _ hlt p
 · have e:i=n:=by lia
   subst e
   exact .inl ⟨zA1 _,hd σ H p⟩
abbrev R2:=V->V->Hp->VK->Prop
def OpR (X:Cx) (f:Value->Value->Sem Value) (r:R2):Prop:=
 ∀ (pins:List (Addr×Obj)) (s:Shared) (σ:St) (H:Hp) (x y:V) (v u:Value) (Q:VK),Inv X pins σ H s->RelV x v->RelV y u->r x y H Q ->
   wpAny (model X.prog X.w) X.A (f v u) (EP X pins σ Q) X.xe s
def UnR (X:Cx) (f:Value->Sem Value) (r:V->Hp->VK->Prop):Prop:=
 ∀ (pins:List (Addr×Obj)) (s:Shared) (σ:St) (H:Hp) (x:V) (v:Value) (Q:VK),Inv X pins σ H s->RelV x v->r x H Q ->
   wpAny (model X.prog X.w) X.A (f v) (EP X pins σ Q) X.xe s
def CallR (X:Cx) (f:Value) (r:List V->Hp->VK->Prop):Prop:=
 ∀ (pins:List (Addr×Obj)) (s:Shared) (σ:St) (H:Hp) (xs:List V) (us:List Value) (Q:VK),Inv X pins σ H s->Vals xs us->r xs H Q ->
   wpAny (model X.prog X.w) X.A (call f us) (EP X pins σ Q) X.xe s
def tOp (r:R2) (ta tb:TE):TE:=fun σ H Q=>ta σ H fun x H1=>tb σ H1 fun y H2=>r x y H2 Q
def tUn (r:V->Hp->VK->Prop) (ta:TE):TE:=fun σ H Q=>ta σ H fun x H1=>r x H1 Q
def rI (C:Int->Int->Prop) (g:Int->Int->V):R2:=fun x y H Q=>∃ i j,x=.int i/\y=.int j/\C i j/\Q (g i j) H
def rI0 (g:Int->Int->V):R2:=fun x y H Q=>∃ i j,x=.int i/\y=.int j/\Q (g i j) H
def rU (g:Int->V):V->Hp->VK->Prop:=fun x H Q=>∃ i,x=.int i/\Q (g i) H
section
variable {X:Cx} {a b c:Expr} {ta tb tc:TE} {pos:Pos}
theorem binT (ha:PE X a ta) (hb:PE X b tb) {pins:List (Addr×Obj)} {s:Shared} {σ:St} {H:Hp} {R:V->V->Hp->Prop} (I:Inv X pins σ H s)
 (h:ta σ H fun x H1=>tb σ H1 fun y H2=>R x y H2) {Q:Value->Shared->Prop} {f:Value->Value->Sem Value}
 (hf:∀ v u s2 x y H2,Inv X pins σ H2 s2->RelV x v->RelV y u->R x y H2->wpAny (model X.prog X.w) X.A (f v u) Q X.xe s2) :
 wpAny (model X.prog X.w) X.A (eval a X.env) (fun v s₁=>wpAny (model X.prog X.w) X.A (eval b X.env) (fun u s₂=>wpAny (model X.prog X.w) X.A (f v u) Q X.xe s₂) X.xe s₁) X.xe s:=by
 refine thn (ha pins s σ H _ I h) fun v s1 ⟨x,H1,I1,r1,q1⟩=>?_
 refine thn (hb pins s1 σ H1 _ I1 q1) fun u s2 ⟨y,H2,I2,r2,q2⟩=>?_
 exact hf v u s2 x y H2 I2 r1 r2 q2
theorem pe_op {op:Operator} {r:R2} (ho:OpR X (binaryOp op) r) (ha:PE X a ta) (hb:PE X b tb):PE X (.BinOp a op b pos) (tOp r ta tb):=by
 intro pins s σ H Q I h
 exact wpAny_BinOp (binT ha hb I h fun v u s2 x y H2 I2 rx ry q=>ho pins s2 σ H2 x y v u Q I2 rx ry q)
theorem am {op:Operator} {r:R2} (ho:OpR X (binaryOp op) r) (ha:ZE X a ta) (hb:ZE X b tb):ZE X (.BinOp a op b pos) (tOp r ta tb):=by with_unfolding_all exact pe_op ho ha hb
theorem pe_un {op:UnaryOp} {r:V->Hp->VK->Prop} (ho:UnR X (unaryOp op) r) (ha:PE X a ta):PE X (.UnaryOp op a pos) (tUn r ta):=by
 intro pins s σ H Q I h
 exact UnaryOp_ (thn (ha pins s σ H _ I h) fun v s1 ⟨x,H1,I1,r1,q1⟩=>ho pins s1 σ H1 x v Q I1 r1 q1)
theorem gw {op:UnaryOp} {r:V->Hp->VK->Prop} (ho:UnR X (unaryOp op) r) (ha:ZE X a ta):ZE X (.UnaryOp op a pos) (tUn r ta):=by with_unfolding_all exact pe_un ho ha
theorem opI {f:Value->Value->Sem Value} {C:Int->Int->Prop} {g:Int->Int->Int}
 (rule:∀ (i j:Int) (t u:Tok) (s:Shared) (Q:Value->Shared->Prop) (E:Value->Shared->Prop),C i j->Q (.int (g i j) s.toks) { s with toks:=s.toks+1 }->wpAny (model X.prog X.w) X.A (f (.int i t) (.int j u)) Q E s) :
 OpR X f (rI C fun i j=>.int (g i j)):=by
 intro pins s σ H x y v u Q I rx ry h
 obtain ⟨i,j,rfl,rfl,hc,q⟩:=h
 obtain ⟨t,rfl⟩:=rx
 obtain ⟨t',rfl⟩:=ry
 exact rule i j t t' s _ _ hc ⟨.int (g i j),H,I.tok _,⟨_,rfl⟩,q⟩
theorem opI0 {f:Value->Value->Sem Value} {g:Int->Int->Int}
 (rule:∀ (i j:Int) (t u:Tok) (s:Shared) (Q:Value->Shared->Prop) (E:Value->Shared->Prop),Q (.int (g i j) s.toks) { s with toks:=s.toks+1 }->wpAny (model X.prog X.w) X.A (f (.int i t) (.int j u)) Q E s) :
 OpR X f (rI0 fun i j=>.int (g i j)):=by
 intro pins s σ H x y v u Q I rx ry h
 obtain ⟨i,j,rfl,rfl,q⟩:=h
 obtain ⟨t,rfl⟩:=rx
 obtain ⟨t',rfl⟩:=ry
 exact rule i j t t' s _ _ ⟨.int (g i j),H,I.tok _,⟨_,rfl⟩,q⟩
theorem opB0 {f:Value->Value->Sem Value} {g:Int->Int->Bool}
 (rule:∀ (i j:Int) (t u:Tok) (s:Shared) (Q:Value->Shared->Prop) (E:Value->Shared->Prop),Q (.bool (g i j)) s->wpAny (model X.prog X.w) X.A (f (.int i t) (.int j u)) Q E s) :
 OpR X f (rI0 fun i j=>.bl (g i j)):=by
 intro pins s σ H x y v u Q I rx ry h
 obtain ⟨i,j,rfl,rfl,q⟩:=h
 obtain ⟨t,rfl⟩:=rx
 obtain ⟨t',rfl⟩:=ry
 exact rule i j t t' s _ _ ⟨.bl (g i j),H,I,rfl,q⟩
def CDiv (i j:Int):Prop:=0<j/\j<1073741824
def CPow (i j:Int):Prop:=0<=j/\j<=1000000/\i.natAbs<2 ^ 64
theorem pE:OpR X (binaryOp .Add) (rI0 fun i j=>.int (i+j)):=opI0 fun _ _ _ _ _ _ _ q=>add_int q
theorem op_sub:OpR X (binaryOp .Sub) (rI0 fun i j=>.int (i - j)):=opI0 fun _ _ _ _ _ _ _ q=>sub_int q
theorem op_fdiv:OpR X (binaryOp .FloorDiv) (rI CDiv fun i j=>.int (i / j)):=opI fun i j _ _ _ _ _ hc q=>by
 have h1:(0:Int)<j:=hc.1
 have h2:j<1073741824:=hc.2
 exact floordiv_int (by lia) (by rw [Int.fdiv_eq_ediv_of_nonneg i (by lia)];exact q) (.inl (PyProof.noPylong_small (by lia)))
theorem op_mod:OpR X (binaryOp .Mod) (rI (fun _ j=>0<j) fun i j=>.int (i % j)):=opI fun i j _ _ _ _ _ hc q=>by
 have h1:(0:Int)<j:=hc
 exact mod_int' (by lia) (by rw [Int.fmod_eq_emod_of_nonneg i (by lia)];exact q)
theorem op_pow:OpR X (binaryOp .Pow) (rI CPow fun i j=>.int (i ^ j.toNat)):=opI fun _ _ _ _ _ _ _ hc q=>pow_int_small hc.1 hc.2.1 hc.2.2 q
theorem unI {f:Value->Sem Value} {g:Int->Int}
 (rule:∀ (i:Int) (t:Tok) (s:Shared) (Q:Value->Shared->Prop) (E:Value->Shared->Prop),Q (.int (g i) s.toks) { s with toks:=s.toks+1 }->wpAny (model X.prog X.w) X.A (f (.int i t)) Q E s) :
 UnR X f (rU fun i=>.int (g i)):=by
 intro pins s σ H x v Q I rx h
 obtain ⟨i,rfl,q⟩:=h
 obtain ⟨t,rfl⟩:=rx
 exact rule i t s _ _ ⟨.int (g i),H,I.tok _,⟨_,rfl⟩,q⟩
theorem du:UnR X (unaryOp .USub) (rU fun i=>.int (-i)):=unI fun _ _ _ _ _ q=>neg_int q
end
def scal:V->V->Bool
 | .non,.non=>true | .non,.int _=>true | .int _,.non=>true | .non,.bl _=>true | .bl _,.non=>true | .non,.str _=>true | .str _,.non=>true
 | .int _,.int _=>true | .bl _,.bl _=>true | .str _,.str _=>true | .byt _,.byt _=>true
 | .int _,.str _=>true | .str _,.int _=>true | .bl _,.str _=>true | .str _,.bl _=>true
 | _,_=>false
def rEq:R2:=fun x y H Q=>scal x y=true/\Q (.bl (decide (x=y))) H
def rNe:R2:=fun x y H Q=>scal x y=true/\Q (.bl (!decide (x=y))) H
theorem lV {i j:Int}:decide (V.int i=V.int j)=(i == j):=by
 rw [Bool.eq_iff_iff]
 simp
theorem pR {i j:Bool}:decide (V.bl i=V.bl j)=(i == j):=by
 rw [Bool.eq_iff_iff]
 simp
theorem lU {i j:Str}:decide (V.str i=V.str j)=(i == j):=by
 rw [Bool.eq_iff_iff]
 simp
theorem lW {i j:Array UInt8}:decide (V.byt i=V.byt j)=(i.toList == j.toList):=by
 rw [Bool.eq_iff_iff]
 cases i
 cases j
 simp
section
variable {X:Cx} {a b c:Expr} {ta tb tc:TE} {pos:Pos}
theorem az {pins:List (Addr×Obj)} {σ:St} {H:Hp} {s:Shared} {Q:VK} {k k':Bool} (I:Inv X pins σ H s) (q:Q (.bl k) H) (e:k=k'):EP X pins σ Q (.bool k') s:=by
 subst e
 exact ⟨.bl k,H,I,rfl,q⟩
theorem op_eq:OpR X (compareOp .Eq) rEq:=by
 intro pins s σ H x y v u Q I rx ry h
 obtain ⟨hs,q⟩:=h
 cases x with
 | non=>
   cases rx
   cases y with
   | non=>cases ry;exact PySem.EqNone.eq_none_none (az I q (by simp))
   | bl j=>cases ry;exact PySem.EqNone.eq_none_bool (az I q (by simp))
   | int j=>obtain ⟨t',rfl⟩:=ry;exact PySem.EqNone.eq_none_int (az I q (by simp))
   | str j=>obtain ⟨t',rfl⟩:=ry;exact PySem.EqNone.eq_none_str (az I q (by simp))
   | _=>exact absurd (show false=true from hs) zC3
 | bl i=>
   cases rx
   cases y with
   | non=>cases ry;exact PySem.EqNone.eq_bool_none (az I q (by simp))
   | bl j=>cases ry;exact eq_bool (az I q pR)
   | str j=>obtain ⟨t',rfl⟩:=ry;exact PySem.EqMixed.eq_bool_str (az I q (by simp))
   | _=>exact absurd (show false=true from hs) zC3
 | int i=>
   obtain ⟨t,rfl⟩:=rx
   cases y with
   | non=>cases ry;exact PySem.EqNone.eq_int_none (az I q (by simp))
   | int j=>obtain ⟨t',rfl⟩:=ry;exact eq_int (az I q lV)
   | str j=>obtain ⟨t',rfl⟩:=ry;exact PySem.EqMixed.eq_int_str (az I q (by simp))
   | _=>exact absurd (show false=true from hs) zC3
 | str i=>
   obtain ⟨t,rfl⟩:=rx
   cases y with
   | non=>cases ry;exact PySem.EqNone.eq_str_none (az I q (by simp))
   | bl j=>cases ry;exact PySem.EqMixed.eq_str_bool (az I q (by simp))
   | int j=>obtain ⟨t',rfl⟩:=ry;exact PySem.EqMixed.eq_str_int (az I q (by simp))
   | str j=>obtain ⟨t',rfl⟩:=ry;exact eq_str (az I q lU)
   | _=>exact absurd (show false=true from hs) zC3
 | byt i=>
   obtain ⟨t,rfl⟩:=rx
   cases y with
   | byt j=>obtain ⟨t',rfl⟩:=ry;exact PySem.W.eq_bytes (az I q lW)
   | _=>exact absurd (show false=true from hs) zC3
 | _=>cases y <;> exact absurd (show false=true from hs) zC3
theorem op_ne:OpR X (compareOp .NotEq) rNe:=by
 intro pins s σ H x y v u Q I rx ry h
 obtain ⟨hs,q⟩:=h
 cases x with
 | non=>
   cases rx
   cases y with
   | non=>cases ry;exact PySem.EqNone.ne_none_none (az I q (by simp))
   | bl j=>cases ry;exact PySem.EqNone.ne_none_bool (az I q (by simp))
   | int j=>obtain ⟨t',rfl⟩:=ry;exact PySem.EqNone.ne_none_int (az I q (by simp))
   | str j=>obtain ⟨t',rfl⟩:=ry;exact PySem.EqNone.ne_none_str (az I q (by simp))
   | _=>exact absurd (show false=true from hs) zC3
 | bl i=>
   cases rx
   cases y with
   | non=>cases ry;exact PySem.EqNone.ne_bool_none (az I q (by simp))
   | bl j=>cases ry;exact ne_bool (az I q (congrArg not pR))
   | str j=>obtain ⟨t',rfl⟩:=ry;exact PySem.EqMixed.ne_bool_str (az I q (by simp))
   | _=>exact absurd (show false=true from hs) zC3
 | int i=>
   obtain ⟨t,rfl⟩:=rx
   cases y with
   | non=>cases ry;exact PySem.EqNone.ne_int_none (az I q (by simp))
   | int j=>obtain ⟨t',rfl⟩:=ry;exact ne_int (az I q (congrArg not lV))
   | str j=>obtain ⟨t',rfl⟩:=ry;exact PySem.EqMixed.ne_int_str (az I q (by simp))
   | _=>exact absurd (show false=true from hs) zC3
 | str i=>
   obtain ⟨t,rfl⟩:=rx
   cases y with
   | non=>cases ry;exact PySem.EqNone.ne_str_none (az I q (by simp))
   | bl j=>cases ry;exact PySem.EqMixed.ne_str_bool (az I q (by simp))
   | int j=>obtain ⟨t',rfl⟩:=ry;exact PySem.EqMixed.ne_str_int (az I q (by simp))
   | str j=>obtain ⟨t',rfl⟩:=ry;exact ne_str (az I q (congrArg not lU))
   | _=>exact absurd (show false=true from hs) zC3
 | byt i=>
   obtain ⟨t,rfl⟩:=rx
   cases y with
   | byt j=>obtain ⟨t',rfl⟩:=ry;exact PySem.W.ne_bytes (az I q (congrArg not lW))
   | _=>exact absurd (show false=true from hs) zC3
 | _=>cases y <;> exact absurd (show false=true from hs) zC3
theorem op_gt:OpR X (compareOp .Gt) (rI0 fun i j=>.bl (decide (j<i))):=opB0 fun _ _ _ _ _ _ _ q=>gt_int q
theorem op_ge:OpR X (compareOp .GtE) (rI0 fun i j=>.bl (decide (j<=i))):=opB0 fun _ _ _ _ _ _ _ q=>ge_int q
theorem op_isN:OpR X (compareOp .Is) (fun x y H Q=>y=.non/\Q (.bl (decide (x=.non))) H):=by
 intro pins s σ H x y v u Q I rx ry h
 obtain ⟨rfl,q⟩:=h
 cases ry
 refine is_none_gen (az I q ?_)
 cases x <;> first
  | (cases rx;rfl)
  | (obtain ⟨t,rfl⟩:=rx;rfl)
theorem bn (b:Expr) {op:CmpOp} (h:op≠.In:=by decide) (h2:op≠.NotIn:=by decide):behindInMarks op b=false:=by
 have e1:(op == CmpOp.In)=false:=by cases op <;> first | rfl | exact absurd rfl h
 have e2:(op == CmpOp.NotIn)=false:=by cases op <;> first | rfl | exact absurd rfl h2
 cases b <;> simp [behindInMarks,e1,e2]
theorem rN {op:CmpOp} {r:R2} (ho:OpR X (compareOp op) r) (ha:PE X a ta) (hb:PE X b tb) (hm:behindInMarks op b=false):PE X (.Compare a [op] [b] pos) (tOp r ta tb):=by
 intro pins s σ H Q I h
 exact wpAny_Compare1 (binT ha hb I h fun v u s2 x y H2 I2 rx ry q=>ho pins s2 σ H2 x y v u Q I2 rx ry q) hm
theorem gx {op:CmpOp} {r:R2} (ho:OpR X (compareOp op) r) (ha:ZE X a ta) (hb:ZE X b tb) (hm:behindInMarks op b=false):ZE X (.Compare a [op] [b] pos) (tOp r ta tb):=by with_unfolding_all exact rN ho ha hb hm
theorem fS:(sizeLine:Nat)<2 ^ 63:=by rw [sizeLine_eq];decide
theorem jt:OpR X (binaryOp .Add) (fun x y H Q=>∃ i j,x=.str i/\y=.str j/\i.length+j.length<=sizeLine/\Q (.str (i++j)) H):=by
 intro pins s σ H x y v u Q I rx ry h
 obtain ⟨i,j,rfl,rfl,hz,q⟩:=h
 obtain ⟨t,rfl⟩:=rx
 obtain ⟨t',rfl⟩:=ry
 exact add_str (fun t' tk=>⟨.str (i++j),H,I.tok _,⟨_,rfl⟩,q⟩) hz
theorem cg {x:V} {us:List Value} (r:Vals [x] us):∃ u,us=[u]/\RelV x u:=by
 cases r with
 | cons r1 r2=>cases r2;exact ⟨_,rfl,r1⟩
theorem qp {x y:V} {us:List Value} (r:Vals [x,y] us):∃ u w',us=[u,w']/\RelV x u/\RelV y w':=by
 cases r with
 | cons r1 r2=>
   cases r2 with
   | cons r3 r4=>cases r4;exact ⟨_,_,rfl,r1,r3⟩
theorem call_abs:CallR X (.builtin "abs") (fun xs H Q=>∃ i,xs=[.int i]/\Q (.int (if i<0 then -i else i)) H):=by
 intro pins s σ H xs us Q I r h
 obtain ⟨i,rfl,q⟩:=h
 obtain ⟨u,rfl,t,rfl⟩:=cg r
 exact call_abs_int fun u tk=>⟨.int (if i<0 then -i else i),H,I.tok _,⟨_,rfl⟩,q⟩
theorem mz (hc:X.calm=true):CallR X (.builtin "max") (fun xs H Q=>∃ i j,xs=[.int i,.int j]/\Q (.int (if j > i then j else i)) H):=by
 intro pins s σ H xs us Q I r h
 obtain ⟨i,j,rfl,q⟩:=h
 obtain ⟨u,w',rfl,⟨t,rfl⟩,⟨t',rfl⟩⟩:=qp r
 refine max_two_ints (I.ok.hd hc) fun h' tk k=>⟨_,H,I.kept k,?_,q⟩
 by_cases hj:j > i
 · rw [if_pos hj,if_pos hj];exact ⟨_,rfl⟩
 · rw [if_neg hj,if_neg hj];exact ⟨_,rfl⟩
theorem mx (hc:X.calm=true):CallR X (.builtin "min") (fun xs H Q=>∃ i j,xs=[.int i,.int j]/\Q (.int (if j<i then j else i)) H):=by
 intro pins s σ H xs us Q I r h
 obtain ⟨i,j,rfl,q⟩:=h
 obtain ⟨u,w',rfl,⟨t,rfl⟩,⟨t',rfl⟩⟩:=qp r
 refine min_two_ints (I.ok.hd hc) fun h' tk k=>⟨_,H,I.kept k,?_,q⟩
 by_cases hj:j<i
 · rw [if_pos hj,if_pos hj];exact ⟨_,rfl⟩
 · rw [if_neg hj,if_neg hj];exact ⟨_,rfl⟩
end
structure Room (k:Nat) (A:Around):Prop where
 hd:A.handled=none
 dp:A.depth+3*k+5<recursionLimit
 un:A.units+16*k+200<cLine
 gd:A.guards=some []
theorem Room.mono {j k:Nat} {A:Around} (r:Room k A) (h:j<=k):Room j A:=⟨r.hd,by have:=r.dp;lia,by have:=r.un;lia,r.gd⟩
theorem Room.deeper {k:Nat} {A:Around} (r:Room (k+1) A) (env:Env):Room k (A.deeper env):=
 ⟨r.hd,by have:=r.dp;show A.depth+1+3*k+5<_;lia,by have:=r.un;show A.units+3+16*k+200<_;lia,r.gd⟩
theorem Room.depth {k:Nat} {A:Around} (r:Room k A):A.depth<recursionLimit:=by have:=r.dp;lia
theorem Room.units {k:Nat} {A:Around} (r:Room k A):A.units+64<cLine:=by have:=r.un;lia
def tNil:TA:=fun _ H Q=>Q [] H
def tCons (ta:TE) (tr:TA):TA:=fun σ H Q=>ta σ H fun x H1=>tr σ H1 fun xs H2=>Q (x::xs) H2
section
variable {X:Cx} {e:Expr} {es:List Expr} {te:TE} {t:TA} {pos:Pos}
theorem pa_nil:PA X [] tNil:=fun _ _ _ _ H Q I h=>Calls.spliced_nil ⟨[],H,I,.nil,h⟩
theorem ae:ZA X [] tNil:=by with_unfolding_all exact pa_nil
theorem rZ (ha:PE X e te) (hr:PA X es t) (hs:starEach (e::es) X.env=(false,eval e X.env)::starEach es X.env:=by rfl):PA X (e::es) (tCons te t):=by
 intro pos pins s σ H Q I h
 rw [hs]
 show wpAny _ _ (spliced ((false,eval e X.env)::backTo pos (starEach es X.env))) _ _ s
 refine Calls.spliced_cons (thn (ha pins s σ H _ I h) fun u s1 ⟨x,H1,I1,r1,q1⟩=>?_)
 exact thn (hr pos pins s1 σ H1 _ I1 q1) fun us s2 ⟨xs,H2,I2,r2,q2⟩=>⟨x::xs,H2,I2,.cons r1 r2,q2⟩
theorem aa (ha:ZE X e te) (hr:ZA X es t) (hs:starEach (e::es) X.env=(false,eval e X.env)::starEach es X.env:=by rfl):ZA X (e::es) (tCons te t):=by with_unfolding_all exact rZ ha hr hs
def tTup (t:TA):TE:=fun σ H Q=>t σ H fun xs H1=>xs.length<=sizeLine/\∀ p,H1 p=none->Q (.ref p) (upd H1 p (.tup xs))
def tLst (t:TA):TE:=fun σ H Q=>t σ H fun xs H1=>xs.length<=sizeLine/\∀ p,H1 p=none->Q (.ref p) (upd H1 p (.lst xs))
theorem pe_tup {x1} (h:PA X es t):PE X (.Tuple es x1 pos) (tTup t):=by
 intro pins s σ H Q I hq
 refine wpAny_Tuple_spliced (thn (h pos pins s σ H _ I hq) fun us s1 ⟨xs,H1,I1,r,z,q⟩=>⟨by rw [← r.length];exact z,?_⟩)
 have hf:H1 s1.heap.objs.size=none:=I1.hok.fresh (zA1 _)
 refine ⟨.ref s1.heap.objs.size,upd H1 s1.heap.objs.size (.tup xs),I1.laid (t':=s1.toks) (fun b u e=>Heap.get?_push_of_some _ e) (zA1 _) ?_,rfl,q _ hf⟩
 exact ⟨z,us,r,⟨_,Heap.get?_push_size _ rfl⟩⟩
theorem ee {x1} (h:ZA X es t):ZE X (.Tuple es x1 pos) (tTup t):=by with_unfolding_all exact pe_tup h
theorem pe_lst (h:PA X es t):PE X (.List es pos) (tLst t):=by
 intro pins s σ H Q I hq
 refine wpAny_List_spliced (thn (h pos pins s σ H _ I hq) fun us s1 ⟨xs,H1,I1,r,z,q⟩=>⟨by rw [← r.length];exact z,?_⟩)
 have hf:H1 s1.heap.objs.size=none:=I1.hok.fresh (zA1 _)
 refine ⟨.ref s1.heap.objs.size,upd H1 s1.heap.objs.size (.lst xs),I1.laid (t':=s1.toks) (fun b u e=>Heap.get?_push_of_some _ e) (zA1 _) ?_,rfl,q _ hf⟩
 exact ⟨z,us,0,r,Heap.get?_push_size _ rfl⟩
theorem a0 (h:ZA X es t):ZE X (.List es pos) (tLst t):=by with_unfolding_all exact pe_lst h
end
abbrev Sp:=List V->Hp->VK->XK->Prop
abbrev CXT:=List Env->Hp->Shared->XK->Value->Shared->Prop
structure Env0 (P:Program) (w:World) (K:PySem.W.Frag) (mg:Str->Option Value) (base:Heap) (A:Around) (outer:List Env) (s:Shared) (H:Hp):Prop where
 frames:A.frames=some outer
 mod:Mod K mg base
 bs:∀ b o,base.get? b=some o->s.heap.get? b=some o/\H b=none
 bsz:base.objs.size<=s.heap.objs.size
 funs:s.heap.FunFrames base outer
 frf:∀ b∈frs outer,H b=none
 hok:HOk P w H s.heap
 bare:AllBare s.gens
def CE (outer:List Env) (P:Program) (w:World) (H:Hp) (s:Shared) (Q:VK) (u:Value) (s':Shared):Prop:=
 ∃ v H',s'.os=s.os/\AllBare s'.gens/\Un (frs outer) [] H H' s.heap s'.heap/\HOk P w H' s'.heap/\RelV v u/\Q v H'
def CR (CX:CXT) (outer:List Env) (P:Program) (w:World) (H:Hp) (s:Shared) (Q:VK) (E:XK) (r:Result) (s':Shared):Prop:=
 match r with
 | .ok (.ret u)=>CE outer P w H s Q u s'
 | .ok _=>False
 | .error e=>CX outer H s E e s'
structure FnOk (P:Program) (w:World) (K:PySem.W.Frag) (mg:Str->Option Value) (base:Heap) (CX:CXT) (k:Nat) (f:Addr) (fd:FuncData) (ps:List Str) (sp:Sp):Prop where
 len:∀ vs H Q E,sp vs H Q E->vs.length=ps.length
 run:∀ (A:Around) (outer:List Env) (s:Shared) (H:Hp) (args:Args) (us:List Value) (vs:List V) (Q:VK) (E:XK),Room k A->Env0 P w K mg base A outer s H->BindsTo s fd args (ps.zip us)->Vals vs us->sp vs H Q E ->
  codeAny (model P w) A (.call (.ref f) args) (CR CX outer P w H s Q E) s
theorem FnOk.mono {P:Program} {w:World} {K:PySem.W.Frag} {mg:Str->Option Value} {base:Heap} {CX:CXT} {j k:Nat} {f:Addr} {fd:FuncData} {ps:List Str} {sp:Sp} (F:FnOk P w K mg base CX j f fd ps sp) (h:j<=k) :
 FnOk P w K mg base CX k f fd ps sp:=⟨F.len,fun A outer s H args us vs Q E hr=>F.run A outer s H args us vs Q E (hr.mono h)⟩
section
variable {X:Cx} {pins:List (Addr×Obj)} {σ:St} {H:Hp} {s s':Shared}
theorem Inv.env0 (I:Inv X pins σ H s):Env0 X.prog X.w X.K X.mg X.base X.A X.stack s H:=
 ⟨I.ok.frames,I.ok.mod,I.bs,zC8 I.ok.bsz I.sz,I.stack,I.stkFree,I.hok,I.bare⟩
theorem Inv.after {Q:VK} {u:Value} (I:Inv X pins σ H s) (h:CE X.stack X.prog X.w H s Q u s'):EP X pins σ Q u s':=by
 obtain ⟨v,H',os,bare,un,hok,r,q⟩:=h
 obtain ⟨hh,g,d,t,os'⟩:=s'
 obtain rfl:os'=s.os:=os
 exact ⟨v,H',I.call (h':=hh) (g':=g) (d':=d) (t':=t) (ch:=[]) un hok bare (fun b z=>absurd z (by simp)),r,q⟩
end
def tCall (sp:Sp) (dvs:List V) (E:XK) (t:TA):TE:=fun σ H Q=>t σ H fun vs H1=>sp (vs++dvs) H1 Q E
def Binds (K:PySem.W.Frag) (fd:FuncData) (ps:List Str) (ds:List Value):Prop:=
 ∀ (s:Shared) (us:List Value),K.In s.heap->(us++ds).length=ps.length->BindsTo s fd ⟨us,[]⟩ (ps.zip (us++ds))
theorem Binds.all {K:PySem.W.Frag} {fd:FuncData} {ps:List Str} (h:∀ us:List Value,us.length=ps.length->bindArgs fd ⟨us,[]⟩=pure (ps.zip us)):Binds K fd ps []:=fun s us _ hl=>by
 rw [zE3] at hl ⊢
 exact .of_eq (h us hl)
def mW (CX:CXT) (X:Cx) (E:XK):Prop:=∀ (pins:List (Addr×Obj)) (σ:St) (H:Hp) (s:Shared) (e:Value) (s':Shared),Inv X pins σ H s->CX X.stack H s E e s'->X.xe e s'
section
variable {X:Cx} {CX:CXT} {k:Nat} {f C:Addr} {fd:FuncData} {ps:List Str} {sp:Sp} {dvs:List V} {ds:List Value} {E:XK} {x m:Str} {p pos apos:Pos} {e o:Expr} {es:List Expr} {ta:TE} {t:TA}
theorem run_fn {pins:List (Addr×Obj)} {σ:St} {H:Hp} {s:Shared} {Q:VK} {us:List Value} {vs:List V} (F:FnOk X.prog X.w X.K X.mg X.base CX k f fd ps sp) (hr:Room k X.A) (hb:Binds X.K fd ps ds) (hd:Vals dvs ds) (hx:mW CX X E)
 (I:Inv X pins σ H s) (r:Vals vs us) (h:sp (vs++dvs) H Q E):wpAny (model X.prog X.w) X.A (call (.ref f) us) (EP X pins σ Q) X.xe s:=by
 have r2:Vals (vs++dvs) (us++ds):=r.append hd
 have hl:(us++ds).length=ps.length:=by rw [← r2.length];exact F.len _ _ _ _ h
 refine wpAny_call (codeAny_mono (F.run X.A X.stack s H ⟨us,[]⟩ (us++ds) (vs++dvs) Q E hr I.env0 (hb s us I.kIn hl) r2 h) fun r s' hq=>?_)
 cases r with
 | error e=>exact hx pins σ H s e s' I hq
 | ok fl=>
   cases fl with
   | ret u=>exact I.after hq
   | next=>exact False.elim hq
   | brk=>exact False.elim hq
   | cont=>exact False.elim hq
theorem rO (F:FnOk X.prog X.w X.K X.mg X.base CX k f fd ps sp) (hr:Room k X.A) (hg:Gl X x) (hm:X.mg x=some (.ref f)) (hk:PySem.W.keepIn X.K (.ref f)=true) (hb:Binds X.K fd ps ds) (hd:Vals dvs ds) (hx:mW CX X E)
 (ha:PA X (e::es) t) (hdb:(x == ("__debug__" : Str))=false:=by decide) (he:starEach (e::es) X.env=(false,eval e X.env)::starEach es X.env:=by rfl) (hpl:(backTo pos (starEach es X.env)).any (·.1)=false:=by rfl) :
 PE X (.Call (.Name x p) (e::es) [] pos) (tCall sp dvs E t):=by
 intro pins s σ H Q I h
 refine wpAny_Call_Name_kw (lC I hg hm ?_ hdb)
 refine PySem.W.callWith_K (h₀:=X.base) I.ok.mod.kin hk (thn (ha pos pins s σ H _ I h) fun us s1 ⟨vs,H1,I1,r,q⟩=>⟨I1.kIn,?_⟩) he hpl
 exact run_fn F hr hb hd hx I1 r q
end
structure FnScope (N P:List Str) (sc:Scope):Prop where
 kind:sc.kind=.function
 co:sc.isCoroutine=false
 gen:sc.isGenerator=false
 nd:N.Nodup
 pre:N.take P.length=P
 par:∀ x∈P,sc.names.lookup x=some .local\/sc.names.lookup x=some .cell
 nofree:∀ y∈sc.names,y.2≠.free
theorem gp {kindOf:Str->Option NameKind} {x:Str}:∀ {binds:List (Str×Value)} {m:Str->Option Value},(∀ v,(x,v)∉binds)->bindL kindOf binds m x=m x
 | [],_,_=>rfl
 | (n,v)::r,m,h=>by
   unfold bindL
   rw [gp fun w hw=>h w (zB4 _ hw)]
   split
   · have:x≠n:=by rintro rfl;exact h v zA8
     simp [this]
   · rfl
theorem gt {kindOf:Str->Option NameKind} {x:Str}:∀ {binds:List (Str×Value)} {m:Str->Option Value},(∀ v,(x,v)∉binds)->bindC kindOf binds m x=m x
 | [],_,_=>rfl
 | (n,v)::r,m,h=>by
   unfold bindC
   rw [gt fun w hw=>h w (zB4 _ hw)]
   split
   · rfl
   · have:x≠n:=by rintro rfl;exact h v zA8
     simp [this]
theorem gr {kindOf:Str->Option NameKind} {x:Str} {v:Value}:∀ {P:List Str} {vs:List Value} {i:Nat} {m:Str->Option Value},P.Nodup->P[i]? = some x->vs[i]? = some v->kindOf x=some .local ->
 bindL kindOf (P.zip vs) m x=some v
 | [],_,_,_,_,h,_,_=>by simp at h
 | _::_,[],_,_,_,_,h,_=>by simp at h
 | p::P,w::vs,0,m,nd,h1,h2,hk=>by
   simp at h1 h2;subst h1;subst h2
   show bindL kindOf ((p,w)::P.zip vs) m p=_
   unfold bindL
   rw [gp fun v hv=>(List.nodup_cons.mp nd).1 (List.of_mem_zip hv).1,if_pos hk]
   simp
 | p::P,w::vs,i+1,m,nd,h1,h2,hk=>by
   show bindL kindOf ((p,w)::P.zip vs) m x=_
   unfold bindL
   exact gr (i:=i) (List.nodup_cons.mp nd).2 (by simpa using h1) (by simpa using h2) hk
theorem gu {kindOf:Str->Option NameKind} {x:Str} {v:Value}:∀ {P:List Str} {vs:List Value} {i:Nat} {m:Str->Option Value},P.Nodup->P[i]? = some x->vs[i]? = some v->kindOf x≠some .local ->
 bindC kindOf (P.zip vs) m x=some v
 | [],_,_,_,_,h,_,_=>by simp at h
 | _::_,[],_,_,_,_,h,_=>by simp at h
 | p::P,w::vs,0,m,nd,h1,h2,hk=>by
   simp at h1 h2;subst h1;subst h2
   show bindC kindOf ((p,w)::P.zip vs) m p=_
   unfold bindC
   rw [gt fun v hv=>(List.nodup_cons.mp nd).1 (List.of_mem_zip hv).1,if_neg hk]
   simp
 | p::P,w::vs,i+1,m,nd,h1,h2,hk=>by
   show bindC kindOf ((p,w)::P.zip vs) m x=_
   unfold bindC
   exact gu (i:=i) (List.nodup_cons.mp nd).2 (by simpa using h1) (by simpa using h2) hk
def start (N:List Str) (vs:List V):St:=vs.map some++List.replicate (N.length - vs.length) none
def oT (CX:CXT) (P:Program) (w:World) (K:PySem.W.Frag) (mg:Str->Option Value) (base:Heap) (N:List Str) (qual:Str) (scope:Scope) (f:Addr) (cd:Value) (A:Around) (outer:List Env) (s:Shared) (H:Hp) (E:XK):Cx where
 prog:=P
 w:=w
 K:=K
 mg:=mg
 base:=base
 A:=A.deeper (envOfC qual scope s.heap.objs.size f cd)
 N:=N
 s₀:=s
 H₀:=H
 env:=envOfC qual scope s.heap.objs.size f cd
 outer:=outer
 stack:=envOfC qual scope s.heap.objs.size f cd::outer
 ex:=[]
 calm:=true
 fn:=fun _=>true
 pn:=[]
 xe:=fun e s'=>wpAny (model P w) (A.deeper (envOfC qual scope s.heap.objs.size f cd)) (leaving (envOfC qual scope s.heap.objs.size f cd) e) (fun _ s''=>CX outer H s E e s'') (fun e' s''=>CX outer H s E e' s'') s'
theorem i0 {sc:Scope} {n:Nat} {x:Str} (h:sc.names.lookup x=some .cell):∃ c,(cellsFrom n sc.names []).lookup x=some c:=by
 have q:=PySem.W.cellsFrom_some sc.names n [] (.inl h)
 exact Option.isSome_iff_exists.mp q
theorem lM {CX:CXT} {P:Program} {w:World} {K:PySem.W.Frag} {mg:Str->Option Value} {base:Heap} {N ps:List Str} {qual:Str} {scope:Scope} {f:Addr} {cd:Value} {A:Around} {outer:List Env} {s s1:Shared} {H:Hp} {E:XK} {us:List Value} {vs:List V}
 (S:FnScope N ps scope) (hd:A.handled=none) (e0:Env0 P w K mg base A outer s H) (hl:vs.length=ps.length) (r:Vals vs us)
 (x:InCallC s s.heap.objs.size (bindL (envOfC qual scope s.heap.objs.size f cd).kindOf (ps.zip us) fun _=>none) (cellsFrom (s.heap.objs.size+1) scope.names []) (bindC (envOfC qual scope s.heap.objs.size f cd).kindOf (ps.zip us) fun _=>none) s1) :
 Inv (oT CX P w K mg base N qual scope f cd A outer s H E) [] (start N vs) H s1:=by
 have hpl:ps.length<=N.length:=by have:=congrArg List.length S.pre;rw [zB7] at this;lia
 obtain ⟨h1,tk,rfl,hk⟩:=x.done
 have noA:∀ b:Addr,b∉(oT CX P w K mg base N qual scope f cd A outer s H E).ex:=fun b z=>absurd (show b∈([]:List Addr) from z) (by simp)
 refine ⟨⟨e0.mod,S.kind,rfl,rfl,zA1 _,fun y z c h1 h2=>?_,fun y hy=>?_,fun y c _ h=>?_,fun _=>hd,Around.frames_deeper e0.frames,.inr ⟨rfl,rfl⟩,fun b z=>absurd z (noA b),e0.bs,e0.bsz,fun b _ _=>noA b,fun b z=>absurd z (noA b),e0.funs,e0.frf⟩,
  rfl,e0.bare,Un.kept hk,⟨_,x.toInCall.ns,fun i y v h1 h2 h3=>?_⟩,fun y c h=>⟨_,x.cell y c h⟩,e0.hok.fresh (zA1 _),fun y c h=>?_,fun p hp=>absurd (show p∈([]:List (Addr×Obj)) from hp) (by simp),e0.hok.kept hk,?_⟩
 · exact name_of_addr x.apart (PySem.mem_of_lookup h1) (PySem.mem_of_lookup h2)
 · have hy:scope.names.lookup y=some .cell\/scope.names.lookup y=some .free:=hy
   rcases hy with hy | hy
   · exact i0 hy
   · exact absurd rfl (S.nofree _ (PySem.mem_of_lookup hy))
 · exact zJ0 (x.above y c (PySem.mem_of_lookup h))
 · have hi:i<vs.length:=by
    unfold start at h2
    by_cases hi:i<vs.length
    · exact hi
    · rw [List.getElem?_append_right (by simpa using hi)] at h2
      rw [List.getElem?_replicate] at h2
      split at h2 <;> cases h2
   have ha:vs[i]? = some v:=by
    unfold start at h2
    rw [List.getElem?_append_left (by simpa using hi),List.getElem?_map] at h2
    cases e:vs[i]? with
    | none=>rw [e] at h2;cases h2
    | some a=>rw [e] at h2;cases h2;rfl
   obtain ⟨u,hu,rv⟩:=r.get ha
   have hp:ps[i]? = some y:=by
    rw [← S.pre,List.getElem?_take_of_lt (by lia)];exact h1
   have ndP:ps.Nodup:=by rw [← S.pre];exact S.nd.sublist (zI7 _ _)
   refine ⟨u,rv,?_⟩
   rcases S.par y (zG7 hp) with k | k
   · exact .inl ⟨k,gr ndP hp hu k⟩
   · obtain ⟨c,e⟩:=i0 (n:=s.heap.objs.size+1) k
     refine .inr ⟨.inl k,c,e,?_⟩
     have q:=x.cell y c e
     rw [gu ndP hp hu (by show scope.names.lookup y≠_;rw [k];decide)] at q
     exact q
 · exact e0.hok.fresh (zJ0 (x.above y c (PySem.mem_of_lookup h)))
 · unfold start
   show _=N.length
   rw [zA5,zA0,zH0]
   lia
theorem fn_of {CX:CXT} {P:Program} {w:World} {K:PySem.W.Frag} {mg:Str->Option Value} {base:Heap} {k:Nat} {f:Addr} {name qual:Str} {params:Arguments} {body:List Stmt} {scope:Scope} {dV kV doc pm cdv ct oc:Value} {an od:Option Addr}
 {osl:Array (Option Value)} {N ps:List Str} {sp:Sp} (lk:K.lookup f=some ⟨oc,od,.func (PySem.W.fnOf name qual params body scope dV kV doc pm an cdv ct),osl⟩) (hcd:PySem.W.codeIn K cdv qual=true) (S:FnScope N ps scope)
 (len:∀ vs H Q E,sp vs H Q E->vs.length=ps.length)
 (hbody:∀ (A:Around) (outer:List Env) (s:Shared) (H:Hp) (vs:List V) (Q:VK) (E:XK),Room k (A.deeper (envOfC qual scope s.heap.objs.size f cdv))->sp vs H Q E ->
   ∃ t,PSs (oT CX P w K mg base N qual scope f cdv A outer s H E) body t/\t { nx:=fun _ H'=>Q .non H',rt:=Q } (start N vs) H) :
 FnOk P w K mg base CX (k+1) f (PySem.W.fnOf name qual params body scope dV kV doc pm an cdv ct) ps sp:=by
 refine ⟨len,fun A outer s H args us vs Q E hr e0 hb r hsp=>?_⟩
 have hl:=len _ _ _ _ hsp
 have KX:K.In s.heap:=e0.mod.kin.keeps fun b o e=>(e0.bs b o e).1
 have lim:s.heap.NoLimit:=e0.mod.nolimit.keeps fun b o e=>(e0.bs b o e).1
 have hkind:∀ y∈ps.zip us,scope.names.lookup y.1=some .local\/(scope.names.lookup y.1=some .cell/\((cellsFrom (s.heap.objs.size+1) scope.names []).lookup y.1).isSome=true):=fun ⟨n,v⟩ hy=>by
  rcases S.par n (List.of_mem_zip hy).1 with q | q
  · exact .inl q
  · exact .inr ⟨q,PySem.W.cellsFrom_some _ _ _ (.inl q)⟩
 refine codeAny_call_function hr.depth (KX _ _ lk) rfl S.co S.gen rfl (PySem.W.codeRec_of KX hcd) (hb _ _ _ _ ?_)
 refine wpAny_newFunctionEnv_cells S.kind hkind fun env he s1 x=>?_
 subst he
 refine ⟨lim.keeps x.toInCall.keep,codeAny_func ?_⟩
 obtain ⟨t,ht,hq⟩:=hbody A outer s H vs Q E (hr.deeper _) hsp
 have I:Inv (oT CX P w K mg base N qual scope f cdv A outer s H E) [] (start N vs) H s1:=lM S hr.hd e0 hl r x
 refine wpAny_mono (ht [] s1 (start N vs) H _ I hq) (fun fl s' hs=>?_) fun e s' hs=>hs
 have fin:∀ {σ':St} {H':Hp} {v:V} {u:Value},Inv (oT CX P w K mg base N qual scope f cdv A outer s H E) [] σ' H' s'->RelV v u->Q v H'->CE outer P w H s Q u s':=
  fun {σ' H' v u} J rv q=>⟨v,H',J.os,J.bare,J.base,J.hok,rv,q⟩
 cases fl with
 | ret u=>
   obtain ⟨v,σ',H',J,rv,q⟩:=hs
   exact fin J rv q
 | next=>
   obtain ⟨σ',H',J,q⟩:=hs
   exact fin (v:=V.non) (u:=Value.none) J rfl q
 | brk=>
   obtain ⟨_,_,_,q⟩:=hs
   exact False.elim q
 | cont=>
   obtain ⟨_,_,_,q⟩:=hs
   exact False.elim q
section
variable {X:Cx} {x:Str} {p pos:Pos} {e:Expr} {es:List Expr} {t:TA} {id T:String} {r:List V->Hp->VK->Prop}
def tCB (r:List V->Hp->VK->Prop) (t:TA):TE:=fun σ H Q=>t σ H fun vs H1=>r vs H1 Q
theorem aW (hc:CallR X (.builtin id) r) (hg:Gl X x) (hm:X.mg x=none) (hv:bootBuiltins x=some (.builtin id)) (ha:PA X (e::es) t) (hn:x≠"__name__":=by decide) (hdb:(x == ("__debug__" : Str))=false:=by decide)
 (he:starEach (e::es) X.env=(false,eval e X.env)::starEach es X.env:=by rfl) (hpl:(backTo pos (starEach es X.env)).any (·.1)=false:=by rfl):PE X (.Call (.Name x p) (e::es) [] pos) (tCB r t):=by
 intro pins s σ H Q I h
 refine wpAny_Call_Name_kw (dI I hg hm hv ?_ hn hdb)
 exact PyProof.Rows.callWith_builtin1 (thn (ha pos pins s σ H _ I h) fun us s1 ⟨vs,H1,I1,r1,q1⟩=>hc pins s1 σ H1 vs us Q I1 r1 q1) he hpl
theorem cC (hc:CallR X (.type T) r) (hg:Gl X x) (hm:X.mg x=none) (hv:bootBuiltins x=some (.type T)) (ha:PA X (e::es) t) (hn:x≠"__name__":=by decide) (hdb:(x == ("__debug__" : Str))=false:=by decide)
 (he:starEach (e::es) X.env=(false,eval e X.env)::starEach es X.env:=by rfl) (hpl:(backTo pos (starEach es X.env)).any (·.1)=false:=by rfl):PE X (.Call (.Name x p) (e::es) [] pos) (tCB r t):=by
 intro pins s σ H Q I h
 refine wpAny_Call_Name_kw (dI I hg hm hv ?_ hn hdb)
 exact PyProof.Rows.callWith_type1 (thn (ha pos pins s σ H _ I h) fun us s1 ⟨vs,H1,I1,r1,q1⟩=>hc pins s1 σ H1 vs us Q I1 r1 q1) he hpl
end
end L2
namespace HT
open PySem PyProof.Rows
section
variable {prog:Program} {w:World} {A:Around} {E:Value->Shared->Prop} {s:Shared}
theorem cat_tup {t b:Addr} {vs ws:List Value} {Q:Value->Shared->Prop} (ht:IsTup s.heap t vs.toArray) (hb:IsTup s.heap b ws.toArray) (hv:vs≠[])
 (h1:ws=[]->Q (.ref t) s) (h2:ws≠[]->Q (.ref s.heap.objs.size) { s with heap:=s.heap.push { cls:=.type "tuple",data:=.seq (vs++ws).toArray } })
 (hsz:vs.length+ws.length<=sizeLine):wpAny (model prog w) A (binaryOp .Add (.ref t) (.ref b)) Q E s:=by
 obtain ⟨⟨cls,dd,data,sl⟩,ho,hc,n,hd⟩:=id ht
 obtain ⟨⟨cls2,dd2,data2,sl2⟩,ho2,hc2,n2,hd2⟩:=id hb
 simp only at hc hd hc2 hd2
 subst hc hd hc2 hd2
 have e:vs.toArray++ws.toArray=(vs++ws).toArray:=by simp
 by_cases hw:ws=[]
 · exact concat_meets ⟨_,ho,rfl⟩ ⟨_,ho2,rfl⟩ noFill_tuple_add seq_tuple_add PySem.F.slot_tuple_add PySem.F.entry_tuple_add (PySem.F.args_tuple_add_2 _ _)
    (tuple_addW1 t b vs.toArray ws.toArray n n2 dd dd2 sl sl2 (by simpa using hv) (by simp [hw])) ⟨ho,ho2,h1 hw⟩
 · refine concat_meets ⟨_,ho,rfl⟩ ⟨_,ho2,rfl⟩ noFill_tuple_add seq_tuple_add PySem.F.slot_tuple_add PySem.F.entry_tuple_add (PySem.F.args_tuple_add_2 _ _)
    (tuple_addW2 t b vs.toArray ws.toArray n n2 dd dd2 sl sl2 (by simpa using hv) (by simpa using hw) (by rw [zA7,zA7];exact hsz)) ⟨ho,ho2,?_⟩
   rw [e]
   exact h2 hw
def sIx (n d:Nat):Option Int->Nat
 | none=>d
 | some v=>if v<0 then (v+(n:Int)).toNat else min v.toNat n
theorem sIx_none (n d:Nat):sIx n d none=d:=rfl
theorem sIx_nat (n d k:Nat):sIx n d (some (k:Int))=min k n:=by
 show (if (k:Int)<0 then ((k:Int)+(n:Int)).toNat else min (k:Int).toNat n)=min k n
 rw [if_neg (by lia),zF4]
theorem sIx_le (n d:Nat) (hd:d<=n) (o:Option Int):sIx n d o<=n:=by
 cases o with
 | none=>exact hd
 | some v=>
   show (if v<0 then (v+(n:Int)).toNat else min v.toNat n)<=n
   by_cases hv:v<0
   · rw [if_pos hv];lia
   · rw [if_neg hv];exact Nat.min_le_right _ _
theorem mf (v:Int) (n d:Nat):(if v<0 then max (v+(n:Int)) 0 else min v (n:Int))=((sIx n d (some v):Nat):Int):=by
 show (if v<0 then max (v+(n:Int)) 0 else min v (n:Int))=(((if v<0 then (v+(n:Int)).toNat else min v.toNat n):Nat):Int)
 by_cases hv:v<0
 · simp only [if_pos hv];lia
 · simp only [if_neg hv];lia
theorem jQ (lo hi:Option Int) (n:Nat):Builtin.Slice.sliceAdjust lo hi 1 (n:Int)=(((sIx n 0 lo:Nat):Int),((sIx n n hi:Nat):Int)):=by
 have h1:¬ ((1:Int)<0):=by lia
 unfold Builtin.Slice.sliceAdjust
 simp only [h1,if_false]
 refine Prod.ext ?_ ?_
 · cases lo with
   | none=>rfl
   | some v=>exact mf v n 0
 · cases hi with
   | none=>rfl
   | some v=>exact mf v n n
theorem jo (i j:Nat):Builtin.Slice.slicePlaces (i:Int) (j:Int) 1=j - i:=by
 unfold Builtin.Slice.slicePlaces
 have h1:(1:Int) > 0:=by lia
 simp only [h1,if_true,Int.ediv_one]
 split <;> lia
theorem eh {v:Value} {o:Option Int} {Q:Option Int->Shared->Prop} (p:IsPart v o) (h:Q o s):wpAny (model prog w) A (Builtin.Slice.slicePartIndex v) Q E s:=by
 cases p with
 | none=>exact slicePart_none h
 | int i t=>exact slicePart_int h
theorem sliceApplied_gen {sl:Addr} {vl vu:Value} {lo hi:Option Int} {n:Nat} {Q:Int×Int×Nat->Shared->Prop} (hs:s.heap.IsSliceOf sl vl vu .none) (pl:IsPart vl lo) (pu:IsPart vu hi)
 (h:Q (((sIx n 0 lo:Nat):Int),1,sIx n n hi - sIx n 0 lo) s):wpAny (model prog w) A (Builtin.Slice.sliceApplied (.ref sl) (pure (n:Int))) Q E s:=by
 obtain ⟨os,hos,hcs,hds⟩:=id hs
 unfold Builtin.Slice.sliceApplied Builtin.Slice.sliceFields
 refine wpAny_bind (wpAny_bind (wpAny_field hos hds (x:=vl) rfl (wpAny_bind (wpAny_field hos hds (x:=vu) rfl (wpAny_bind (wpAny_field hos hds (x:=.none) rfl (wpAny_pure ?_)))))))
 refine wpAny_bind (slicePart_none ?_)
 show wpAny _ _ (if ((1:Int) == 0)=true then _ else _) _ _ s
 rw [if_neg (by decide)]
 refine wpAny_bind (eh pl (wpAny_bind (eh pu (wpAny_bind (wpAny_pure ?_)))))
 show wpAny _ _ (match Builtin.Slice.sliceAdjust lo hi 1 (n:Int) with | (lo,hi)=>pure (lo,(1:Int),Builtin.Slice.slicePlaces lo hi 1)) _ _ s
 rw [jQ lo hi n]
 show wpAny _ _ (pure (((sIx n 0 lo:Nat):Int),(1:Int),Builtin.Slice.slicePlaces ((sIx n 0 lo:Nat):Int) ((sIx n n hi:Nat):Int) 1)) _ _ s
 rw [jo]
 exact wpAny_pure h
theorem nZ (xs:Array Value) (i k:Nat):((List.range k).filterMap fun (m:Nat)=>xs[((i:Int)+(m:Int)*1).toNat]?).toArray=((xs.toList.drop i).take k).toArray:=by
 have e:(fun (m:Nat)=>xs[((i:Int)+(m:Int)*1).toNat]?)=fun m=>xs[i+m]?:=by
  funext m
  have:((i:Int)+(m:Int)*1).toNat=i+m:=by lia
  rw [this]
 rw [e]
 have:=pick_run xs i k
 rw [List.filterMap_map] at this
 have e2:((fun x=>xs[x]?) ∘ fun x=>i+x)=fun m=>xs[i+m]?:=rfl
 rw [e2] at this
 rw [this]
theorem getItem_tuple_cut {t sl:Addr} {items:Array Value} {vl vu:Value} {lo hi:Option Int} {Q:Value->Shared->Prop} (ht:IsTup s.heap t items) (hs:s.heap.IsSliceOf sl vl vu .none) (pl:IsPart vl lo) (pu:IsPart vu hi)
 (hw:¬ (sIx items.size 0 lo=0/\sIx items.size items.size hi=items.size))
 (h:Q (.ref s.heap.objs.size) { s with heap:=s.heap.push { cls:=.type "tuple",data:=.seq ((items.toList.drop (sIx items.size 0 lo)).take (sIx items.size items.size hi - sIx items.size 0 lo)).toArray } })
 (hsz:items.size<=sizeLine):wpAny (model prog w) A (getItem (.ref t) (.ref sl)) Q E s:=by
 have htake:sizeOk (.seq ((items.toList.drop (sIx items.size 0 lo)).take (sIx items.size items.size hi - sIx items.size 0 lo)).toArray):=by
  show ((items.toList.drop (sIx items.size 0 lo)).take (sIx items.size items.size hi - sIx items.size 0 lo)).toArray.size<=sizeLine
  rw [zA7,zB7,zC7,zD0]
  lia
 have hj:sIx items.size items.size hi<=items.size:=sIx_le _ _ (zA1 _) hi
 obtain ⟨os,hos,hcs,hds⟩:=id hs
 have hTs:s.TypeIs (.ref sl) "slice":=⟨os,hos,hcs⟩
 unfold getItem
 try with_reducible refine wpAny_holding ?_
 first | refine wpAny_bind (wpAny_pure ?_) | skip
 refine wpAny_bind (wpAny_sequenceKey ht.typeIs (by decide) ?_)
 refine wpAny_bind (wpAny_callSpecial?_slot (name:=Str.ofString "__getitem__") ht.typeIs PyProof.Rows.slot_tuple_getitem
  (wpAny_call_entry PyProof.Rows.slot_tuple_getitem ht.typeIs entry_tuple_getitem ?_ (args_tuple_getitem _ _)))
 show wpAny _ _ (Builtin.Tuple.tupleItemsOf (.ref t) >>= _) _ _ s
 refine wpAny_bind (tupleItemsOf_ ht ?_)
 refine wpAny_bind (wpAny_typeOf hTs ?_)
 rw [if_pos (by decide)]
 refine wpAny_bind (sliceApplied_gen hs pl pu ?_)
 have hno:¬ ((((sIx items.size 0 lo:Nat):Int) == 0&&(1:Int) == 1&&(sIx items.size items.size hi - sIx items.size 0 lo) == items.size)=true):=by
  intro q
  rw [zE9,zE9] at q
  have q1:((sIx items.size 0 lo:Nat):Int)=0:=eq_of_beq q.1.1
  have q2:sIx items.size items.size hi - sIx items.size 0 lo=items.size:=eq_of_beq q.2
  exact hw ⟨by lia,by lia⟩
 show wpAny _ _ (if (((sIx items.size 0 lo:Nat):Int) == 0&&(1:Int) == 1&&(sIx items.size items.size hi - sIx items.size 0 lo) == items.size)=true then _ else _) _ _ s
 rw [if_neg hno,nZ]
 first
  | exact wpAny_bind (m:=Builtin.Tuple.tupleExact _) (wpAny_newObj_type (wpAny_pure ⟨_,rfl,wpAny_pure h⟩) htake)
  | exact wpAny_bind (m:=Builtin.Tuple.tupleExact _) (wpAny_newObj_type (wpAny_bind (wpAny_pure (wpAny_pure ⟨_,rfl,wpAny_pure h⟩))) htake)
  | exact wpAny_bind (wpAny_bind (m:=Builtin.Tuple.tupleExact _) (wpAny_newObj_type (wpAny_pure (wpAny_pure ⟨_,rfl,wpAny_pure h⟩)) htake))
  | exact wpAny_bind (wpAny_bind (m:=Builtin.Tuple.tupleExact _) (wpAny_newObj_type (wpAny_pure ⟨_,rfl,wpAny_pure h⟩) htake))
end
end HT
namespace L2
open PySem PySem.Spec PyProof.Rows
abbrev TO:=St->Hp->(Option Int->Hp->Prop)->Prop
def PO (X:Cx) (e:Option Expr) (t:TO):Prop:=
 ∀ (pins:List (Addr×Obj)) (s:Shared) (σ:St) (H:Hp) (Q:Option Int->Hp->Prop),Inv X pins σ H s->t σ H Q ->
   wpAny (model X.prog X.w) X.A (evalPart e X.env) (fun u s'=>∃ o H',Inv X pins σ H' s'/\IsPart u o/\Q o H') X.xe s
@[irreducible] def ZO (X:Cx) (e:Option Expr) (t:TO):Prop:=PO X e t
def kf:TO:=fun _ H Q=>Q none H
def tPart (t:TE):TO:=fun σ H Q=>t σ H fun x H1=>∃ i,x=.int i/\Q (some i) H1
theorem eE {ns:List Int}:∀ {us:List Value},Vals (ns.map V.int) us->IntsAre us ns:=by
 induction ns with
 | nil=>intro us r;rw [zF1] at r;cases r;exact .nil
 | cons n ns ih=>
   intro us r
   rw [zA9] at r
   cases r with
   | cons r1 r2=>
     obtain ⟨t,e⟩:=r1
     subst e
     exact .cons n t (ih r2)
section
variable {X:Cx} {e:Expr} {te:TE} {lo hi:Option Expr} {tl th:TO} {pos p2:Pos}
theorem rB:PO X none kf:=by
 intro pins s σ H Q I h
 rw [evalPart_none]
 exact wpAny_pure ⟨none,H,I,.none,h⟩
theorem cQ:ZO X none kf:=by with_unfolding_all exact rB
theorem rA (h:PE X e te):PO X (some e) (tPart te):=by
 intro pins s σ H Q I hw
 rw [evalPart_some]
 refine thn (h pins s σ H _ I hw) fun u s1 ⟨x,H1,I1,r1,q1⟩=>?_
 obtain ⟨i,rfl,q⟩:=q1
 obtain ⟨t,rfl⟩:=r1
 exact ⟨some i,H1,I1,.int i t,q⟩
theorem cP (h:ZE X e te):ZO X (some e) (tPart te):=by with_unfolding_all exact rA h
def SlR (X:Cx) (r:V->Option Int->Option Int->Hp->VK->Prop):Prop:=
 ∀ (pins:List (Addr×Obj)) (s:Shared) (σ:St) (H:Hp) (x:V) (v vl vu:Value) (lo hi:Option Int) (sl:Addr) (Q:VK),Inv X pins σ H s->RelV x v->s.heap.IsSliceOf sl vl vu .none->IsPart vl lo->IsPart vu hi->r x lo hi H Q ->
   ∃ T id,typeLookup (.type T) "__getitem__" = pure (some (.builtin id))/\s.TypeIs v T/\wpAny (model X.prog X.w) X.A (getItem v (.ref sl)) (EP X pins σ Q) X.xe s
def tSl (r:V->Option Int->Option Int->Hp->VK->Prop) (te:TE) (tl th:TO):TE:=fun σ H Q=>te σ H fun x H1=>tl σ H1 fun l H2=>th σ H2 fun u H3=>r x l u H3 Q
theorem n6 {r:V->Option Int->Option Int->Hp->VK->Prop} (hr:SlR X r) (he:PE X e te) (hl:PO X lo tl) (hu:PO X hi th):PE X (.Subscript e (.Slice lo hi none p2) pos) (tSl r te tl th):=by
 intro pins s σ H Q I h
 refine Subscript_ (thn (he pins s σ H _ I h) fun v s1 ⟨x,H1,I1,r1,q1⟩=>?_)
 refine wpAny_Slice (thn (hl pins s1 σ H1 _ I1 q1) fun vl s2 ⟨l,H2,I2,pl,q2⟩=>thn (hu pins s2 σ H2 _ I2 q2) fun vu s3 ⟨u,H3,I3,pu,q3⟩=>?_)
 rw [evalPart_none]
 refine wpAny_pure ?_
 have I4:Inv X pins σ H3 { s3 with heap:=s3.heap.push { cls:=.type "slice",data:=.fields #[vl,vu,.none] } }:=I3.kept (t':=s3.toks) fun b ob q=>Heap.get?_push_of_some _ q
 obtain ⟨T,id,hT,ht,hg⟩:=hr pins { s3 with heap:=s3.heap.push { cls:=.type "slice",data:=.fields #[vl,vu,.none] } } σ H3 x v vl vu l u s3.heap.objs.size Q I4 r1 (Heap.IsSliceOf.new ..) pl pu q3
 show wpAny (model X.prog X.w) X.A (subscriptTail e (.Slice lo hi none p2) v (.ref s3.heap.objs.size)) (EP X pins σ Q) X.xe { s3 with heap:=s3.heap.push { cls:=.type "slice",data:=.fields #[vl,vu,.none] } }
 exact tail_any (ops:=[.ref s3.heap.objs.size,v]) ht hT hg (by with_unfolding_all rfl)
theorem bY {r:V->Option Int->Option Int->Hp->VK->Prop} (hr:SlR X r) (he:ZE X e te) (hl:ZO X lo tl) (hu:ZO X hi th):ZE X (.Subscript e (.Slice lo hi none p2) pos) (tSl r te tl th):=by with_unfolding_all exact n6 hr he hl hu
def fA (xs:List V) (lo hi:Option Int):List V:=(xs.drop (HT.sIx xs.length 0 lo)).take (HT.sIx xs.length xs.length hi - HT.sIx xs.length 0 lo)
theorem dP (xs:List V) (lo hi:Option Int):(fA xs lo hi).length<=xs.length:=by
 unfold fA
 rw [zB7,zC7]
 lia
def rSlT (K:PySem.W.Frag):V->Option Int->Option Int->Hp->VK->Prop:=fun x lo hi H Q=>∃ a xs,x=.ref a/\SqT K H a xs /\
 ¬ (HT.sIx xs.length 0 lo=0/\HT.sIx xs.length xs.length hi=xs.length)/\∀ p,H p=none->Q (.ref p) (upd H p (.tup (fA xs lo hi)))
theorem sl_tup:SlR X (rSlT X.K):=by
 intro pins s σ H x v vl vu lo hi sl Q I rx hs pl pu h
 obtain ⟨a,xs,rfl,hx,hw,q⟩:=h
 cases rx
 obtain ⟨its,r,ht,hz⟩:=I.tuple hx
 have hlen:its.toArray.size=xs.length:=by rw [zA7];exact r.length.symm
 refine ⟨"tuple",_,PyProof.Rows.slot_tuple_getitem.lookup,ht.typeIs,?_⟩
 refine HT.getItem_tuple_cut ht hs pl pu (by rw [hlen];exact hw) ?_ (by rw [hlen];exact hz)
 rw [hlen]
 refine ⟨.ref s.heap.objs.size,_,I.laid (t':=s.toks) (o:=.tup (fA xs lo hi)) (fun b ob q=>Heap.get?_push_of_some _ q) (zA1 _) ?_,rfl,q _ (I.hok.fresh (zA1 _))⟩
 exact ⟨zC8 (dP xs lo hi) hz,_,(r.drop (HT.sIx xs.length 0 lo)).take (HT.sIx xs.length xs.length hi - HT.sIx xs.length 0 lo),TupD.new _ _⟩
def rCatT (K:PySem.W.Frag):R2:=fun x y H Q=>∃ a b xs ys,x=.ref a/\y=.ref b/\SqT K H a xs/\SqT K H b ys/\xs≠[]/\xs.length+ys.length<=sizeLine /\
 (ys=[]->Q (.ref a) H)/\(ys≠[]->∀ p,H p=none->Q (.ref p) (upd H p (.tup (xs++ys))))
theorem Vals.nil_iff {xs:List V} {us:List Value} (r:Vals xs us):us=[]↔xs=[]:=by
 cases r with
 | nil=>simp
 | cons _ _=>simp
theorem lc:OpR X (binaryOp .Add) (rCatT X.K):=by
 intro pins s σ H x y v u Q I rx ry h
 obtain ⟨a,b,xs,ys,rfl,rfl,ha,hb,hx,hz,q1,q2⟩:=h
 cases rx
 cases ry
 obtain ⟨its,r1,p1,_⟩:=I.tuple ha
 obtain ⟨its2,r2,p2,_⟩:=I.tuple hb
 refine HT.cat_tup p1 p2 (fun z=>hx (r1.nil_iff.mp z)) (fun z=>⟨.ref a,H,I,rfl,q1 (r2.nil_iff.mp z)⟩) (fun z=>?_) (by rw [← r1.length,← r2.length];exact hz)
 refine ⟨.ref s.heap.objs.size,_,I.laid (t':=s.toks) (o:=.tup (xs++ys)) (fun b ob q=>Heap.get?_push_of_some _ q) (zA1 _) ?_,rfl,q2 (fun w=>z (r2.nil_iff.mpr w)) _ (I.hok.fresh (zA1 _))⟩
 exact ⟨by rw [zA5];exact hz,_,r1.append r2,TupD.new _ _⟩
end
def ixN (n:Nat) (i:Int):Option Nat:=if 0<=i then (if i<n then some i.toNat else none) else if -(n:Int)<=i then some (i+n).toNat else none
def atI {α:Type} (xs:List α) (i:Int):Option α:=(ixN xs.length i).bind fun j=>xs[j]?
theorem lL {n:Nat} {i:Int} {j:Nat} (h:ixN n i=some j):seqIndex? i n=some j/\j<n/\-(n:Int)<=i/\i<n:=by
 unfold ixN at h
 by_cases h0:0<=i
 · rw [if_pos h0] at h
   by_cases h1:i<n
   · rw [if_pos h1] at h
     have e:i.toNat=j:=Option.some.inj h
     exact ⟨by rw [seqIndex_of h0 h1,e],by lia,by lia,h1⟩
   · rw [if_neg h1] at h;cases h
 · rw [if_neg h0] at h
   by_cases h1:-(n:Int)<=i
   · rw [if_pos h1] at h
     have e:(i+n).toNat=j:=Option.some.inj h
     exact ⟨by rw [seqIndex_neg (by lia) h1,e],by lia,h1,by lia⟩
   · rw [if_neg h1] at h;cases h
theorem mQ {α:Type} {xs:List α} {i:Int} {v:α} (h:atI xs i=some v):∃ j,seqIndex? i xs.length=some j/\xs[j]? = some v/\j<xs.length/\-(xs.length:Int)<=i/\i<xs.length:=by
 unfold atI at h
 cases e:ixN xs.length i with
 | none=>rw [e] at h;cases h
 | some j=>
   rw [e] at h
   obtain ⟨h1,h2,h3,h4⟩:=lL e
   exact ⟨j,h1,h,h2,h3,h4⟩
theorem sV {α:Type} {xs:List α} {j:Nat} {v:α} (h:xs[j]? = some v):atI xs (j:Int)=some v:=by
 have hj:j<xs.length:=(List.getElem?_eq_some_iff.mp h).1
 have e:ixN xs.length (j:Int)=some j:=by
  unfold ixN
  rw [if_pos (by lia),if_pos (by lia)];simp
 unfold atI;rw [e];exact h
theorem oZ {α:Type} (xs:List α) (v:α):atI (xs++[v]) (-1)=some v:=by
 have hl:(xs++[v]).length=xs.length+1:=by simp
 have e:ixN (xs++[v]).length (-1)=some xs.length:=by
  unfold ixN
  rw [hl,if_neg (by decide),if_pos (by lia)]
  congr 1
  lia
 unfold atI
 rw [e]
 show (xs++[v])[xs.length]? = some v
 simp
def mV (b:Expr):Prop:=∀ o i,subscripted b false o i=operate [o,i] (getItem o i)
def IxR (X:Cx) (r:R2):Prop:=
 ∀ (value slice:Expr) (pins:List (Addr×Obj)) (s:Shared) (σ:St) (H:Hp) (x y:V) (v u:Value) (Q:VK),Inv X pins σ H s->RelV x v->RelV y u->r x y H Q ->
   subscripted slice false v u=operate [v,u] (getItem v u)->wpAny (model X.prog X.w) X.A (subscriptTail value slice v u) (EP X pins σ Q) X.xe s
def MtR (X:Cx) (id:String) (r:V->List V->Hp->VK->Prop):Prop:=
 ∀ (pins:List (Addr×Obj)) (s:Shared) (σ:St) (H:Hp) (x:V) (xs:List V) (v:Value) (us:List Value) (Q:VK),Inv X pins σ H s->RelV x v->Vals xs us->r x xs H Q ->
   wpAny (model X.prog X.w) X.A (call (.builtin id) (v::us)) (EP X pins σ Q) X.xe s
section
variable {X:Cx} {a b:Expr} {ta tb:TE} {pos:Pos}
theorem pe_ix {r:R2} (hr:IxR X r) (ha:PE X a ta) (hb:PE X b tb) (hs:mV b):PE X (.Subscript a b pos) (tOp r ta tb):=by
 intro pins s σ H Q I h
 exact Subscript_ (binT ha hb I h fun v u s2 x y H2 I2 rx ry q=>hr a b pins s2 σ H2 x y v u Q I2 rx ry q (hs _ _))
theorem bh {r:R2} (hr:IxR X r) (ha:ZE X a ta) (hb:ZE X b tb) (hs:mV b):ZE X (.Subscript a b pos) (tOp r ta tb):=by with_unfolding_all exact pe_ix hr ha hb hs
def rIxL (K:PySem.W.Frag):R2:=fun x y H Q=>∃ p xs i v,x=.ref p/\y=.int i/\SqL K H p xs/\atI xs i=some v/\Q v H
def rIxT (K:PySem.W.Frag):R2:=fun x y H Q=>∃ p xs i v,x=.ref p/\y=.int i/\SqT K H p xs/\atI xs i=some v/\Q v H
theorem sw:IxR X (rIxL X.K):=by
 intro value slice pins s σ H x y v u Q I rx ry h hs
 obtain ⟨p,xs,i,z,rfl,rfl,hq,he,q⟩:=h
 cases rx
 obtain ⟨t,rfl⟩:=ry
 obtain ⟨its,r,pl,hz⟩:=I.list hq
 obtain ⟨j,h1,h2,h3,h4,h5⟩:=mQ he
 obtain ⟨w,ew,rw'⟩:=r.get h2
 have hl:=r.length
 have hn:=fS
 have fin:EP X pins σ Q w s:=⟨z,H,I,rw',q⟩
 by_cases h0:0<=i
 · have hj:i.toNat=j:=by
    rw [seqIndex_of h0 h5] at h1
    exact Option.some.inj h1
   exact item_listR pl.isList h0 (by lia) (by rw [hj];simpa using ew) fin hs
 · have hj:(i+(its.toArray.size:Int)).toNat=j:=by
    rw [seqIndex_neg (by lia) h4] at h1
    rw [zA7,← hl]
    exact Option.some.inj h1
   exact subscriptTail_builtinR (x:=w) pl.isList.typeIs slot_list_getitem.lookup
    (wpAny_getItem_list_neg (Q:=fun r s'=>r=w/\EP X pins σ Q r s') pl.isList (by lia) (by rw [zA7] <;> lia) (by lia) (by rw [hj];simpa using ew) ⟨rfl,fin⟩) hs
theorem pK:IxR X (rIxT X.K):=by
 intro value slice pins s σ H x y v u Q I rx ry h hs
 obtain ⟨p,xs,i,z,rfl,rfl,hq,he,q⟩:=h
 cases rx
 obtain ⟨t,rfl⟩:=ry
 obtain ⟨its,r,pl,hz⟩:=I.tuple hq
 obtain ⟨j,h1,h2,h3,h4,h5⟩:=mQ he
 obtain ⟨w,ew,rw'⟩:=r.get h2
 have hl:=r.length
 have hn:=fS
 have fin:EP X pins σ Q w s:=⟨z,H,I,rw',q⟩
 exact subscriptTail_builtinR (x:=w) pl.typeIs slot_tuple_getitem.lookup
  (getItem_tuple (j:=j) (Q:=fun r s'=>r=w/\EP X pins σ Q r s') pl (by lia) (by lia) (by rw [zA7,← hl];exact h1) (by simpa using ew) ⟨rfl,fin⟩) hs
theorem jw (its:List Value) (n j:Nat) (u:Value):Obj.mapSeq (·.setIfInBounds j u) { cls:=.type "list",data:=.seq its.toArray n }={ cls:=.type "list",data:=.seq (its.set j u).toArray n }:=by
 simp [Obj.mapSeq]
theorem Inv.lst {pins:List (Addr×Obj)} {σ:St} {H:Hp} {s:Shared} {p:Addr} {xs:List V} (I:Inv X pins σ H s) (h:H p=some (.lst xs)) :
 ∃ (its:List Value) (n:Nat),Vals xs its/\s.heap.get? p=some { cls:=.type "list",data:=.seq its.toArray n }/\xs.length<=sizeLine:=by
 obtain ⟨z,its,n,r,e⟩:=I.hok p _ h
 exact ⟨its,n,r,e,z⟩
theorem Inv.lstUpd {pins:List (Addr×Obj)} {σ:St} {H:Hp} {s:Shared} {p:Addr} {xs ys:List V} {its its':List Value} {n n':Nat} {f:Obj->Obj} (I:Inv X pins σ H s) (h:H p=some (.lst xs))
 (ho:s.heap.get? p=some { cls:=.type "list",data:=.seq its.toArray n }) (hf:f { cls:=.type "list",data:=.seq its.toArray n }={ cls:=.type "list",data:=.seq its'.toArray n' }) (r:Vals ys its') (hz:ys.length<=sizeLine) (t:Nat) :
 Inv X pins σ (upd H p (.lst ys)) { s with heap:=s.heap.update p f,toks:=t }:=by
 have e:(s.heap.update p f).get? p=some { cls:=.type "list",data:=.seq its'.toArray n' }:=by
  rw [Heap.get?_update_self f ho (by rw [hf] <;> rfl),hf]
 refine I.write (x:=p) (e:=p) (by rw [h];trivial) (.inl rfl) (fun b u hb q=>(Heap.get?_update_other _ _ (Ne.symm hb)).trans q) ⟨_,e⟩ ?_
 exact ⟨hz,its',n',r,e⟩
def rSetL:V->V->V->Hp->(Hp->Prop)->Prop:=fun o i v H Q=>∃ p xs k j,o=.ref p/\i=.int k/\H p=some (.lst xs)/\ixN xs.length k=some j/\Q (upd H p (.lst (xs.set j v)))
theorem ca:tI X rSetL:=by
 intro pins s σ H o i v ov iv u Q I ro ri rv h
 obtain ⟨p,xs,k,j,rfl,rfl,hp,hj,q⟩:=h
 cases ro
 obtain ⟨t,rfl⟩:=ri
 obtain ⟨its,n,r,ho,hz⟩:=I.lst hp
 obtain ⟨h1,h2,h3,h4⟩:=lL hj
 have hl:=r.length
 have hn:=fS
 have I':Inv X pins σ (upd H p (.lst (xs.set j v))) { s with heap:=s.heap.update p (Obj.mapSeq (·.setIfInBounds j u)) }:=
  I.lstUpd hp ho (jw its n j u) (r.set rv j) (by rw [List.length_set];exact hz) s.toks
 by_cases h0:0<=k
 · have hk:k.toNat=j:=by
    rw [seqIndex_of h0 h4] at h1
    exact Option.some.inj h1
   exact PySem.W.ki_setAt ho h0 (by lia) (by rw [zA7,← hl];exact h4) (by rw [hk];exact ⟨_,I',q⟩)
 · have hk:(k+(its.toArray.size:Int)).toNat=j:=by
    rw [seqIndex_neg (by lia) h3] at h1
    rw [zA7,← hl]
    exact Option.some.inj h1
   exact PySem.W.ki_setBack ho (by lia) (by rw [zA7,← hl];exact h3) (by lia) (by rw [hk];exact ⟨_,I',q⟩)
theorem fH (lo hi:Option Int) (n:Nat):(sliceBounds lo hi none n).1=((HT.sIx n 0 lo:Nat):Int)/\(sliceBounds lo hi none n).2.1=((HT.sIx n n hi:Nat):Int)/\(sliceBounds lo hi none n).2.2=1:=by
 refine ⟨?_,?_,rfl⟩
 · cases lo with
   | none=>simp [sliceBounds,HT.sIx]
   | some i=>
     simp only [sliceBounds,HT.sIx,Option.getD_none,show (1:Int) > 0 by decide,if_true]
     by_cases h:i<0
     · simp only [h,if_true] <;> lia
     · simp only [h,if_false] <;> lia
 · cases hi with
   | none=>simp [sliceBounds,HT.sIx]
   | some i=>
     simp only [sliceBounds,HT.sIx,Option.getD_none,show (1:Int) > 0 by decide,if_true]
     by_cases h:i<0
     · simp only [h,if_true] <;> lia
     · simp only [h,if_false] <;> lia
theorem eS (its:List Value) (lo hi:Option Int):slicePick its.toArray lo hi none=((its.drop (HT.sIx its.length 0 lo)).take (HT.sIx its.length its.length hi - HT.sIx its.length 0 lo)).toArray:=by
 obtain ⟨h1,h2,h3⟩:=fH lo hi its.toArray.size
 unfold slicePick
 rw [h1,h2,h3]
 simp only [sliceRange_one,pick_run,zA7] <;> rfl
def rSlL (K:PySem.W.Frag):V->Option Int->Option Int->Hp->VK->Prop:=fun x lo hi H Q=>∃ a xs,x=.ref a/\SqL K H a xs/\∀ p,H p=none->Q (.ref p) (upd H p (.lst (fA xs lo hi)))
theorem qH:SlR X (rSlL X.K):=by
 intro pins s σ H x v vl vu lo hi sl Q I rx hs pl pu h
 obtain ⟨a,xs,rfl,hx,q⟩:=h
 cases rx
 obtain ⟨its,r,ht,hz⟩:=I.list hx
 have hlen:=r.length
 refine ⟨"list",_,slot_list_getitem.lookup,ht.isList.typeIs,?_⟩
 refine wpAny_getItem_list_slice ht.isList hs pl pu .none (by simp) ?_ (by rw [zA7] <;> lia)
 rw [eS,← hlen]
 refine ⟨.ref s.heap.objs.size,_,I.laid (t':=s.toks) (o:=.lst (fA xs lo hi)) (fun b ob q=>Heap.get?_push_of_some _ q) (zA1 _) ?_,rfl,q _ (I.hok.fresh (zA1 _))⟩
 exact ⟨zC8 (dP xs lo hi) hz,_,0,(r.drop (HT.sIx xs.length 0 lo)).take (HT.sIx xs.length xs.length hi - HT.sIx xs.length 0 lo),Heap.get?_push_size _ rfl⟩
theorem call_len_seq:CallR X (.builtin "len") (fun xs H Q=>∃ p ys,xs=[.ref p]/\(SqL X.K H p ys\/SqT X.K H p ys)/\Q (.int ys.length) H):=by
 intro pins s σ H xs us Q I r h
 obtain ⟨p,ys,rfl,hq,q⟩:=h
 obtain ⟨u,rfl,rx⟩:=cg r
 cases rx
 have hn:=fS
 rcases hq with hq | hq
 · obtain ⟨its,r',pl,hz⟩:=I.list hq
   have hlen:=r'.length
   exact Calls.call_len_list pl.isList (by simp only [zA7] <;> lia) ⟨.int ys.length,H,I.tok _,⟨s.toks+1,by rw [zA7,hlen]⟩,q⟩
 · obtain ⟨its,r',pl,hz⟩:=I.tuple hq
   have hlen:=r'.length
   exact len_tuple pl (by simp only [zA7] <;> lia) ⟨.int ys.length,H,I.tok _,⟨s.toks+1,by rw [zA7,hlen]⟩,q⟩
theorem call_tuple_of:CallR X (.type "tuple") (fun xs H Q=>∃ p ys,xs=[.ref p]/\((SqL X.K H p ys/\∀ l,H l=none->Q (.ref l) (upd H l (.tup ys)))\/(SqT X.K H p ys/\Q (.ref p) H))):=by
 intro pins s σ H xs us Q I r h
 obtain ⟨p,ys,rfl,h⟩:=h
 obtain ⟨u,rfl,rx⟩:=cg r
 cases rx
 rcases h with ⟨hq,q⟩ | ⟨hq,q⟩
 · obtain ⟨its,r',pl,hz⟩:=I.list hq
   have hlen:=r'.length
   refine call_tuple_list pl.isList (fun h' kp=>?_) (by simp only [zA7] <;> lia)
   have I1:Inv X pins σ H { s with heap:=h' }:=I.kept (t':=s.toks) kp
   have I2:Inv X pins σ (upd H h'.objs.size (.tup ys)) { s with heap:=h'.push { cls:=.type "tuple",data:=.seq its.toArray } }:=
    I1.laid (t':=s.toks) (fun b o e=>Heap.get?_push_of_some _ e) (zA1 _) (show ObjOk X.prog X.w _ _ _ (.tup ys) from ⟨hz,its,r',TupD.new _ _⟩)
   exact ⟨.ref h'.objs.size,_,I2,rfl,q _ (I1.hok.fresh (zA1 _))⟩
 · obtain ⟨its,r',pl,hz⟩:=I.tuple hq
   exact call_tuple_same pl ⟨.ref p,H,I,rfl,q⟩
def tyV (K:PySem.W.Frag) (T:String) (x:V) (H:Hp):Prop:=match x with
 | .str _=>T="str"
 | .int _=>T="int"
 | .ref p=>(T="list"/\∃ xs,SqL K H p xs)\/(T="tuple"/\∃ o,K.lookup p=some o/\o.cls=.type "tuple"/\o.dict=none) \/
  (T="dict"/\((∃ kvs,H p=some (.dK kvs))\/∃ kvs,H p=some (.dT kvs)))\/(T="set"/\∃ S n,H p=some (.set S n))\/(T="tuple"/\∃ xs,H p=some (.tup xs))
 | _=>False
theorem tyV_is {pins:List (Addr×Obj)} {σ:St} {H:Hp} {s:Shared} {T:String} {x:V} {v:Value} (I:Inv X pins σ H s) (r:RelV x v) (ty:tyV X.K T x H) :
 s.TypeIs v T/\∀ a,v=.ref a->∃ ob,s.heap.get? a=some ob/\ob.dict=none:=by
 cases x with
 | str z=>
   obtain ⟨t,rfl⟩:=r
   cases (show T="str" from ty)
   exact ⟨typeIs_str s z t,fun _ e=>nomatch e⟩
 | int i=>
   obtain ⟨t,rfl⟩:=r
   cases (show T="int" from ty)
   exact ⟨typeIs_int s i t,fun _ e=>nomatch e⟩
 | ref p=>
   cases r
   rcases ty with ⟨rfl,xs,hq⟩ | ⟨rfl,o,hk,hc,hd⟩ | ⟨rfl,hk⟩ | ⟨rfl,S,n,hk⟩ | ⟨rfl,xs,hk⟩
   · obtain ⟨its,_,pl,_⟩:=I.list hq
     refine ⟨pl.isList.typeIs,fun a e=>?_⟩
     cases e
     obtain ⟨o,n,e,c,hd,_⟩:=pl
     exact ⟨o,e,hd⟩
   · refine ⟨⟨o,I.kIn p o hk,hc⟩,fun a e=>?_⟩
     cases e
     exact ⟨o,I.kIn _ o hk,hd⟩
   · have z:∃ o,s.heap.get? p=some o/\o.ExactDict:=by
      rcases hk with ⟨kvs,hk⟩ | ⟨kvs,hk⟩
      · obtain ⟨_,_,_,_,o,_,_,e,ex,_⟩:=I.hok p _ hk
        exact ⟨o,e,ex⟩
      · obtain ⟨_,_,_,_,o,_,_,e,ex,_⟩:=I.hok p _ hk
        exact ⟨o,e,ex⟩
     obtain ⟨o,e,ex⟩:=z
     refine ⟨⟨o,e,ex.1⟩,fun a e2=>?_⟩
     cases e2
     exact ⟨o,e,ex.2.1⟩
   · obtain ⟨o,_,_,_,e,ex,_⟩:=I.hok p _ hk
     refine ⟨⟨o,e,ex.1⟩,fun a e2=>?_⟩
     cases e2
     exact ⟨o,e,ex.2.1⟩
   · obtain ⟨_,_,_,n,e⟩:=I.hok p _ hk
     refine ⟨⟨_,e,rfl⟩,fun a e2=>?_⟩
     cases e2
     exact ⟨_,e,rfl⟩
 | _=>exact False.elim ty
def tBM (K:PySem.W.Frag) (T:String) (r:V->List V->Hp->VK->Prop) (to:TE) (t:TA):TE:=fun σ H Q=>to σ H fun x H1=>tyV K T x H1/\t σ H1 fun xs H2=>r x xs H2 Q
variable {o e:Expr} {es:List Expr} {to:TE} {t:TA} {name:Str} {apos cpos:Pos} {T id:String} {r:V->List V->Hp->VK->Prop}
theorem pe_bm (pa:PlainAttrs T) (slot:Slot T name id) (hty:typeOf (.builtin id)=pure (.type "method_descriptor")) (hm:MtR X id r) (ho:PE X o to) (ha:PA X (e::es) t)
 (hbase:attributeBase o name X.env (eval o X.env)=eval o X.env:=by rfl)
 (hfew:((backTo cpos (starEach (e::es) X.env)).all (fun x=>!x.1)&&(backToKw cpos (keywordEach [] X.env)).all (fun x=>x.1.isSome)
   && decide ((e::es).length+([]:List Keyword).length+(if ([]:List Keyword).isEmpty then 0 else 1)<30))=true:=by rfl)
 (hline:(apos.endLine == cpos.line)=true:=by rfl) (hs:starEach (e::es) X.env=(false,eval e X.env)::starEach es X.env:=by rfl) (hplain:(backTo cpos (starEach es X.env)).any (·.1)=false:=by rfl) :
 PE X (.Call (.Attribute o name apos) (e::es) [] cpos) (tBM X.K T r to t):=by
 intro pins s σ H Q I h
 refine wpAny_Call_method_late hbase hfew hline rfl (thn (ho pins s σ H _ I h) fun v s1 ⟨x,H1,I1,r1,ty,q1⟩=>?_)
 obtain ⟨h1,h2⟩:=tyV_is I1 r1 ty
 refine ⟨T,id,pa,slot,hty,h1,h2,?_⟩
 have hA:=ha cpos pins s1 σ H1 _ I1 q1
 rw [hs] at hA ⊢
 refine Calls.callWith_builtin (by show (false||(backTo cpos (starEach es X.env)).any (·.1))=false;rw [hplain] <;> rfl) (Calls.evalArgs_plain ?_)
 exact thn hA fun us s2 ⟨vs,H2,I2,r2,q2⟩=>hm pins s2 σ H2 x vs v us Q I2 r1 r2 q2
/- xs.append(e),list.index on a module's tuple .. are MtR facts of 06m -/
end
def MtM (X:Cx) (id:String) (r:V->List V->Hp->VK->Prop):Prop:=
 ∀ (pins:List (Addr×Obj)) (s:Shared) (σ:St) (H:Hp) (x:V) (xs:List V) (v:Value) (us:List Value) (Q:VK),Inv X pins σ H s->RelV x v->Vals xs us->r x xs H Q ->
   wpAny (model X.prog X.w) X.A (call (.builtin id) (v::us)) (EP X pins σ Q) X.xe s
theorem Vals.one:∀ {x:V} {us:List Value},Vals [x] us->∃ u,us=[u]/\RelV x u
 | _,_,.cons r .nil=>⟨_,rfl,r⟩
theorem Vals.rep {xs:List V} {us:List Value} (h:Vals xs us):∀ k:Nat,Vals (List.replicate k xs).flatten (List.replicate k us).flatten
 | 0=>.nil
 | k+1=>by
   rw [zG4,zG4,zD5,zD5]
   exact Vals.append h (Vals.rep h k)
theorem dO (its:List Value):∀ (k:Nat) (acc:List Value),
 List.foldl (fun x1 x2=>x1++x2) acc.toArray (List.replicate k its.toArray)=(acc++(List.replicate k its).flatten).toArray
 | 0,acc=>by simp
 | k+1,acc=>by
   have e:acc.toArray++its.toArray=(acc++its).toArray:=by simp
   have e2:(acc++its)++(List.replicate k its).flatten=acc++(List.replicate (k+1) its).flatten:=by
    rw [zG4,zD5,zB6]
   rw [← e2,← dO its k (acc++its),← e,zG4,List.foldl_cons]
section
variable {X:Cx} {pins:List (Addr×Obj)} {σ:St} {H:Hp} {s:Shared} {l b:Addr} {xs ys zs:List V}
theorem Inv.lset {its its':List Value} {n:Nat} {f:Array Value->Array Value} {t':Nat} (I:Inv X pins σ H s) (hH:H l=some (.lst xs))
 (e:s.heap.get? l=some { cls:=.type "list",data:=.seq its.toArray n }) (hf:f its.toArray=its'.toArray) (hv:Vals ys its') (hz:ys.length<=sizeLine) :
 Inv X pins σ (upd H l (.lst ys)) { s with heap:=s.heap.update l (Obj.mapSeq f),toks:=t' }:=by
 have q:=PySem.IsL.update e f
 rw [hf] at q
 refine I.write (x:=l) (e:=l) (by rw [hH];exact trivial) (.inl rfl) (fun b' u hb hu=>(Heap.get?_update_other s.heap (Obj.mapSeq f) (Ne.symm hb)).trans hu) ⟨_,q⟩ ?_
 exact ⟨hz,its',_,hv,q⟩
theorem Inv.lnew {its:List Value} {t':Nat} (I:Inv X pins σ H s) (hv:Vals ys its) (hz:ys.length<=sizeLine) :
 Inv X pins σ (upd H s.heap.objs.size (.lst ys)) { s with heap:=s.heap.push { cls:=.type "list",data:=.seq its.toArray },toks:=t' }:=
 I.laid (fun _ _ q=>Heap.get?_push_of_some _ q) (zA1 _) ⟨hz,its,0,hv,Heap.get?_push_size _ rfl⟩
theorem Inv.fresh (I:Inv X pins σ H s):H s.heap.objs.size=none:=I.hok.fresh (zA1 _)
theorem Inv.lstM (I:Inv X pins σ H s) (hH:H l=some (.lst xs)):xs.length<=sizeLine/\∃ (its:List Value) (n:Nat),Vals xs its/\xs.length=its.length/\s.heap.get? l=some { cls:=.type "list",data:=.seq its.toArray n }:=by
 obtain ⟨z,its,n,r,e⟩:=I.hok l _ hH
 exact ⟨z,its,n,r,r.length,e⟩
theorem iD {n:Nat} (h:n<=sizeLine):Builtin.List.listTooLong n=false:=by
 unfold Builtin.List.listTooLong
 exact decide_eq_false (by lia)
end
section
variable {X:Cx}
def qS:V->List V->Hp->VK->Prop:=fun x vs H Q=>∃ l xs y,x=.ref l/\vs=[y]/\H l=some (.lst xs)/\xs.length<sizeLine/\Q .non (upd H l (.lst (xs++[y])))
theorem lr:MtM X "list.append" qS:=by
 intro pins s σ H x vs v us Q I rx rv h
 obtain ⟨l,xs,y,rfl,rfl,hH,hz,q⟩:=h
 cases rx
 obtain ⟨u,rfl,ru⟩:=rv.one
 obtain ⟨z,its,n,r,hl,e⟩:=I.lstM hH
 refine call_meets F.slot_list_append ⟨_,e,rfl⟩ F.entry_list_append (F.args_list_append_2 _ _) (PySem.list_append l its.toArray n u (by rw [zA7];lia)) ⟨e,?_⟩
 refine ⟨.non,_,I.lset (its':=its++[u]) hH e (by simp) (r.append (.cons ru .nil)) ?_,rfl,q⟩
 rw [zA5,List.length_singleton]
 lia
def qR:V->List V->Hp->VK->Prop:=fun x vs H Q=>∃ l b xs zs,x=.ref l/\vs=[.ref b]/\H l=some (.lst xs)/\H b=some (.lst zs)/\xs.length+zs.length<=sizeLine/\Q .non (upd H l (.lst (xs++zs)))
theorem lp:MtM X "list.extend" qR:=by
 intro pins s σ H x vs v us Q I rx rv h
 obtain ⟨l,b,xs,zs,rfl,rfl,hH,hB,hz,q⟩:=h
 cases rx
 obtain ⟨u,rfl,ru⟩:=rv.one
 cases ru
 obtain ⟨z,its,n,r,hl,e⟩:=I.lstM hH
 obtain ⟨z2,its2,n2,r2,hl2,e2⟩:=I.lstM hB
 have hsz:its.toArray.size+its2.toArray.size<=sizeLine:=by rw [zA7,zA7];lia
 have hlong:¬ (!its.toArray.isEmpty&&Builtin.List.listTooLong (its.toArray.size+its2.toArray.size))=true:=by
  rw [iD hsz,Bool.and_false]
  exact zC3
 refine call_meets F.slot_list_extend ⟨_,e,rfl⟩ F.entry_list_extend (F.args_list_extend_2 _ _)
  (AutoSeq1.list_extend_list_list_0 l its.toArray n b its2.toArray n2 hlong (by rw [zA7];lia) (by lia)) ⟨e,e2,?_⟩
 refine ⟨.non,_,I.lset (its':=its++its2) hH e (by simp) (r.append r2) ?_,rfl,q⟩
 rw [zA5]
 lia
def rCat:R2:=fun x y H Q=>∃ l b xs zs,x=.ref l/\y=.ref b/\H l=some (.lst xs)/\H b=some (.lst zs)/\xs.length+zs.length<=sizeLine/\∀ p,H p=none->Q (.ref p) (upd H p (.lst (xs++zs)))
theorem op_cat:OpR X (binaryOp .Add) rCat:=by
 intro pins s σ H x y v u Q I rx ry h
 obtain ⟨l,b,xs,zs,rfl,rfl,hH,hB,hz,q⟩:=h
 cases rx
 cases ry
 obtain ⟨z,its,n,r,hl,e⟩:=I.lstM hH
 obtain ⟨z2,its2,n2,r2,hl2,e2⟩:=I.lstM hB
 refine PySem.P.add_list e e2 ?_ (by rw [zA7,zA7];lia)
 have ea:its.toArray++its2.toArray=(its++its2).toArray:=by simp
 rw [ea]
 exact ⟨.ref _,_,I.lnew (t':=s.toks) (r.append r2) (by rw [zA5];lia),rfl,q _ I.fresh⟩
def rRep:R2:=fun x y H Q=>∃ l k xs,x=.ref l/\y=.int k/\H l=some (.lst xs)/\-(2 ^ 63)<=k/\k<2 ^ 63/\xs.length*k.toNat<=sizeLine /\
 ∀ p,H p=none->Q (.ref p) (upd H p (.lst (List.replicate k.toNat xs).flatten))
theorem gV {α:Type} (xs:List α) (k:Nat):(List.replicate k xs).flatten.length=k*xs.length:=by
 induction k with
 | zero=>simp
 | succ k ih=>rw [zG4,zD5,zA5,ih,Nat.succ_mul,Nat.add_comm]
theorem op_rep:OpR X (binaryOp .Mult) rRep:=by
 intro pins s σ H x y v u Q I rx ry h
 obtain ⟨l,k,xs,rfl,rfl,hH,h1,h2,hz,q⟩:=h
 cases rx
 obtain ⟨t,rfl⟩:=ry
 obtain ⟨z,its,n,r,hl,e⟩:=I.lstM hH
 have hlen:its.toArray.size*k.toNat<=sizeLine:=by rw [zA7,← hl];exact hz
 have hcap:¬ its.toArray.size*k.toNat > (2 ^ 63 - 1) / 8:=by
  have:(sizeLine:Nat)<=(2 ^ 63 - 1) / 8:=by decide
  lia
 have hfit:¬ (!Builtin.List.listFitsIndex k)=true:=by
  rw [fitsIndex_both h1 h2]
  exact zC3
 have hlong:¬ Builtin.List.listTooLong (its.toArray.size*k.toNat)=true:=by
  rw [iD hlen]
  exact zC3
 have hnew:List.foldl (fun x1 x2=>x1++x2) #[] (List.replicate (if its.toArray.isEmpty=true then 0 else k.toNat) its.toArray)=(List.replicate k.toNat its).flatten.toArray:=by
  have f0:∀ m:Nat,List.foldl (fun x1 x2=>x1++x2) #[] (List.replicate m its.toArray)=(List.replicate m its).flatten.toArray:=fun m=>by
   have:=dO its m []
   rw [List.nil_append] at this
   exact this
  rw [f0]
  cases its with
  | nil=>simp
  | cons a r'=>rw [if_neg (by simp)]
 refine wpAny_binaryOp_repeat_ref (T:="list") (U:="int") (by decide) ⟨_,e,rfl⟩ (fun s'=>typeIs_int s' k t) noFill_list_mul F.fills_int_mul F.slot_int_rmul repeat_list F.slot_int_index.lookup
  (call_meets F.slot_int_rmul (typeIs_int s k t) F.entry_int_rmul (F.args_int_rmul_2 _ _) (int___rmul___int_list k t l its.toArray n)
    ⟨e,rfl,⟨_,e,rfl⟩,call_meets F.slot_list_mul ⟨_,e,rfl⟩ F.entry_list_mul (F.args_list_mul_2 _ _) (AutoListH.list___mul___list_int_3 l its.toArray n k t hfit hcap hlong) ⟨e,?_⟩⟩)
 rw [hnew]
 exact ⟨.ref _,_,I.lnew (t':=s.toks) (r.rep k.toNat) (by rw [gV,Nat.mul_comm];exact hz),rfl,q _ I.fresh⟩
end
end L2
namespace Att
open PySem PySem.W PySem.Calls PyProof.Rows
theorem dM {P:Params} {h:Heap}:∀ (ns:List Int) (vs:List Value),WellAll P h vs (ns.map WData.int)->IntsAre vs ns:=by
 intro ns
 induction ns with
 | nil=>
   intro vs w
   rw [zF1] at w
   cases w
   exact .nil
 | cons n ns ih=>
   intro vs w
   rw [zA9] at w
   cases w with
   | cons a b=>
     cases a
     exact .cons _ _ (ih _ b)
theorem kC {l:OpenLaw} {n:Nat} (hn:l.most=some n) {P:Params} {h:Heap} {args:List WData} {vals:List Value}
 (hpre:l.row.toRowW.claim.pre args=true) (hwl:WellAll P h vals args) :
 ∃ a vs ns,vals=[Value.ref a]/\args=[WData.list (ns.map WData.int)]/\h.get? a=some { cls:=.type "list",data:=.seq vs.toArray }/\IntsAre vs ns/\ns.length<=n:=by
 have hsh:WShape.hasAll [] args [.list .int]=true:=(pre_splitW hpre).1
 have hc:l.pre.holds [] { args:=args }=true:=(pre_splitW hpre).2
 obtain ⟨d,r,rfl,h1,h2⟩:=hasAllW_cons hsh
 obtain rfl:=hasAllW_nil h2
 obtain ⟨xs,rfl,h3⟩:=hasW_list h1
 obtain ⟨ns,rfl⟩:=items_int h3
 have hlen:ns.length<=n:=by
  unfold OpenLaw.pre at hc
  have h4:(WTm.not (.lt (.lit (.int (n:Int))) (.len (.arg 0)))).holds [] { args:=[.list (ns.map .int)] }=true:=by
   have h4:=(holds_andW hc).1
   rw [hn] at h4
   exact h4
  have h5:=condW_of h4 (w_not (w_lt w_lit (w_len_list (w_arg rfl))))
  rw [zA0] at h5
  refine Nat.le_of_not_lt fun q=>?_
  have q':(n:Int)<((ns.length:Nat):Int):=by lia
  first
   | (rw [decide_eq_true q'] at h5;exact absurd h5 (by decide))
   | (simp at h5;lia)
 cases hwl with
 | cons w1 w2=>
   cases w2
   cases w1 with
   | list ho hall=>exact ⟨_,_,ns,rfl,rfl,ho,dM ns _ hall,hlen⟩
theorem kQ (l:OpenLaw) (args:List WData):l.row.toRowW.claim.post args (.bool true) args=true:=
 postW_of (r:=l.row.toRowW) (X:=(true == true))
  (show WShape.has [] (.bool true) .bool=true by first | rfl | decide | simp [WShape.has,WShape.arms,WShape.armsAll])
  (show (WTm.eq .res (.lit (.bool true))).value [] { args:=args,res:=some (.bool true),after:=args }=some (.bool (true == true)) from w_eq_bool (w_res rfl) w_lit) rfl
theorem attach_call {l:OpenLaw} {n:Nat} {q:Program} {loose:List Str} {XP:(Str->Option Value)->Heap->Prop} {YP:World->Heap->Prop} {d:DefRec}
 (hn:l.most=some n) (hdf:d.params.defaults=[])
 (call:∀ (w:World) (s₀ s₁:Shared) (mg mb:Str->Option Value) (fa:Addr) (o:Obj) (pm cd doc:Value) (a:Addr) (vs:List Value) (ns:List Int),
   Ground q loose [] XP w s₀ mg mb s₁.heap->YP w s₁.heap ->
   s₁.heap.get? fa=some o->o.data=.func (docDef d.name d.params d.body d.scope pm cd doc)->s₁.heap.CodeRec cd d.name->mg d.name=some (.ref fa) ->
   s₁.heap.get? a=some { cls:=.type "list",data:=.seq vs.toArray }->IntsAre vs ns->ns.length<=n->s₁.gens=#[] ->
   codeAny (model l.prog w) callerA (.call (.ref fa) ⟨[.ref a],[]⟩) (fun r s'=>r=.ok (.ret (.bool true))/\OldK s₁.heap s'.heap/\s'.os=s₁.os/\AllBare s'.gens) s₁) :
 WalkO q loose XP YP l.row.toRowW d [] (fun f vs=>PySem.call f vs):=by
 intro w s₀ s₁ mg mb G Y fa o pm cd doc dV kV ho hd hcd hD hmg hg args vals as hpre hlay hrd hwl hlo
 obtain rfl:dV=.none:=Dflts.none hD hdf
 obtain rfl:kV=.none:=Dflts.noKw hD
 obtain ⟨a,vs,ns,rfl,rfl,hobj,hints,hlen⟩:=kC hn hpre hwl
 refine enter_call (codeAny_mono (call w s₀ s₁ mg mb fa o pm cd doc a vs ns G Y ho (fd_plain hd) hcd hmg hobj hints hlen hg) fun r s' hq=>?_)
 obtain ⟨rfl,h2,h3,h4⟩:=hq
 exact ⟨.inl ⟨.bool true,.bool true,[],rfl,fun _=>rfl,.bool true,kQ l _,fun _=>⟨List.Pairwise.nil,fun _ hm=>(nomatch hm)⟩⟩,h2,h3,h4⟩
end Att
namespace L2
open PySem PySem.Spec PyProof.Rows
theorem dq:∀ {vs:List Value} {ns:List Int},IntsAre vs ns->Vals (ns.map V.int) vs
 | _,_,.nil=>.nil
 | _,_,.cons n t h=>.cons ⟨t,rfl⟩ (dq h)
def Only (H:Hp):Prop:=∀ b,H b=none\/∃ o xs,H b=some (.frz o (.lst xs))
theorem oC {P:Program} {w:World} {K:PySem.W.Frag} {mg mb:Str->Option Value} {CX:CXT} {k:Nat} {fa a:Addr} {fd:FuncData} {x:Str} {sp:Sp} {s₁:Shared} {vs:List Value} {ns:List Int}
 (KX:K.In s₁.heap) (hns:s₁.heap.Ns mainGlobals mg) (hb:s₁.heap.Ns builtinsNs mb) (hbb:∀ x:Str,x≠"__name__"->mb x=bootBuiltins x) (hlim:s₁.heap.NoLimit) (hg:s₁.gens=#[])
 (ha:s₁.heap.get? a=some { cls:=.type "list",data:=.seq vs.toArray }) (hi:IntsAre vs ns) (hl:ns.length<=sizeLine) (hr:Room k callerA)
 (F:∀ base:Heap,K.In base->base.Ns mainGlobals mg->FnOk P w K mg base CX k fa fd [x] sp) (hbind:∀ (s:Shared) (u:Value),BindsTo s fd ⟨[u],[]⟩ [(x,u)])
 (hsp:∀ H:Hp,Only H->SqL K H a (ns.map V.int)->sp [.ref a] H (fun v _=>v=.bl true) fun _ _ _=>False)
 (hCX:∀ H e s',CX [] H s₁ (fun _ _ _=>False) e s'->False) :
 codeAny (model P w) callerA (.call (.ref fa) ⟨[.ref a],[]⟩) (fun r s'=>r=.ok (.ret (.bool true))/\OldK s₁.heap s'.heap/\s'.os=s₁.os/\AllBare s'.gens) s₁:=by
 have rv:=dq hi
 have lenV:=hi.length
 -- from an abstract heap in which nothing but the script may be tracked
 have core:∀ H:Hp,Only H->SqL K H a (ns.map V.int)->HOk P w H s₁.heap->(∀ b,H b≠none->b=a)->(H a≠none->K.lookup a=none) ->
  codeAny (model P w) callerA (.call (.ref fa) ⟨[.ref a],[]⟩) (fun r s'=>r=.ok (.ret (.bool true))/\OldK s₁.heap s'.heap/\s'.os=s₁.os/\AllBare s'.gens) s₁:=by
  intro H hO hS hok hA hK
  have base_of:∀ {b:Addr} {o:Obj},s₁.heap.get? b=some o->H b=none->(oI s₁.heap H).get? b=some o:=fun e n=>oH e n
  have noA:∀ {b:Addr} {o:Obj} {es:Array DictEntry} {ep:Nat},s₁.heap.get? b=some o->o.data=.dict es ep->H b=none:=fun {b o es ep} e d=>by
   cases q:H b with
   | none=>rfl
   | some u=>
     have e':b=a:=hA b (by rw [q];simp)
     subst e'
     rw [ha] at e;cases e
     have d':Data.seq vs.toArray _=Data.dict es ep:=d
     cases d'
  have nsK:∀ {b:Addr} {m:Str->Option Value},s₁.heap.Ns b m->(oI s₁.heap H).Ns b m:=fun {b m} ⟨o,es,ep,e,d,r⟩=>⟨o,es,ep,base_of e (noA e d),d,r⟩
  have hKb:K.In (oI s₁.heap H):=fun b o e=>base_of (KX b o e) (by
   cases q:H b with
   | none=>rfl
   | some u=>
     have e':b=a:=hA b (by rw [q];simp)
     subst e'
     rw [hK (by rw [q];simp)] at e;cases e)
  have hM:Mod K mg (oI s₁.heap H):=⟨hKb,nsK hns,⟨mb,nsK hb,hbb⟩,let ⟨mc,h1,h2⟩:=hlim;⟨mc,nsK h1,h2⟩⟩
  have e0:Env0 P w K mg (oI s₁.heap H) callerA [] s₁ H:=⟨rfl,hM,fun b o e=>sj e,Nat.le_of_eq (lO _ _),trivial,fun b hb=>absurd (show b∈([]:List Addr) from hb) (by simp),hok,.of_eq hg⟩
  refine codeAny_mono ((F _ hKb (nsK hns)).run callerA [] s₁ H ⟨[.ref a],[]⟩ [.ref a] [.ref a] _ _ hr e0 (hbind s₁ (.ref a)) (.cons rfl .nil) (hsp H hO hS)) fun r s' h=>?_
  cases r with
  | error e=>exact (hCX H e s' h).elim
  | ok fl=>
    cases fl with
    | next=>exact False.elim h
    | brk=>exact False.elim h
    | cont=>exact False.elim h
    | ret u=>
      obtain ⟨v,H',os,bare,un,hok',r',q⟩:=h
      have q':v=.bl true:=q
      subst q'
      obtain rfl:u=Value.bool true:=r'
      refine ⟨rfl,OldK.of_keep fun b o e=>?_,os,bare⟩
      cases q:H b with
      | none=>exact un.keep b o e q (by intro z;exact absurd (show b∈([]:List Addr) from z) (by simp)) (by simp)
      | some u=>
        rcases hO b with z | ⟨ob,xs,z⟩
        · rw [q] at z;cases z
        · have z2:=un.frzs b ob _ z
          obtain ⟨e1,_⟩:=hok b _ z
          obtain ⟨e2,_⟩:=hok' b _ z2
          rw [e] at e1;cases e1
          exact e2
 cases hk:K.lookup a with
 | some o=>
   -- the script is one of the module's own objects
   have e:=KX a o hk
   rw [ha] at e
   cases e
   refine core (fun _=>none) (fun _=>.inl rfl) (.inr ⟨_,vs.toArray,_,hk,rfl,rfl,rfl,by rw [zA7,lenV];exact hl,by simpa using rv⟩) (fun b u z=>by have z':(none:Option HO)=some u:=z;cases z') (fun b z=>absurd rfl z) fun z=>absurd rfl z
 | none=>
   refine core (fun b=>if b=a then some (.frz { cls:=.type "list",data:=.seq vs.toArray } (.lst (ns.map V.int))) else none) (fun b=>?_) (.inl (.inr ⟨{ cls:=.type "list",data:=.seq vs.toArray },if_pos rfl⟩)) (fun b u z=>?_) (fun b z=>?_) fun _=>hk
   · by_cases hb:b=a
     · exact .inr ⟨_,_,if_pos hb⟩
     · exact .inl (if_neg hb)
   · by_cases hb:b=a
     · have z':=(if_pos hb).symm.trans z
       cases z'
       subst hb
       exact ⟨ha,by rw [zA0];exact hl,vs,_,rv,ha⟩
     · have z':=(if_neg hb).symm.trans z
       cases z'
   · by_cases hb:b=a
     · exact hb
     · exact absurd (if_neg hb) z
theorem walk_of {l:PySem.W.OpenLaw} {n k:Nat} {q:Program} {loose:List Str} {XP:(Str->Option Value)->Heap->Prop} {YP:World->Heap->Prop} {d:DefRec} {K:Params->PySem.W.Frag} {CX:World->CXT} {sp:World->Sp} {x:Str}
 (hn:l.most=some n) (hn2:n<=sizeLine) (hdf:d.params.defaults=[]) (hr:Room k callerA)
 (hY:∀ (w:World) (h:Heap),YP w h->(K w.params).In h)
 (F:∀ (w:World) (mg:Str->Option Value) (fa:Addr) (h:Heap),(K w.params).In h->h.Ns mainGlobals mg->mg d.name=some (.ref fa) ->
   ∃ fd:FuncData,(∀ (s:Shared) (u:Value),BindsTo s fd ⟨[u],[]⟩ [(x,u)]) /\
     ∀ base:Heap,(K w.params).In base->base.Ns mainGlobals mg->FnOk l.prog w (K w.params) mg base (CX w) k fa fd [x] (sp w))
 (hsp:∀ (w:World) (H:Hp) (a:Addr) (ns:List Int),ns.length<=n->Only H->SqL (K w.params) H a (ns.map V.int)->sp w [.ref a] H (fun v _=>v=.bl true) fun _ _ _=>False)
 (hCX:∀ (w:World) (H:Hp) (s:Shared) (e:Value) (s':Shared),CX w [] H s (fun _ _ _=>False) e s'->False) :
 PySem.W.WalkO q loose XP YP l.row.toRowW d [] (fun f vs=>PySem.call f vs):=by
 refine Att.attach_call hn hdf fun w s₀ s₁ mg mb fa o pm cd doc a vs ns G Y ho hd hcd hmg hobj hints hlen hg=>?_
 have KX:=hY w _ Y
 obtain ⟨fd,hb,hF⟩:=F w mg fa _ KX G.T.g hmg
 exact oC KX G.T.g G.T.b G.T.builtins G.T.nolimit hg hobj hints (zC8 hlen hn2) hr hF hb (fun H hO hS=>hsp w H a ns hlen hO hS) fun H e s'=>hCX w H s₁ e s'
end L2
/- THE LAST THEOREM (shape;LID,My.* are yours):
   My.Adr: a structure of the addresses that your layer names (classes,functions);My.Txt K t: a structure (Prop) of the equations over K;
   My.txt_mk:{K} {implicit addresses ..} (e1:nsIn K mainGlobals "law" = some (some (.ref f))) (e2:K.lookup f=some ⟨oc,od,.func (fnOf "law" "law" params body scope dV kV doc pm an cdv ct),sl⟩) (e3:codeIn K cdv "law" = true) .. : ∃ t,My.Txt K t
(the tactic k_is has no namespace: write k_is) -/
namespace L2
open PySem PySem.Spec PyProof.Rows
def av (s:Stmt):Arguments:=match s with
 | .FunctionDef _ a _ _ _ _ _ _ _ _=>a
 | _=>{ posonlyargs:=[],args:=[],vararg:=none,kwonlyargs:=[],kw_defaults:=[],kwarg:=none,defaults:=[] }
def au (s:Stmt):List Stmt:=match s with
 | .FunctionDef _ _ b _ _ _ _ _ _ _=>b
 | _=>[]
def ag (s:Stmt):Scope:=match s with
 | .FunctionDef _ _ _ _ _ _ sc _ _ _=>sc
 | _=>{ kind:=.function,names:=[],isGenerator:=false,isCoroutine:=false }
abbrev CX0:CXT:=fun _ _ _ _ _ _=>False
abbrev E0:XK:=fun _ _ _=>False
theorem pass0 {X:Cx}:mW CX0 X E0:=fun _ _ _ _ _ _ _ h=>h.elim
structure Fun (K:PySem.W.Frag) (x qual:Str) (st:Stmt) (f:Addr) (fd:FuncData):Prop where
 ex:∃ (oc:Value) (od:Option Addr) (kV doc pm:Value) (an:Option Addr) (cdv ct:Value) (osl:Array (Option Value)),
  fd=PySem.W.fnOf x qual (av st) (au st) (ag st) .none kV doc pm an cdv ct/\K.lookup f=some ⟨oc,od,.func fd,osl⟩/\PySem.W.codeIn K cdv qual=true
 kp:PySem.W.keepIn K (.ref f)=true
section
variable {P:Program} {w:World} {K:PySem.W.Frag} {mg:Str->Option Value} {base:Heap}
theorem Fun.ok {x qual:Str} {st:Stmt} {f:Addr} {fd:FuncData} {N ps:List Str} {k:Nat} {sp:Sp} (F:Fun K x qual st f fd) (S:FnScope N ps (ag st)) (len:∀ vs H Q E,sp vs H Q E->vs.length=ps.length)
 (hbody:∀ (cdv:Value) (A:Around) (outer:List Env) (s:Shared) (H:Hp) (vs:List V) (Q:VK) (E:XK),Room k (A.deeper (envOfC qual (ag st) s.heap.objs.size f cdv))->sp vs H Q E ->
   ∃ t,PSs (oT CX0 P w K mg base N qual (ag st) f cdv A outer s H E).nox (au st) t/\t { nx:=fun _ H'=>Q .non H',rt:=Q } (start N vs) H):FnOk P w K mg base CX0 (k+1) f fd ps sp:=by
 obtain ⟨oc,od,kV,doc,pm,an,cdv,ct,osl,rfl,lk,hcd⟩:=F.ex
 refine fn_of lk hcd S len fun A outer s H vs Q E hr hsp=>?_
 obtain ⟨t,h,q⟩:=hbody cdv A outer s H vs Q E hr hsp
 exact ⟨t,h.nox,q⟩
theorem Fun.okz {x qual:Str} {st:Stmt} {f:Addr} {fd:FuncData} {N ps:List Str} {k:Nat} {sp:Sp} (F:Fun K x qual st f fd) (S:FnScope N ps (ag st)) (len:∀ vs H Q E,sp vs H Q E->vs.length=ps.length)
 (hbody:∀ (cdv:Value) (A:Around) (outer:List Env) (s:Shared) (H:Hp) (vs:List V) (Q:VK) (E:XK),Room k (A.deeper (envOfC qual (ag st) s.heap.objs.size f cdv))->sp vs H Q E ->
   ∃ t,ZSs (oT CX0 P w K mg base N qual (ag st) f cdv A outer s H E).nox (au st) t/\t { nx:=fun _ H'=>Q .non H',rt:=Q } (start N vs) H):FnOk P w K mg base CX0 (k+1) f fd ps sp:=
 F.ok S len fun cdv A outer s H vs Q E hr h=>let ⟨t,h1,h2⟩:=hbody cdv A outer s H vs Q E hr h;⟨t,h1.p,h2⟩
theorem Fun.binds {x qual:Str} {st:Stmt} {f:Addr} {fd:FuncData} {ps:List Str} (F:Fun K x qual st f fd)
 (h:∀ (kV doc pm:Value) (an:Option Addr) (cdv ct:Value) (us:List Value),us.length=ps.length->bindArgs (PySem.W.fnOf x qual (av st) (au st) (ag st) .none kV doc pm an cdv ct) ⟨us,[]⟩=pure (ps.zip us)):Binds K fd ps []:=by
 obtain ⟨oc,od,kV,doc,pm,an,cdv,ct,osl,rfl,lk,hcd⟩:=F.ex
 exact .all (h kV doc pm an cdv ct)
theorem aI {x qual:Str} {st:Stmt} {f:Addr} {oc:Value} {od an:Option Addr} {osl:Array (Option Value)} {kV doc pm cdv ct:Value} (l:K.lookup f=some ⟨oc,od,.func (PySem.W.fnOf x qual (av st) (au st) (ag st) .none kV doc pm an cdv ct),osl⟩)
 (c:PySem.W.codeIn K cdv qual=true) (k:PySem.W.keepIn K (.ref f)=true):Fun K x qual st f (PySem.W.fnOf x qual (av st) (au st) (ag st) .none kV doc pm an cdv ct):=⟨⟨oc,od,kV,doc,pm,an,cdv,ct,osl,rfl,l,c⟩,k⟩
end
theorem hu_of {A:Around} {k:Nat} (hr:Room k A):A.units+1<cLine:=Nat.lt_of_le_of_lt (Nat.add_le_add_left (by decide:1<=64) _) hr.units
theorem aq {n:Nat} (h:n<=1000):n<sizeLine:=Nat.lt_of_le_of_lt h (by decide)
theorem iteF {A B:Prop} (h:B):if false=true then A else B:=by
 rw [if_neg zC3]
 exact h
theorem iteT {A B:Prop} (h:A):if true=true then A else B:=by
 rw [if_pos rfl]
 exact h
def Same (H H':Hp):Prop:=∀ b o,H b=some o->H' b=some o
theorem Same.refl (H:Hp):Same H H:=fun _ _ h=>h
theorem Same.trans {H H1 H2:Hp} (a:Same H H1) (b:Same H1 H2):Same H H2:=fun c o h=>b c o (a c o h)
end L2
set_option maxHeartbeats 4000000
namespace L2
open PySem PySem.Spec PyProof.Rows
def cU (env:Env):List (Str×NameKind)->List (Str×Addr)->List (Str×Addr)
 | [],cs=>cs
 | y::r,cs=>cU env r (if (y.2 == .free)=true then (y.1,(env.cells.lookup y.1).getD 0)::cs else cs)
theorem cV {env:Env} {scope:Scope} (h:∀ y∈scope.names,y.2=.free->∃ c,env.cells.lookup y.1=some c):closureFor scope env=pure (cU env scope.names []):=by
 simp only [closureFor]
 generalize scope.names=ns at h
 have go:∀ (ns:List (Str×NameKind)) (cs:List (Str×Addr)),(∀ y∈ns,y.2=.free->∃ c,env.cells.lookup y.1=some c) ->
  (forIn ns cs fun (x:Str×NameKind) (r:List (Str×Addr))=>(if (x.2 == NameKind.free)=true then do let a ← cellOf env x.1;pure (ForInStep.yield ((x.1,a)::r)) else pure (ForInStep.yield r):Sem (ForInStep (List (Str×Addr)))))=(pure (cU env ns cs):Sem (List (Str×Addr))):=by
  intro ns
  induction ns with
  | nil=>intro cs _;rfl
  | cons y r ih=>
    intro cs hy
    rw [List.forIn_cons]
    have hr:=fun z hz=>hy z (zB4 _ hz)
    by_cases hf:(y.2 == NameKind.free)=true
    · obtain ⟨c,hc⟩:=hy y zA8 (by simpa using hf)
      have e:cellOf env y.1=pure c:=by unfold cellOf;rw [hc]
      rw [if_pos hf,e]
      refine Eq.trans (ih ((y.1,c)::cs) hr) (congrArg pure ?_)
      show _=cU env r (if (y.2 == .free)=true then (y.1,(env.cells.lookup y.1).getD 0)::cs else cs)
      rw [if_pos hf,hc]
      rfl
    · rw [if_neg hf]
      refine Eq.trans (ih cs hr) (congrArg pure ?_)
      show _=cU env r (if (y.2 == .free)=true then (y.1,(env.cells.lookup y.1).getD 0)::cs else cs)
      rw [if_neg hf]
 have e:=go ns [] h
 exact (congrArg (fun (t:Sem (List (Str×Addr)))=>t >>= fun cs=>pure cs) e).trans rfl
theorem eI {env:Env}:∀ (ns:List (Str×NameKind)) (cs:List (Str×Addr)),(∀ y∈ns,y.2=.free->∃ c,env.cells.lookup y.1=some c)->(∀ n c,cs.lookup n=some c->env.cells.lookup n=some c) ->
 ∀ n c,(cU env ns cs).lookup n=some c->env.cells.lookup n=some c
 | [],cs,_,hc=>hc
 | y::r,cs,hy,hc=>by
   refine eI r _ (fun z hz=>hy z (zB4 _ hz)) fun n c e=>?_
   by_cases hf:(y.2 == NameKind.free)=true
   · rw [if_pos hf,zF2] at e
     obtain ⟨c',hc'⟩:=hy y zA8 (by simpa using hf)
     cases hn:n == y.1 with
     | true=>
       rw [hn] at e
       have en:n=y.1:=by simpa using hn
       rw [hc'] at e
       rw [en,hc']
       exact e
     | false=>rw [hn] at e;exact hc n c e
   · rw [if_neg hf] at e
     exact hc n c e
theorem dR {env:Env}:∀ (ns:List (Str×NameKind)) (cs:List (Str×Addr)) (n:Str),((n,NameKind.free)∈ns\/∃ c,cs.lookup n=some c)->∃ c,(cU env ns cs).lookup n=some c
 | [],cs,n,h=>by
   rcases h with h | h
   · cases h
   · exact h
 | y::r,cs,n,h=>by
   refine dR r _ n ?_
   rcases h with h | ⟨c,h⟩
   · rcases zB2.mp h with e | h
     · refine .inr ⟨(env.cells.lookup n).getD 0,?_⟩
       have e2:y.2=.free:=by rw [← e]
       have e1:y.1=n:=by rw [← e]
       rw [if_pos (by rw [e2];rfl),e1,zF2]
       simp
     · exact .inl h
   · refine .inr ?_
     by_cases hf:(y.2 == NameKind.free)=true
     · rw [if_pos hf,zF2]
       cases hn:n == y.1 with
       | true=>exact ⟨_,rfl⟩
       | false=>exact ⟨c,h⟩
     · rw [if_neg hf];exact ⟨c,h⟩
def pz (env:Env) (y:Str×NameKind):Str×NameKind:=if (y.2 == NameKind.free&&env.scope.kind == .function&&env.kindOf y.1 == some .cell)=true then (y.1,NameKind.cell) else (y.1,y.2)
theorem eX {env:Env}:∀ {names:List (Str×NameKind)} {x:Str} {k':NameKind},(names.map (pz env)).lookup x=some k' ->
 ∃ k,(x,k)∈names/\names.lookup x=some k/\(k'=k\/(k=.free/\k'=.cell))
 | [],_,_,h=>by simp at h
 | (n,k)::r,x,k',h=>by
   have ih:=@eX env r x k'
   rw [zA9] at h
   unfold pz at h
   dsimp only at h
   cases hx:x == n with
   | true=>
     have en:x=n:=by simpa using hx
     refine ⟨k,by rw [en];exact zA8,by simp [zF2,hx],?_⟩
     by_cases hc:(k == NameKind.free&&env.scope.kind == .function&&env.kindOf n == some .cell)=true
     · rw [if_pos hc,zF2,hx] at h
       have hk:k=.free:=by
        have:=(Bool.and_eq_true_iff.mp (Bool.and_eq_true_iff.mp hc).1).1
        simpa using this
       exact .inr ⟨hk,by cases h;rfl⟩
     · rw [if_neg hc,zF2,hx] at h
       exact .inl (by cases h;rfl)
   | false=>
     have h':(r.map (pz env)).lookup x=some k':=by
      by_cases hc:(k == NameKind.free&&env.scope.kind == .function&&env.kindOf n == some .cell)=true
      · rw [if_pos hc,zF2,hx] at h;exact h
      · rw [if_neg hc,zF2,hx] at h;exact h
     obtain ⟨k,h1,h2,h3⟩:=ih h'
     exact ⟨k,zB4 _ h1,by rw [zF2,hx];exact h2,h3⟩
theorem pq {env:Env}:∀ {names:List (Str×NameKind)} {x:Str} {k:NameKind},names.lookup x=some k->∃ k',(names.map (pz env)).lookup x=some k'
 | [],_,_,h=>by simp at h
 | (n,k0)::r,x,k,h=>by
   have ih:=@pq env r x k
   rw [zA9]
   have e1:(pz env (n,k0)).1=n:=by unfold pz;split <;> rfl
   have e0:pz env (n,k0)=(n,(pz env (n,k0)).2):=by rw [Prod.ext_iff];exact ⟨e1,rfl⟩
   rw [e0,zF2]
   cases hx:x == n with
   | true=>exact ⟨_,rfl⟩
   | false=>
     rw [zF2,hx] at h
     exact ih h
def aT (X:Cx) (nv:List Str) (ix:List (Str×Nat)) (scope:Scope) (C:Addr) (s₀:Shared) (H₀:Hp) (fp:List Addr):Cx:=
 { X with N:=nv++ix.map (·.1),s₀:=s₀,H₀:=H₀,env:=compEnvC scope (cU X.env scope.names []) C X.env,outer:=X.stack,stack:=X.stack,ex:=fp,fn:=fun _=>false,pn:=[],xe:=fun _ _=>False }
def frV (σ:St) (ix:List (Str×Nat)):St:=ix.map fun p=>(σ[p.2]?).join
def st0 (nv:List Str) (ix:List (Str×Nat)) (σ:St):St:=nv.map (fun _=>none)++frV σ ix
structure CompOk (X:Cx) (nv:List Str) (ix:List (Str×Nat)) (scope:Scope):Prop where
 kind:scope.kind=.function
 nocell:∀ y∈scope.names,y.2≠.cell
 names:∀ y∈scope.names,y.2=.local->scope.names.lookup y.1=some .local
 free:(scope.names.all fun y=>!(y.2 == NameKind.free)||(X.env.kindOf y.1 == some NameKind.cell||X.env.kindOf y.1 == some NameKind.free))=true
 ix:(ix.all fun p=>(scope.names.lookup p.1 == some NameKind.free)&&(X.N[p.2]? == some p.1))=true
section
variable {X:Cx} {nv:List Str} {ix:List (Str×Nat)} {scope:Scope} {pins:List (Addr×Obj)} {σ:St} {H:Hp} {s:Shared}
theorem CompOk.fk (co:CompOk X nv ix scope) {y:Str×NameKind} (hy:y∈scope.names) (hf:y.2=.free):X.env.kindOf y.1=some .cell\/X.env.kindOf y.1=some .free:=by
 have q:=List.all_eq_true.mp co.free y hy
 rw [hf] at q
 simpa using q
theorem CompOk.cells (co:CompOk X nv ix scope) (ok:X.Ok):∀ y∈scope.names,y.2=.free->∃ c,X.env.cells.lookup y.1=some c:=fun y hy hf=>ok.has y.1 (co.fk hy hf)
theorem CompOk.look (co:CompOk X nv ix scope) (ok:X.Ok) {n:Str} {c:Addr} (h:(cU X.env scope.names []).lookup n=some c):X.env.cells.lookup n=some c:=
 eI _ _ (co.cells ok) (fun _ _ e=>by cases e) n c h
theorem CompOk.ixp (co:CompOk X nv ix scope) {p:Str×Nat} (hp:p∈ix):scope.names.lookup p.1=some .free/\X.N[p.2]? = some p.1:=by
 have q:=Bool.and_eq_true_iff.mp (List.all_eq_true.mp co.ix p hp)
 exact ⟨by simpa using q.1,by simpa using q.2⟩
theorem cS {α:Type}:∀ {l:List (Str×α)} {n:Str} {k:α},l.lookup n=some k->(n,k)∈l
 | [],_,_,h=>by cases h
 | (m,j)::r,n,k,h=>by
   rw [zF2] at h
   cases e:n == m with
   | true=>rw [e] at h;cases h;have:n=m:=by simpa using e
           rw [this];exact zA8
   | false=>rw [e] at h;exact zB4 _ (cS h)
theorem sR (co:CompOk X nv ix scope) (I:Inv X pins σ H s) {fp:List Addr} {C:Addr} (hC:s.heap.objs.size<=C) (hf:∀ b∈fp,de X pins H b) (hlt:∀ b∈fp,b<s.heap.objs.size):(aT X nv ix scope C s H fp).Ok where
 mod:=I.mod
 kind:=co.kind
 glob:=I.ok.glob
 blt:=I.ok.blt
 above:=hC
 inj:=fun x y c a b=>I.ok.inj x y c (co.look I.ok a) (co.look I.ok b)
 has:=fun x hk=>by
  have z:∃ k,(x,k)∈scope.names/\k=.free:=by
   rcases hk with hk | hk
   · obtain ⟨k,h1,_,h3⟩:=eX (env:=X.env) (names:=scope.names) hk
     rcases h3 with h3 | ⟨h3,_⟩
     · exact absurd h3.symm (co.nocell _ h1)
     · exact ⟨k,h1,h3⟩
   · obtain ⟨k,h1,_,h3⟩:=eX (env:=X.env) (names:=scope.names) hk
     rcases h3 with h3 | ⟨_,h3⟩
     · exact ⟨k,h1,h3.symm⟩
     · cases h3
  obtain ⟨k,h1,rfl⟩:=z
  exact dR _ _ x (.inl h1)
 cab:=fun x c h _=>by cases h
 hd:=I.ok.hd
 frames:=I.ok.frames
 stk:=.inl rfl
 exf:=fun b hb=>⟨zB8 (zD7 (hlt b hb) hC),fun x c e=>(hf b hb).2.2.2.2.1 x c (co.look I.ok e)⟩
 bs:=fun b o e=>I.bs b o e
 bsz:=zC8 I.ok.bsz I.sz
 noex:=fun b o e hb=>by
  rcases (hf b hb).2.2.2.1 with z | z
  · exact I.ok.noex b o e z
  · exact absurd (zD7 (Heap.lt_size e) (zC8 I.ok.bsz z)) (zG8 _)
 exfs:=fun b hb hs=>by
  rcases zB2.mp (I.stkSub b hs) with e | h
  · exact (hf b hb).2.1 e
  · exact (hf b hb).2.2.1 h
 funs:=I.stack
 frf:=I.stkFree
abbrev bV (its:List Value) (k:Nat):Obj:={ cls:=.type "list",data:=.seq its.toArray k }
theorem lJ {o:Option (Option V)} {v:V} (h:o.join=some v):o=some (some v):=by
 cases o with
 | none=>cases h
 | some o'=>exact congrArg some h
theorem gh (co:CompOk X nv ix scope) (I:Inv X pins σ H s) {fp:List Addr} {h₁:Heap} {tk:Nat} {m:Str->Option Value} (hf:∀ b∈fp,de X pins H b) (hlt:∀ b∈fp,b<s.heap.objs.size)
 (hn:h₁.Ns (s.heap.objs.size+1) m) (old:∀ b o,s.heap.get? b=some o->h₁.get? b=some o) (hD:h₁.get? s.heap.objs.size=some (bV [] 0)) :
 Inv (aT X nv ix scope (s.heap.objs.size+1) s H fp) [(s.heap.objs.size,bV [] 0)] (st0 nv ix σ) H { s with heap:=h₁,toks:=tk } where
 ok:=sR co I (Nat.le_succ _) hf hlt
 os:=rfl
 bare:=I.bare
 base:=Un.kept old
 loc:=by
  refine ⟨m,hn,fun i x v e1 e2 hv=>?_⟩
  obtain ⟨m₀,_,hl⟩:=I.loc
  have e1':(nv++ix.map (·.1))[i]? = some x:=e1
  unfold st0 at e2
  by_cases hi:i<nv.length
  · rw [List.getElem?_append_left (by rw [zA0];exact hi),List.getElem?_map] at e2
    cases q:nv[i]? with
    | none=>rw [q] at e2;cases e2
    | some z=>rw [q] at e2;cases e2
  · have hi':nv.length<=i:=Nat.not_lt.mp hi
    rw [List.getElem?_append_right hi',List.getElem?_map] at e1'
    rw [List.getElem?_append_right (by rw [zA0];exact hi'),zA0] at e2
    unfold frV at e2
    rw [List.getElem?_map] at e2
    cases q:ix[i - nv.length]? with
    | none=>rw [q] at e1';cases e1'
    | some p=>
      rw [q] at e1' e2
      have hp:p∈ix:=zG7 q
      have ex:p.1=x:=Option.some.inj e1'
      have ev:σ[p.2]? = some (some v):=lJ (Option.some.inj e2)
      obtain ⟨f1,f2⟩:=co.ixp hp
      have hk:=co.fk (cS f1) rfl
      obtain ⟨u,r,l⟩:=hl p.2 p.1 v f2 ev (hk.elim (fun z=>.inr (.inl z)) fun z=>.inr (.inr z))
      refine ⟨u,r,.inr ⟨?_,?_⟩⟩
      · obtain ⟨k',hk'⟩:=pq (env:=X.env) f1
        obtain ⟨k,h1,h2,h3⟩:=eX hk'
        rw [f1] at h2
        cases h2
        rw [← ex]
        rcases h3 with h3 | ⟨_,h3⟩
        · exact .inr (hk'.trans (congrArg some h3))
        · exact .inl (hk'.trans (congrArg some h3))
      · obtain ⟨c,hc⟩:=dR (env:=X.env) scope.names [] p.1 (.inl (cS f1))
        refine ⟨c,by rw [← ex];exact hc,?_⟩
        have hc':=co.look I.ok hc
        rcases l with ⟨z,_⟩ | ⟨_,c',z1,o,z2,z3⟩
        · have z':X.env.kindOf p.1=some .local:=z
          rcases hk with hk | hk
          · have hk':X.env.kindOf p.1=some .cell:=hk
            rw [z'] at hk';cases hk'
          · have hk':X.env.kindOf p.1=some .free:=hk
            rw [z'] at hk';cases hk'
        · rw [hc'] at z1
          cases z1
          exact ⟨o,old _ _ z2,z3⟩
 cell:=fun x c e=>by
  obtain ⟨v,o,h1,h2⟩:=I.cell x c (co.look I.ok e)
  exact ⟨v,o,old _ _ h1,h2⟩
 free:=I.hok.fresh (Nat.le_succ _)
 freeC:=fun x c e=>I.freeC x c (co.look I.ok e)
 pin:=fun p hp=>by
  have e:p=(s.heap.objs.size,bV [] 0):=by simpa [aT] using hp
  subst e
  refine ⟨hD,I.hok.fresh (zA1 _),zB8 (zG1 _),fun hb=>?_,fun v z=>by cases z⟩
  rcases zB2.mp (I.stkSub _ hb) with e | h
  · exact absurd I.lt (by rw [← e];exact zG8 _)
  · exact I.nofs (zA1 _) h
 hok:=I.hok.kept old
 len:=by
  show (nv.map (fun _=>none)++frV σ ix).length=(nv++ix.map (·.1)).length
  unfold frV
  simp
theorem Inv.track {D:Addr} {ys its:List _} {k:Nat} (I:Inv X pins σ H s) (rv:Vals ys its) (hz:ys.length<=sizeLine) (e:s.heap.get? D=some (bV its k)) (hn:H D=none) (hd:de X pins H D):Inv X pins σ (upd H D (.lst ys)) s:=by
 have nD:∀ b u,H b=some u->b≠D:=fun b u q z=>by rw [z,hn] at q;cases q
 obtain ⟨h1,h2,h3,h4,h5,h6⟩:=hd
 refine I.step (s:=s) (h':=s.heap) (g':=s.gens) (t':=s.toks) (d':=s.drawn) (ch:=[D]) (fun b hb=>?_) (fun b o _ _ _ q _=>q) (fun b o _ _ _ q _=>⟨o.slots,q⟩) (fun b o hb _ q=>?_) (fun b o _ q=>⟨o,q⟩)
  (fun b xs q=>by rw [ao (nD b _ q)];exact q) (fun b o u q=>by rw [ao (nD b _ q)];exact q) (fun b ps q=>⟨#[],by rw [ao (nD b _ q),q];simp⟩) (fun m hm=>hm) (fun b u q=>?_) I.bare
 · have e:b=D:=by simpa using hb
   subst e
   exact ⟨h4,h2,h5,h6⟩
 · rw [ao (fun z=>hb (by simp [z]))];exact q
 · by_cases hb:b=D
   · subst hb
     rw [ad] at q
     cases q
     exact ⟨hz,its,k,rv,e⟩
   · rw [ao hb] at q
     exact (I.hok b u q).stay (fun c v _ r=>r) (fun c r=>by rw [ao (nD c _ r)];exact r) fun c xs r=>by rw [ao (nD c _ r)];exact r
theorem md {ps2:List (Addr×Obj)} {σ2:St} {H':Hp} {s':Shared} {fp:List Addr} {C:Addr} (I:Inv X pins σ H s) (hf:∀ b∈fp,de X pins H b) (Ic:Inv (aT X nv ix scope C s H fp) ps2 σ2 H' s'):Inv X pins σ H' s':=
 I.call' (ch:=fp) Ic.os Ic.base Ic.hok Ic.bare fun b hb=>⟨(hf b hb).2.2.2.1,(hf b hb).2.1,(hf b hb).2.2.2.2.1,(hf b hb).2.2.2.2.2⟩
def PIf (X:Cx) (ifs:List Expr) (t:TT):Prop:=
 ∀ (pins:List (Addr×Obj)) (s:Shared) (σ:St) (H:Hp) (Q:Bool->Hp->Prop),Inv X pins σ H s->t σ H Q ->
   wpAny (model X.prog X.w) X.A (forIn ifs true fun c r=>if r=true then do let ok ← isTrue c X.env (eval c X.env);pure (ForInStep.yield ok) else pure (ForInStep.yield r)) (TP X pins σ Q) X.xe s
@[irreducible] def ZIf (X:Cx) (ifs:List Expr) (t:TT):Prop:=PIf X ifs t
def tYes:TT:=fun _ H Q=>Q true H
theorem rF:PIf X [] tYes:=fun _ _ _ H _ I h=>wpAny_tests_nil ⟨H,I,h⟩
theorem aH:ZIf X [] tYes:=by with_unfolding_all exact rF
theorem rE {c:Expr} {t:TT} (h:PT X c t):PIf X [c] t:=fun pins s σ H Q I q=>wpAny_tests_one (h pins s σ H Q I q)
theorem qe {c:Expr} {t:TT} (h:ZT X c t):ZIf X [c] t:=by with_unfolding_all exact rE h
end
section
variable {prog:Program} {w:World} {A:Around} {E:Value->Shared->Prop} {R:Result->Shared->Prop} {s:Shared}
theorem gW {elt target iter:Expr} {ifs:List Expr} {scope:Scope} {pos:Pos} {it acc:Value} {env:Env} (I:Nat->Shared->Prop)
 (turn:∀ n s,I n s->wpAny (model prog w) A (pyNext it) (fun r s₁=>match r with
   | none=>R (.ok .next) s₁
   | some v=>wpAny (model prog w) A (letOwnedTupleGo target it v) (fun _ s₁'=>wpAny (model prog w) A (assign target env v) (fun _ s₂=>
    wpAny (model prog w) A (forIn ifs true fun c r=>if r=true then do let ok ← isTrue c env (eval c env);pure (ForInStep.yield ok) else pure (ForInStep.yield r)) (fun ok s₃=>
     if ok=true then wpAny (model prog w) A (eval elt env) (fun x s₄=>
      wpAny (model prog w) A (call (.builtin "list.append") [acc,x]) (fun _ s₅=>∃ m,m<n/\I m s₅) (fun _ _=>False) s₄) (fun _ _=>False) s₃
     else ∃ m,m<n/\I m s₃) (fun _ _=>False) s₂) (fun _ _=>False) s₁') (fun _ _=>False) s₁) (fun _ _=>False) s)
 (n:Nat) (h:I n s) :
 codeAny (model prog w) A (.compLoop (.ListComp elt [⟨target,iter,ifs,0⟩] scope pos) 0 it acc env) R s:=by
 refine codeAny_loop rfl I (fun n s hI=>?_) n h
 show wpAny _ A ((compTurn (.ListComp elt [⟨target,iter,ifs,0⟩] scope pos) 0 it acc env).onRaise (fun x=>do noteFrame x env;theTreesLotGoes x)) _ _ s
 refine wpAny_noted ?_
 rw [compTurn_list]
 refine wpAny_bind (wpAny_standAt (wpAny_bind (wpAny_mono (turn n s hI) (fun r s₁ h₁=>?_) fun _ _ h'=>h'.elim)))
 cases r with
 | none=>exact wpAny_pure h₁
 | some v=>
   refine wpAny_bind (wpAny_mono h₁ (fun _ s₁' h₁'=>?_) fun _ _ h'=>h'.elim)
   refine wpAny_bind (wpAny_mono h₁' (fun _ s₂ h₂=>wpAny_bind (wpAny_mono h₂ (fun ok s₃ h₃=>?_) fun _ _ h'=>h'.elim)) fun _ _ h'=>h'.elim)
   cases ok with
   | false=>exact wpAny_pure ⟨rfl,h₃⟩
   | true=>
     exact wpAny_bind (wpAny_bind (wpAny_mono h₃ (fun x s₄ h₄=>wpAny_bind (wpAny_mono h₄ (fun _ s₅ h₅=>wpAny_pure (wpAny_pure ⟨rfl,h₅⟩)) fun _ _ h'=>h'.elim)) fun _ _ h'=>h'.elim))
end
section
variable {X:Cx} {nv:List Str} {ix:List (Str×Nat)} {scope:Scope} {pins:List (Addr×Obj)} {σ:St} {H:Hp} {s:Shared} {elt tg iter:Expr} {ifs:List Expr} {pos:Pos}
def Kp (σ σ2:St):Prop:=σ.length=σ2.length/\∀ (i:Nat) v,σ[i]? = some (some v)->σ2[i]? = some (some v)
def KpG (nv:List Str) (g:TG):Prop:=∀ (fr:St) (v:V) (H:Hp) (Q:St->Hp->Prop),g v (nv.map (fun _=>none)++fr) H Q->g v (nv.map (fun _=>none)++fr) H fun σ2 H2=>Kp (nv.map (fun _=>none)++fr) σ2/\Q σ2 H2
theorem aM {x:Str}:KpG [x] (da 0):=fun fr v H Q h=>by
 refine ⟨⟨by simp,fun i w e=>?_⟩,h⟩
 cases i with
 | zero=>cases e
 | succ i=>exact e
def p8 (nv:List Str) (ix:List (Str×Nat)) (g:TG) (ti:TT) (te:TE) (σ:St) (J:It) (Fin:List V->Hp->Prop) (H1:Hp):Prop:=
 ∃ W:Nat->Nat->List V->Hp->Prop,(∃ m,W 0 m [] H1)/\∀ i m ys H,W i m ys H ->
   (J.stop i H/\Fin ys H)\/(J.go i H/\ys.length<sizeLine/\∃ N:List V->Hp->Prop,(∀ ys' H',N ys' H'->∃ m',m' < m/\W (i+1) m' ys' H') /\
     ∀ x H',J.yld i H x H'->g x (st0 nv ix σ) H' fun σ2 H2=>ti σ2 H2 fun b H3=>if b=true then te σ2 H3 fun y H4=>N (ys++[y]) H4 else N ys H3)
theorem iY {J:It} {fp:List Addr} {it:Addr} {tn:Nat->Heap->Prop} {g:TG} {ti:TT} {te:TE} {Fin:List V->Hp->Prop} {E:Value->Shared->Prop} {RR:Value->Addr->Result->Shared->Prop}
 (co:CompOk X nv ix scope) (hc:X.calm=true) (I:Inv X pins σ H s) (T:Turn X.prog X.w X.K tg J fp it tn) (st:tn 0 s.heap) (hf:∀ b∈fp,de X pins H b)
 (kg:KpG nv g) (hg:∀ C s₀ H₀ fp,PG (aT X nv ix scope C s₀ H₀ fp) tg g) (hi:∀ C s₀ H₀ fp,PIf (aT X nv ix scope C s₀ H₀ fp) ifs ti) (he:∀ C s₀ H₀ fp,PE (aT X nv ix scope C s₀ H₀ fp) elt te)
 (q:p8 nv ix g ti te σ J Fin H)
 (fin:∀ D C s' H' ys,Inv X pins σ (upd H' D (.lst ys)) s'->H' D=none->Fin ys H'->(∃ m,s'.heap.Ns C m)->de X pins (upd H' D (.lst ys)) C->RR (.ref D) C (.ok .next) s') :
 wpAny (model X.prog X.w) X.A (newList []) (fun acc s₃=>wpAny (model X.prog X.w) X.A (newFunctionEnv scope X.env.globals (cU X.env scope.names []) [] X.env.qual none .none (some X.env)) (fun cenv s₄=>
  codeAny (model X.prog X.w) X.A (.compStart (.ListComp elt [⟨tg,iter,ifs,0⟩] scope pos) 0 (.ref it) acc { cenv with scope:=relabel scope X.env }) (RR acc cenv.locals) s₄) E s₃) E s:=by
 obtain ⟨W,⟨m0,w0⟩,turn⟩:=q
 refine wpAny_newObj_type (wpAny_newFunctionEnv co.nocell (by intro y hy;simp at hy) (fun h₁ hns₁ hsb₁=>?_) co.kind)
 dsimp only at hns₁ hsb₁ ⊢
 generalize hH2:s.heap.push { cls:=.type "list",dict:=none,data:=.seq ([]:List Value).toArray }=H2 at hns₁ hsb₁ ⊢
 have hC:H2.objs.size=s.heap.objs.size+1:=by rw [← hH2,Heap.size_push]
 rw [hC] at hns₁ hsb₁ ⊢
 have hDC:s.heap.objs.size≠s.heap.objs.size+1:=zB8 (zG1 _)
 have below:∀ b,b<s.heap.objs.size->b≠s.heap.objs.size+1/\b≠s.heap.objs.size:=fun b hb=>⟨zB8 (zH8 hb),zB8 hb⟩
 have old:∀ b o,s.heap.get? b=some o->h₁.get? b=some o:=fun b o e=>hsb₁.extBut b o (below b (Heap.lt_size e)).1 (Heap.get?_push_of_some _ (hH2▸Heap.get?_push_of_some _ e))
 have hacc:h₁.get? s.heap.objs.size=some (bV [] 0):=hsb₁.extBut _ _ hDC (Heap.get?_push_of_some _ (hH2▸Heap.get?_push_size _ rfl))
 have hlt:∀ b∈fp,b<s.heap.objs.size:=fun b hb=>by
  obtain ⟨o,e,_⟩:=T.obj 0 _ st b hb
  exact Heap.lt_size e
 have I₁:=fun tk=>gh (tk:=tk) co I hf hlt hns₁ old hacc
 have st₁:tn 0 h₁:=T.keep 0 _ _ st fun b _ o e=>old b o e
 have fpD:∀ {H':Hp},H' s.heap.objs.size=none->de X pins H' s.heap.objs.size:=fun hn=>I.fpOk (zA1 _) hn
 have loop:∀ tk:Nat,codeAny (model X.prog X.w) X.A (.compLoop (.ListComp elt [⟨tg,iter,ifs,0⟩] scope pos) 0 (.ref it) (.ref s.heap.objs.size) (compEnvC scope (cU X.env scope.names []) (s.heap.objs.size+1) X.env))
  (RR (.ref s.heap.objs.size) (s.heap.objs.size+1)) { s with heap:=h₁,toks:=tk }:=by
  intro tk
  refine gW (fun n s'=>∃ i H' ys its k,Inv (aT X nv ix scope (s.heap.objs.size+1) s H fp) [(s.heap.objs.size,bV its k)] (st0 nv ix σ) H' s'/\Vals ys its/\ys.length<=sizeLine/\tn i s'.heap/\(∀ b∈fp,H' b=none)/\W i n ys H')
   ?_ m0 ⟨0,H,[],[],0,I₁ tk,.nil,zC6 _,st₁,fun b hb=>(hf b hb).1,w0⟩
  rintro n s3 ⟨i,H3,ys,its,k,I3,rv,hz,st3,fr3,w3⟩
  have fpc:∀ {H':Hp} {its:List Value} {k:Nat},(∀ b∈fp,H' b=none)->∀ b∈fp,de (aT X nv ix scope (s.heap.objs.size+1) s H fp) [(s.heap.objs.size,bV its k)] H' b:=fun {H' its k} hn b hb=>by
   refine ⟨hn b hb,(below b (hlt b hb)).1,fun hs=>?_,.inl hb,fun x c e=>(hf b hb).2.2.2.2.1 x c (co.look I.ok e),fun p hp z=>?_⟩
   · rcases zB2.mp (I.stkSub b hs) with e | h
     · exact (hf b hb).2.1 e
     · exact (hf b hb).2.2.1 h
   · have e:p=(s.heap.objs.size,bV its k):=by simpa [aT] using hp
     subst e
     exact (below b (hlt b hb)).2 z.symm
  have pD:=fun {ps:List (Addr×Obj)} {σ':St} {H':Hp} {s':Shared} (I':Inv (aT X nv ix scope (s.heap.objs.size+1) s H fp) ((s.heap.objs.size,bV its k)::ps) σ' H' s')=>
   I'.pin (s.heap.objs.size,bV its k) (zB0 _ zA8)
  rcases turn i n ys H3 w3 with ⟨stop,fin0⟩ | ⟨go,hlt',N,hN,step⟩
  · refine thn (T.done (aT X nv ix scope (s.heap.objs.size+1) s H fp) rfl rfl rfl hc i _ s3 _ H3 _ I3 (fpc fr3) st3 stop) fun r s4 ⟨hr,I4⟩=>?_
    subst hr
    obtain ⟨p1,p2,_⟩:=pD I4
    have I5:=(md I hf I4).track rv hz p1 p2 (fpD p2)
    obtain ⟨mC,hmC,_⟩:=I4.loc
    exact fin _ _ s4 H3 ys I5 p2 fin0 ⟨mC,hmC⟩ (I.fpOk (Nat.le_succ _) (by rw [ao (Ne.symm hDC)];exact I4.free))
  · refine thn (T.item (aT X nv ix scope (s.heap.objs.size+1) s H fp) rfl rfl rfl hc i _ s3 _ H3 _ I3 (fpc fr3) st3 go) fun r s4 ⟨u,hr,h4⟩=>?_
    subst hr
    refine thn h4 fun _ s5 ⟨x,H5,I5,r5,y5,st5,fr5⟩=>?_
    have I5':=I5.pinned (fpc fr5) (T.obj _ _ st5)
    refine thn (hg _ _ _ _ _ s5 _ H5 x u _ I5' r5 (kg _ _ _ _ (step x H5 y5))) fun _ s6 ⟨σ6,H6,I6,kp,q6⟩=>?_
    refine thn (hi _ _ _ _ _ s6 σ6 H6 _ I6 q6) fun b s7 ⟨H7,I7,q7⟩=>?_
    have again:∀ {s7:Shared} {H7:Hp} {ys' its':List _} {k':Nat},Inv (aT X nv ix scope (s.heap.objs.size+1) s H fp) ([(s.heap.objs.size,bV its' k')]++bq fp s5.heap) σ6 H7 s7->Vals ys' its'->ys'.length<=sizeLine->N ys' H7 ->
     ∃ m,m<n/\∃ i H' ys its k,Inv (aT X nv ix scope (s.heap.objs.size+1) s H fp) [(s.heap.objs.size,bV its k)] (st0 nv ix σ) H' s7/\Vals ys its/\ys.length<=sizeLine/\tn i s7.heap/\(∀ b∈fp,H' b=none)/\W i m ys H':=fun {s7 H7 ys' its' k'} I8 rv' hz' n8=>by
     obtain ⟨m',hm,w8⟩:=hN _ _ n8
     have pn:=fun (b:Addr) (o:Obj) (hb:b∈fp) (e:s5.heap.get? b=some o)=>I8.pin (b,o) (zB0 _ (zB0 _ (bA hb e)))
     refine ⟨m',hm,i+1,H7,ys',its',k',(I8.unpinned).weak kp.1 kp.2,rv',hz',T.keep _ _ _ st5 fun b hb o e=>(pn b o hb e).1,fun b hb=>?_,w8⟩
     obtain ⟨o,e,d⟩:=T.obj _ _ st5 b hb
     exact (pn b o hb e).2.1
    cases b with
    | false=>
      rw [if_neg zC3] at q7 ⊢
      exact again I7 rv hz q7
    | true=>
      rw [if_pos rfl] at q7 ⊢
      refine thn (he _ _ _ _ _ s7 σ6 H7 _ I7 q7) fun u8 s8 ⟨y,H8,I8,r8,q8⟩=>?_
      obtain ⟨p1,p2,p3,p4,p5⟩:=pD I8
      refine append_at (hsz:=by rw [zA7,← rv.length];exact zJ0 hlt') p1 fun h9 hs9 hD9=>?_
      have I9:Inv (aT X nv ix scope (s.heap.objs.size+1) s H fp) (bq fp s5.heap) σ6 H8 { s8 with heap:=h9 }:=by
       have Iu:Inv (aT X nv ix scope (s.heap.objs.size+1) s H fp) (bq fp s5.heap) σ6 H8 s8:=I8.pins_of fun p hp=>I8.pin p (zB0 _ (zB0 _ hp))
       refine Iu.turned (t':=s8.toks) (it:=s.heap.objs.size) (fun b o hb e=>(hs9.2 b hb).trans e) p2 p3 (.inr (zA1 _)) (fun x c e z=>?_) fun p hp z=>?_
       · obtain ⟨v,o,e1,_⟩:=I.cell x c (co.look I.ok e)
         exact absurd (Heap.lt_size e1) (by rw [z];exact zG8 _)
       · have hp':p∈bq fp s5.heap:=by simpa [aT] using hp
         obtain ⟨hb,_⟩:=cD hp'
         exact (below _ (hlt _ hb)).2 z
      have I10:Inv (aT X nv ix scope (s.heap.objs.size+1) s H fp) ([(s.heap.objs.size,bV (its++[u8]) (k+1))]++bq fp s5.heap) σ6 H8 { s8 with heap:=h9 }:=
       I9.pins_of fun p hp=>by
        rcases zC1.mp hp with hp | hp
        · have e:p=(s.heap.objs.size,bV (its++[u8]) (k+1)):=by simpa using hp
          subst e
          refine ⟨?_,p2,p3,p4,fun v z=>by cases z⟩
          rw [List.push_toArray] at hD9
          exact hD9
        · exact I9.pin p (zB0 _ hp)
      exact again I10 (rv.append (.cons r8 .nil)) (by rw [zA5,List.length_singleton];exact hlt') q8
 exact codeAny_compStart_list (loop _) (T.self _ 0 _ _ _ st₁ (loop _))
def nq (nv:List Str) (ix:List (Str×Nat)) (wi:TI) (g:TG) (ti:TT) (te:TE):TE:=fun σ H Q=>wi σ H fun J H1=>p8 nv ix g ti te σ J (fun ys H2=>∀ D,H2 D=none->Q (.ref D) (upd H2 D (.lst ys))) H1
theorem rM {wi:TI} {g:TG} {ti:TT} {te:TE} (nv:List Str) (ix:List (Str×Nat)) (hc:X.calm=true) (co:CompOk X nv ix scope) (hit:PI X tg iter wi) (kg:KpG nv g) (hg:∀ C s₀ H₀ fp,PG (aT X nv ix scope C s₀ H₀ fp) tg g)
 (hi:∀ C s₀ H₀ fp,PIf (aT X nv ix scope C s₀ H₀ fp) ifs ti) (he:∀ C s₀ H₀ fp,PE (aT X nv ix scope C s₀ H₀ fp) elt te)
 (hs:∀ x,foldedSetIterable iter X.env x=pure x:=by intro _;rfl):PE X (.ListComp elt [⟨tg,iter,ifs,0⟩] scope pos) (nq nv ix wi g ti te):=by
 intro pins s σ H Q I h
 rw [eval_ListComp]
 refine wpAny_comprehension_free (use:=none) rfl hs (cV (co.cells I.ok)) co.kind co.names (thn (hit pins s σ H _ I h) fun v s1 h1=>thn h1 fun itv s2 h2=>?_)
 obtain ⟨it,fp,tn,J,H2,e,I2,T,st2,f2,q⟩:=h2
 subst e
 refine iY co hc I2 T st2 f2 kg hg hi he q fun D C s' H' ys I' hD fin ⟨m,hm⟩ hC=>?_
 obtain ⟨c0,c1,c2,c3,c4,c5⟩:=hC
 exact ⟨m,hm,fun h' hs'=>⟨.ref D,_,I'.turned (t':=s'.toks) (fun b o hb e=>(hs'.2 b hb).trans e) c0 c1 c3 c4 c5,rfl,fin D hD⟩⟩
theorem aN {wi:TI} {g:TG} {ti:TT} {te:TE} (nv:List Str) (ix:List (Str×Nat)) (hc:X.calm=true) (co:CompOk X nv ix scope) (hit:ZI X tg iter wi) (kg:KpG nv g) (hg:∀ C s₀ H₀ fp,ZG (aT X nv ix scope C s₀ H₀ fp) tg g)
 (hi:∀ C s₀ H₀ fp,ZIf (aT X nv ix scope C s₀ H₀ fp) ifs ti) (he:∀ C s₀ H₀ fp,ZE (aT X nv ix scope C s₀ H₀ fp) elt te)
 (hs:∀ x,foldedSetIterable iter X.env x=pure x:=by intro _;rfl):ZE X (.ListComp elt [⟨tg,iter,ifs,0⟩] scope pos) (nq nv ix wi g ti te):=by with_unfolding_all exact rM nv ix hc co hit kg hg hi he hs
theorem jl {wi:TI} {g:TG} {ti:TT} {te:TE} {i:Nat} {y:Str} {py spos:Pos} (nv:List Str) (ix:List (Str×Nat)) (hc:X.calm=true) (hN:X.N.Nodup) (hi':X.N[i]? = some y) (hy:Loc X.env.scope y) (co:CompOk X nv ix scope) (hit:PI X tg iter wi) (kg:KpG nv g)
 (hg:∀ C s₀ H₀ fp,PG (aT X nv ix scope C s₀ H₀ fp) tg g) (hi:∀ C s₀ H₀ fp,PIf (aT X nv ix scope C s₀ H₀ fp) ifs ti) (he:∀ C s₀ H₀ fp,PE (aT X nv ix scope C s₀ H₀ fp) elt te)
 (hsw:swapsWith (.ListComp elt [⟨tg,iter,ifs,0⟩] scope pos) (some (.Name y py)) spos.line X.env=pure true:=by rfl)
 (hs:∀ x,foldedSetIterable iter X.env x=pure x:=by intro _;rfl) (hfn:X.fn y=true\/X.env.scope.names.lookup y=some .local:=by first | exact .inl rfl | exact .inr rfl | assumption) :
 PS X (.Assign [.Name y py] (.ListComp elt [⟨tg,iter,ifs,0⟩] scope pos) spos) (tw (nq nv ix wi g ti te) (da i)):=by
 intro pins s σ H D I h
 rw [exec_Assign_Name_used _ _ _ _ hsw]
 refine wpAny_bind (wpAny_standAt (wpAny_bind ?_))
 show wpAny _ X.A (do let _ ← comprehension (.ListComp elt [⟨tg,iter,ifs,0⟩] scope pos) scope X.env _ (newList []) false (eval iter X.env) (some (assign (.Name y py) X.env))) _ _ s
 refine wpAny_bind (wpAny_mono (wpAny_comprehension_free (use:=some (assign (.Name y py) X.env)) (Q:=fun _ s'=>SP X pins D .next s') rfl hs (cV (co.cells I.ok)) co.kind co.names
  (thn (hit pins s σ H _ I h) fun v s1 h1=>thn h1 fun itv s2 h2=>?_)) (fun _ s' hq=>wpAny_pure (wpAny_pure hq)) fun _ _ e=>e)
 obtain ⟨it,fp,tn,J,H2,e,I2,T,st2,f2,q⟩:=h2
 subst e
 refine iY co hc I2 T st2 f2 kg hg hi he q fun DD C s' H' ys I' hD fin ⟨m,hm⟩ hC=>?_
 obtain ⟨c0,c1,c2,c3,c4,c5⟩:=hC
 show wpAny _ X.A (assign (.Name y py) X.env (.ref DD)) _ _ s'
 refine wpAny_assign_Name (fG I' hN hi' hy (show RelV (.ref DD) (.ref DD) from rfl) (fun s'' I'' ⟨a,sb,ha⟩=>?_) hfn)
 have hCa:C≠a:=by
  rcases ha with rfl | ha
  · exact c1
  · exact fun z=>c4 y a ha z.symm
 refine ⟨m,hm.sameBut sb hCa,fun h' hs'=>⟨_,_,I''.turned (t':=s''.toks) (fun b o hb e=>(hs'.2 b hb).trans e) c0 c1 c3 c4 c5,fin DD hD⟩⟩
theorem d7 {wi:TI} {g:TG} {ti:TT} {te:TE} {i:Nat} {y:Str} {py spos:Pos} (nv:List Str) (ix:List (Str×Nat)) (hc:X.calm=true) (hN:X.N.Nodup) (hi':X.N[i]? = some y) (hy:Loc X.env.scope y) (co:CompOk X nv ix scope) (hit:ZI X tg iter wi) (kg:KpG nv g)
 (hg:∀ C s₀ H₀ fp,ZG (aT X nv ix scope C s₀ H₀ fp) tg g) (hi:∀ C s₀ H₀ fp,ZIf (aT X nv ix scope C s₀ H₀ fp) ifs ti) (he:∀ C s₀ H₀ fp,ZE (aT X nv ix scope C s₀ H₀ fp) elt te)
 (hsw:swapsWith (.ListComp elt [⟨tg,iter,ifs,0⟩] scope pos) (some (.Name y py)) spos.line X.env=pure true:=by rfl)
 (hs:∀ x,foldedSetIterable iter X.env x=pure x:=by intro _;rfl) (hfn:X.fn y=true\/X.env.scope.names.lookup y=some .local:=by first | exact .inl rfl | exact .inr rfl | assumption) :
 ZS X (.Assign [.Name y py] (.ListComp elt [⟨tg,iter,ifs,0⟩] scope pos) spos) (tw (nq nv ix wi g ti te) (da i)):=by with_unfolding_all exact jl nv ix hc hN hi' hy co hit kg hg hi he hsw hs hfn
end
section
variable {nv:List Str} {ix:List (Str×Nat)} {σ:St} {H:Hp} {g:TG} {ti:TT} {te:TE} {Fin:List V->Hp->Prop} {K:PySem.W.Frag} {a:Addr} {xs:List V}
theorem bu (Pv:Nat->List V->Hp->Prop) (h0:Pv 0 [] H) (hl:∀ i ys H,i<=xs.length->Pv i ys H->SqL K H a xs)
 (hs:∀ i x ys H,xs[i]? = some x->Pv i ys H->ys.length<sizeLine/\g x (st0 nv ix σ) H fun σ2 H2=>ti σ2 H2 fun b H3=>if b=true then te σ2 H3 fun y H4=>Pv (i+1) (ys++[y]) H4 else Pv (i+1) ys H3)
 (hd:∀ ys H,Pv xs.length ys H->Fin ys H):p8 nv ix g ti te σ (Itl K a) Fin H:=by
 refine ⟨fun i m ys H=>m=xs.length - i/\i<=xs.length/\Pv i ys H,⟨xs.length,by simp,zC6 _,h0⟩,?_⟩
 rintro i m ys H ⟨rfl,hi,p⟩
 have q:=hl i ys H hi p
 by_cases hlt:i<xs.length
 · have e:=hs i xs[i] ys H (by simp [hlt]) p
   refine .inr ⟨⟨xs,xs[i],q,by simp [hlt]⟩,e.1,Pv (i+1),fun σ' H' p'=>⟨xs.length - (i+1),by lia,rfl,hlt,p'⟩,fun x H' y=>?_⟩
   obtain ⟨e',y⟩:=y
   subst e'
   exact (hs i x ys _ (y xs q) p).2
 · have e:i=xs.length:=by lia
   subst e
   exact .inl ⟨⟨xs,q,zA1 _⟩,hd ys H p⟩
theorem fq (Pv:Nat->List V->Hp->Prop) (h0:Pv 0 [] H) (hl:∀ i ys H,i<=xs.length->Pv i ys H->SqT K H a xs)
 (hs:∀ i x ys H,xs[i]? = some x->Pv i ys H->ys.length<sizeLine/\g x (st0 nv ix σ) H fun σ2 H2=>ti σ2 H2 fun b H3=>if b=true then te σ2 H3 fun y H4=>Pv (i+1) (ys++[y]) H4 else Pv (i+1) ys H3)
 (hd:∀ ys H,Pv xs.length ys H->Fin ys H):p8 nv ix g ti te σ (Itt K a) Fin H:=by
 refine ⟨fun i m ys H=>m=xs.length - i/\i<=xs.length/\Pv i ys H,⟨xs.length,by simp,zC6 _,h0⟩,?_⟩
 rintro i m ys H ⟨rfl,hi,p⟩
 have q:=hl i ys H hi p
 by_cases hlt:i<xs.length
 · have e:=hs i xs[i] ys H (by simp [hlt]) p
   refine .inr ⟨⟨xs,xs[i],q,by simp [hlt]⟩,e.1,Pv (i+1),fun σ' H' p'=>⟨xs.length - (i+1),by lia,rfl,hlt,p'⟩,fun x H' y=>?_⟩
   obtain ⟨e',y⟩:=y
   subst e'
   exact (hs i x ys _ (y xs q) p).2
 · have e:i=xs.length:=by lia
   subst e
   exact .inl ⟨⟨xs,q,zA1 _⟩,hd ys H p⟩
theorem ma {lo:Int} {n:Nat} (Pv:Nat->List V->Hp->Prop) (h0:Pv 0 [] H)
 (hs:∀ i ys H,i<n->Pv i ys H->ys.length<sizeLine/\g (.int (lo+i)) (st0 nv ix σ) H fun σ2 H2=>ti σ2 H2 fun b H3=>if b=true then te σ2 H3 fun y H4=>Pv (i+1) (ys++[y]) H4 else Pv (i+1) ys H3)
 (hd:∀ ys H,Pv n ys H->Fin ys H):p8 nv ix g ti te σ (Itr lo n) Fin H:=by
 refine ⟨fun i m ys H=>m=n - i/\i<=n/\Pv i ys H,⟨n,by simp,zC6 _,h0⟩,?_⟩
 rintro i m ys H ⟨rfl,hi,p⟩
 by_cases hlt:i<n
 · refine .inr ⟨hlt,(hs i ys H hlt p).1,Pv (i+1),fun σ' H' p'=>⟨n - (i+1),by lia,rfl,hlt,p'⟩,fun x H' y=>?_⟩
   obtain ⟨e',y⟩:=y
   subst e' y
   exact (hs i ys _ hlt p).2
 · have e:i=n:=by lia
   subst e
   exact .inl ⟨zA1 _,hd ys H p⟩
end
theorem Same.new {H:Hp} {p:Addr} (h:H p=none) (o:HO):Same H (upd H p o):=fun b u q=>by rw [ao (aB q h)];exact q
section
variable {X:Cx} {a b c:Expr} {ta tb tc:TE} {pos:Pos}
theorem r9:OpR X (binaryOp .Mult) (rI (fun i j=>IntMulOk i j) fun i j=>.int (i*j)):=opI fun _ _ _ _ _ _ _ hc q=>mul_int q hc
end
section
variable {prog:Program} {w:World} {A:Around} {E:Value->Shared->Prop} {s:Shared}
theorem cr {t sl:Addr} {items:Array Value} {vl vu:Value} {lo hi:Option Int} {Q:Value->Shared->Prop} (ht:IsTup s.heap t items) (hs:s.heap.IsSliceOf sl vl vu .none) (pl:IsPart vl lo) (pu:IsPart vu hi)
 (hw:HT.sIx items.size 0 lo=0/\HT.sIx items.size items.size hi=items.size)
 (h:Q (.ref t) s):wpAny (model prog w) A (getItem (.ref t) (.ref sl)) Q E s:=by
 obtain ⟨os,hos,hcs,hds⟩:=id hs
 have hTs:s.TypeIs (.ref sl) "slice":=⟨os,hos,hcs⟩
 unfold getItem
 try with_reducible refine wpAny_holding ?_
 first | refine wpAny_bind (wpAny_pure ?_) | skip
 refine wpAny_bind (wpAny_sequenceKey ht.typeIs (by decide) ?_)
 refine wpAny_bind (wpAny_callSpecial?_slot (name:=Str.ofString "__getitem__") ht.typeIs PyProof.Rows.slot_tuple_getitem
  (wpAny_call_entry PyProof.Rows.slot_tuple_getitem ht.typeIs entry_tuple_getitem ?_ (args_tuple_getitem _ _)))
 show wpAny _ _ (Builtin.Tuple.tupleItemsOf (.ref t) >>= _) _ _ s
 refine wpAny_bind (tupleItemsOf_ ht ?_)
 refine wpAny_bind (wpAny_typeOf hTs ?_)
 rw [if_pos (by decide)]
 refine wpAny_bind (HT.sliceApplied_gen hs pl pu ?_)
 have hyes:((((HT.sIx items.size 0 lo:Nat):Int) == 0&&(1:Int) == 1&&(HT.sIx items.size items.size hi - HT.sIx items.size 0 lo) == items.size)=true):=by
  rw [hw.1,hw.2]
  simp
 show wpAny _ _ (if (((HT.sIx items.size 0 lo:Nat):Int) == 0&&(1:Int) == 1&&(HT.sIx items.size items.size hi - HT.sIx items.size 0 lo) == items.size)=true then _ else _) _ _ s
 rw [if_pos hyes]
 refine wpAny_bind (m:=Builtin.Tuple.tupleIsExact _) ?_
 unfold Builtin.Tuple.tupleIsExact
 refine wpAny_bind (wpAny_typeOf ht.typeIs (wpAny_pure ?_))
 rw [if_pos (by decide)]
 exact wpAny_bind (wpAny_rule (wpAny_pure ⟨_,rfl,wpAny_pure h⟩))
end
section
variable {X:Cx} {a b c:Expr} {ta tb tc:TE} {pos:Pos}
def rSlP (K:PySem.W.Frag):V->Option Int->Option Int->Hp->VK->Prop:=fun x lo hi H Q=>∃ a,x=.ref a/\((∃ xs,H a=some (.tup xs)/\∀ r H',Same H H'->H' r=some (.tup (fA xs lo hi))->Q (.ref r) H') \/
 ∃ xs,SqL K H a xs/\∀ p,H p=none->Q (.ref p) (upd H p (.lst (fA xs lo hi))))
theorem tx:SlR X (rSlP X.K):=by
 intro pins s σ H x v vl vu lo hi sl Q I rx hs pl pu h
 obtain ⟨a,rfl,⟨xs,hx,q⟩ | ⟨xs,hx,q⟩⟩:=h
 · by_cases hw:HT.sIx xs.length 0 lo=0/\HT.sIx xs.length xs.length hi=xs.length
   · cases rx
     obtain ⟨its,r,ht,hz⟩:=I.tuple (SqT.of hx)
     have hlen:its.toArray.size=xs.length:=by rw [zA7];exact r.length.symm
     refine ⟨"tuple",_,PyProof.Rows.slot_tuple_getitem.lookup,ht.typeIs,?_⟩
     refine cr ht hs pl pu (by rw [hlen];exact hw) ⟨.ref a,H,I,rfl,q a H (Same.refl H) ?_⟩
     rw [hx]
     unfold fA
     rw [hw.1,hw.2,List.drop_zero,Nat.sub_zero,zC2 (zA1 _)]
   · exact sl_tup pins s σ H _ v vl vu lo hi sl Q I rx hs pl pu ⟨a,xs,rfl,SqT.of hx,hw,fun p hp=>q p _ (Same.new hp _) ad⟩
 · exact qH pins s σ H _ v vl vu lo hi sl Q I rx hs pl pu ⟨a,xs,rfl,hx,q⟩
theorem PE.imp {e:Expr} {t t':TE} (h:PE X e t) (i:∀ σ H Q,t' σ H Q->t σ H Q):PE X e t':=fun pins s σ H Q I q=>h pins s σ H Q I (i σ H Q q)
theorem OpR.imp {f:Value->Value->Sem Value} {r r':R2} (h:OpR X f r) (i:∀ x y H Q,r' x y H Q->r x y H Q):OpR X f r':=fun pins s σ H x y v u Q I rx ry q=>h pins s σ H x y v u Q I rx ry (i x y H Q q)
def tV (i:Nat):TE:=fun σ H Q=>match σ[i]? with | some (some v)=>Q v H | _=>False
theorem tV_var {i:Nat} (σ:St) (H:Hp) (Q:VK) (h:tV i σ H Q):tVar i σ H Q:=by
 unfold tV at h
 split at h
 · exact ⟨_,by assumption,h⟩
 · exact h.elim
theorem pn (i:Nat) {x:Str} {pos:Pos} (hN:X.N[i]? = some x:=by rfl) (hv:Vis X.env.scope x:=by first | exact Or.inl rfl | exact Or.inr (Or.inl rfl) | exact Or.inr (Or.inr rfl)) (hd:(x == ("__debug__" : Str))=false:=by decide)
 (hcd:(x == ("__classdict__" : Str))=false:=by decide):PE X (.Name x pos) (tV i):=(pe_var hN hv hd hcd).imp tV_var
theorem zn (i:Nat) {x:Str} {pos:Pos} (hN:X.N[i]? = some x:=by rfl) (hv:Vis X.env.scope x:=by first | exact Or.inl rfl | exact Or.inr (Or.inl rfl) | exact Or.inr (Or.inr rfl)) (hd:(x == ("__debug__" : Str))=false:=by decide)
 (hcd:(x == ("__classdict__" : Str))=false:=by decide):ZE X (.Name x pos) (tV i):=by with_unfolding_all exact pn i hN hv hd hcd
def qT (K:PySem.W.Frag):R2:=fun x y H Q=>match x,y with
 | .int i,.int j=>Q (.int (i+j)) H
 | .str i,.str j=>i.length+j.length<=sizeLine/\Q (.str (i++j)) H
 | .ref a,.ref b=>(∃ xs ys,H a=some (.lst xs)/\H b=some (.lst ys)/\xs.length+ys.length<=sizeLine/\∀ p,H p=none->Q (.ref p) (upd H p (.lst (xs++ys)))) \/
  ∃ xs ys,H a=some (.tup xs)/\H b=some (.tup ys)/\xs.length+ys.length<=sizeLine/\∀ r H',Same H H'->H' r=some (.tup (xs++ys))->Q (.ref r) H'
 | _,_=>False
theorem oq:OpR X (binaryOp .Add) (fun x y H Q=>∃ a b xs ys,x=.ref a/\y=.ref b/\H a=some (.tup xs)/\H b=some (.tup ys)/\xs.length+ys.length<=sizeLine/\∀ r H',Same H H'->H' r=some (.tup (xs++ys))->Q (.ref r) H'):=by
 intro pins s σ H x y v u Q I rx ry h
 obtain ⟨a,b,xs,ys,rfl,rfl,ha,hb,hz,q⟩:=h
 by_cases hx:xs=[]
 · subst hx
   cases rx
   cases ry
   obtain ⟨its,r1,p1,_⟩:=I.tuple (SqT.of ha)
   obtain ⟨its2,r2,p2,_⟩:=I.tuple (SqT.of hb)
   cases r1
   obtain ⟨⟨cls,dd,data,sl⟩,ho,hc,n,hd⟩:=id p1
   obtain ⟨⟨cls2,dd2,data2,sl2⟩,ho2,hc2,n2,hd2⟩:=id p2
   simp only at hc hd hc2 hd2
   subst hc hd hc2 hd2
   exact concat_meets ⟨_,ho,rfl⟩ ⟨_,ho2,rfl⟩ noFill_tuple_add seq_tuple_add PySem.F.slot_tuple_add PySem.F.entry_tuple_add (PySem.F.args_tuple_add_2 _ _)
    (tuple_addW0 a b _ _ n n2 dd dd2 sl sl2 (by rfl)) ⟨ho,ho2,⟨.ref b,H,I,rfl,q b H (Same.refl H) hb⟩⟩
 · refine lc pins s σ H _ _ v u Q I rx ry ⟨a,b,xs,ys,rfl,rfl,SqT.of ha,SqT.of hb,hx,hz,fun e=>?_,fun e p hp=>?_⟩
   · subst e
     exact q a H (Same.refl H) (by rw [zE3];exact ha)
   · exact q p _ (Same.new hp _) ad
theorem aE:OpR X (binaryOp .Add) (qT X.K):=by
 intro pins s σ H x y v u Q I rx ry h
 unfold qT at h
 split at h
 · exact pE pins s σ H _ _ v u Q I rx ry ⟨_,_,rfl,rfl,h⟩
 · exact jt pins s σ H _ _ v u Q I rx ry ⟨_,_,rfl,rfl,h⟩
 · rcases h with ⟨xs,ys,h1,h2,h3,q⟩ | ⟨xs,ys,h1,h2,h3,q⟩
   · exact op_cat pins s σ H _ _ v u Q I rx ry ⟨_,_,xs,ys,rfl,rfl,h1,h2,h3,q⟩
   · exact oq pins s σ H _ _ v u Q I rx ry ⟨_,_,xs,ys,rfl,rfl,h1,h2,h3,q⟩
 · exact h.elim
def rP (C:Int->Int->Prop) (g:Int->Int->V):R2:=fun x y H Q=>match x,y with | .int i,.int j=>C i j/\Q (g i j) H | _,_=>False
def rP0 (g:Int->Int->V):R2:=fun x y H Q=>match x,y with | .int i,.int j=>Q (g i j) H | _,_=>False
theorem nK {C:Int->Int->Prop} {g:Int->Int->V} (x y:V) (H:Hp) (Q:VK) (h:rP C g x y H Q):rI C g x y H Q:=by
 unfold rP at h
 split at h
 · exact ⟨_,_,rfl,rfl,h⟩
 · exact h.elim
theorem gI {g:Int->Int->V} (x y:V) (H:Hp) (Q:VK) (h:rP0 g x y H Q):rI0 g x y H Q:=by
 unfold rP0 at h
 split at h
 · exact ⟨_,_,rfl,rfl,h⟩
 · exact h.elim
theorem bG:OpR X (binaryOp .Sub) (rP0 fun i j=>.int (i - j)):=op_sub.imp gI
theorem bf:OpR X (binaryOp .Mod) (rP (fun _ j=>0<j) fun i j=>.int (i % j)):=op_mod.imp nK
theorem bH:OpR X (binaryOp .FloorDiv) (rP CDiv fun i j=>.int (i / j)):=op_fdiv.imp nK
theorem gN:OpR X (binaryOp .Pow) (rP CPow fun i j=>.int (i ^ j.toNat)):=op_pow.imp nK
theorem iB:OpR X (compareOp .Gt) (rP0 fun i j=>.bl (decide (j<i))):=op_gt.imp gI
theorem op_geP:OpR X (compareOp .GtE) (rP0 fun i j=>.bl (decide (j<=i))):=op_ge.imp gI
def rIsP (neg:Bool):R2:=fun x y H Q=>match y with
 | .non=>Q (.bl (if neg then !decide (x=y) else decide (x=y))) H
 | .bl _=>match x with
   | .flt _=>False
   | .byt _=>False
   | .ty _=>False
   | _=>Q (.bl (if neg then !decide (x=y) else decide (x=y))) H
 | _=>False
end
mutual
inductive DatV (H:Hp):V->PyData->Prop where
 | non:DatV H .non .none
 | bl (b:Bool):DatV H (.bl b) (.bool b)
 | int (i:Int):DatV H (.int i) (.int i)
 | str (x:Str):DatV H (.str x) (.str x)
 | lst {a:Addr} {xs:List V} {ds:List PyData} (e:H a=some (.lst xs)) (r:DatAll H xs ds):DatV H (.ref a) (.list ds)
 | tup {a:Addr} {xs:List V} {ds:List PyData} (e:H a=some (.tup xs)) (r:DatAll H xs ds):DatV H (.ref a) (.tuple ds)
inductive DatAll (H:Hp):List V->List PyData->Prop where
 | nil:DatAll H [] []
 | cons {x:V} {d:PyData} {xs:List V} {ds:List PyData} (h:DatV H x d) (r:DatAll H xs ds):DatAll H (x::xs) (d::ds)
end
theorem DatAll.ints {H:Hp}:∀ ns:List Int,DatAll H (ns.map V.int) (ns.map PyData.int)
 | []=>.nil
 | n::r=>.cons (.int n) (DatAll.ints r)
section
variable {X:Cx} {pins:List (Addr×Obj)} {σ:St} {H:Hp} {s:Shared}
mutual
theorem DatV.reads (I:Inv X pins σ H s):∀ {x:V} {d:PyData} {v:Value},DatV H x d->RelV x v->∃ as,Reads s.heap v d as
 | _,_,_,.non,r=>by cases r;exact ⟨_,.none⟩
 | _,_,_,.bl b,r=>by cases r;exact ⟨_,.bool b⟩
 | _,_,_,.int i,r=>by obtain ⟨t,rfl⟩:=r;exact ⟨_,.int i t⟩
 | _,_,_,.str x,r=>by obtain ⟨t,rfl⟩:=r;exact ⟨_,.str x t⟩
 | _,_,_,.lst e q,r=>by
   cases r
   obtain ⟨_,its,n,rv,h⟩:=I.lstM e
   obtain ⟨_,h⟩:=h
   obtain ⟨as,z⟩:=DatAll.reads I q rv
   exact ⟨_,reads_list_at h rfl rfl z⟩
 | _,_,_,.tup e q,r=>by
   cases r
   obtain ⟨its,rv,⟨o,h1,h2,n,h3⟩,_⟩:=I.tuple (SqT.of e)
   obtain ⟨as,z⟩:=DatAll.reads I q rv
   exact ⟨_,reads_tuple_at h1 h2 h3 z⟩
theorem DatAll.reads (I:Inv X pins σ H s):∀ {xs:List V} {ds:List PyData} {vs:List Value},DatAll H xs ds->Vals xs vs->∃ as,ReadsAll s.heap vs ds as
 | _,_,_,.nil,r=>by cases r;exact ⟨_,.nil⟩
 | _,_,_,.cons h q,r=>by
   cases r with
   | cons r1 r2=>
     obtain ⟨as,z⟩:=DatV.reads I h r1
     obtain ⟨bs,y⟩:=DatAll.reads I q r2
     exact ⟨_,.cons z y⟩
end
end
section
variable {X:Cx} {a b c:Expr} {ta tb tc:TE} {pos:Pos}
def rEqD (neg:Bool):R2:=fun x y H Q=>match scal x y with
 | true=>Q (.bl (if neg then !decide (x=y) else decide (x=y))) H
 | false=>∃ d e,DatV H x d/\DatV H y e/\SeqAt.shaped d=true/\SeqAt.shaped e=true/\Q (.bl (if neg then !PyData.eqv d e else PyData.eqv d e)) H
theorem eD (hu:X.A.units+64<cLine):OpR X (compareOp .Eq) (rEqD false):=by
 intro pins s σ H x y v u Q I rx ry h
 unfold rEqD at h
 split at h
 · exact op_eq pins s σ H x y v u Q I rx ry ⟨by assumption,h⟩
 · obtain ⟨d,e,h1,h2,h3,h4,q⟩:=h
   obtain ⟨as,r1⟩:=h1.reads I rx
   obtain ⟨bs,r2⟩:=h2.reads I ry
   exact eq_dataH r1 r2 h3 h4 hu ⟨.bl _,H,I,rfl,q⟩
theorem pB (hu:X.A.units+64<cLine):OpR X (compareOp .NotEq) (rEqD true):=by
 intro pins s σ H x y v u Q I rx ry h
 unfold rEqD at h
 split at h
 · exact op_ne pins s σ H x y v u Q I rx ry ⟨by assumption,h⟩
 · obtain ⟨d,e,h1,h2,h3,h4,q⟩:=h
   obtain ⟨as,r1⟩:=h1.reads I rx
   obtain ⟨bs,r2⟩:=h2.reads I ry
   exact ne_dataH r1 r2 h3 h4 hu ⟨.bl _,H,I,rfl,q⟩
theorem pC:OpR X (compareOp .Is) (rIsP false):=by
 intro pins s σ H x y v u Q I rx ry h
 unfold rIsP at h
 split at h
 · exact op_isN pins s σ H x _ v u Q I rx ry ⟨rfl,h⟩
 · rename_i k
   cases ry
   split at h
   · exact h.elim
   · exact h.elim
   · exact h.elim
   · rename_i hf hb ht
     cases x with
     | non=>cases rx;exact wpAny_is_plain rfl (az I h (by simp))
     | bl j=>cases rx;exact wpAny_is_plain rfl (az I h (by rw [Bool.eq_iff_iff];simp))
     | int j=>obtain ⟨t,rfl⟩:=rx;exact wpAny_is_plain rfl (az I h (by simp))
     | str j=>obtain ⟨t,rfl⟩:=rx;exact wpAny_is_plain rfl (az I h (by simp))
     | byt j=>exact absurd rfl (hb j)
     | flt j=>exact absurd rfl (hf j)
     | ref j=>cases rx;exact wpAny_is_plain rfl (az I h (by simp))
     | ty j=>exact absurd rfl (ht j)
 · exact h.elim
def tBlP (t:TE):TT:=fun σ H Q=>t σ H fun x H1=>match x with | .bl c=>Q c H1 | _=>False
theorem blP {x:V} {P:Bool->Prop} (h:match x with | .bl c=>P c | _=>False):∃ c,x=.bl c/\P c:=by
 cases x <;> first | exact ⟨_,rfl,h⟩ | exact h.elim
theorem rf {op:CmpOp} {r:R2} (ho:OpR X (compareOp op) r) (ha:PE X a ta) (hb:PE X b tb) (hm:behindInMarks op b=false):PT X (.Compare a [op] [b] pos) (tBlP (tOp r ta tb)):=by
 intro pins s σ H Q I h
 refine wpAny_isTrue_Compare1 (binT ha hb I h fun v u s2 x y H2 I2 rx ry q=>?_) hm
 refine thn (ho pins s2 σ H2 x y v u _ I2 rx ry q) fun z s3 ⟨w',H3,I3,r3,q3⟩=>?_
 obtain ⟨k,rfl,q3⟩:=blP q3
 cases r3
 exact wpAny_truthy_bool ⟨H3,I3,q3⟩
theorem aY {op:CmpOp} {r:R2} (ho:OpR X (compareOp op) r) (ha:ZE X a ta) (hb:ZE X b tb) (hm:behindInMarks op b=false):ZT X (.Compare a [op] [b] pos) (tBlP (tOp r ta tb)):=by with_unfolding_all exact rf ho ha hb hm
theorem rc {e:Expr} {t:TE} (h:PE X e t) (he:∀ whole,isTrue e X.env whole=(do let v ← whole;standAt e.pos;holding [v] (truthy v)):=by intro _;rfl):PT X e (tBlP t):=by
 intro pins s σ H Q I q
 refine isTrue_plain (thn (h pins s σ H _ I q) fun v s1 ⟨x,H1,I1,r1,q1⟩=>?_) (he _)
 obtain ⟨k,rfl,q1⟩:=blP q1
 cases r1
 exact wpAny_truthy_bool ⟨H1,I1,q1⟩
theorem jS {e:Expr} {t:TE} (h:ZE X e t) (he:∀ whole,isTrue e X.env whole=(do let v ← whole;standAt e.pos;holding [v] (truthy v)):=by intro _;rfl):ZT X e (tBlP t):=by with_unfolding_all exact rc h he
def tAndP (ta tb:TE):TE:=fun σ H Q=>ta σ H fun x H1=>match x with | .bl c=>if c=true then tb σ H1 Q else Q (.bl false) H1 | _=>False
variable {rest:List Expr}
theorem rQ (ha:PE X a ta) (hb:PE X (.BoolOp .And (b::rest) pos) tb):PE X (.BoolOp .And (a::b::rest) pos) (tAndP ta tb):=by
 intro pins s σ H Q I h
 refine BoolOp_and (thn (ha pins s σ H _ I h) fun v s1 ⟨x,H1,I1,r1,q1⟩=>?_)
 obtain ⟨c,rfl,q1⟩:=blP q1
 cases r1
 refine wpAny_truthy_bool ?_
 cases c with
 | true=>exact hb pins s1 σ H1 Q I1 q1
 | false=>exact ⟨.bl false,H1,I1,rfl,q1⟩
theorem qf (ha:ZE X a ta) (hb:ZE X (.BoolOp .And (b::rest) pos) tb):ZE X (.BoolOp .And (a::b::rest) pos) (tAndP ta tb):=by with_unfolding_all exact rQ ha hb
def rIxP (K:PySem.W.Frag):R2:=fun x y H Q=>match x,y with
 | .ref p,.int i=>(∃ xs,(SqL K H p xs\/H p=some (.tup xs))/\∃ v,atI xs i=some v/\Q v H)
 | _,_=>False
theorem dL:IxR X (rIxP X.K):=by
 intro value slice pins s σ H x y v u Q I rx ry h hs
 unfold rIxP at h
 split at h
 · obtain ⟨xs,h1 | h1,w,e,q⟩:=h
   · exact sw value slice pins s σ H _ _ v u Q I rx ry ⟨_,xs,_,w,rfl,rfl,h1,e,q⟩ hs
   · exact pK value slice pins s σ H _ _ v u Q I rx ry ⟨_,xs,_,w,rfl,rfl,SqT.of h1,e,q⟩ hs
 · exact h.elim
theorem CallR.imp {f:Value} {r r':List V->Hp->VK->Prop} (h:CallR X f r) (i:∀ xs H Q,r' xs H Q->r xs H Q):CallR X f r':=fun pins s σ H xs us Q I rs q=>h pins s σ H xs us Q I rs (i xs H Q q)
def jj (K:PySem.W.Frag):List V->Hp->VK->Prop:=fun xs H Q=>match xs with
 | [.ref p]=>∃ ys,(SqL K H p ys\/H p=some (.tup ys))/\Q (.int ys.length) H
 | _=>False
theorem mD:CallR X (.builtin "len") (jj X.K):=call_len_seq.imp fun xs H Q h=>by
 unfold jj at h
 split at h
 · obtain ⟨ys,h1 | h1,q⟩:=h
   · exact ⟨_,ys,rfl,.inl h1,q⟩
   · exact ⟨_,ys,rfl,.inr (SqT.of h1),q⟩
 · exact h.elim
def nG (K:PySem.W.Frag):List V->Hp->VK->Prop:=fun xs H Q=>match xs with
 | [.ref p]=>∃ ys,(SqL K H p ys\/H p=some (.tup ys))/\∀ r H',Same H H'->H' r=some (.tup ys)->Q (.ref r) H'
 | _=>False
theorem mi:CallR X (.type "tuple") (nG X.K):=call_tuple_of.imp fun xs H Q h=>by
 unfold nG at h
 split at h
 · obtain ⟨ys,h1 | h1,q⟩:=h
   · exact ⟨_,ys,rfl,.inl ⟨h1,fun l hl=>q l _ (Same.new hl _) ad⟩⟩
   · exact ⟨_,ys,rfl,.inr ⟨SqT.of h1,q _ H (Same.refl H) h1⟩⟩
 · exact h.elim
def nM:List V->Hp->VK->Prop:=fun xs H Q=>match xs with
 | [.int i,.int j]=>Q (.int (if j<i then j else i)) H
 | _=>False
theorem mw (hc:X.calm=true):CallR X (.builtin "min") nM:=(mx hc).imp fun xs H Q h=>by
 unfold nM at h
 split at h
 · exact ⟨_,_,rfl,h⟩
 · exact h.elim
structure FnA (P:Program) (w:World) (K:PySem.W.Frag) (mg:Str->Option Value) (base:Heap) (x:Str) (k:Nat) (ps:List Str) (sp:Sp):Prop where
 ex:∃ f fd,FnOk P w K mg base CX0 k f fd ps sp/\Binds K fd ps []/\PySem.W.keepIn K (.ref f)=true/\mg x=some (.ref f)
def tFn (sp:Sp) (t:TA):TE:=fun σ H Q=>t σ H fun vs H1=>sp vs H1 Q E0
theorem pe_fn {x:Str} {k k':Nat} {ps:List Str} {sp:Sp} {e:Expr} {es:List Expr} {t:TA} {p:Pos} (F:FnA X.prog X.w X.K X.mg X.base x k ps sp) (hr:Room k' X.A) (hk:k<=k') (hg:Gl X x)
 (ha:PA X (e::es) t) (hdb:(x == ("__debug__" : Str))=false:=by decide) (he:starEach (e::es) X.env=(false,eval e X.env)::starEach es X.env:=by rfl) (hpl:(backTo pos (starEach es X.env)).any (·.1)=false:=by rfl) :
 PE X (.Call (.Name x p) (e::es) [] pos) (tFn sp t):=by
 obtain ⟨f,fd,F1,b1,k1,m1⟩:=F.ex
 refine (rO (F1.mono hk) hr hg m1 k1 b1 .nil pass0 ha hdb he hpl).imp fun σ H Q h=>?_
 have e:(fun (vs:List V) (H1:Hp)=>sp (vs++[]) H1 Q E0)=fun vs H1=>sp vs H1 Q E0:=by
  funext vs H1
  rw [zE3]
 show t σ H fun vs H1=>sp (vs++[]) H1 Q E0
 rw [e]
 exact h
theorem aF {x:Str} {k k':Nat} {ps:List Str} {sp:Sp} {e:Expr} {es:List Expr} {t:TA} {p:Pos} (F:FnA X.prog X.w X.K X.mg X.base x k ps sp) (hr:Room k' X.A) (hk:k<=k') (hg:Gl X x)
 (ha:ZA X (e::es) t) (hdb:(x == ("__debug__" : Str))=false:=by decide) (he:starEach (e::es) X.env=(false,eval e X.env)::starEach es X.env:=by rfl) (hpl:(backTo pos (starEach es X.env)).any (·.1)=false:=by rfl) :
 ZE X (.Call (.Name x p) (e::es) [] pos) (tFn sp t):=by with_unfolding_all exact pe_fn F hr hk hg ha hdb he hpl
end
theorem tG {p:Prop} [Decidable p] {A B:Prop} (h1:p->A) (h2:¬ p->B):if decide p=true then A else B:=by
 by_cases h:p
 · rw [decide_eq_true h];exact iteT (h1 h)
 · rw [decide_eq_false h];exact iteF (h2 h)
theorem iteB {b:Bool} {A B:Prop} (h1:b=true->A) (h2:b=false->B):if b=true then A else B:=by
 cases b with
 | true=>exact iteT (h1 rfl)
 | false=>exact iteF (h2 rfl)
theorem gj:bootBuiltins "sorted" = some (.builtin "sorted"):=by decide +kernel
theorem gn:bootBuiltins "min" = some (.builtin "min"):=by decide +kernel
theorem gY:bootBuiltins "tuple" = some (.type "tuple"):=by decide +kernel
theorem Inv.big {X:Cx} {pins:List (Addr×Obj)} {σ:St} {H:Hp} {s:Shared} (I:Inv X pins σ H s):sysModules<s.heap.objs.size:=by
 have h:mainGlobals<s.heap.objs.size:=(I.mod.glob.keeps I.bk).lt
 exact Nat.lt_trans (by decide) h
section
variable {X:Cx} {e:Expr} {es:List Expr} {t:TA} {p pos:Pos}
theorem kY (hg:Gl X "len") (hm:X.mg "len" = none) (ha:PA X (e::es) t) (he:starEach (e::es) X.env=(false,eval e X.env)::starEach es X.env) (hpl:(backTo pos (starEach es X.env)).any (·.1)=false) :
 PE X (.Call (.Name "len" p) (e::es) [] pos) (tCB (jj X.K) t):=aW mD hg hm PySem.boot_len ha (by decide) (by decide) he hpl
theorem bi (hg:Gl X "len") (hm:X.mg "len" = none) (ha:ZA X (e::es) t) (he:starEach (e::es) X.env=(false,eval e X.env)::starEach es X.env) (hpl:(backTo pos (starEach es X.env)).any (·.1)=false) :
 ZE X (.Call (.Name "len" p) (e::es) [] pos) (tCB (jj X.K) t):=by with_unfolding_all exact kY hg hm ha he hpl
theorem rS (hc:X.calm=true) (hg:Gl X "min") (hm:X.mg "min" = none) (ha:PA X (e::es) t) (he:starEach (e::es) X.env=(false,eval e X.env)::starEach es X.env) (hpl:(backTo pos (starEach es X.env)).any (·.1)=false) :
 PE X (.Call (.Name "min" p) (e::es) [] pos) (tCB nM t):=aW (mw hc) hg hm gn ha (by decide) (by decide) he hpl
theorem qg (hc:X.calm=true) (hg:Gl X "min") (hm:X.mg "min" = none) (ha:ZA X (e::es) t) (he:starEach (e::es) X.env=(false,eval e X.env)::starEach es X.env) (hpl:(backTo pos (starEach es X.env)).any (·.1)=false) :
 ZE X (.Call (.Name "min" p) (e::es) [] pos) (tCB nM t):=by with_unfolding_all exact rS hc hg hm ha he hpl
theorem kW (hg:Gl X "tuple") (hm:X.mg "tuple" = none) (ha:PA X (e::es) t) (he:starEach (e::es) X.env=(false,eval e X.env)::starEach es X.env) (hpl:(backTo pos (starEach es X.env)).any (·.1)=false) :
 PE X (.Call (.Name "tuple" p) (e::es) [] pos) (tCB (nG X.K) t):=cC mi hg hm gY ha (by decide) (by decide) he hpl
theorem bR (hg:Gl X "tuple") (hm:X.mg "tuple" = none) (ha:ZA X (e::es) t) (he:starEach (e::es) X.env=(false,eval e X.env)::starEach es X.env) (hpl:(backTo pos (starEach es X.env)).any (·.1)=false) :
 ZE X (.Call (.Name "tuple" p) (e::es) [] pos) (tCB (nG X.K) t):=by with_unfolding_all exact kW hg hm ha he hpl
end
section
variable {X:Cx}
theorem Inv.moved {wr:List Addr} {pins:List (Addr×Obj)} {σ:St} {H:Hp} {s s':Shared} {h2:Heap} {t2:Nat} (I:Inv X pins σ H s) (m:Moved wr (fun a b=>b=a) { s with heap:=h2,toks:=t2 } s') (hk:∀ b o,s.heap.get? b=some o->b∉wr/\h2.get? b=some o):Inv X pins σ H s':=by
 have e:s'={ s with heap:=s'.heap,toks:=s'.toks }:=by
  obtain ⟨_,h2,h3,h4,_⟩:=m
  cases s'
  simp only at h2 h3 h4
  subst h2 h3 h4
  rfl
 rw [e]
 exact I.kept fun b o q=>m.heap b o (hk b o q).1 (hk b o q).2
def nH (K:PySem.W.Frag):List V->Hp->VK->Prop:=fun xs H Q=>match xs with
 | [.ref p]=>∃ ns:List Int,(SqL K H p (ns.map V.int)\/H p=some (.tup (ns.map V.int)))/\Q (.int ns.sum) H
 | _=>False
theorem eB {f g:Nat->Int}:∀ n,(∀ i,i<n->f i=g i)->preSum f n=preSum g n
 | 0,_=>rfl
 | n+1,h=>by
   show preSum f n+f n=preSum g n+g n
   rw [eB n fun i hi=>h i (by lia),h n (by lia)]
theorem dC (f:Nat->Int):∀ n,preSum f (n+1)=f 0+preSum (fun i=>f (i+1)) n
 | 0=>by show (0:Int)+f 0=f 0+0;lia
 | n+1=>by
   show preSum f (n+1)+f (n+1)=f 0+(preSum (fun i=>f (i+1)) n+f (n+1))
   rw [dC f n];lia
theorem bF:∀ ns:List Int,preSum (fun i=>ns.getD i 0) ns.length=ns.sum
 | []=>rfl
 | n::r=>by
   rw [zB9,dC,zB3]
   have e:preSum (fun i=>(n::r).getD (i+1) 0) r.length=preSum (fun i=>r.getD i 0) r.length:=eB _ fun i _=>by simp
   rw [e,bF r]
   rfl
theorem bM {ns:List Int} {its:List Value} (rv:Vals (ns.map V.int) its) {i:Nat} {v:Value} (h:its.toArray[i]? = some v):∃ t,v=.int (ns.getD i 0) t:=by
 have h':its[i]? = some v:=by simpa using h
 have hl:its.length=ns.length:=by rw [← rv.length,zA0]
 have hi:i<ns.length:=by rw [← hl];exact (List.getElem?_eq_some_iff.mp h').1
 obtain ⟨w',e1,t,e2⟩:=rv.get (i:=i) (x:=.int ns[i]) (by rw [List.getElem?_map,List.getElem?_eq_getElem hi];rfl)
 rw [h'] at e1
 cases e1
 refine ⟨t,?_⟩
 rw [e2,zA3,List.getElem?_eq_getElem hi]
 rfl
theorem mj (hc:X.calm=true):CallR X (.builtin "sum") (nH X.K):=by
 intro pins s σ H xs us Q I r h
 unfold nH at h
 split at h
 · rename_i p
   obtain ⟨ns,hq,q⟩:=h
   obtain ⟨u,rfl,rx⟩:=cg r
   cases rx
   have hh:X.A.in1.handled=none:=I.ok.hd hc
   rcases hq with hq | hq
   · obtain ⟨its,rv,pl,hz⟩:=I.list hq
     have hlt:p<s.heap.objs.size:=by
      obtain ⟨_,e,_⟩:=pl.isList
      exact Heap.lt_size e
     refine call_sum_walkAnyS (wpAny_pyIter_list pl.isList ?_)
     refine ⟨s.heap.objs.size,_,_,_,_,_,_,fun i=>ns.getD i 0,rfl,(Walks.list hh s.heap.objs.size p (zB8 hlt) its.toArray).toS,⟨⟨_,Heap.get?_push_size _ rfl,rfl,rfl⟩,pl.isList.push _⟩,?_,fun i v hv=>bM rv hv,fun s' t' m=>?_⟩
     · intro b hb
       rw [Heap.size_push]
       rcases zB2.mp hb with rfl | hb
       · exact zG1 _
       · rcases zB2.mp hb with rfl | hb
         · exact zH8 hlt
         · cases hb
     · have I1:Inv X pins σ H s':=I.moved m fun b o e=>⟨by simpa using zB8 (Heap.lt_size e),Heap.get?_push_of_some _ e⟩
       refine ⟨.int _,H,I1,⟨t',rfl⟩,?_⟩
       rw [zA7,← rv.length,zA0,bF]
       exact q
   · obtain ⟨its,rv,pl,hz⟩:=I.tuple (SqT.of hq)
     have hlt:p<s.heap.objs.size:=pl.lt
     refine call_sum_walkAnyS (wpAny_pyIter_tuple (show s.heap.IsTuple p its.toArray from pl) ?_)
     refine ⟨s.heap.objs.size,_,_,_,_,_,_,fun i=>ns.getD i 0,rfl,(Walks.tuple hh s.heap.objs.size p (zB8 hlt) its.toArray).toS,⟨⟨_,Heap.get?_push_size _ rfl,rfl,rfl⟩,?_⟩,?_,fun i v hv=>bM rv hv,fun s' t' m=>?_⟩
     · exact IsTup.keeps pl fun b o e=>Heap.get?_push_of_some _ e
     · intro b hb
       rw [Heap.size_push]
       rcases zB2.mp hb with rfl | hb
       · exact zG1 _
       · rcases zB2.mp hb with rfl | hb
         · exact zH8 hlt
         · cases hb
     · have I1:Inv X pins σ H s':=I.moved m fun b o e=>⟨by simpa using zB8 (Heap.lt_size e),Heap.get?_push_of_some _ e⟩
       refine ⟨.int _,H,I1,⟨t',rfl⟩,?_⟩
       rw [zA7,← rv.length,zA0,bF]
       exact q
 · exact h.elim
def iz (K:PySem.W.Frag):List V->Hp->VK->Prop:=fun xs H Q=>match xs with
 | [.int i,.int j]=>Q (.int (if j > i then j else i)) H
 | [.ref p]=>∃ ns:List Int,(SqL K H p (ns.map V.int)\/H p=some (.tup (ns.map V.int)))/\ns≠[]/\∀ M,M∈ns->(∀ n∈ns,n<=M)->Q (.int M) H
 | _=>False
theorem sT {ns:List Int} (h:ns≠[]):ns.getD (argBest (fun i j=>decide (ns.getD i 0 > ns.getD j 0)) (ns.length - 1)) 0∈ns/\∀ n∈ns,n<=ns.getD (argBest (fun i j=>decide (ns.getD i 0 > ns.getD j 0)) (ns.length - 1)) 0:=by
 have hp:0<ns.length:=zG5.mpr h
 obtain ⟨h1,h2⟩:=argBest_gt (fun i=>ns.getD i 0) (ns.length - 1)
 have hlt:argBest (fun i j=>decide (ns.getD i 0 > ns.getD j 0)) (ns.length - 1)<ns.length:=by lia
 refine ⟨?_,fun n hn=>?_⟩
 · rw [zA3,List.getElem?_eq_getElem hlt]
   exact zB1 hlt
 · obtain ⟨i,hi,rfl⟩:=zE5.mp hn
   have:=h2 i (by lia)
   have e:ns.getD i 0=ns[i]:=by rw [zA3,List.getElem?_eq_getElem hi];rfl
   rw [e] at this
   exact this
theorem my (hc:X.calm=true):CallR X (.builtin "max") (iz X.K):=by
 intro pins s σ H xs us Q I r h
 unfold iz at h
 split at h
 · exact mz hc pins s σ H _ us Q I r ⟨_,_,rfl,h⟩
 · rename_i p
   obtain ⟨ns,hq,hne,q⟩:=h
   obtain ⟨u,rfl,rx⟩:=cg r
   cases rx
   have hh:X.A.in1.handled=none:=I.ok.hd hc
   have hb:=sT hne
   rcases hq with hq | hq
   · obtain ⟨its,rv,pl,hz⟩:=I.list hq
     have hlen:its.length=ns.length:=by rw [← rv.length,zA0]
     have hlt:p<s.heap.objs.size:=by
      obtain ⟨_,e,_⟩:=pl.isList
      exact Heap.lt_size e
     refine call_max_walk (wpAny_pyIter_list pl.isList ?_)
     refine ⟨s.heap.objs.size,_,_,_,_,_,_,rfl,Walks.list hh s.heap.objs.size p (zB8 hlt) its.toArray,⟨⟨_,Heap.get?_push_size _ rfl,rfl,rfl⟩,pl.isList.push _⟩,?_,?_,CmpOf.ints_gt (fun i=>ns.getD i 0) (fun i v hv=>bM rv hv),fun v h' tk hv hk=>?_⟩
     · intro b hb
       rw [Heap.size_push]
       rcases zB2.mp hb with rfl | hb
       · exact zG1 _
       · rcases zB2.mp hb with rfl | hb
         · exact zH8 hlt
         · cases hb
     · rw [zA7,hlen];exact zG5.mpr hne
     · obtain ⟨t,rfl⟩:=bM rv hv
       refine ⟨.int _,H,I.kept fun b o e=>hk b o (by simpa using zB8 (Heap.lt_size e)) (Heap.get?_push_of_some _ e),⟨t,rfl⟩,?_⟩
       rw [zA7,hlen]
       exact q _ hb.1 hb.2
   · obtain ⟨its,rv,pl,hz⟩:=I.tuple (SqT.of hq)
     have hlen:its.length=ns.length:=by rw [← rv.length,zA0]
     have hlt:p<s.heap.objs.size:=pl.lt
     refine call_max_walk (wpAny_pyIter_tuple (show s.heap.IsTuple p its.toArray from pl) ?_)
     refine ⟨s.heap.objs.size,_,_,_,_,_,_,rfl,Walks.tuple hh s.heap.objs.size p (zB8 hlt) its.toArray,⟨⟨_,Heap.get?_push_size _ rfl,rfl,rfl⟩,IsTup.keeps pl fun b o e=>Heap.get?_push_of_some _ e⟩,?_,?_,CmpOf.ints_gt (fun i=>ns.getD i 0) (fun i v hv=>bM rv hv),fun v h' tk hv hk=>?_⟩
     · intro b hb
       rw [Heap.size_push]
       rcases zB2.mp hb with rfl | hb
       · exact zG1 _
       · rcases zB2.mp hb with rfl | hb
         · exact zH8 hlt
         · cases hb
     · rw [zA7,hlen];exact zG5.mpr hne
     · obtain ⟨t,rfl⟩:=bM rv hv
       refine ⟨.int _,H,I.kept fun b o e=>hk b o (by simpa using zB8 (Heap.lt_size e)) (Heap.get?_push_of_some _ e),⟨t,rfl⟩,?_⟩
       rw [zA7,hlen]
       exact q _ hb.1 hb.2
 · exact h.elim
theorem cZ:fillsNumberSlot (.type "tuple") "mul" = pure false:=
 PySem.fillsNumberSlot_seq (id:="tuple.__mul__") (r:=some (.builtin "tuple.__rmul__")) F.slot_tuple_mul.lookup (by decide +kernel) F.slot_tuple_rmul.lookup (by decide +kernel)
theorem fL:seqRepeat? (.type "tuple")=pure (some (.builtin "tuple.__mul__")):=by
 unfold seqRepeat?
 rw [PySem.seqSlot_of (T:="tuple") (name:="__mul__") (id:="tuple.__mul__") F.slot_tuple_mul.lookup (by decide +kernel),PySem.seqSlot_of (T:="tuple") (name:="__rmul__") (id:="tuple.__rmul__") F.slot_tuple_rmul.lookup (by decide +kernel)]
 rfl
theorem d5 (a:Int) (t:Tok) (l:Addr) (items:Array Value) (n:Nat) :
 Meets (Builtin.«int.__rmul__» ⟨[.int a t,.ref l],[]⟩) (fun _ R s=>s.heap.get? l=some { cls:=.type "tuple",dict:=none,data:=.seq items n,slots:=#[] }/\R (.ok (.ret Value.notImplemented)) s):=
 .of_wp fun prog w A R s h=>by obtain ⟨hp,g,d,tk,os⟩:=s;obtain ⟨hl,h⟩:=h;wp_walk;exact ⟨_,rfl,h⟩
theorem dW (l:Addr) (items:Array Value) (n:Nat) (x:Int) (u:Tok) (h1:(decide (x < -(2 ^ 63))||decide (x>=2 ^ 63))=false) (h2:(items.isEmpty||x == 1)=true) :
 Meets (Builtin.«tuple.__mul__» ⟨[.ref l,.int x u],[]⟩) (fun _ R s=>s.heap.get? l=some { cls:=.type "tuple",dict:=none,data:=.seq items n,slots:=#[] }/\R (.ok (.ret (.ref l))) s):=
 .of_wp fun prog w A R s h=>by
  obtain ⟨hp,g,d,tk,os⟩:=s;obtain ⟨hl,h⟩:=h
  wp_walk;refine wpAny_ite_false (by rw [h1];rfl) ?_;wp_walk;exact ⟨_,rfl,h⟩
theorem dX (l:Addr) (items:Array Value) (n:Nat) (x:Int) (u:Tok) (h1:(decide (x < -(2 ^ 63))||decide (x>=2 ^ 63))=false) (h2:(items.isEmpty||x == 1)=false) (h3:(decide (x<=0)||items.isEmpty)=true) :
 Meets (Builtin.«tuple.__mul__» ⟨[.ref l,.int x u],[]⟩) (fun _ R s=>s.heap.get? l=some { cls:=.type "tuple",dict:=none,data:=.seq items n,slots:=#[] }/\R (.ok (.ret (.ref s.heap.objs.size))) { s with heap:=s.heap.push { cls:=.type "tuple",data:=.seq #[] } }):=
 .of_wp fun prog w A R s h=>by
  obtain ⟨hp,g,d,tk,os⟩:=s;obtain ⟨hl,h⟩:=h
  wp_walk;refine wpAny_ite_false (by rw [h1];rfl) ?_;wp_walk;exact ⟨_,rfl,h⟩
theorem dY (l:Addr) (items:Array Value) (n:Nat) (x:Int) (u:Tok) (h1:(decide (x < -(2 ^ 63))||decide (x>=2 ^ 63))=false) (h2:(items.isEmpty||x == 1)=false) (h3:(decide (x<=0)||items.isEmpty)=false) (h4:decide ((items.size:Int)*x > (2 ^ 63 - 1) / 8)=false) (h5:Builtin.Tuple.tupleTooMany ((items.size:Int)*x)=false) (hz:((List.replicate x.toNat items).foldl (·++·) #[]).size<=sizeLine) :
 Meets (Builtin.«tuple.__mul__» ⟨[.ref l,.int x u],[]⟩) (fun _ R s=>s.heap.get? l=some { cls:=.type "tuple",dict:=none,data:=.seq items n,slots:=#[] }/\R (.ok (.ret (.ref s.heap.objs.size))) { s with heap:=s.heap.push { cls:=.type "tuple",data:=.seq ((List.replicate x.toNat items).foldl (·++·) #[]) } }):=
 .of_wp fun prog w A R s h=>by
  obtain ⟨hp,g,d,tk,os⟩:=s;obtain ⟨hl,h⟩:=h
  wp_walk;refine wpAny_ite_false (by rw [h1];rfl) ?_;wp_walk;refine wpAny_ite_false h4 ?_;wp_walk;exact ⟨_,rfl,h⟩
end
section
variable {X:Cx}
def rMulQ:R2:=fun x y H Q=>match x,y with
 | .int i,.int j=>IntMulOk i j/\Q (.int (i*j)) H
 | .ref a,.int k=>(-(2 ^ 63)<=k/\k<2 ^ 63)/\((∃ xs,H a=some (.lst xs)/\xs.length*k.toNat<=sizeLine/\∀ p,H p=none->Q (.ref p) (upd H p (.lst (List.replicate k.toNat xs).flatten))) \/
  ∃ xs,H a=some (.tup xs)/\xs.length*k.toNat<=sizeLine/\∀ r H',Same H H'->H' r=some (.tup (List.replicate k.toNat xs).flatten)->Q (.ref r) H')
 | _,_=>False
theorem aG:OpR X (binaryOp .Mult) rMulQ:=by
 intro pins s σ H x y v u Q I rx ry h
 unfold rMulQ at h
 split at h
 · exact r9 pins s σ H _ _ v u Q I rx ry ⟨_,_,rfl,rfl,h⟩
 · obtain ⟨⟨hk1,hk2⟩,⟨xs,h1,h4,q⟩ | ⟨xs,hH,hz,q⟩⟩:=h
   · exact op_rep pins s σ H _ _ v u Q I rx ry ⟨_,_,xs,rfl,rfl,h1,hk1,hk2,h4,q⟩
   rename_i l k
   cases rx
   obtain ⟨t,rfl⟩:=ry
   obtain ⟨z,its,r,n,e⟩:=I.hok l _ hH
   have hl:its.length=xs.length:=r.length.symm
   have hemp:its.toArray.isEmpty=xs.isEmpty:=by
    cases r <;> rfl
   have g1:(decide (k < -(2 ^ 63))||decide (k>=2 ^ 63))=false:=by
    rw [Bool.or_eq_false_iff]
    exact ⟨decide_eq_false (by lia),decide_eq_false (by lia)⟩
   refine wpAny_binaryOp_repeat_ref (T:="tuple") (U:="int") (by decide) ⟨_,e,rfl⟩ (fun s'=>typeIs_int s' k t) cZ F.fills_int_mul F.slot_int_rmul fL F.slot_int_index.lookup
    (call_meets F.slot_int_rmul (typeIs_int s k t) F.entry_int_rmul (F.args_int_rmul_2 _ _) (d5 k t l its.toArray n) ⟨e,rfl,⟨_,e,rfl⟩,?_⟩)
   by_cases c1:(its.toArray.isEmpty||k == 1)=true
   · refine call_meets F.slot_tuple_mul ⟨_,e,rfl⟩ F.entry_tuple_mul (F.args_tuple_mul_2 _ _) (dW l its.toArray n k t g1 c1) ⟨e,?_⟩
     refine ⟨.ref l,H,I,rfl,q l H (Same.refl H) ?_⟩
     rw [hH]
     rw [Bool.or_eq_true] at c1
     rcases c1 with c1 | c1
     · rw [hemp,List.isEmpty_iff] at c1
       subst c1
       have:(List.replicate k.toNat ([]:List V)).flatten=[]:=by
        induction k.toNat with
        | zero=>rfl
        | succ m ih=>rw [zG4,zD5,ih];rfl
       rw [this]
     · have:k=1:=by simpa using c1
       subst this
       show some (HO.tup xs)=some (.tup (List.replicate 1 xs).flatten)
       simp
   · have c1':(its.toArray.isEmpty||k == 1)=false:=by simpa using c1
     have he:its.toArray.isEmpty=false:=(Bool.or_eq_false_iff.mp c1').1
     by_cases c2:k<=0
     · refine call_meets F.slot_tuple_mul ⟨_,e,rfl⟩ F.entry_tuple_mul (F.args_tuple_mul_2 _ _) (dX l its.toArray n k t g1 c1' (by rw [decide_eq_true c2];rfl)) ⟨e,?_⟩
       have e0:(List.replicate k.toNat xs).flatten=[]:=by
        have:k.toNat=0:=by lia
        rw [this];rfl
       have I2:Inv X pins σ (upd H s.heap.objs.size (.tup [])) { s with heap:=s.heap.push { cls:=.type "tuple",data:=.seq #[] } }:=
        I.laid (t':=s.toks) (o:=.tup []) (fun b ob q=>Heap.get?_push_of_some _ q) (zA1 _) ⟨zC6 _,[],.nil,TupD.new _ _⟩
       exact ⟨.ref s.heap.objs.size,_,I2,rfl,q _ _ (Same.new (I.hok.fresh (zA1 _)) _) (by rw [e0];exact ad)⟩
     · have hcast:(its.toArray.size:Int)*k=((xs.length*k.toNat:Nat):Int):=by
        rw [zA7,hl]
        have:k=(k.toNat:Int):=by lia
        conv=>lhs;rw [this]
        norm_cast
       have hb:(sizeLine:Nat)<=(2 ^ 63 - 1) / 8:=by decide
       have g4:decide ((its.toArray.size:Int)*k > (2 ^ 63 - 1) / 8)=false:=by
        refine decide_eq_false ?_
        rw [hcast]
        lia
       have g5:Builtin.Tuple.tupleTooMany ((its.toArray.size:Int)*k)=false:=by
        unfold Builtin.Tuple.tupleTooMany
        rw [hcast]
        exact decide_eq_false (by lia)
       have f0:List.foldl (fun x1 x2=>x1++x2) #[] (List.replicate k.toNat its.toArray)=(List.replicate k.toNat its).flatten.toArray:=by
        have:=dO its k.toNat []
        rw [List.nil_append] at this
        exact this
       refine call_meets F.slot_tuple_mul ⟨_,e,rfl⟩ F.entry_tuple_mul (F.args_tuple_mul_2 _ _) (dY l its.toArray n k t g1 c1' (by rw [decide_eq_false c2,he];rfl) g4 g5 (by rw [f0,zA7,gV,hl,Nat.mul_comm];exact hz)) ⟨e,?_⟩
       rw [f0]
       have I2:Inv X pins σ (upd H s.heap.objs.size (.tup (List.replicate k.toNat xs).flatten)) { s with heap:=s.heap.push { cls:=.type "tuple",data:=.seq (List.replicate k.toNat its).flatten.toArray } }:=
        I.laid (t':=s.toks) (o:=.tup (List.replicate k.toNat xs).flatten) (fun b ob q=>Heap.get?_push_of_some _ q) (zA1 _) ⟨by rw [gV,Nat.mul_comm];exact hz,_,r.rep k.toNat,TupD.new _ _⟩
       exact ⟨.ref s.heap.objs.size,_,I2,rfl,q _ _ (Same.new (I.hok.fresh (zA1 _)) _) ad⟩
 · exact h.elim
def Itrs (lo c:Int) (n:Nat):It:=⟨fun i _=>i<n,fun i H x H'=>H'=H/\x=.int (lo+i*c),fun i _=>n<=i⟩
theorem gz {P:Program} {w:World} {K:PySem.W.Frag} {tg:Expr} (it:Addr) (lo c:Int) (n:Nat):Turn P w K tg (Itrs lo c n) [it] it (fun i h=>IsRangeIter h it (lo+(i:Nat)*c) ((n:Int) - (i:Nat)) c) where
 mem:=by simp
 obj:=fun i h st b hb=>by
  have e:b=it:=by simpa using hb
  subst e
  exact ⟨_,st,fun v z=>by
   have z':Data.fields _=Data.cell v:=z
   cases z'⟩
 keep:=fun i h h' st k=>k it (by simp) _ st
 item:=by
  intro X hP hw hK hc i pins s σ H E I hf st hg
  subst hP hw hK
  obtain ⟨f0,f1,f2,f3,f4,f5⟩:=hf it (by simp)
  have W:=Walks.range (prog:=X.prog) (w:=X.w) (I.ok.hd hc) it lo c n
  refine W.item i s _ _ hg st fun v h' tk hv st' kk=>?_
  obtain ⟨t,rfl⟩:=hv
  have I1:Inv X pins σ H { s with heap:=h',toks:=tk }:=I.turned (fun b o hb e=>kk b o (by simpa using hb) e) f0 f1 f3 f4 f5
  exact ⟨_,rfl,lP (s:={ s with heap:=h',toks:=tk }) (n:="range_iterator") st' rfl rfl (by decide) ⟨.int (lo+i*c),H,I1,⟨t,rfl⟩,⟨rfl,rfl⟩,st',fun b hb=>(hf b hb).1⟩⟩
 done:=by
  intro X hP hw hK hc i pins s σ H E I hf st hg
  subst hP hw hK
  obtain ⟨f0,f1,f2,f3,f4,f5⟩:=hf it (by simp)
  exact wpAny_pyNext_range_end (I.ok.hd hc) st (by have:n<=i:=hg;lia) fun h' eb=>⟨rfl,I.turned (t':=s.toks) (fun b o hb e=>eb b o hb e) f0 f1 f3 f4 f5⟩
 self:=fun _ _ _ _ _ st h=>wpAny_pyIter_rangeiter st h
theorem dy {a b c:Int} (hc:c≠0):0<=Builtin.Range.rangeSize a b c:=by
 unfold Builtin.Range.rangeSize
 split
 · split
   · have:=Int.ediv_nonneg (a:=b - a - 1) (b:=c) (by lia) (by lia);lia
   · lia
 · split
   · have:=Int.ediv_nonneg (a:=a - b - 1) (b:=-c) (by lia) (by lia);lia
   · lia
def iRng3 {tg:Expr} (ta:TA):TI:=fun σ H R=>ta σ H fun vs H1=>∃ i j c:Int,vs=[.int i,.int j,.int c]/\(c≠0/\(c<2 ^ 29/\-(2 ^ 29)<c)/\Builtin.Range.small i j c=true)/\R (Itrs i c (Builtin.Range.rangeSize i j c).toNat) H1
theorem kT {tg:Expr} {a b d:Expr} {ta:TA} {p pos:Pos} (hg:Gl X "range") (hm:X.mg "range" = none) (ha:PA X [a,b,d] ta) (hs:starEach [a,b,d] X.env=[(false,eval a X.env),(false,eval b X.env),(false,eval d X.env)]:=by rfl) (hs2:starEach [b,d] X.env=[(false,eval b X.env),(false,eval d X.env)]:=by rfl) :
 PI X tg (.Call (.Name "range" p) [a,b,d] [] pos) (iRng3 (tg:=tg) ta):=by
 intro pins s σ H R I h
 refine Call_ (dI I hg hm boot_range (PyProof.Rows.callWith_type1 (thn (ha pos pins s σ H _ I h) fun us s1 ⟨vs,H1,I1,r1,q1⟩=>?_) (by rw [hs,hs2]) (by rw [hs2];rfl)))
 obtain ⟨i,j,c,e,⟨hc0,⟨hcb,hcb2⟩,hsm⟩,q⟩:=q1
 subst e
 cases r1 with
 | cons r rr=>
   cases rr with
   | cons r' rr=>
     cases rr with
     | cons r'' rr=>
       cases rr
       obtain ⟨t,rfl⟩:=r
       obtain ⟨t',rfl⟩:=r'
       obtain ⟨t'',rfl⟩:=r''
       refine PySem.call_range_3 hc0 ?_ (Or.inl (PyProof.noPylong_small (by lia)))
       refine wpAny_pyIter_range (IsRange.new ..) hsm ?_
       have I2:Inv X pins σ H1 { s1 with heap:=s1.heap.push { cls:=.type "range",data:=.fields #[.int i t,.int j t',.int c t''] } }:=I1.kept (t':=s1.toks) fun b o e=>Heap.get?_push_of_some _ e
       refine ⟨(s1.heap.push { cls:=.type "range",data:=.fields #[.int i t,.int j t',.int c t''] }).objs.size,[(s1.heap.push { cls:=.type "range",data:=.fields #[.int i t,.int j t',.int c t''] }).objs.size],_,_,H1,rfl,
        I2.kept (t':=s1.toks) fun b o e=>Heap.get?_push_of_some _ e,gz _ i c (Builtin.Range.rangeSize i j c).toNat,?_,fun b hb=>?_,q⟩
       · have e1:i+((0:Nat):Int)*c=i:=by simp
         have e2:(((Builtin.Range.rangeSize i j c).toNat:Nat):Int) - ((0:Nat):Int)=Builtin.Range.rangeSize i j c:=by have:=dy (a:=i) (b:=j) hc0;lia
         show IsRangeIter _ _ (i+((0:Nat):Int)*c) ((((Builtin.Range.rangeSize i j c).toNat:Nat):Int) - ((0:Nat):Int)) c
         rw [e1,e2]
         exact Heap.get?_push_size _ rfl
       · have e:b=(s1.heap.push { cls:=.type "range",data:=.fields #[.int i t,.int j t',.int c t''] }).objs.size:=by simpa using hb
         subst e
         exact I2.fpOk (zA1 _) (I2.hok.fresh (zA1 _))
theorem jU {tg:Expr} {a b d:Expr} {ta:TA} {p pos:Pos} (hg:Gl X "range") (hm:X.mg "range" = none) (ha:ZA X [a,b,d] ta) (hs:starEach [a,b,d] X.env=[(false,eval a X.env),(false,eval b X.env),(false,eval d X.env)]:=by rfl) (hs2:starEach [b,d] X.env=[(false,eval b X.env),(false,eval d X.env)]:=by rfl) :
 ZI X tg (.Call (.Name "range" p) [a,b,d] [] pos) (iRng3 (tg:=tg) ta):=by with_unfolding_all exact kT hg hm ha hs hs2
theorem jD {lo c:Int} {n:Nat} {g:TG} {tb:TS} {D:Ends} {σ:St} {H:Hp} (Pv:Nat->St->Hp->Prop) (h0:Pv 0 σ H)
 (hs:∀ i σ H,i<n->Pv i σ H->g (.int (lo+i*c)) σ H fun σ2 H2=>tb { D with nx:=Pv (i+1),ct:=Pv (i+1),bk:=D.nx } σ2 H2) (hd:∀ σ H,Pv n σ H->D.nx σ H) :
 ∃ W:Nat->Nat->St->Hp->Prop,(∃ m,W 0 m σ H)/\∀ i m σ H,W i m σ H ->
   ((Itrs lo c n).stop i H/\D.nx σ H)\/((Itrs lo c n).go i H/\∃ N:St->Hp->Prop,(∀ σ' H',N σ' H'->∃ m',m' < m/\W (i+1) m' σ' H')/\∀ x H',(Itrs lo c n).yld i H x H'->g x σ H' fun σ2 H2=>tb { D with nx:=N,ct:=N,bk:=D.nx } σ2 H2):=by
 refine ⟨fun i m σ H=>m=n - i/\i<=n/\Pv i σ H,⟨n,by simp,zC6 _,h0⟩,?_⟩
 rintro i m σ H ⟨rfl,hi,p⟩
 by_cases hlt:i<n
 · refine .inr ⟨hlt,Pv (i+1),fun σ' H' p'=>⟨n - (i+1),by lia,rfl,hlt,p'⟩,fun x H' y=>?_⟩
   obtain ⟨e,y⟩:=y
   subst e y
   exact hs i σ _ hlt p
 · have e:i=n:=by lia
   subst e
   exact .inl ⟨zA1 _,hd σ H p⟩
end
section
variable {X:Cx} {e:Expr} {es:List Expr} {t:TA} {p pos:Pos}
theorem gi:bootBuiltins "sum" = some (.builtin "sum"):=by decide +kernel
theorem mJ:bootBuiltins "max" = some (.builtin "max"):=by decide +kernel
theorem mL:bootBuiltins "abs" = some (.builtin "abs"):=by decide +kernel
theorem rR (hc:X.calm=true) (hg:Gl X "sum") (hm:X.mg "sum" = none) (ha:PA X (e::es) t) (he:starEach (e::es) X.env=(false,eval e X.env)::starEach es X.env) (hpl:(backTo pos (starEach es X.env)).any (·.1)=false) :
 PE X (.Call (.Name "sum" p) (e::es) [] pos) (tCB (nH X.K) t):=aW (mj hc) hg hm gi ha (by decide) (by decide) he hpl
theorem dk (hc:X.calm=true) (hg:Gl X "sum") (hm:X.mg "sum" = none) (ha:ZA X (e::es) t) (he:starEach (e::es) X.env=(false,eval e X.env)::starEach es X.env) (hpl:(backTo pos (starEach es X.env)).any (·.1)=false) :
 ZE X (.Call (.Name "sum" p) (e::es) [] pos) (tCB (nH X.K) t):=by with_unfolding_all exact rR hc hg hm ha he hpl
theorem rT (hc:X.calm=true) (hg:Gl X "max") (hm:X.mg "max" = none) (ha:PA X (e::es) t) (he:starEach (e::es) X.env=(false,eval e X.env)::starEach es X.env) (hpl:(backTo pos (starEach es X.env)).any (·.1)=false) :
 PE X (.Call (.Name "max" p) (e::es) [] pos) (tCB (iz X.K) t):=aW (my hc) hg hm mJ ha (by decide) (by decide) he hpl
theorem qh (hc:X.calm=true) (hg:Gl X "max") (hm:X.mg "max" = none) (ha:ZA X (e::es) t) (he:starEach (e::es) X.env=(false,eval e X.env)::starEach es X.env) (hpl:(backTo pos (starEach es X.env)).any (·.1)=false) :
 ZE X (.Call (.Name "max" p) (e::es) [] pos) (tCB (iz X.K) t):=by with_unfolding_all exact rT hc hg hm ha he hpl
def nT:List V->Hp->VK->Prop:=fun xs H Q=>match xs with
 | [.int i]=>Q (.int (if i<0 then -i else i)) H
 | _=>False
theorem mH:CallR X (.builtin "abs") nT:=call_abs.imp fun xs H Q h=>by
 unfold nT at h
 split at h
 · exact ⟨_,rfl,h⟩
 · exact h.elim
theorem rW (hg:Gl X "abs") (hm:X.mg "abs" = none) (ha:PA X (e::es) t) (he:starEach (e::es) X.env=(false,eval e X.env)::starEach es X.env) (hpl:(backTo pos (starEach es X.env)).any (·.1)=false) :
 PE X (.Call (.Name "abs" p) (e::es) [] pos) (tCB nT t):=aW mH hg hm mL ha (by decide) (by decide) he hpl
theorem qj (hg:Gl X "abs") (hm:X.mg "abs" = none) (ha:ZA X (e::es) t) (he:starEach (e::es) X.env=(false,eval e X.env)::starEach es X.env) (hpl:(backTo pos (starEach es X.env)).any (·.1)=false) :
 ZE X (.Call (.Name "abs" p) (e::es) [] pos) (tCB nT t):=by with_unfolding_all exact rW hg hm ha he hpl
def nR:V->List V->Hp->VK->Prop:=fun x vs H Q=>match x,vs with
 | .ref l,[y]=>∃ xs,H l=some (.lst xs)/\xs.length<sizeLine/\Q .non (upd H l (.lst (xs++[y])))
 | _,_=>False
theorem sn:MtM X "list.append" nR:=fun pins s σ H x vs v us Q I rx rv h=>by
 unfold nR at h
 split at h
 · obtain ⟨xs,h1,h2,q⟩:=h
   exact lr pins s σ H _ _ v us Q I rx rv ⟨_,xs,_,rfl,rfl,h1,h2,q⟩
 · exact h.elim
variable {o:Expr} {to:TE} {apos cpos:Pos}
theorem kS (ho:PE X o to) (ha:PA X (e::es) t) (hbase:attributeBase o "append" X.env (eval o X.env)=eval o X.env:=by rfl)
 (hfew:((backTo cpos (starEach (e::es) X.env)).all (fun x=>!x.1)&&(backToKw cpos (keywordEach [] X.env)).all (fun x=>x.1.isSome)
   && decide ((e::es).length+([]:List Keyword).length+(if ([]:List Keyword).isEmpty then 0 else 1)<30))=true:=by rfl)
 (hline:(apos.endLine == cpos.line)=true:=by rfl) (hs:starEach (e::es) X.env=(false,eval e X.env)::starEach es X.env:=by rfl) (hplain:(backTo cpos (starEach es X.env)).any (·.1)=false:=by rfl) :
 PE X (.Call (.Attribute o "append" apos) (e::es) [] cpos) (fun σ H Q=>to σ H fun x H1=>tyV X.K "list" x H1/\t σ H1 fun xs H2=>nR x xs H2 Q):=
 pe_bm PySem.F.plainAttrs_list PySem.F.slot_list_append PySem.F.type_list_append sn ho ha hbase hfew hline hs hplain
theorem bP (ho:ZE X o to) (ha:ZA X (e::es) t) (hbase:attributeBase o "append" X.env (eval o X.env)=eval o X.env:=by rfl)
 (hfew:((backTo cpos (starEach (e::es) X.env)).all (fun x=>!x.1)&&(backToKw cpos (keywordEach [] X.env)).all (fun x=>x.1.isSome)
   && decide ((e::es).length+([]:List Keyword).length+(if ([]:List Keyword).isEmpty then 0 else 1)<30))=true:=by rfl)
 (hline:(apos.endLine == cpos.line)=true:=by rfl) (hs:starEach (e::es) X.env=(false,eval e X.env)::starEach es X.env:=by rfl) (hplain:(backTo cpos (starEach es X.env)).any (·.1)=false:=by rfl) :
 ZE X (.Call (.Attribute o "append" apos) (e::es) [] cpos) (fun σ H Q=>to σ H fun x H1=>tyV X.K "list" x H1/\t σ H1 fun xs H2=>nR x xs H2 Q):=by with_unfolding_all exact kS ho ha hbase hfew hline hs hplain
theorem tyL {K:PySem.W.Frag} {H:Hp} {l:Addr} {xs:List V} (h:H l=some (.lst xs)):tyV K "list" (.ref l) H:=.inl ⟨rfl,xs,SqL.of h⟩
end
theorem DatV.ints {H:Hp} {a:Addr} {ns:List Int} (e:H a=some (.tup (ns.map V.int))):DatV H (.ref a) (.tuple (ns.map PyData.int)):=.tup e (DatAll.ints ns)
theorem Same.updN {H H':Hp} {t:Addr} {o:HO} (y:Same H H') (h:H t=none):Same H (upd H' t o):=fun b u e=>by
 rw [ao (aB e h)]
 exact y b u e
theorem ft:∀ ns:List Int,PyData.canLayAll0 (ns.map PyData.int)=true/\PyData.depthAll (ns.map PyData.int)<=1
 | []=>⟨by simp [PyData.canLayAll0],by simp [PyData.depthAll]⟩
 | n::r=>by
   obtain ⟨h1,h2⟩:=ft r
   refine ⟨by simp only [zA9,PyData.canLayAll0,PyData.canLay0,h1,Bool.and_self],?_⟩
   simp only [zA9,PyData.depthAll,PyData.depth]
   lia
theorem bm (ns:List Int):SeqAt.shaped (.tuple (ns.map PyData.int))=true:=by
 obtain ⟨h1,h2⟩:=ft ns
 unfold SeqAt.shaped
 rw [zE9]
 exact ⟨by simp only [PyData.canLay0];exact h1,decide_eq_true (by simp only [PyData.depth];lia)⟩
theorem be (ns:List Int):SeqAt.shaped (.list (ns.map PyData.int))=true:=by
 obtain ⟨h1,h2⟩:=ft ns
 unfold SeqAt.shaped
 rw [zE9]
 exact ⟨by simp only [PyData.canLay0];exact h1,decide_eq_true (by simp only [PyData.depth];lia)⟩
theorem iS {d:PyData} (h:SeqAt.shaped d=true):PyData.eqv d d=true:=SeqAt.eqv_refl d (SeqAt.canLay_of_shaped h)
theorem SqL.same {K:PySem.W.Frag} {H H':Hp} {a:Addr} {xs:List V} (e:Same H H') (h:SqL K H a xs):SqL K H' a xs:=by
 rcases h with (h | ⟨o,h⟩) | h
 · exact .inl (.inl (e _ _ h))
 · exact .inl (.inr ⟨o,e _ _ h⟩)
 · exact .inr h
section
variable {X:Cx}
def rGetL (K:PySem.W.Frag):V->V->Hp->VK->Prop:=fun x y H Q=>match x,y with
 | .ref p,.int i=>∃ xs v,SqL K H p xs/\0<=i/\xs[i.toNat]? = some v/\Q v H
 | _,_=>False
theorem oK:PGet X (rGetL X.K):=by
 intro pins s σ H x y v u Q I rx ry h
 unfold rGetL at h
 split at h
 · rename_i p i
   obtain ⟨xs,z,hq,h0,he,q⟩:=h
   cases rx
   obtain ⟨t,rfl⟩:=ry
   obtain ⟨its,r,pl,hz⟩:=I.list hq
   obtain ⟨w,ew,rw'⟩:=r.get he
   have hl:=r.length
   have hn:=fS
   have hi:i.toNat<its.length:=(List.getElem?_eq_some_iff.mp ew).1
   exact wpAny_getItem_list pl.isList h0 (by lia) (by simpa using ew) ⟨z,H,I,rw',q⟩
 · exact h.elim
def ipP (f:Int->Int->Int):TIp:=fun x y H Q=>match x,y with
 | .int i,.int j=>Q (.int (f i j)) H
 | _,_=>False
theorem ipP_I {f:Int->Int->Int} {x y:V} {H:Hp} {Q:VK} (h:ipP f x y H Q):ipI f x y H Q:=by
 unfold ipP at h
 split at h
 · exact ⟨_,_,rfl,rfl,h⟩
 · exact h.elim
theorem sy:PIp X .Add (ipP fun i j=>i+j):=fun pins s σ H x y v u Q I r1 r2 h=>ip_add pins s σ H x y v u Q I r1 r2 (ipP_I h)
def rSetP:V->V->V->Hp->(Hp->Prop)->Prop:=fun o i v H Q=>match o,i with
 | .ref p,.int k=>∃ xs,H p=some (.lst xs)/\0<=k/\k.toNat<xs.length/\Q (upd H p (.lst (xs.set k.toNat v)))
 | _,_=>False
theorem kB:tI X rSetP:=fun pins s σ H o i v ov iv u Q I r1 r2 r3 h=>by
 unfold rSetP at h
 split at h
 · obtain ⟨xs,h1,h2,h3,q⟩:=h
   refine ca pins s σ H _ _ v ov iv u Q I r1 r2 r3 ⟨_,xs,_,_,rfl,rfl,h1,?_,q⟩
   unfold ixN
   rw [if_pos h2,if_pos (by lia)]
 · exact h.elim
end
inductive Tps (H:Hp):List V->List (List Int)->Prop where
 | nil:Tps H [] []
 | cons {b:Addr} {ls:List Int} {vs lss}:H b=some (.tup (ls.map V.int))->Tps H vs lss->Tps H (.ref b::vs) (ls::lss)
theorem Tps.same {H H':Hp} (y:Same H H'):∀ {vs ps},Tps H vs ps->Tps H' vs ps
 | _,_,.nil=>.nil
 | _,_,.cons h r=>.cons (y _ _ h) (Tps.same y r)
theorem Tps.length {H:Hp}:∀ {vs ps},Tps H vs ps->vs.length=ps.length
 | _,_,.nil=>rfl
 | _,_,.cons _ r=>by rw [zB9,zB9,Tps.length r]
theorem Tps.get {H:Hp}:∀ {vs ps} {i:Nat} {v:V},Tps H vs ps->vs[i]? = some v->∃ ls b,ps[i]? = some ls/\v=.ref b/\H b=some (.tup (ls.map V.int))
 | _,_,_,_,.nil,h=>by simp at h
 | _,_,0,_,.cons h _,e=>by simp at e;exact ⟨_,_,rfl,e.symm,h⟩
 | _,_,i+1,_,.cons _ r,e=>by
   obtain ⟨ls,b,h1,h2⟩:=Tps.get (i:=i) r (by simpa using e)
   exact ⟨ls,b,by simpa using h1,h2⟩
theorem Tps.snoc {H:Hp} {b:Addr} {ls:List Int} (h:H b=some (.tup (ls.map V.int))):∀ {vs ps},Tps H vs ps->Tps H (vs++[.ref b]) (ps++[ls])
 | _,_,.nil=>.cons h .nil
 | _,_,.cons q r=>.cons q (Tps.snoc h r)
theorem Tps.updL {H:Hp} {t:Addr} {xs ys:List V} (h:H t=some (.lst xs)):∀ {us ps},Tps H us ps->Tps (upd H t (.lst ys)) us ps
 | _,_,.nil=>.nil
 | _,_,.cons hb r=>.cons (by rw [ao (li hb h (by intro z;cases z))];exact hb) (Tps.updL h r)
section
variable {X:Cx} {e:Expr} {es:List Expr} {t:TA} {p pos:Pos} {K:PySem.W.Frag} {o:Expr} {to:TE} {apos cpos:Pos}
theorem oo (hg:Gl X "len") (hm:X.mg "len" = none) (ha:PA X (e::es) t) (he:starEach (e::es) X.env=(false,eval e X.env)::starEach es X.env) (hpl:(backTo pos (starEach es X.env)).any (·.1)=false) (hK:X.K=K) :
 PE X (.Call (.Name "len" p) (e::es) [] pos) (tCB (jj K) t):=by subst hK;exact kY hg hm ha he hpl
theorem eK (hg:Gl X "len") (hm:X.mg "len" = none) (ha:ZA X (e::es) t) (he:starEach (e::es) X.env=(false,eval e X.env)::starEach es X.env) (hpl:(backTo pos (starEach es X.env)).any (·.1)=false) (hK:X.K=K) :
 ZE X (.Call (.Name "len" p) (e::es) [] pos) (tCB (jj K) t):=by with_unfolding_all exact oo hg hm ha he hpl hK
end
section
variable {prog:Program} {w:World} {A:Around} {E:Value->Shared->Prop} {s:Shared}
theorem dD {it t:Addr} {i:Nat} {items:Array Value} {x:Value} {Q:Value->Shared->Prop} (hit:s.heap.IsTupleIter it t i) (ht:s.heap.IsTuple t items) (hx:items[i]? = some x)
 (hQ:∀ h',h'.IsTupleIter it t (i+1)->Heap.SameBut it s.heap h'->Q x { s with heap:=h' }):wpAny (model prog w) A (Builtin.SmallTypes.nextOf (.ref it)) Q E s:=by
 obtain ⟨ot,h1,c1,d1⟩:=id hit
 obtain ⟨og,h2,c2,n2,d2⟩:=ht
 unfold Builtin.SmallTypes.nextOf
 refine wpAny_bind (wpAny_callSpecial?_slot hit.typeIs F.slot_tuple_iterator_next (wpAny_call_entry F.slot_tuple_iterator_next hit.typeIs F.entry_tuple_iterator_next ?_ (F.args_tuple_iterator_next_1 _)))
 refine wpAny_bind (m:=field (.ref it) 0) (wpAny_field h1 d1 (x:=.ref t) rfl ?_)
 have hnn:¬ ((Value.ref t == Value.none)=true):=fun z=>zC3 z
 show wpAny _ _ (if (Value.ref t == Value.none)=true then _ else _) _ _ _
 rw [if_neg hnn]
 refine wpAny_bind (m:=field (.ref it) 1) (wpAny_field h1 d1 (x:=.int i 0) rfl (wpAny_bind (m:=seqItems? (.ref t)) (wpAny_seqItems h2 d2 ?_)))
 simp only [zF4,hx]
 refine wpAny_bind (wpAny_setField h1 d1 (by simp) (wpAny_pure ⟨_,rfl,wpAny_pure (hQ _ ⟨_,Heap.get?_update_self _ h1 (Obj.isFreed_of_fields (Obj.data_mapFields d1 _)),(Obj.cls_mapFields ..).trans c1,?_⟩ (Heap.SameBut.update ..))⟩))
 rw [Obj.data_mapFields d1]
 simp [rawInt]
theorem dZ {it t:Addr} {i:Nat} {items:Array Value} {Q:Value->Shared->Prop} (hh:A.handled=none) (hit:s.heap.IsTupleIter it t i) (ht:s.heap.IsTuple t items) (hx:items[i]? = none)
 (hE:∀ h' e,Heap.ExtBut it s.heap h'->(∃ o,h'.get? e=some o/\o.cls=.type "StopIteration")->E (.ref e) { s with heap:=h' }):wpAny (model prog w) A (Builtin.SmallTypes.nextOf (.ref it)) Q E s:=by
 obtain ⟨ot,h1,c1,d1⟩:=id hit
 obtain ⟨og,h2,c2,n2,d2⟩:=ht
 unfold Builtin.SmallTypes.nextOf
 refine wpAny_bind (wpAny_callSpecial?_slot hit.typeIs F.slot_tuple_iterator_next (wpAny_call_entry F.slot_tuple_iterator_next hit.typeIs F.entry_tuple_iterator_next ?_ (F.args_tuple_iterator_next_1 _)))
 refine wpAny_bind (m:=field (.ref it) 0) (wpAny_field h1 d1 (x:=.ref t) rfl ?_)
 have hnn:¬ ((Value.ref t == Value.none)=true):=fun z=>zC3 z
 show wpAny _ _ (if (Value.ref t == Value.none)=true then _ else _) _ _ _
 rw [if_neg hnn]
 refine wpAny_bind (m:=field (.ref it) 1) (wpAny_field h1 d1 (x:=.int i 0) rfl (wpAny_bind (m:=seqItems? (.ref t)) (wpAny_seqItems h2 d2 ?_)))
 simp only [zF4,hx]
 refine wpAny_bind (wpAny_rule (wpAny_bind (wpAny_setField h1 d1 (by simp) (wpAny_bind (m:=newExc (.type "StopIteration") []) ?_))))
 simp only [newExc,newTuple,raiseNew]
 refine wpAny_bind (wpAny_newObj_type (wpAny_bind (m:=firstArgMember _ _) (wpAny_of_eq (a:=Value.none) (by first | rfl | (simp only [firstArgMember];rfl)) (wpAny_newObj_type (wpAny_bind (wpAny_handled ?_)) (by size_fits)))) (by size_fits))
 first | rw [show A.in1.handled=none from hh] | rw [hh]
 exact wpAny_bind (wpAny_pure (wpAny_throw (hE _ _ (((Heap.SameBut.update ..).extBut.push _).push _) ⟨_,Heap.get?_push_size _ rfl,rfl⟩)))
end
section
variable {X:Cx} {pins:List (Addr×Obj)} {σ:St} {H:Hp} {s:Shared}
theorem Inv.turned2 {h':Heap} {t':Nat} {e it:Addr} (I:Inv X pins σ H s) (hk:∀ b o,b≠e->b≠it->s.heap.get? b=some o->h'.get? b=some o) (fe:de X pins H e) (fi:de X pins H it):Inv X pins σ H { s with heap:=h',toks:=t' }:=by
 have ne:∀ {b},b∉[e,it]->b≠e/\b≠it:=fun {b} hb=>⟨fun z=>hb (by simp [z]),fun z=>hb (by simp [z])⟩
 refine I.step (g':=s.gens) (d':=s.drawn) (ch:=[e,it]) (fun b hb=>?_) (fun b o _ _ hb q _=>hk b o (ne hb).1 (ne hb).2 q) (fun b o _ _ hb q _=>⟨o.slots,hk b o (ne hb).1 (ne hb).2 q⟩) (fun b o _ _ n=>n) (fun b o hb q=>⟨o,hk b o (ne hb).1 (ne hb).2 q⟩)
  (fun _ _ q=>q) (fun _ _ _ q=>q) (fun b ps q=>⟨#[],by rw [q];simp⟩) (fun m hm=>?_) (fun b u q=>?_) I.bare
 · rcases zB2.mp hb with rfl | hb
   · exact ⟨fe.2.2.2.1,fe.2.1,fe.2.2.2.2.1,fe.2.2.2.2.2⟩
   · have:b=it:=by simpa using hb
     subst this
     exact ⟨fi.2.2.2.1,fi.2.1,fi.2.2.2.2.1,fi.2.2.2.2.2⟩
 · obtain ⟨o,es,ep,ho,r⟩:=hm
   exact ⟨o,es,ep,hk _ o (Ne.symm fe.2.1) (Ne.symm fi.2.1) ho,r⟩
 · refine (I.hok b u q).stay (fun c v hc r=>?_) (fun c r=>r) fun c xs r=>r
   have nn:∀ x,de X pins H x->c≠x:=fun x fx z=>by
    subst z
    rcases hc with rfl | hc
    · rw [fx.1] at q;cases q
    · rw [fx.1] at hc;cases hc
   exact hk c v (nn e fe) (nn it fi) r
theorem Inv.trackT {D:Addr} {ys:List V} {its:List Value} (I:Inv X pins σ H s) (rv:Vals ys its) (hz:ys.length<=sizeLine) (e:TupD s.heap D its.toArray) (hd:de X pins H D):Inv X pins σ (upd H D (.tup ys)) s:=by
 obtain ⟨h1,h2,h3,h4,h5,h6⟩:=hd
 have nD:∀ b u,H b=some u->b≠D:=fun b u q z=>by rw [z,h1] at q;cases q
 refine I.step (s:=s) (h':=s.heap) (g':=s.gens) (t':=s.toks) (d':=s.drawn) (ch:=[D]) (fun b hb=>?_) (fun b o _ _ _ q _=>q) (fun b o _ _ _ q _=>⟨o.slots,q⟩) (fun b o hb _ q=>?_) (fun b o _ q=>⟨o,q⟩)
  (fun b xs q=>(ao (nD b _ q)).trans q) (fun b o u q=>(ao (nD b _ q)).trans q) (fun b ps q=>⟨#[],by rw [ao (nD b _ q),q];simp⟩) (fun m hm=>hm) (fun b u q=>?_) I.bare
 · have:b=D:=by simpa using hb
   subst this
   exact ⟨h4,h2,h5,h6⟩
 · rw [ao (fun z=>hb (by simp [z]))];exact q
 · by_cases hb:b=D
   · subst hb
     rw [ad] at q
     cases q
     exact ⟨hz,its,rv,e⟩
   · rw [ao hb] at q
     exact (I.hok b u q).stay (fun c v _ r=>r) (fun c r=>(ao (nD c _ r)).trans r) fun c xs r=>(ao (nD c _ r)).trans r
theorem dS:bootBuiltins "enumerate" = some (.type "enumerate"):=by decide +kernel
def tF (p:Addr) (i j c:Int):HO:=.ext fun h=>∃ t u v,IsRange h p i j c t u v
theorem nC {pins:List (Addr×Obj)} {σ:St} {H:Hp} {s:Shared} {i j c:Int} {t u v:Tok} {tk:Nat} (I:Inv X pins σ H s):Inv X pins σ (upd H s.heap.objs.size (tF s.heap.objs.size i j c)) { s with heap:=s.heap.push { cls:=.type "range",data:=.fields #[.int i t,.int j u,.int c v] },toks:=tk }:=by
 refine I.laid (fun b o e=>Heap.get?_push_of_some _ e) (zA1 _) ⟨⟨t,u,v,IsRange.new ..⟩,⟨_,Heap.get?_push_size _ rfl⟩,?_⟩
 rintro h1 h2 ⟨t,u,v,e⟩ k
 exact ⟨t,u,v,k _ e⟩
def nN:List V->Hp->VK->Prop:=fun vs H Q=>match vs with
 | [.ref p]=>∃ i j c,H p=some (tF p i j c)/\Builtin.Range.small i j c=true/\c≠0/\(Builtin.Range.rangeSize i j c).toNat<=1000000/\∀ l,H l=none->Q (.ref l) (upd H l (.lst (((List.range (Builtin.Range.rangeSize i j c).toNat).map fun (k:Nat)=>i+(k:Int)*c).map V.int)))
 | _=>False
theorem eQ {F:Nat->Int}:∀ (n:Nat) {us:List Value},us.length=n->(∀ (j:Nat) (v:Value),us[j]? = some v->∃ t,v=.int (F j) t)->Vals (((List.range n).map F).map V.int) us:=by
 intro n us hl h
 have:∀ (us:List Value) (G:Nat->Int),(∀ (j:Nat) (v:Value),us[j]? = some v->∃ t,v=.int (G j) t)->Vals (((List.range us.length).map G).map V.int) us:=by
  intro us
  induction us with
  | nil=>intro G _;exact .nil
  | cons u r ih=>
    intro G hG
    rw [zB9,List.range_succ_eq_map,zA9,zA9]
    refine .cons (hG 0 u rfl) ?_
    have:=ih (fun j=>G (j+1)) fun j v e=>hG (j+1) v (by simpa using e)
    have e:((List.range r.length).map Nat.succ).map G=(List.range r.length).map (fun j=>G (j+1)):=by rw [zE4];rfl
    rw [e]
    exact this
 have:=this us F h
 rw [hl] at this
 exact this
theorem mB (hc:X.calm=true):CallR X (.type "list") nN:=by
 intro pins s σ H xs us Q I r h
 unfold nN at h
 split at h
 · rename_i p
   obtain ⟨i,j,c,hp,hs,hc0,hn,q⟩:=h
   obtain ⟨u,rfl,rx⟩:=cg r
   cases rx
   obtain ⟨⟨t,u,v,hr⟩,_⟩:=I.hok p _ hp
   have h0:=dy (a:=i) (b:=j) hc0
   refine call_list_range (I.ok.hd hc) hr hs (n:=(Builtin.Range.rangeSize i j c).toNat) (by lia) (by lia) fun h' tk acc' c' hk hS hit=>?_
   have rv:Vals (((List.range (Builtin.Range.rangeSize i j c).toNat).map fun (k:Nat)=>i+(k:Int)*c).map V.int) acc'.toList:=eQ _ (by rw [zD0];exact hit.1) fun k v e=>hit.2 k v (by simpa using e)
   refine ⟨.ref s.heap.objs.size,_,I.laid (t':=tk) hk (zA1 _) (show ObjOk X.prog X.w _ h' _ (.lst (((List.range (Builtin.Range.rangeSize i j c).toNat).map fun (k:Nat)=>i+(k:Int)*c).map V.int)) from ⟨?_,acc'.toList,c',rv,hS⟩),rfl,q _ (I.hok.fresh (zA1 _))⟩
   rw [zA0,zA0,zD2,sizeLine_eq]
   lia
 · exact h.elim
theorem gZ:bootBuiltins "list" = some (.type "list"):=by decide +kernel
variable {e:Expr} {es:List Expr} {t:TA} {p pos:Pos}
theorem js (hc:X.calm=true) (hg:Gl X "list") (hm:X.mg "list" = none) (ha:PA X (e::es) t) (he:starEach (e::es) X.env=(false,eval e X.env)::starEach es X.env) (hpl:(backTo pos (starEach es X.env)).any (·.1)=false) :
 PE X (.Call (.Name "list" p) (e::es) [] pos) (tCB nN t):=cC (mB hc) hg hm gZ ha (by decide) (by decide) he hpl
theorem i8 (hc:X.calm=true) (hg:Gl X "list") (hm:X.mg "list" = none) (ha:ZA X (e::es) t) (he:starEach (e::es) X.env=(false,eval e X.env)::starEach es X.env) (hpl:(backTo pos (starEach es X.env)).any (·.1)=false) :
 ZE X (.Call (.Name "list" p) (e::es) [] pos) (tCB nN t):=by with_unfolding_all exact js hc hg hm ha he hpl
end
def Itq (h:Heap) (i l:Addr) (k:Nat) (xs:Array Value):Prop:=(h.IsListIter i l k/\h.IsList l xs)\/(h.IsTupleIter i l k/\h.IsTuple l xs)
theorem Itq.at {h h':Heap} {i l:Addr} {k:Nat} {xs:Array Value} (x:Itq h i l k xs) (hi:∀ o,h.get? i=some o->h'.get? i=some o) (hl:∀ o,h.get? l=some o->h'.get? l=some o):Itq h' i l k xs:=
 x.elim (fun a=>.inl ⟨a.1.at hi,a.2.at hl⟩) fun a=>.inr ⟨a.1.at hi,a.2.at hl⟩
theorem Itq.but {h h':Heap} {i l z:Addr} {k:Nat} {xs:Array Value} (x:Itq h i l k xs) (e:Heap.ExtBut z h h') (n1:i≠z) (n2:l≠z):Itq h' i l k xs:=x.at (fun o q=>e _ _ n1 q) fun o q=>e _ _ n2 q
section
variable {prog:Program} {w:World} {A:Around} {E:Value->Shared->Prop} {s:Shared}
theorem Itq.item {i l:Addr} {k:Nat} {xs:Array Value} {v:Value} {Q:Value->Shared->Prop} (x:Itq s.heap i l k xs) (hne:l≠i) (hx:xs[k]? = some v)
 (hQ:∀ h',Itq h' i l (k+1) xs->Heap.SameBut i s.heap h'->Q v { s with heap:=h' }):wpAny (model prog w) A (Builtin.SmallTypes.nextOf (.ref i)) Q E s:=by
 rcases x with ⟨x1,x2⟩ | ⟨x1,x2⟩
 · exact wpAny_nextOf_list_item x1 x2 hx fun h' a b=>hQ h' (.inl ⟨a,x2.extBut b.extBut hne⟩) b
 · exact dD x1 x2 hx fun h' a b=>hQ h' (.inr ⟨a,x2.extBut b.extBut hne⟩) b
theorem Itq.fin {i l:Addr} {k:Nat} {xs:Array Value} {Q:Value->Shared->Prop} (hh:A.handled=none) (x:Itq s.heap i l k xs) (hx:xs[k]? = none)
 (hE:∀ h' e,Heap.ExtBut i s.heap h'->(∃ o,h'.get? e=some o/\o.cls=.type "StopIteration")->E (.ref e) { s with heap:=h' }):wpAny (model prog w) A (Builtin.SmallTypes.nextOf (.ref i)) Q E s:=by
 rcases x with ⟨x1,x2⟩ | ⟨x1,x2⟩
 · exact wpAny_nextOf_list_end hh x1 x2 hx hE
 · exact dZ hh x1 x2 hx hE
theorem qd {z TI TO i1 i2 l1 l2:Addr} {k1 k2:Nat} {xs ys:Array Value} {x y a b:Value} {Q:Value->Shared->Prop} (D:ZipApart z TI TO i1 i2 l1 l2) (n12:l1≠TI) (n22:l2≠TI)
 (hz:IsZip s.heap z TI TO .none) (hTI:IsPair s.heap TI (.ref i1) (.ref i2)) (hTO:IsPair s.heap TO a b) (h1:Itq s.heap i1 l1 k1 xs) (h2:Itq s.heap i2 l2 k2 ys) (hx:xs[k1]? = some x) (hy:ys[k2]? = some y)
 (hQ:∀ h',IsZip h' z TI TO (rawInt s.heap.objs.size)->IsPair h' TO x y->Itq h' i1 l1 (k1+1) xs->Itq h' i2 l2 (k2+1) ys->IsPair h' s.heap.objs.size x y->h'.objs.size=s.heap.objs.size+1 ->
   (∀ c o,c≠z->c≠TO->c≠i1->c≠i2->s.heap.get? c=some o->h'.get? c=some o)->Q (.ref s.heap.objs.size) { s with heap:=h' }) :
 wpAny (model prog w) A (Builtin.«zip.__next__» ⟨[.ref z],[]⟩) (fun fin s'=>∃ v,fin=.done (.ret v)/\Q v s') E s:=by
 show wpAny _ _ (field (.ref z) 2 >>= _) _ _ _;refine wpAny_bind (wpAny_field hz rfl (x:=.bool false) rfl ?_)
 show wpAny _ _ (field (.ref z) 3 >>= _) _ _ _;refine wpAny_bind (wpAny_field hz rfl (x:=.ref TI) rfl ?_)
 refine wpAny_bind (wpAny_seqItems hTI rfl ?_);show wpAny _ _ (Builtin.SmallTypes.ownedTupleIsFree (.ref z) >>= _) _ _ _
 refine wpAny_bind ?_;unfold Builtin.SmallTypes.ownedTupleIsFree
 refine wpAny_bind (wpAny_field hz rfl (x:=.none) rfl (wpAny_pure ?_));simp only [if_true]
 refine wpAny_bind (wpAny_rule ?_);refine wpAny_bind (wpAny_field hz rfl (x:=.ref TO) rfl ?_)
 refine wpAny_bind (wpAny_setField_rec hz (by simp) fun g1 hz1 e1=>?_)
 replace hz1:IsZip g1 z TI TO .ellipsis:=hz1
 refine wpAny_bind ?_;simp only [List.zipIdx_cons,List.zipIdx_nil,List.forIn_cons,List.forIn_nil]
 refine wpAny_bind (wpAny_bind (wpAny_onRaise ?_));show wpAny _ _ (Builtin.SmallTypes.nextOf (.ref i1) >>= _) _ _ _
 have h1a:Itq g1 i1 l1 k1 xs:=h1.but e1.extBut D.i1z D.l1z
 have h2a:Itq g1 i2 l2 k2 ys:=h2.but e1.extBut D.i2z D.l2z
 refine wpAny_bind (Itq.item (s:={ s with heap:=g1 }) h1a D.l1i1 hx fun g2 h1b e2=>wpAny_pure ?_)
 have hTO2:IsPair g2 TO a b:=e2.extBut _ _ D.TOi1 (e1.extBut _ _ D.TOz hTO)
 have h2b:Itq g2 i2 l2 k2 ys:=h2a.but e2.extBut (Ne.symm D.i12) D.l2i1
 refine wpAny_bind (wpAny_seqItems hTO2 rfl ?_);refine wpAny_bind (wpAny_updateSeq_pair hTO2 fun g3 hTO3 e3=>?_)
 replace hTO3:IsPair g3 TO x b:=hTO3
 have h1c:Itq g3 i1 l1 (k1+1) xs:=h1b.but e3.extBut (Ne.symm D.TOi1) D.l1TO
 have h2c:Itq g3 i2 l2 k2 ys:=h2b.but e3.extBut (Ne.symm D.TOi2) D.l2TO
 refine wpAny_bind (wpAny_letGo (wpAny_pure ?_));refine wpAny_bind (wpAny_bind (wpAny_onRaise ?_))
 show wpAny _ _ (Builtin.SmallTypes.nextOf (.ref i2) >>= _) _ _ _
 refine wpAny_bind (Itq.item (s:={ s with heap:=g3 }) h2c D.l2i2 hy fun g4 h2d e4=>wpAny_pure ?_)
 have hTO4:IsPair g4 TO x b:=e4.extBut _ _ D.TOi2 hTO3
 have h1d:Itq g4 i1 l1 (k1+1) xs:=h1c.but e4.extBut D.i12 D.l1i2
 refine wpAny_bind (wpAny_seqItems hTO4 rfl ?_);refine wpAny_bind (wpAny_updateSeq_pair hTO4 fun g5 hTO5 e5=>?_)
 replace hTO5:IsPair g5 TO x y:=hTO5
 have h1e:Itq g5 i1 l1 (k1+1) xs:=h1d.but e5.extBut (Ne.symm D.TOi1) D.l1TO
 have h2e:Itq g5 i2 l2 (k2+1) ys:=h2d.but e5.extBut (Ne.symm D.TOi2) D.l2TO
 refine wpAny_bind (wpAny_letGo (wpAny_pure (wpAny_pure ?_)));refine wpAny_bind (wpAny_seqItems hTO5 rfl ?_);refine wpAny_bind (wpAny_newTuple ?_)
 have hsz:g5.objs.size=s.heap.objs.size:=by rw [e5.1,e4.1,e3.1,e2.1,e1.1]
 have hz5:IsZip g5 z TI TO .ellipsis:=e5.extBut _ _ (Ne.symm D.TOz) (e4.extBut _ _ (Ne.symm D.i2z) (e3.extBut _ _ (Ne.symm D.TOz) (e2.extBut _ _ (Ne.symm D.i1z) hz1)))
 have k5:∀ c o,c≠z->c≠TO->c≠i1->c≠i2->s.heap.get? c=some o->g5.get? c=some o:=fun c o c1 c2 c3 c4 q=>e5.extBut _ _ c2 (e4.extBut _ _ c4 (e3.extBut _ _ c2 (e2.extBut _ _ c3 (e1.extBut _ _ c1 q))))
 have zlt:z<g5.objs.size:=Heap.lt_size hz5
 show wpAny _ _ (Builtin.SmallTypes.ownedTupleHandOut (.ref z) (.ref g5.objs.size) >>= _) _ _ _
 refine wpAny_bind ?_;unfold Builtin.SmallTypes.ownedTupleHandOut
 have hz6:IsZip (g5.push { cls:=.type "tuple",data:=.seq #[x,y] }) z TI TO .ellipsis:=Heap.get?_push_of_some _ hz5
 refine wpAny_bind (wpAny_setField_rec hz6 (by simp) fun g7 hz7 e7=>?_)
 replace hz7:IsZip g7 z TI TO (rawInt g5.objs.size):=hz7
 refine wpAny_setField_rec hz7 (by simp) fun g8 hz8 e8=>?_
 replace hz8:IsZip g8 z TI TO (rawInt g5.objs.size):=hz8
 have up:∀ c o,c≠z->g5.get? c=some o->g8.get? c=some o:=fun c o c1 q=>e8.extBut _ _ c1 (e7.extBut _ _ c1 (Heap.get?_push_of_some _ q))
 have hT8:IsPair g8 g5.objs.size x y:=e8.extBut _ _ (Nat.ne_of_gt zlt) (e7.extBut _ _ (Nat.ne_of_gt zlt) (Heap.get?_push_size _ rfl))
 have hs8:g8.objs.size=g5.objs.size+1:=by rw [e8.1,e7.1,Heap.size_push]
 rw [hsz] at hz8 hT8 hs8
 refine wpAny_pure ⟨_,rfl,?_⟩;show Q (.ref g5.objs.size) _;rw [hsz]
 exact hQ g8 hz8 (up _ _ D.TOz hTO5) (h1e.at (fun o q=>up _ o D.i1z q) fun o q=>up _ o D.l1z q) (h2e.at (fun o q=>up _ o D.i2z q) fun o q=>up _ o D.l2z q) hT8 hs8 fun c o c1 c2 c3 c4 q=>up c o c1 (k5 c o c1 c2 c3 c4 q)
theorem zq_end {z TI TO i1 i2 l1 l2:Addr} {k1 k2:Nat} {xs ys:Array Value} {a b:Value} {Q:PySem.Fin->Shared->Prop} (hh:A.handled=none) (D:ZipApart z TI TO i1 i2 l1 l2)
 (hz:IsZip s.heap z TI TO .none) (hTI:IsPair s.heap TI (.ref i1) (.ref i2)) (hTO:IsPair s.heap TO a b) (h1:Itq s.heap i1 l1 k1 xs) (h2:Itq s.heap i2 l2 k2 ys) (hend:xs[k1]? = none\/ys[k2]? = none)
 (hE:∀ h' e,(∀ c o,c≠z->c≠TO->c≠i1->c≠i2->s.heap.get? c=some o->h'.get? c=some o)->(∃ o,h'.get? e=some o/\o.cls=.type "StopIteration")->E (.ref e) { s with heap:=h' }):wpAny (model prog w) A (Builtin.«zip.__next__» ⟨[.ref z],[]⟩) Q E s:=by
 show wpAny _ _ (field (.ref z) 2 >>= _) _ _ _;refine wpAny_bind (wpAny_field hz rfl (x:=.bool false) rfl ?_)
 show wpAny _ _ (field (.ref z) 3 >>= _) _ _ _;refine wpAny_bind (wpAny_field hz rfl (x:=.ref TI) rfl ?_)
 refine wpAny_bind (wpAny_seqItems hTI rfl ?_);show wpAny _ _ (Builtin.SmallTypes.ownedTupleIsFree (.ref z) >>= _) _ _ _
 refine wpAny_bind ?_;unfold Builtin.SmallTypes.ownedTupleIsFree
 refine wpAny_bind (wpAny_field hz rfl (x:=.none) rfl (wpAny_pure ?_));simp only [if_true]
 refine wpAny_bind (wpAny_rule ?_);refine wpAny_bind (wpAny_field hz rfl (x:=.ref TO) rfl ?_)
 refine wpAny_bind (wpAny_setField_rec hz (by simp) fun g1 hz1 e1=>?_)
 replace hz1:IsZip g1 z TI TO .ellipsis:=hz1
 refine wpAny_bind ?_;simp only [List.zipIdx_cons,List.zipIdx_nil,List.forIn_cons,List.forIn_nil]
 refine wpAny_bind (wpAny_bind (wpAny_onRaise ?_));show wpAny _ _ (Builtin.SmallTypes.nextOf (.ref i1) >>= _) _ _ _
 have h1a:Itq g1 i1 l1 k1 xs:=h1.but e1.extBut D.i1z D.l1z
 have h2a:Itq g1 i2 l2 k2 ys:=h2.but e1.extBut D.i2z D.l2z
 cases hx:xs[k1]? with
 | none=>
   refine wpAny_bind (Itq.fin (s:={ s with heap:=g1 }) hh h1a hx fun g2 e e2 he=>?_)
   obtain ⟨oe,hoe,hce⟩:=he
   have hz2:IsZip g2 z TI TO .ellipsis:=e2 _ _ (Ne.symm D.i1z) hz1
   have hez:e≠z:=fun q=>by subst q;rw [hz2] at hoe;cases hoe;simp at hce
   exact wpAny_setField_rec hz2 (by simp) fun g3 _ e3=>hE g3 e (fun c o c1 _ c3 _ q=>e3.extBut _ _ c1 (e2 _ _ c3 (e1.extBut _ _ c1 q))) ⟨oe,e3.extBut _ _ hez hoe,hce⟩
 | some x=>
   have hy:ys[k2]? = none:=by
    rcases hend with h | h
    · rw [hx] at h;cases h
    · exact h
   refine wpAny_bind (Itq.item (s:={ s with heap:=g1 }) h1a D.l1i1 hx fun g2 h1b e2=>wpAny_pure ?_)
   have hTO2:IsPair g2 TO a b:=e2.extBut _ _ D.TOi1 (e1.extBut _ _ D.TOz hTO)
   have h2b:Itq g2 i2 l2 k2 ys:=h2a.but e2.extBut (Ne.symm D.i12) D.l2i1
   refine wpAny_bind (wpAny_seqItems hTO2 rfl ?_);refine wpAny_bind (wpAny_updateSeq_pair hTO2 fun g3 hTO3 e3=>?_)
   have h2c:Itq g3 i2 l2 k2 ys:=h2b.but e3.extBut (Ne.symm D.TOi2) D.l2TO
   refine wpAny_bind (wpAny_letGo (wpAny_pure ?_));refine wpAny_bind (wpAny_bind (wpAny_onRaise ?_))
   show wpAny _ _ (Builtin.SmallTypes.nextOf (.ref i2) >>= _) _ _ _
   refine wpAny_bind (Itq.fin (s:={ s with heap:=g3 }) hh h2c hy fun g4 e e4 he=>?_)
   obtain ⟨oe,hoe,hce⟩:=he
   have hz4:IsZip g4 z TI TO .ellipsis:=e4 _ _ (Ne.symm D.i2z) (e3.extBut _ _ (Ne.symm D.TOz) (e2.extBut _ _ (Ne.symm D.i1z) hz1))
   have hez:e≠z:=fun q=>by subst q;rw [hz4] at hoe;cases hoe;simp at hce
   exact wpAny_setField_rec hz4 (by simp) fun g5 _ e5=>hE g5 e (fun c o c1 c2 c3 c4 q=>e5.extBut _ _ c1 (e4 _ _ c4 (e3.extBut _ _ c2 (e2.extBut _ _ c3 (e1.extBut _ _ c1 q))))) ⟨oe,e5.extBut _ _ hez hoe,hce⟩
def itCls (b:Bool):String:=if b then "tuple_iterator" else "list_iterator"
def IsSq (h:Heap) (b:Bool) (l:Addr) (xs:Array Value):Prop:=if b=true then h.IsTuple l xs else h.IsList l xs
abbrev zqI (b:Bool) (l:Addr):Obj:={ cls:=.type (itCls b),data:=.fields #[.ref l,.int 0 0] }
theorem IsSq.push {h:Heap} {b:Bool} {l:Addr} {xs:Array Value} (x:IsSq h b l xs) (o:Obj):IsSq (h.push o) b l xs:=by
 cases b with
 | true=>exact (show h.IsTuple l xs from x).at fun u q=>Heap.get?_push_of_some _ q
 | false=>exact (show h.IsList l xs from x).push o
theorem fh {b:Bool} {l:Addr} {xs:Array Value} {Q:Value->Shared->Prop} (x:IsSq s.heap b l xs) (h:Q (.ref s.heap.objs.size) { s with heap:=s.heap.push (zqI b l) }):wpAny (model prog w) A (pyIter (.ref l)) Q E s:=by
 cases b with
 | true=>exact wpAny_pyIter_tuple (show s.heap.IsTuple l xs from x) h
 | false=>exact wpAny_pyIter_list (show s.heap.IsList l xs from x) h
end
abbrev zq1 (h:Heap) (b:Bool) (l:Addr):Heap:=h.push (zqI b l)
abbrev zq2 (h:Heap) (b c:Bool) (l m:Addr):Heap:=(zq1 h b l).push (zqI c m)
abbrev zq3 (h:Heap) (b c:Bool) (l m:Addr):Heap:=(zq2 h b c l m).push { cls:=.type "tuple",data:=.seq #[.ref h.objs.size,.ref (zq1 h b l).objs.size] }
abbrev zq4 (h:Heap) (b c:Bool) (l m:Addr):Heap:=(zq3 h b c l m).push { cls:=.type "tuple",data:=.seq #[.none,.none] }
abbrev zq5 (h:Heap) (b c:Bool) (l m:Addr):Heap:=(zq4 h b c l m).push { cls:=.type "zip",data:=.fields #[.none,.bool false,.bool false,.ref (zq2 h b c l m).objs.size,.ref (zq3 h b c l m).objs.size] }
theorem oz (b c:Bool) (l m:Addr) (xs ys:Array Value):Meets (Builtin.«zip.__new__» ⟨[.type "zip",.ref l,.ref m],[]⟩) (fun _ R s=>IsSq s.heap b l xs/\IsSq s.heap c m ys/\R (.ok (.ret (.ref (zq4 s.heap b c l m).objs.size))) { s with heap:=zq5 s.heap b c l m }):=
 .of_wp fun prog w A R s h=>by
  obtain ⟨hp,g,d,tk,os⟩:=s;obtain ⟨q1,q2,h⟩:=h
  have hsub:=sub_zip
  have r1:IsSq (Shared.heap ⟨hp,g,d,tk,os⟩) b l xs:=q1
  have r2:IsSq (Shared.heap ⟨hp.push (zqI b l),g,d,tk,os⟩) c m ys:=IsSq.push q2 _
  wp_walk using fh r1,fh r2
  exact ⟨_,rfl,h⟩
section
variable {prog:Program} {w:World} {A:Around} {E:Value->Shared->Prop} {s:Shared}
theorem sS {b c:Bool} {l m:Addr} {xs ys:Array Value} {Q:Value->Shared->Prop} (q1:IsSq s.heap b l xs) (q2:IsSq s.heap c m ys)
 (h:∀ h',IsZip h' (s.heap.objs.size+4) (s.heap.objs.size+2) (s.heap.objs.size+3) .none->IsPair h' (s.heap.objs.size+2) (.ref s.heap.objs.size) (.ref (s.heap.objs.size+1)) ->
   IsPair h' (s.heap.objs.size+3) .none .none->Itq h' s.heap.objs.size l 0 xs->Itq h' (s.heap.objs.size+1) m 0 ys->(∀ c o,s.heap.get? c=some o->h'.get? c=some o)->Q (.ref (s.heap.objs.size+4)) { s with heap:=h' }) :
 wpAny (model prog w) A (call (.type "zip") [.ref l,.ref m]) Q E s:=by
 refine callType_new F.called_zip (by decide) (F.typeCall_zip_2 _ _) (F.newCall_zip_2 _ _) (fun obj=>F.args_object_init_3 obj _ _) F.entry_zip_new (oz b c l m xs ys) ⟨q1,q2,?_⟩
 have z1:(zq1 s.heap b l).objs.size=s.heap.objs.size+1:=Heap.size_push ..
 have z2:(zq2 s.heap b c l m).objs.size=s.heap.objs.size+2:=by rw [Heap.size_push,z1]
 have z3:(zq3 s.heap b c l m).objs.size=s.heap.objs.size+3:=by rw [Heap.size_push,z2]
 have z4:(zq4 s.heap b c l m).objs.size=s.heap.objs.size+4:=by rw [Heap.size_push,z3]
 have g5:(zq5 s.heap b c l m).get? (zq4 s.heap b c l m).objs.size=some _:=Heap.get?_push_size _ rfl
 have g4:(zq5 s.heap b c l m).get? (zq3 s.heap b c l m).objs.size=some _:=Heap.get?_push_of_some _ (Heap.get?_push_size _ rfl)
 have g3:(zq5 s.heap b c l m).get? (zq2 s.heap b c l m).objs.size=some _:=Heap.get?_push_of_some _ (Heap.get?_push_of_some _ (Heap.get?_push_size _ rfl))
 have g2:(zq5 s.heap b c l m).get? (zq1 s.heap b l).objs.size=some (zqI c m):=Heap.get?_push_of_some _ (Heap.get?_push_of_some _ (Heap.get?_push_of_some _ (Heap.get?_push_size _ rfl)))
 have g1:(zq5 s.heap b c l m).get? s.heap.objs.size=some (zqI b l):=Heap.get?_push_of_some _ (Heap.get?_push_of_some _ (Heap.get?_push_of_some _ (Heap.get?_push_of_some _ (Heap.get?_push_size _ rfl))))
 have kp:∀ c' o,s.heap.get? c'=some o->(zq5 s.heap b c l m).get? c'=some o:=fun c' o q=>Heap.get?_push_of_some _ (Heap.get?_push_of_some _ (Heap.get?_push_of_some _ (Heap.get?_push_of_some _ (Heap.get?_push_of_some _ q))))
 show _/\_
 rw [z2,z3,z4] at g5
 rw [z1,z2] at g3
 rw [z3] at g4
 rw [z1] at g2
 rw [z4]
 have j1:Itq (zq5 s.heap b c l m) s.heap.objs.size l 0 xs:=by
  cases b with
  | true=>exact .inr ⟨⟨_,g1,rfl,rfl⟩,(show s.heap.IsTuple l xs from q1).at fun o q=>kp _ o q⟩
  | false=>exact .inl ⟨⟨_,g1,rfl,rfl⟩,(show s.heap.IsList l xs from q1).at fun o q=>kp _ o q⟩
 have j2:Itq (zq5 s.heap b c l m) (s.heap.objs.size+1) m 0 ys:=by
  cases c with
  | true=>exact .inr ⟨⟨_,g2,rfl,rfl⟩,(show s.heap.IsTuple m ys from q2).at fun o q=>kp _ o q⟩
  | false=>exact .inl ⟨⟨_,g2,rfl,rfl⟩,(show s.heap.IsList m ys from q2).at fun o q=>kp _ o q⟩
 exact ⟨⟨_,g5,rfl⟩,h _ g5 g3 g4 j1 j2 kp⟩
end
section
variable {X:Cx} {pins:List (Addr×Obj)} {σ:St} {H:Hp} {s:Shared}
theorem Inv.turnedL {h':Heap} {t':Nat} {ch:List Addr} (I:Inv X pins σ H s) (hk:∀ b o,b∉ch->s.heap.get? b=some o->h'.get? b=some o) (fc:∀ e∈ch,de X pins H e):Inv X pins σ H { s with heap:=h',toks:=t' }:=by
 refine I.step (g':=s.gens) (d':=s.drawn) (ch:=ch) (fun b hb=>?_) (fun b o _ _ hb q _=>hk b o hb q) (fun b o _ _ hb q _=>⟨o.slots,hk b o hb q⟩) (fun b o _ _ n=>n) (fun b o hb q=>⟨o,hk b o hb q⟩)
  (fun _ _ q=>q) (fun _ _ _ q=>q) (fun b ps q=>⟨#[],by rw [q];simp⟩) (fun m hm=>?_) (fun b u q=>?_) I.bare
 · have f:=fc b hb
   exact ⟨f.2.2.2.1,f.2.1,f.2.2.2.2.1,f.2.2.2.2.2⟩
 · obtain ⟨o,es,ep,ho,r⟩:=hm
   exact ⟨o,es,ep,hk _ o (fun z=>(fc _ z).2.1 rfl) ho,r⟩
 · refine (I.hok b u q).stay (fun c v hc r=>hk c v (fun z=>?_) r) (fun c r=>r) fun c xs r=>r
   have f:=fc c z
   rcases hc with rfl | hc
   · rw [f.1] at q;cases q
   · rw [f.1] at hc;cases hc
def SqK (H:Hp) (c:Bool) (a:Addr) (xs:List V):Prop:=H a=some (if c=true then HO.tup xs else HO.lst xs)
theorem SqK.inj {c:Bool} {a:Addr} {xs ys:List V} (h:SqK H c a xs) (h':SqK H c a ys):xs=ys:=by
 unfold SqK at h h'
 rw [h] at h'
 cases c <;> (injection h' with h';injection h')
theorem SqK.ne {c:Bool} {a b:Addr} {xs:List V} (h:SqK H c a xs) (hb:H b=none):a≠b:=fun z=>by
 subst z
 unfold SqK at h
 rw [hb] at h;cases h
theorem SqK.same {H':Hp} {c:Bool} {a:Addr} {xs:List V} (h:SqK H c a xs) (y:Same H H'):SqK H' c a xs:=y _ _ h
theorem SqK.tup {a:Addr} {xs:List V} (h:H a=some (.tup xs)):SqK H true a xs:=h
theorem SqK.lst {a:Addr} {xs:List V} (h:H a=some (.lst xs)):SqK H false a xs:=h
theorem Inv.sqK {c:Bool} {a:Addr} {xs:List V} (I:Inv X pins σ H s) (h:SqK H c a xs):∃ its:List Value,Vals xs its/\IsSq s.heap c a its.toArray:=by
 cases c with
 | true=>
   obtain ⟨its,r,p,_⟩:=I.tuple (SqT.of h)
   exact ⟨its,r,(show s.heap.IsTuple a its.toArray from p)⟩
 | false=>
   obtain ⟨its,r,p,_⟩:=I.list (SqL.of h)
   exact ⟨its,r,p.isList⟩
def Itz (c d:Bool) (a b:Addr):It:=⟨fun i H=>∃ xs ys x y,SqK H c a xs/\SqK H d b ys/\xs[i]? = some x/\ys[i]? = some y,
 fun i H v H'=>∃ p,H p=none/\v=.ref p/\∀ xs ys,SqK H c a xs->SqK H d b ys->∃ x y,xs[i]? = some x/\ys[i]? = some y/\H'=upd H p (.tup [x,y]),
 fun i H=>∃ xs ys,SqK H c a xs/\SqK H d b ys/\(xs[i]? = none\/ys[i]? = none)⟩
def Itk (h:Heap) (c:Bool) (i l:Addr) (k:Nat):Prop:=if c=true then h.IsTupleIter i l k else h.IsListIter i l k
theorem Itk.at {h h':Heap} {c:Bool} {i l:Addr} {k:Nat} (x:Itk h c i l k) (hi:∀ o,h.get? i=some o->h'.get? i=some o):Itk h' c i l k:=by
 cases c with
 | true=>exact (show h.IsTupleIter i l k from x).at hi
 | false=>exact (show h.IsListIter i l k from x).at hi
theorem Itk.obj {h:Heap} {c:Bool} {i l:Addr} {k:Nat} (x:Itk h c i l k):∃ o,h.get? i=some o/\∀ v,o.data≠.cell v:=by
 cases c with
 | true=>obtain ⟨o,e,_,d⟩:=(show h.IsTupleIter i l k from x);exact ⟨o,e,fun v z=>by rw [d] at z;cases z⟩
 | false=>obtain ⟨o,e,_,d⟩:=(show h.IsListIter i l k from x);exact ⟨o,e,fun v z=>by rw [d] at z;cases z⟩
theorem Itk.q {h:Heap} {c:Bool} {i l:Addr} {k:Nat} {xs:Array Value} (x:Itk h c i l k) (q:IsSq h c l xs):Itq h i l k xs:=by
 cases c with
 | true=>exact .inr ⟨x,q⟩
 | false=>exact .inl ⟨x,q⟩
theorem kc {h:Heap} {l:Addr} {xs ys:Array Value} (p:h.IsTuple l xs) (q:h.IsList l ys):False:=by
 obtain ⟨o,e,c1,_⟩:=p
 obtain ⟨o',e',c2,_⟩:=q
 rw [e] at e';cases e'
 rw [c1] at c2
 injection c2 with c2
 exact absurd c2 (by decide)
theorem Itq.k {h:Heap} {c:Bool} {i l:Addr} {k:Nat} {xs:Array Value} (x:Itq h i l k xs) (q:IsSq h c l xs):Itk h c i l k:=by
 rcases x with ⟨x1,x2⟩ | ⟨x1,x2⟩
 · cases c with
   | false=>exact x1
   | true=>exact (kc (show h.IsTuple l xs from q) x2).elim
 · cases c with
   | true=>exact x1
   | false=>exact (kc x2 (show h.IsList l xs from q)).elim
theorem IsSq.at {h h':Heap} {c:Bool} {l:Addr} {xs:Array Value} (x:IsSq h c l xs) (hl:∀ o,h.get? l=some o->h'.get? l=some o):IsSq h' c l xs:=by
 cases c with
 | true=>exact (show h.IsTuple l xs from x).at hl
 | false=>exact (show h.IsList l xs from x).at hl
def ZTn (c d:Bool) (z TI TO i1 i2 a b:Addr) (i:Nat) (h:Heap):Prop:=IsZip h z TI TO .none/\IsPair h TI (.ref i1) (.ref i2)/\(∃ u v,IsPair h TO u v)/\Itk h c i1 a i/\Itk h d i2 b i
structure ZAp (z TI TO i1 i2:Addr):Prop where
 h1:TI≠z
 h2:TO≠z
 h3:i1≠z
 h4:i2≠z
 h5:TI≠TO
 h6:TI≠i1
 h7:TI≠i2
 h8:TO≠i1
 h9:TO≠i2
 h10:i1≠i2
theorem ZAp.apart {z TI TO i1 i2 a b:Addr} (p:ZAp z TI TO i1 i2) (ha:∀ e∈[z,TI,TO,i1,i2],a≠e) (hb:∀ e∈[z,TI,TO,i1,i2],b≠e):ZipApart z TI TO i1 i2 a b:=
 ⟨p.h1,p.h2,p.h3,p.h4,p.h5,p.h6,p.h7,p.h8,p.h9,p.h10,ha _ (by simp),ha _ (by simp),ha _ (by simp),ha _ (by simp),hb _ (by simp),hb _ (by simp),hb _ (by simp),hb _ (by simp)⟩
theorem nh {P:Program} {w:World} {K:PySem.W.Frag} {elts:List Expr} {k:Nat} {pos:Pos} {c d:Bool} {z TI TO i1 i2 a b:Addr} (ap:ZAp z TI TO i1 i2) :
 Turn P w K (.Tuple elts k pos) (Itz c d a b) [z,TI,TO,i1,i2] z (ZTn c d z TI TO i1 i2 a b) where
 mem:=zA8 ..
 obj:=fun i h st e he=>by
  obtain ⟨hz,hTI,⟨u,v,hTO⟩,k1,k2⟩:=st
  simp only [zB2,zJ2,or_false] at he
  rcases he with rfl | rfl | rfl | rfl | rfl
  · exact ⟨_,hz,fun v q=>by cases q⟩
  · exact ⟨_,hTI,fun v q=>by cases q⟩
  · exact ⟨_,hTO,fun v q=>by cases q⟩
  · exact k1.obj
  · exact k2.obj
 keep:=fun i h h' st kp=>by
  obtain ⟨hz,hTI,⟨u,v,hTO⟩,k1,k2⟩:=st
  exact ⟨kp z (by simp) _ hz,kp TI (by simp) _ hTI,⟨u,v,kp TO (by simp) _ hTO⟩,k1.at fun o q=>kp i1 (by simp) o q,k2.at fun o q=>kp i2 (by simp) o q⟩
 item:=by
  intro X hP hw hK hc i pins s σ H E I hf st hg
  subst hP hw hK
  obtain ⟨xs,ys,x,y,ha,hb,hx,hy⟩:=hg
  obtain ⟨hz,hTI,⟨u,v,hTO⟩,k1,k2⟩:=st
  obtain ⟨its,rv,q1⟩:=I.sqK ha
  obtain ⟨jts,rw',q2⟩:=I.sqK hb
  obtain ⟨u1,hu1,ru1⟩:=rv.get hx
  obtain ⟨u2,hu2,ru2⟩:=rw'.get hy
  have na:∀ e∈[z,TI,TO,i1,i2],a≠e:=fun e he=>ha.ne (hf e he).1
  have nb:∀ e∈[z,TI,TO,i1,i2],b≠e:=fun e he=>hb.ne (hf e he).1
  have D:=ap.apart na nb
  have hT:s.TypeIs (.ref z) "zip":=⟨_,hz,rfl⟩
  have step:wpAny (model X.prog X.w) X.A (pyNext (.ref z)) (fun r s1=>∃ h',r=some (.ref s.heap.objs.size)/\s1={ s with heap:=h' }/\IsZip h' z TI TO (rawInt s.heap.objs.size)/\IsPair h' TO u1 u2/\Itq h' i1 a (i+1) its.toArray/\Itq h' i2 b (i+1) jts.toArray/\IsPair h' s.heap.objs.size u1 u2/\∀ c o,c≠z->c≠TO->c≠i1->c≠i2->s.heap.get? c=some o->h'.get? c=some o) E s:=by
   unfold pyNext
   exact wpAny_bind (wpAny_attempt (wpAny_callSpecial?_slot (name:=Str.ofString "__next__") hT F.slot_zip_next (wpAny_call_entry F.slot_zip_next hT F.entry_zip_next (qd D (na _ (by simp)) (nb _ (by simp)) hz hTI hTO (k1.q q1) (k2.q q2) (by simpa using hu1) (by simpa using hu2) fun h' a1 a2 a3 a4 a5 a6 a7=>wpAny_pure ⟨h',rfl,rfl,a1,a2,a3,a4,a5,a7⟩) (F.args_zip_next_1 _))))
  refine thn step fun r s1 ⟨h',e1,e2,a1,a2,a3,a4,a5,a7⟩=>?_
  subst e1 e2
  refine ⟨_,rfl,wpAny_letOwnedTupleGo_zip a1 fun h2 b1 b2=>?_⟩
  have hn:H s.heap.objs.size=none:=I.hok.fresh (zA1 _)
  have zlt:z<s.heap.objs.size:=Heap.lt_size hz
  have up:∀ c o,c∉[z,TO,i1,i2]->s.heap.get? c=some o->h2.get? c=some o:=fun c o hc' q=>by
   simp only [zB2,zJ2,or_false,not_or] at hc'
   exact b2.extBut _ _ hc'.1 (a7 c o hc'.1 hc'.2.1 hc'.2.2.1 hc'.2.2.2 q)
  have I1:Inv X pins σ H { s with heap:=h2,toks:=s.toks }:=I.turnedL (ch:=[z,TO,i1,i2]) up fun e he=>hf e (by
   simp only [zB2,zJ2,or_false] at he ⊢
   rcases he with rfl | rfl | rfl | rfl <;> simp)
  have hTd:TupD h2 s.heap.objs.size [u1,u2].toArray:=⟨0,b2.extBut _ _ (Nat.ne_of_gt zlt) a5⟩
  have I2:=I1.trackT (ys:=[x,y]) (.cons ru1 (.cons ru2 .nil)) (by show 2<=sizeLine;decide) hTd (I.fpOk (zA1 _) hn)
  have q1':IsSq h' c a its.toArray:=q1.at fun o q=>a7 _ o (na _ (by simp)) (na _ (by simp)) (na _ (by simp)) (na _ (by simp)) q
  have q2':IsSq h' d b jts.toArray:=q2.at fun o q=>a7 _ o (nb _ (by simp)) (nb _ (by simp)) (nb _ (by simp)) (nb _ (by simp)) q
  refine ⟨.ref s.heap.objs.size,_,I2,rfl,⟨_,hn,rfl,fun xs' ys' ha' hb'=>?_⟩,⟨b1,b2.extBut _ _ ap.h1 (a7 _ _ ap.h1 ap.h5 ap.h6 ap.h7 hTI),⟨_,_,b2.extBut _ _ ap.h2 a2⟩,(a3.k q1').at fun o q=>b2.extBut _ _ ap.h3 q,(a4.k q2').at fun o q=>b2.extBut _ _ ap.h4 q⟩,fun e he=>?_⟩
  · cases ha.inj ha'
    cases hb.inj hb'
    exact ⟨x,y,hx,hy,rfl⟩
  · have le:e<s.heap.objs.size:=by
     obtain ⟨o,q,_⟩:∃ o,s.heap.get? e=some o/\True:=by
      simp only [zB2,zJ2,or_false] at he
      rcases he with rfl | rfl | rfl | rfl | rfl
      · exact ⟨_,hz,trivial⟩
      · exact ⟨_,hTI,trivial⟩
      · exact ⟨_,hTO,trivial⟩
      · obtain ⟨o,q,_⟩:=k1.obj;exact ⟨o,q,trivial⟩
      · obtain ⟨o,q,_⟩:=k2.obj;exact ⟨o,q,trivial⟩
     exact Heap.lt_size q
    rw [ao (zB8 le)]
    exact (hf e he).1
 done:=by
  intro X hP hw hK hc i pins s σ H E I hf st hg
  subst hP hw hK
  obtain ⟨xs,ys,ha,hb,hend⟩:=hg
  obtain ⟨hz,hTI,⟨u,v,hTO⟩,k1,k2⟩:=st
  obtain ⟨its,rv,q1⟩:=I.sqK ha
  obtain ⟨jts,rw',q2⟩:=I.sqK hb
  have na:∀ e∈[z,TI,TO,i1,i2],a≠e:=fun e he=>ha.ne (hf e he).1
  have nb:∀ e∈[z,TI,TO,i1,i2],b≠e:=fun e he=>hb.ne (hf e he).1
  have D:=ap.apart na nb
  have hT:s.TypeIs (.ref z) "zip":=⟨_,hz,rfl⟩
  have e1:its.toArray[i]? = none\/jts.toArray[i]? = none:=by
   have l1:=rv.length
   have l2:=rw'.length
   rcases hend with h | h
   · left
     rw [List.getElem?_eq_none_iff] at h
     simp;lia
   · right
     rw [List.getElem?_eq_none_iff] at h
     simp;lia
  unfold pyNext
  refine wpAny_bind (wpAny_attempt (wpAny_callSpecial?_slot (name:=Str.ofString "__next__") hT F.slot_zip_next (wpAny_call_entry F.slot_zip_next hT F.entry_zip_next (zq_end (I.ok.hd hc) D hz hTI hTO (k1.q q1) (k2.q q2) e1 fun h' e hk he=>?_) (F.args_zip_next_1 _))))
  obtain ⟨o,ho,hcl⟩:=he
  refine wpAny_bind (wpAny_isInstance (T:="StopIteration") (b:=true) ⟨o,ho,hcl⟩ isSubtype_stop (wpAny_pure ⟨rfl,?_⟩))
  refine I.turnedL (t':=s.toks) (ch:=[z,TO,i1,i2]) (fun c o hc' q=>?_) fun e he=>hf e (by
   simp only [zB2,zJ2,or_false] at he ⊢
   rcases he with rfl | rfl | rfl | rfl <;> simp)
  simp only [zB2,zJ2,or_false,not_or] at hc'
  exact hk c o hc'.1 hc'.2.1 hc'.2.2.1 hc'.2.2.2 q
 self:=fun A i s Q E st h=>wpAny_pyIter_zip st.1 h
theorem mI:bootBuiltins "zip" = some (.type "zip"):=by decide +kernel
def iZip (ta:TA):TI:=fun σ H R=>ta σ H fun vs H1=>match vs with
 | [.ref a,.ref b]=>∃ c d xs ys,SqK H1 c a xs/\SqK H1 d b ys/\R (Itz c d a b) H1
 | _=>False
theorem pi_zip {l m:Expr} {ta:TA} {elts:List Expr} {k:Nat} {tp p pos:Pos} (hg:Gl X "zip") (hm:X.mg "zip" = none) (ha:PA X [l,m] ta) (hs:starEach [l,m] X.env=[(false,eval l X.env),(false,eval m X.env)]:=by rfl) (hs2:starEach [m] X.env=[(false,eval m X.env)]:=by rfl) :
 PI X (.Tuple elts k tp) (.Call (.Name "zip" p) [l,m] [] pos) (iZip ta):=by
 intro pins s σ H R I h
 refine Call_ (dI I hg hm mI (PyProof.Rows.callWith_type1 (thn (ha pos pins s σ H _ I h) fun us s1 ⟨vs,H1,I1,r1,q1⟩=>?_) (by rw [hs,hs2]) (by rw [hs2];rfl)))
 dsimp only at q1
 split at q1
 · rename_i a b
   obtain ⟨c,d,xs,ys,ka,kb,q⟩:=q1
   obtain ⟨u,u',rfl,rx,ry⟩:=qp r1
   cases rx
   cases ry
   obtain ⟨its,rv,p1⟩:=I1.sqK ka
   obtain ⟨jts,rv',p2⟩:=I1.sqK kb
   refine sS p1 p2 fun h' hz hTI hTO j1 j2 hk=>?_
   have I2:Inv X pins σ H1 { s1 with heap:=h' }:=I1.kept (t':=s1.toks) hk
   have ap:ZAp (s1.heap.objs.size+4) (s1.heap.objs.size+2) (s1.heap.objs.size+3) s1.heap.objs.size (s1.heap.objs.size+1):=by
    have e:∀ n m:Nat,n≠m->s1.heap.objs.size+n≠s1.heap.objs.size+m:=fun n m h z=>h (Nat.add_left_cancel z)
    exact ⟨e 2 4 (by decide),e 3 4 (by decide),e 0 4 (by decide),e 1 4 (by decide),e 2 3 (by decide),e 2 0 (by decide),e 2 1 (by decide),e 3 0 (by decide),e 3 1 (by decide),e 0 1 (by decide)⟩
   refine wpAny_pyIter_zip (s:={ s1 with heap:=h' }) hz ⟨s1.heap.objs.size+4,_,_,_,H1,rfl,I2,nh ap,⟨hz,hTI,⟨_,_,hTO⟩,j1.k (p1.at fun o q=>hk _ o q),j2.k (p2.at fun o q=>hk _ o q)⟩,fun e he=>?_,q⟩
   have hb':s1.heap.objs.size<=e:=by
    simp only [zB2,zJ2,or_false] at he
    rcases he with rfl | rfl | rfl | rfl | rfl
    · exact Nat.le_add_right _ 4
    · exact Nat.le_add_right _ 2
    · exact Nat.le_add_right _ 3
    · exact zA1 _
    · exact Nat.le_add_right _ 1
   exact I1.fpOk hb' (I1.hok.fresh hb')
 · exact q1.elim
theorem o5 {l m:Expr} {ta:TA} {elts:List Expr} {k:Nat} {tp p pos:Pos} (hg:Gl X "zip") (hm:X.mg "zip" = none) (ha:ZA X [l,m] ta) (hs:starEach [l,m] X.env=[(false,eval l X.env),(false,eval m X.env)]:=by rfl) (hs2:starEach [m] X.env=[(false,eval m X.env)]:=by rfl) :
 ZI X (.Tuple elts k tp) (.Call (.Name "zip" p) [l,m] [] pos) (iZip ta):=by with_unfolding_all exact pi_zip hg hm ha hs hs2
theorem sC {c d:Bool} {a b:Addr} {xs ys:List V} {g:TG} {tb:TS} {D:Ends} {σ:St} {H:Hp} (Pv:Nat->St->Hp->Prop) (h0:Pv 0 σ H) (hl:∀ i σ H,i<=min xs.length ys.length->Pv i σ H->SqK H c a xs/\SqK H d b ys)
 (hs:∀ i x y σ H p,xs[i]? = some x->ys[i]? = some y->Pv i σ H->H p=none->g (.ref p) σ (upd H p (.tup [x,y])) fun σ2 H2=>tb { D with nx:=Pv (i+1),ct:=Pv (i+1),bk:=D.nx } σ2 H2) (hd:∀ σ H,Pv (min xs.length ys.length) σ H->D.nx σ H) :
 ∃ W:Nat->Nat->St->Hp->Prop,(∃ m,W 0 m σ H)/\∀ i m σ H,W i m σ H ->
   ((Itz c d a b).stop i H/\D.nx σ H)\/((Itz c d a b).go i H/\∃ N:St->Hp->Prop,(∀ σ' H',N σ' H'->∃ m',m' < m/\W (i+1) m' σ' H')/\∀ x H',(Itz c d a b).yld i H x H'->g x σ H' fun σ2 H2=>tb { D with nx:=N,ct:=N,bk:=D.nx } σ2 H2):=by
 refine ⟨fun i m σ H=>m=min xs.length ys.length - i/\i<=min xs.length ys.length/\Pv i σ H,⟨_,rfl,zC6 _,h0⟩,?_⟩
 rintro i m σ H ⟨rfl,hi,p⟩
 obtain ⟨q1,q2⟩:=hl i σ H hi p
 by_cases hlt:i<min xs.length ys.length
 · have l1:i<xs.length:=by lia
   have l2:i<ys.length:=by lia
   refine .inr ⟨⟨xs,ys,xs[i],ys[i],q1,q2,by simp [l1],by simp [l2]⟩,Pv (i+1),fun σ' H' p'=>⟨_,by lia,rfl,hlt,p'⟩,fun x H' y=>?_⟩
   obtain ⟨pp,hn,rfl,hy⟩:=y
   obtain ⟨x1,y1,e1,e2,rfl⟩:=hy xs ys q1 q2
   exact hs i x1 y1 σ H pp e1 e2 p hn
 · have e:i=min xs.length ys.length:=by lia
   refine .inl ⟨⟨xs,ys,q1,q2,?_⟩,hd σ H (e▸p)⟩
   by_cases l1:i<xs.length
   · right;rw [List.getElem?_eq_none_iff];lia
   · left;rw [List.getElem?_eq_none_iff];lia
theorem sP {nv:List Str} {ix:List (Str×Nat)} {σ:St} {g:TG} {ti:TT} {te:TE} {Fin:List V->Hp->Prop} {c d:Bool} {a b:Addr} {xs ys:List V} (Pv:Nat->List V->Hp->Prop) (h0:Pv 0 [] H) (hl:∀ i zs H,i<=min xs.length ys.length->Pv i zs H->SqK H c a xs/\SqK H d b ys)
 (hn:∀ i zs H,i<min xs.length ys.length->Pv i zs H->zs.length<sizeLine)
 (hs:∀ i x y zs H p,xs[i]? = some x->ys[i]? = some y->Pv i zs H->H p=none->g (.ref p) (st0 nv ix σ) (upd H p (.tup [x,y])) fun σ2 H2=>ti σ2 H2 fun b H3=>if b=true then te σ2 H3 fun y H4=>Pv (i+1) (zs++[y]) H4 else Pv (i+1) zs H3)
 (hd:∀ zs H,Pv (min xs.length ys.length) zs H->Fin zs H):p8 nv ix g ti te σ (Itz c d a b) Fin H:=by
 refine ⟨fun i m zs H=>m=min xs.length ys.length - i/\i<=min xs.length ys.length/\Pv i zs H,⟨_,rfl,zC6 _,h0⟩,?_⟩
 rintro i m zs H ⟨rfl,hi,p⟩
 obtain ⟨q1,q2⟩:=hl i zs H hi p
 by_cases hlt:i<min xs.length ys.length
 · have l1:i<xs.length:=by lia
   have l2:i<ys.length:=by lia
   refine .inr ⟨⟨xs,ys,xs[i],ys[i],q1,q2,by simp [l1],by simp [l2]⟩,hn i zs H hlt p,Pv (i+1),fun σ' H' p'=>⟨_,by lia,rfl,hlt,p'⟩,fun x H' y=>?_⟩
   obtain ⟨pp,hn',rfl,hy⟩:=y
   obtain ⟨x1,y1,e1,e2,rfl⟩:=hy xs ys q1 q2
   exact hs i x1 y1 zs H pp e1 e2 p hn'
 · have e:i=min xs.length ys.length:=by lia
   refine .inl ⟨⟨xs,ys,q1,q2,?_⟩,hd zs H (e▸p)⟩
   by_cases l1:i<xs.length
   · right;rw [List.getElem?_eq_none_iff];lia
   · left;rw [List.getElem?_eq_none_iff];lia
theorem dJ {K:PySem.W.Frag} {x y:Str}:KpG [x,y] (gTup K 2 (jC (da 0) (jC (da 1) gNil))):=fun fr v H Q h=>by
 obtain ⟨a,xs,e,hq,hl,v1,r1,e1,v2,r2,e2,e3,q⟩:=h
 refine ⟨a,xs,e,hq,hl,v1,r1,e1,v2,r2,e2,e3,⟨by simp,fun i w e=>?_⟩,q⟩
 match i,e with
 | 0,e=>cases e
 | 1,e=>cases e
 | i+2,e=>exact e
theorem pQ {prog:Program} {w:World} {A:Around} (hh:A.handled=none) (c:Bool) (it l:Addr) (hne:l≠it) (items:Array Value) :
 Draws prog w A it [it,l] items.size (fun i v=>items[i]? = some v) (fun i h=>Itk h c it l i/\IsSq h c l items) where
 live:=fun _ _ st=>let ⟨o,ho,_⟩:=st.1.obj;⟨o,ho⟩
 frame:=fun _ _ _ st k=>⟨st.1.at fun o e=>k it (zA8 ..) o e,st.2.at fun o e=>k l (by simp) o e⟩
 item:=fun i s Q E hi st hQ=>Itq.item (v:=items[i]) (st.1.q st.2) hne (by simp [hi]) fun h' a b=>hQ items[i] h' s.toks (by simp [hi]) ⟨a.k (st.2.at fun o e=>b.extBut _ _ hne e),st.2.at fun o e=>b.extBut _ _ hne e⟩ b
 done:=fun s Q E st hE=>Itq.fin hh (st.1.q st.2) (by simp) hE
theorem gT (c:Bool) (l:Addr) (items:Array Value) :
 Meets (Builtin.«enumerate.__new__» ⟨[.type "enumerate",.ref l],[]⟩) (fun _ R s=>IsSq s.heap c l items /\
  R (.ok (.ret (.ref (s.heap.push (zqI c l)).objs.size))) { s with heap:=(s.heap.push (zqI c l)).push { cls:=.type "enumerate",data:=.fields #[.none,.bool false,.ref s.heap.objs.size,rawInt 0,.none,.none] } }):=
 .of_wp fun prog w A R s h=>by
  obtain ⟨hp,g,d,tk,os⟩:=s
  obtain ⟨hl,h⟩:=h
  have hsub:=sub_enumerate
  have hS:IsSq (Shared.heap ⟨hp,g,d,tk,os⟩) c l items:=hl
  obtain ⟨o,ho,_⟩:∃ o,hp.get? l=some o/\True:=by
   cases c with
   | true=>obtain ⟨o,e,_⟩:=(show hp.IsTuple l items from hl);exact ⟨o,e,trivial⟩
   | false=>obtain ⟨o,e,_⟩:=(show hp.IsList l items from hl);exact ⟨o,e,trivial⟩
  wp_walk using AutoSeq1.wpAny_loadPart' ho
  refine wpAny_stack_any fun st=>wpAny_pure ?_
  split
  · rename_i c' _ _ _ _ _
    cases (c' == Value.type "enumerate") <;> (wp_walk using AutoSeq1.wpAny_loadPart' ho,fh hS) <;> exact ⟨_,rfl,h⟩
  · wp_walk using AutoSeq1.wpAny_loadPart' ho,fh hS
    exact ⟨_,rfl,h⟩
def ItE (c:Bool) (a:Addr):It:=⟨fun i H=>∃ xs x,SqK H c a xs/\xs[i]? = some x,fun i H v H'=>∃ p,H p=none/\v=.ref p/\∀ xs,SqK H c a xs->∃ y,xs[i]? = some y/\H'=upd H p (.tup [.int i,y]),fun i H=>∃ xs,SqK H c a xs/\xs.length=i⟩
theorem jf {P:Program} {w:World} {K:PySem.W.Frag} {elts:List Expr} {k:Nat} {pos:Pos} {c:Bool} {e it a:Addr} (hei:e≠it) :
 Turn P w K (.Tuple elts k pos) (ItE c a) [e,it] e (fun i h=>(∃ old,IsEnum h e it i old)/\Itk h c it a i) where
 mem:=zA8 ..
 obj:=fun i h st b hb=>by
  obtain ⟨⟨old,he⟩,kt⟩:=st
  rcases zB2.mp hb with rfl | hb
  · exact ⟨_,he,fun v z=>by cases z⟩
  · have:b=it:=by simpa using hb
    subst this
    exact kt.obj
 keep:=fun i h h' st k=>⟨let ⟨old,he⟩:=st.1;⟨old,k e (by simp) _ he⟩,st.2.at fun o q=>k it (by simp) o q⟩
 item:=by
  intro X hP hw hK hc i pins s σ H E I hf st hg
  subst hP hw hK
  obtain ⟨xs,x,hq,hx⟩:=hg
  obtain ⟨⟨old,he⟩,hit⟩:=st
  obtain ⟨its,rv,p⟩:=I.sqK hq
  obtain ⟨u,hu,ru⟩:=rv.get hx
  have fe:=hf e (by simp)
  have fi:=hf it (by simp)
  have hae:a≠e:=hq.ne fe.1
  have hai:a≠it:=hq.ne fi.1
  have hlt:i<its.toArray.size:=by rw [zA7];exact (List.getElem?_eq_some_iff.mp hu).1
  refine wpAny_pyNext_enum_itemD (pQ (A:=X.A.in1) (I.ok.hd hc) c it a hai its.toArray) he ⟨hit,p⟩ hlt hei (by simp [hei,Ne.symm hae]) fun x' h' tk hPx ho hst' hTup hsz hk=>?_
  have ex:x'=u:=by
   have:its[i]? = some x':=by simpa using hPx
   rw [hu] at this
   exact (Option.some.inj this).symm
  subst ex
  refine ⟨_,rfl,wpAny_letOwnedTupleGo_enum ho fun h2 he2 hs2=>?_⟩
  have hel:e<s.heap.objs.size:=Heap.lt_size he
  have I1:Inv X pins σ H { s with heap:=h2,toks:=tk+1 }:=I.turned2 (fun b o n1 n2 q=>(hs2.2 b n1).trans (hk b o n1 n2 q)) fe fi
  have hTd:TupD h2 s.heap.objs.size [.int i tk,x'].toArray:=⟨0,(hs2.2 _ (Nat.ne_of_gt hel)).trans hTup⟩
  have hn:H s.heap.objs.size=none:=I.hok.fresh (zA1 _)
  have I2:=I1.trackT (ys:=[.int i,x]) (.cons ⟨tk,rfl⟩ (.cons ru .nil)) (by show 2<=sizeLine;decide) hTd (I.fpOk (zA1 _) hn)
  have hil:it<s.heap.objs.size:=by obtain ⟨o,q,_⟩:=hit.obj;exact Heap.lt_size q
  refine ⟨.ref s.heap.objs.size,_,I2,rfl,⟨_,hn,rfl,fun ys hy=>?_⟩,⟨⟨x',by simpa using he2⟩,hst'.1.at fun o q=>(hs2.2 it (Ne.symm hei)).trans q⟩,fun b hb=>?_⟩
  · cases hq.inj hy
    exact ⟨x,hx,rfl⟩
  · rcases zB2.mp hb with rfl | hb
    · rw [ao (zB8 hel)];exact fe.1
    · have:b=it:=by simpa using hb
      subst this
      rw [ao (zB8 hil)];exact fi.1
 done:=by
  intro X hP hw hK hc i pins s σ H E I hf st hg
  subst hP hw hK
  obtain ⟨xs,hq,hx⟩:=hg
  obtain ⟨⟨old,he⟩,hit⟩:=st
  obtain ⟨its,rv,p⟩:=I.sqK hq
  have fi:=hf it (by simp)
  have hai:a≠it:=hq.ne fi.1
  have hn:its.toArray.size=i:=by rw [zA7,← rv.length];exact hx
  refine wpAny_pyNext_enum_endD (pQ (A:=X.A.in1) (I.ok.hd hc) c it a hai its.toArray) he ⟨by rw [hn];exact hit,p⟩ fun h' hb=>⟨rfl,I.turned (t':=s.toks) (it:=it) (fun b o n q=>hb b o n q) fi.1 fi.2.1 fi.2.2.2.1 fi.2.2.2.2.1 fi.2.2.2.2.2⟩
 self:=fun A i s Q E st h=>let ⟨⟨_,he⟩,_⟩:=st;wpAny_pyIter_enum he h
theorem jK {prog:Program} {w:World} {A:Around} {E:Value->Shared->Prop} {s:Shared} {c:Bool} {l:Addr} {items:Array Value} {Q:Value->Shared->Prop} (hL:IsSq s.heap c l items)
 (h:∀ h',IsEnum h' (s.heap.objs.size+1) s.heap.objs.size 0 .none->Itk h' c s.heap.objs.size l 0->(∀ b o,s.heap.get? b=some o->h'.get? b=some o)->Q (.ref (s.heap.objs.size+1)) { s with heap:=h' }) :
 wpAny (model prog w) A (call (.type "enumerate") [.ref l]) Q E s:=by
 have hz:(s.heap.push (zqI c l)).objs.size=s.heap.objs.size+1:=Heap.size_push ..
 refine callType_new F.called_enumerate (by decide) (F.typeCall_enumerate_1 _) (F.newCall_enumerate_1 _) (fun obj=>F.args_object_init_2 obj _) F.entry_enumerate_new (gT c l items) ⟨hL,?_⟩
 have g:=Heap.get?_push_size (s.heap.push (zqI c l)) (o:={ cls:=.type "enumerate",data:=.fields #[.none,.bool false,.ref s.heap.objs.size,rawInt 0,.none,.none] }) rfl
 rw [hz] at g
 show _/\_
 rw [hz]
 refine ⟨⟨_,g,rfl⟩,h _ g ?_ fun b o q=>Heap.get?_push_of_some _ (Heap.get?_push_of_some _ q)⟩
 have e:=Heap.get?_push_of_some { cls:=.type "enumerate",data:=.fields #[.none,.bool false,.ref s.heap.objs.size,rawInt 0,.none,.none] } (Heap.get?_push_size s.heap (o:=zqI c l) rfl)
 cases c with
 | true=>exact ⟨_,e,rfl,rfl⟩
 | false=>exact ⟨_,e,rfl,rfl⟩
def pM (ta:TA):TI:=fun σ H R=>ta σ H fun vs H1=>match vs with
 | [.ref a]=>∃ c xs,SqK H1 c a xs/\R (ItE c a) H1
 | _=>False
theorem n4 {l:Expr} {ta:TA} {elts:List Expr} {k:Nat} {tp p pos:Pos} (hg:Gl X "enumerate") (hm:X.mg "enumerate" = none) (ha:PA X [l] ta) (hs:starEach [l] X.env=[(false,eval l X.env)]:=by rfl) :
 PI X (.Tuple elts k tp) (.Call (.Name "enumerate" p) [l] [] pos) (pM ta):=by
 intro pins s σ H R I h
 refine Call_ (dI I hg hm dS (PyProof.Rows.callWith_type1 (thn (ha pos pins s σ H _ I h) fun us s1 ⟨vs,H1,I1,r1,q1⟩=>?_) hs rfl))
 dsimp only at q1
 split at q1
 · rename_i a
   obtain ⟨c,xs,hx,q⟩:=q1
   obtain ⟨u,rfl,rx⟩:=cg r1
   cases rx
   obtain ⟨its,rv,pt⟩:=I1.sqK hx
   refine jK pt fun h' he hit hk=>?_
   have I2:Inv X pins σ H1 { s1 with heap:=h' }:=I1.kept (t':=s1.toks) hk
   refine wpAny_pyIter_enum (s:={ s1 with heap:=h' }) he ⟨s1.heap.objs.size+1,[s1.heap.objs.size+1,s1.heap.objs.size],_,_,H1,rfl,I2,jf (Nat.succ_ne_self _),⟨⟨_,he⟩,hit⟩,fun b hb=>?_,q⟩
   have hb':s1.heap.objs.size<=b:=by
    rcases zB2.mp hb with rfl | hb
    · exact Nat.le_succ _
    · have:b=s1.heap.objs.size:=by simpa using hb
      exact Nat.le_of_eq this.symm
   exact I1.fpOk hb' (I1.hok.fresh hb')
 · exact q1.elim
theorem bD {l:Expr} {ta:TA} {elts:List Expr} {k:Nat} {tp p pos:Pos} (hg:Gl X "enumerate") (hm:X.mg "enumerate" = none) (ha:ZA X [l] ta) (hs:starEach [l] X.env=[(false,eval l X.env)]:=by rfl) :
 ZI X (.Tuple elts k tp) (.Call (.Name "enumerate" p) [l] [] pos) (pM ta):=by with_unfolding_all exact n4 hg hm ha hs
theorem fZ {c:Bool} {a:Addr} {xs:List V} {g:TG} {tb:TS} {D:Ends} {σ:St} {H:Hp} (Pv:Nat->St->Hp->Prop) (h0:Pv 0 σ H) (hl:∀ i σ H,i<=xs.length->Pv i σ H->SqK H c a xs)
 (hs:∀ i x σ H p,xs[i]? = some x->Pv i σ H->H p=none->g (.ref p) σ (upd H p (.tup [.int i,x])) fun σ2 H2=>tb { D with nx:=Pv (i+1),ct:=Pv (i+1),bk:=D.nx } σ2 H2) (hd:∀ σ H,Pv xs.length σ H->D.nx σ H) :
 ∃ W:Nat->Nat->St->Hp->Prop,(∃ m,W 0 m σ H)/\∀ i m σ H,W i m σ H ->
   ((ItE c a).stop i H/\D.nx σ H)\/((ItE c a).go i H/\∃ N:St->Hp->Prop,(∀ σ' H',N σ' H'->∃ m',m' < m/\W (i+1) m' σ' H')/\∀ x H',(ItE c a).yld i H x H'->g x σ H' fun σ2 H2=>tb { D with nx:=N,ct:=N,bk:=D.nx } σ2 H2):=by
 refine ⟨fun i m σ H=>m=xs.length - i/\i<=xs.length/\Pv i σ H,⟨xs.length,by simp,zC6 _,h0⟩,?_⟩
 rintro i m σ H ⟨rfl,hi,p⟩
 have q:=hl i σ H hi p
 by_cases hlt:i<xs.length
 · refine .inr ⟨⟨xs,xs[i],q,by simp [hlt]⟩,Pv (i+1),fun σ' H' p'=>⟨xs.length - (i+1),by lia,rfl,hlt,p'⟩,fun x H' y=>?_⟩
   obtain ⟨pp,hn,rfl,hy⟩:=y
   obtain ⟨z,hz,rfl⟩:=hy xs q
   exact hs i z σ H pp hz p hn
 · have e:i=xs.length:=by lia
   subst e
   exact .inl ⟨⟨xs,q,rfl⟩,hd σ H p⟩
theorem cJ {nv:List Str} {ix:List (Str×Nat)} {σ:St} {g:TG} {ti:TT} {te:TE} {Fin:List V->Hp->Prop} {c:Bool} {a:Addr} {xs:List V} (Pv:Nat->List V->Hp->Prop) (h0:Pv 0 [] H) (hl:∀ i zs H,i<=xs.length->Pv i zs H->SqK H c a xs)
 (hn:∀ i zs H,i<xs.length->Pv i zs H->zs.length<sizeLine)
 (hs:∀ i x zs H p,xs[i]? = some x->Pv i zs H->H p=none->g (.ref p) (st0 nv ix σ) (upd H p (.tup [.int i,x])) fun σ2 H2=>ti σ2 H2 fun b H3=>if b=true then te σ2 H3 fun y H4=>Pv (i+1) (zs++[y]) H4 else Pv (i+1) zs H3)
 (hd:∀ zs H,Pv xs.length zs H->Fin zs H):p8 nv ix g ti te σ (ItE c a) Fin H:=by
 refine ⟨fun i m zs H=>m=xs.length - i/\i<=xs.length/\Pv i zs H,⟨_,rfl,zC6 _,h0⟩,?_⟩
 rintro i m zs H ⟨rfl,hi,p⟩
 have q:=hl i zs H hi p
 by_cases hlt:i<xs.length
 · refine .inr ⟨⟨xs,xs[i],q,by simp [hlt]⟩,hn i zs H hlt p,Pv (i+1),fun σ' H' p'=>⟨_,by lia,rfl,hlt,p'⟩,fun x H' y=>?_⟩
   obtain ⟨pp,hn',rfl,hy⟩:=y
   obtain ⟨z,hz,rfl⟩:=hy xs q
   exact hs i z zs H pp hz p hn'
 · have e:i=xs.length:=by lia
   subst e
   exact .inl ⟨⟨xs,q,rfl⟩,hd zs H p⟩
end
end L2
namespace SRV
open PySem
open PyProof.Rows hiding K SortedTo K_bubble K_mirror K_congr K_mirror_equal
class KV where
 sh:Shared
 kind:SortKind
 kv:Keyed->Int
 good:Keyed->Prop
 lt:∀ {prog:Program} {w:World} {A:Around} {E:Value->Shared->Prop} {st:SortSt} {x y:Keyed} {Q:Option Bool->SortSt->Prop},kindOf st=kind->good x->good y->Q (some (decide (kv x<kv y))) st->wpS (model prog w) A E sh (lt' x y) Q st
variable [KV]
def kv (p:Keyed):Int:=KV.kv p
def IsI (p:Keyed):Prop:=KV.good p
def AllI (xs:Array Keyed):Prop:=∀ p∈xs.toList,IsI p
def K (xs:Array Keyed) (i:Nat):Int:=match xs[i]? with
 | some p=>kv p
 | none=>0
def SortedTo (xs:Array Keyed) (k:Nat):Prop:=∀ i j,i<=j->j<k->K xs i<=K xs j
theorem K_congr {xs ys:Array Keyed} {i j:Nat} (h:xs[i]? = ys[j]?):K xs i=K ys j:=by unfold K;rw [h]
theorem K_bubble {xs:Array Keyed} {src d:Nat} (hs:src<xs.size) (hd:d<=src) (k:Nat) :
 K (bubble xs src d) k=if k=src - d then K xs src else if src - d<k/\k<=src then K xs (k - 1) else K xs k:=by
 have e:=getElem?_bubble hs d hd k
 by_cases h1:k=src - d
 · rw [if_pos h1] at e ⊢;exact K_congr e
 · rw [if_neg h1] at e ⊢
   by_cases h2:src - d<k/\k<=src
   · rw [if_pos h2] at e ⊢;exact K_congr e
   · rw [if_neg h2] at e ⊢;exact K_congr e
theorem K_mirror {xs:Array Keyed} {i j:Nat} (hj:j<=xs.size) (k:Nat) :
 K (mirror xs i j ((j - i) / 2)) k=if i<=k/\k<j then K xs (i+j - 1 - k) else K xs k:=by
 have e:=getElem?_mirror_all (i:=i) hj k
 by_cases h1:i<=k/\k<j
 · rw [if_pos h1] at e ⊢;exact K_congr e
 · rw [if_neg h1] at e ⊢;exact K_congr e
theorem K_mirror_equal {xs:Array Keyed} {i j:Nat} (hj:j<=xs.size) (heq:∀ k,i<=k->k<j->K xs k=K xs (j - 1)) (k:Nat) :
 K (mirror xs i j ((j - i) / 2)) k=K xs k:=by
 rw [K_mirror hj]
 split
 · rename_i h
   rw [heq k h.1 h.2,heq (i+j - 1 - k) (by lia) (by lia)]
 · rfl
section
variable {prog:Program} {w:World} {A:Around} {E:Value->Shared->Prop}
theorem s_lt {st:SortSt} {x y:Keyed} {Q:Option Bool->SortSt->Prop} (hk:kindOf st=KV.kind) (hx:IsI x) (hy:IsI y) (h:Q (some (decide (kv x<kv y))) st):wpS (model prog w) A E KV.sh (lt' x y) Q st:=KV.lt hk hx hy h
theorem eu {st:SortSt} {xs:Array Keyed} {i:Nat} {p:Keyed} {Q:Keyed->SortSt->Prop} (e:xs[i]? = some p) (h:Q p st):wpS (model prog w) A E KV.sh (elem' xs i) Q st:=by
 rw [elem'_eq,e];exact wpS_pure h
def gal:Bool->Keyed->Array Keyed->Nat->Nat->Nat->StateT SortSt Sem (Option Nat):=sortPriv% PySem.Builtin.gallop
theorem gal_eq (lf:Bool) (ky:Keyed) (ar:Array Keyed) (bs n ht:Nat):gal lf ky ar bs n ht=(do
 let byd (i:Nat):StateT SortSt Sem (Option Bool):=do
  let x ← elem' ar (bs+i)
  if lf then lt' x ky else return (← lt' ky x).map (!·)
 let mut la:=0
 let mut os:=1
 let mut lo:=0
 let mut hi:=0
 let some rt ← byd ht | return none
 if rt then
  let mo:=n - ht
  for _ in [0:n] do
   if os>=mo then break
   let some mr ← byd (ht+os) | return none
   if !mr then break
   la:=os
   os:=2*os+1
  lo:=ht+la+1
  hi:=ht+min os mo
 else
  let mo:=ht+1
  for _ in [0:n] do
   if os>=mo then break
   let some fd ← byd (ht - os) | return none
   if fd then break
   la:=os
   os:=2*os+1
  lo:=ht+1 - min os mo
  hi:=ht - la
 for _ in [0:n] do
  if lo>=hi then break
  let m:=lo+(hi - lo) / 2
  let some mr ← byd m | return none
  if mr then lo:=m+1 else hi:=m
 return some hi):=rfl
def Byd (lf:Bool) (ky:Keyed) (ar:Array Keyed) (bs i:Nat):Bool:=if lf then decide (K ar (bs+i)<kv ky) else !decide (kv ky<K ar (bs+i))
theorem p6 {ar:Array Keyed} {i:Nat} {p:Keyed} (e:ar[i]? = some p):K ar i=kv p:=by unfold K;rw [e]
theorem at_of {ar:Array Keyed} {i:Nat} (h:i<ar.size) (hI:AllI ar):∃ p,ar[i]? = some p/\IsI p:=⟨ar[i],getElem?_pos ar i h,hI _ (by simp)⟩
theorem s_byd {st:SortSt} {lf:Bool} {ky:Keyed} {ar:Array Keyed} {bs i:Nat} {Q:Option Bool->SortSt->Prop} (hk:kindOf st=KV.kind) (hI:AllI ar) (hy:IsI ky) (hi:bs+i<ar.size) (h:Q (some (Byd lf ky ar bs i)) st) :
 wpS (model prog w) A E KV.sh (do let x ← elem' ar (bs+i);if lf then lt' x ky else return (← lt' ky x).map (!·)) Q st:=by
 obtain ⟨p,e,hp⟩:=at_of hi hI
 have hK:=p6 e
 unfold Byd at h
 refine wpS_bind (eu e ?_)
 cases lf with
 | true=>
   simp only [if_true] at h ⊢
   rw [hK] at h
   exact s_lt hk hp hy h
 | false=>
   simp only [zC4,if_false] at h ⊢
   rw [hK] at h
   exact wpS_bind (s_lt hk hy hp (wpS_pure h))
theorem cz {st:SortSt} {lf:Bool} {ky:Keyed} {ar:Array Keyed} {bs n ht c:Nat} {Q:Option Nat->SortSt->Prop} (hk:kindOf st=KV.kind) (hI:AllI ar) (hy:IsI ky) (hn:bs+n<=ar.size) (hh:ht<n) (hc:c<=n)
 (cut:∀ i,i<n->Byd lf ky ar bs i=decide (i<c)) (h:Q (some c) st):wpS (model prog w) A E KV.sh (gal lf ky ar bs n ht) Q st:=by
 have byd:∀ {i:Nat} {R:Option Bool->SortSt->Prop},i<n->R (some (decide (i<c))) st->wpS (model prog w) A E KV.sh (do let x ← elem' ar (bs+i);if lf then lt' x ky else return (← lt' ky x).map (!·)) R st:=fun {i R} hi hR=>
  s_byd hk hI hy (by lia) (by rw [cut i hi];exact hR)
 rw [gal_eq]
 dsimp only
 refine wpS_bind (byd hh ?_)
 by_cases hr:ht<c
 · simp only [hr,decide_true,if_true]
   refine wpS_bind (wpS_mono (wpS_forRange (I:=fun x r st'=>st=st'/\∃ l o,r=(none,l,o)/\ht+l<c/\l<o/\x+1<=o) (Q:=fun r st'=>st=st'/\∃ l o,r=(none,l,o)/\ht+l<c/\l<o/\c<=ht+min o (n - ht)) ?_ ?_ ⟨rfl,0,1,rfl,by lia,by lia,by lia⟩) ?_)
   · rintro x r st' _ hx ⟨rfl,l,o,rfl,g1,g2,g3⟩
     dsimp only
     by_cases hge:o>=n - ht
     · rw [if_pos hge]
       exact wpS_pure ⟨rfl,l,o,rfl,g1,g2,by lia⟩
     · rw [if_neg hge]
       refine wpS_bind (byd (by lia) ?_)
       by_cases hm:ht+o<c
       · simp only [hm,decide_true,Bool.not_true,zC4,if_false]
         exact wpS_pure ⟨rfl,_,_,rfl,hm,by lia,by lia⟩
       · simp only [hm,decide_false,Bool.not_false,if_true]
         exact wpS_pure ⟨rfl,l,o,rfl,g1,g2,by lia⟩
   · rintro r st' ⟨rfl,l,o,rfl,g1,g2,g3⟩
     exact ⟨rfl,l,o,rfl,g1,g2,by lia⟩
   · rintro r st' ⟨rfl,l,o,rfl,g1,g2,g3⟩
     dsimp only
     refine wpS_bind (wpS_mono (wpS_forRange (I:=fun x r st'=>st=st'/\∃ l u,r=(none,l,u)/\l<=c/\c<=u/\u<=n/\u - l<=n - x) (Q:=fun r st'=>st=st'/\∃ l,r=(none,l,c)) ?_ ?_ ⟨rfl,(ht+l+1),(ht+min o (n - ht)),rfl,(by lia),g3,(by lia),by lia⟩) ?_)
     · rintro x r st' _ hx ⟨rfl,l,u,rfl,g1,g2,g3,g4⟩
       dsimp only
       by_cases hge:l>=u
       · rw [if_pos hge]
         have:u=c:=by lia
         subst this
         exact wpS_pure ⟨rfl,l,rfl⟩
       · rw [if_neg hge]
         refine wpS_bind (byd (by lia) ?_)
         by_cases hm:l+(u - l) / 2<c
         · simp only [hm,decide_true,if_true]
           exact wpS_pure ⟨rfl,_,_,rfl,by lia,g2,g3,by lia⟩
         · simp only [hm,decide_false,zC4,if_false]
           exact wpS_pure ⟨rfl,_,_,rfl,g1,by lia,by lia,by lia⟩
     · rintro r st' ⟨rfl,l,u,rfl,g1,g2,g3,g4⟩
       have:u=c:=by
        have:max 0 n=n:=by lia
        lia
       subst this
       exact ⟨rfl,l,rfl⟩
     · rintro r st' ⟨rfl,l,rfl⟩
       exact wpS_pure h
 · simp only [hr,decide_false,zC4,if_false]
   refine wpS_bind (wpS_mono (wpS_forRange (I:=fun x r st'=>st=st'/\∃ l o,r=(none,l,o)/\c<=ht - l/\l<=ht/\l<o/\x+1<=o) (Q:=fun r st'=>st=st'/\∃ l o,r=(none,l,o)/\c<=ht - l/\l<=ht/\l<o/\ht+1 - min o (ht+1)<=c) ?_ ?_ ⟨rfl,0,1,rfl,by lia,by lia,by lia,by lia⟩) ?_)
   · rintro x r st' _ hx ⟨rfl,l,o,rfl,g1,g0,g2,g3⟩
     dsimp only
     by_cases hge:o>=ht+1
     · rw [if_pos hge]
       exact wpS_pure ⟨rfl,l,o,rfl,g1,g0,g2,by lia⟩
     · rw [if_neg hge]
       refine wpS_bind (byd (by lia) ?_)
       by_cases hm:ht - o<c
       · simp only [hm,decide_true,if_true]
         exact wpS_pure ⟨rfl,l,o,rfl,g1,g0,g2,by lia⟩
       · simp only [hm,decide_false,zC4,if_false]
         exact wpS_pure ⟨rfl,_,_,rfl,by lia,by lia,by lia,by lia⟩
   · rintro r st' ⟨rfl,l,o,rfl,g1,g0,g2,g3⟩
     exact ⟨rfl,l,o,rfl,g1,g0,g2,by lia⟩
   · rintro r st' ⟨rfl,l,o,rfl,g1,g0,g2,g3⟩
     dsimp only
     refine wpS_bind (wpS_mono (wpS_forRange (I:=fun x r st'=>st=st'/\∃ l u,r=(none,l,u)/\l<=c/\c<=u/\u<=n/\u - l<=n - x) (Q:=fun r st'=>st=st'/\∃ l,r=(none,l,c)) ?_ ?_ ⟨rfl,(ht+1 - min o (ht+1)),(ht - l),rfl,g3,g1,(by lia),by lia⟩) ?_)
     · rintro x r st' _ hx ⟨rfl,l,u,rfl,g1,g2,g3,g4⟩
       dsimp only
       by_cases hge:l>=u
       · rw [if_pos hge]
         have:u=c:=by lia
         subst this
         exact wpS_pure ⟨rfl,l,rfl⟩
       · rw [if_neg hge]
         refine wpS_bind (byd (by lia) ?_)
         by_cases hm:l+(u - l) / 2<c
         · simp only [hm,decide_true,if_true]
           exact wpS_pure ⟨rfl,_,_,rfl,by lia,g2,g3,by lia⟩
         · simp only [hm,decide_false,zC4,if_false]
           exact wpS_pure ⟨rfl,_,_,rfl,g1,by lia,by lia,by lia⟩
     · rintro r st' ⟨rfl,l,u,rfl,g1,g2,g3,g4⟩
       have:u=c:=by
        have:max 0 n=n:=by lia
        lia
       subst this
       exact ⟨rfl,l,rfl⟩
     · rintro r st' ⟨rfl,l,rfl⟩
       exact wpS_pure h
end
open PyProof.Rows hiding K SortedTo K_bubble K_mirror K_congr K_mirror_equal
variable [KV]
def Le (x y:Keyed):Prop:=kv x<=kv y
structure MI (A B:List Keyed) (o:List Keyed) (ia ib:Nat):Prop where
 perm:o.Perm (A.take ia++B.take ib)
 srt:o.Pairwise Le
 lea:∀ x∈o,∀ y∈A.drop ia,kv x<=kv y
 leb:∀ x∈o,∀ y∈B.drop ib,kv x<=kv y
structure Mer (A B:List Keyed) (o:List Keyed):Prop where
 perm:o.Perm (A++B)
 srt:o.Pairwise Le
theorem gK {l:List Keyed} (h:l.Pairwise Le) {i:Nat} (hi:i<l.length):∀ y∈l.drop (i+1),kv l[i]<=kv y:=by
 have e:l.drop i=l[i]::l.drop (i+1):=zD3 hi
 have h2:(l.drop i).Pairwise Le:=h.sublist (zI8 i l)
 rw [e] at h2
 exact (List.pairwise_cons.mp h2).1
theorem cG {l:List Keyed} {i:Nat} {y:Keyed} (h:y∈l.drop (i+1)):y∈l.drop i:=by
 rw [← List.drop_drop] at h
 exact List.mem_of_mem_drop h
theorem MI.pushB {A B o:List Keyed} {ia ib:Nat} (m:MI A B o ia ib) (hB:B.Pairwise Le) (hi:ib<B.length) (h:∀ z∈A.drop ia,kv B[ib]<=kv z):MI A B (o++[B[ib]]) ia (ib+1):=by
 have hm:B[ib]∈B.drop ib:=by rw [zD3 hi];exact zA8
 refine ⟨?_,?_,fun x hx y hy=>?_,fun x hx y hy=>?_⟩
 · have e:B.take (ib+1)=B.take ib++[B[ib]]:=by rw [zE1,List.getElem?_eq_getElem hi];rfl
   rw [e,← zB6]
   exact m.perm.append_right _
 · refine zD1.mpr ⟨m.srt,List.pairwise_singleton _ _,fun x hx y hy=>?_⟩
   rw [zD4.mp hy]
   exact m.leb x hx _ hm
 · rcases zC1.mp hx with hx | hx
   · exact m.lea x hx y hy
   · rw [zD4.mp hx];exact h y hy
 · rcases zC1.mp hx with hx | hx
   · exact m.leb x hx y (cG hy)
   · rw [zD4.mp hx];exact gK hB hi y hy
theorem MI.pushA {A B o:List Keyed} {ia ib:Nat} (m:MI A B o ia ib) (hA:A.Pairwise Le) (hi:ia<A.length) (h:∀ z∈B.drop ib,kv A[ia]<=kv z):MI A B (o++[A[ia]]) (ia+1) ib:=by
 have hm:A[ia]∈A.drop ia:=by rw [zD3 hi];exact zA8
 refine ⟨?_,?_,fun x hx y hy=>?_,fun x hx y hy=>?_⟩
 · have e:A.take (ia+1)=A.take ia++[A[ia]]:=by rw [zE1,List.getElem?_eq_getElem hi];rfl
   rw [e,zB6]
   refine (m.perm.append_right _).trans ?_
   rw [zB6]
   exact zE6 _ zH1
 · refine zD1.mpr ⟨m.srt,List.pairwise_singleton _ _,fun x hx y hy=>?_⟩
   rw [zD4.mp hy]
   exact m.lea x hx _ hm
 · rcases zC1.mp hx with hx | hx
   · exact m.lea x hx y (cG hy)
   · rw [zD4.mp hx];exact gK hA hi y hy
 · rcases zC1.mp hx with hx | hx
   · exact m.leb x hx y hy
   · rw [zD4.mp hx];exact h y hy
theorem MI.extA {A B o:List Keyed} {ia ib:Nat} (m:MI A B o ia ib) (hA:A.Pairwise Le):∀ (k:Nat),ia+k<=A.length->(∀ i (hi:ia+i<A.length),i<k->∀ z∈B.drop ib,kv A[ia+i]<=kv z)->MI A B (o++(A.drop ia).take k) (ia+k) ib
 | 0,_,_=>by rw [List.take_zero,zE3];exact m
 | k+1,hk,h=>by
   have ih:=MI.extA m hA k (by lia) fun i hi hik=>h i hi (by lia)
   have hi:ia+k<A.length:=by lia
   have e:(A.drop ia).take (k+1)=(A.drop ia).take k++[A[ia+k]]:=by rw [zE1,List.getElem?_drop,List.getElem?_eq_getElem hi];rfl
   rw [e,← zB6]
   exact ih.pushA hA hi (h k hi (by lia))
theorem MI.extB {A B o:List Keyed} {ia ib:Nat} (m:MI A B o ia ib) (hB:B.Pairwise Le):∀ (k:Nat),ib+k<=B.length->(∀ i (hi:ib+i<B.length),i<k->∀ z∈A.drop ia,kv B[ib+i]<=kv z)->MI A B (o++(B.drop ib).take k) ia (ib+k)
 | 0,_,_=>by rw [List.take_zero,zE3];exact m
 | k+1,hk,h=>by
   have ih:=MI.extB m hB k (by lia) fun i hi hik=>h i hi (by lia)
   have hi:ib+k<B.length:=by lia
   have e:(B.drop ib).take (k+1)=(B.drop ib).take k++[B[ib+k]]:=by rw [zE1,List.getElem?_drop,List.getElem?_eq_getElem hi];rfl
   rw [e,← zB6]
   exact ih.pushB hB hi (h k hi (by lia))
theorem dh (a b c d:List Keyed):(a++b++(c++d)).Perm (a++c++(b++d)):=by
 rw [zB6,zB6]
 refine zE6 a ?_
 rw [← zB6,← zB6]
 exact zH9 d zH1
theorem MI.finAB {A B o:List Keyed} {ia ib:Nat} (m:MI A B o ia ib) (hA:A.Pairwise Le) (hB:B.Pairwise Le) (h:∀ x∈A.drop ia,∀ y∈B.drop ib,kv x<=kv y):Mer A B (o++A.drop ia++B.drop ib):=by
 refine ⟨?_,?_⟩
 · have e:=(m.perm.append_right (A.drop ia++B.drop ib)).trans (dh (A.take ia) (B.take ib) (A.drop ia) (B.drop ib))
   rw [zE0,zE0] at e
   rw [zB6];exact e
 · refine zD1.mpr ⟨zD1.mpr ⟨m.srt,hA.sublist (zI8 _ _),fun x hx y hy=>m.lea x hx y hy⟩,hB.sublist (zI8 _ _),fun x hx y hy=>?_⟩
   rcases zC1.mp hx with hx | hx
   · exact m.leb x hx y hy
   · exact h x hx y hy
theorem MI.finBA {A B o:List Keyed} {ia ib:Nat} (m:MI A B o ia ib) (hA:A.Pairwise Le) (hB:B.Pairwise Le) (h:∀ x∈A.drop ia,∀ y∈B.drop ib,kv y<=kv x):Mer A B (o++B.drop ib++A.drop ia):=by
 refine ⟨?_,?_⟩
 · have e:=(m.perm.append_right (A.drop ia++B.drop ib)).trans (dh (A.take ia) (B.take ib) (A.drop ia) (B.drop ib))
   rw [zE0,zE0] at e
   rw [zB6]
   exact (zE6 o zH1).trans e
 · refine zD1.mpr ⟨zD1.mpr ⟨m.srt,hB.sublist (zI8 _ _),fun x hx y hy=>m.leb x hx y hy⟩,hA.sublist (zI8 _ _),fun x hx y hy=>?_⟩
   rcases zC1.mp hx with hx | hx
   · exact m.lea x hx y hy
   · exact h y hy x hx
def mlo:Array Keyed->Array Keyed->StateT SortSt Sem (Array Keyed):=sortPriv% PySem.Builtin.mergeLo
def setG:Nat->StateT SortSt Sem Unit:=sortPriv% PySem.Builtin.setMinGallop
theorem qK (g:Nat):setG g=modify fun z=>SortSt.mk' (kindOf z) (arrOf z) (pendingOf z) g (failedOf z):=rfl
theorem mlo_eq (xa xb:Array Keyed):mlo xa xb=(do
 rule "list.sort.merge-lo"
 let tot:=xa.size+xb.size
 let dn (ou:Array Keyed) (i j:Nat):=ou++xa.extract i xa.size++xb.extract j xb.size
 let la (ou:Array Keyed) (i j:Nat):=ou++xb.extract j xb.size++xa.extract i xa.size
 let mut ou:Array Keyed:=#[← elem' xb 0]
 let mut i:=0
 let mut j:=1
 if j == xb.size then return dn ou i j
 if i+1 == xa.size then return la ou i j
 let mut mg:=gallopOf (← get)
 for _ in [0:tot] do
  let mut ac:=0
  let mut bc:=0
  for _ in [0:tot] do
   let some bw ← lt' (← elem' xb j) (← elem' xa i) | return dn ou i j
   if bw then
    ou:=ou.push (← elem' xb j);j:=j+1;bc:=bc+1;ac:=0
    if j == xb.size then return dn ou i j
    if bc>=mg then break
   else
    ou:=ou.push (← elem' xa i);i:=i+1;ac:=ac+1;bc:=0
    if i+1 == xa.size then return la ou i j
    if ac>=mg then break
  rule "list.sort.gallop"
  mg:=mg+1
  for _ in [0:tot] do
   if mg > 1 then mg:=mg - 1
   setG mg
   let some k ← gal false (← elem' xb j) xa i (xa.size - i) 0 | return dn ou i j
   ac:=k
   if k > 0 then
    ou:=ou++xa.extract i (i+k);i:=i+k
    if i+1 == xa.size then return la ou i j
    if i == xa.size then return dn ou i j
   ou:=ou.push (← elem' xb j);j:=j+1
   if j == xb.size then return dn ou i j
   let some k ← gal true (← elem' xa i) xb j (xb.size - j) 0 | return dn ou i j
   bc:=k
   if k > 0 then
    ou:=ou++xb.extract j (j+k);j:=j+k
    if j == xb.size then return dn ou i j
   ou:=ou.push (← elem' xa i);i:=i+1
   if i+1 == xa.size then return la ou i j
   if ac<7&&bc<7 then break
  mg:=mg+1
  setG mg
 unsupported "internal:list.sort.merge-bound"):=rfl
open PyProof.Rows hiding K SortedTo K_bubble K_mirror K_congr K_mirror_equal
variable [KV]
structure SameSt (a b:SortSt):Prop where
 kind:kindOf b=kindOf a
 arr:arrOf b=arrOf a
 pend:pendingOf b=pendingOf a
 fail:failedOf b=failedOf a
theorem SameSt.refl (a:SortSt):SameSt a a:=⟨rfl,rfl,rfl,rfl⟩
theorem SameSt.setG {a b:SortSt} (h:SameSt a b) (g:Nat):SameSt a (SortSt.mk' (kindOf b) (arrOf b) (pendingOf b) g (failedOf b)):=⟨h.kind,h.arr,h.pend,h.fail⟩
theorem gA (o x y:Array Keyed) (i j:Nat):(o++x.extract i x.size++y.extract j y.size).toList=o.toList++x.toList.drop i++y.toList.drop j:=by
 have e:∀ (z:Array Keyed) (k:Nat),(z.extract k z.size).toList=z.toList.drop k:=fun z k=>by
  rw [Array.toList_extract,zI3,zC2]
  rw [zC7,zD0]
  exact zA1 _
 rw [zI9,zI9,e,e]
theorem dv (o x:Array Keyed) (i k:Nat):(o++x.extract i (i+k)).toList=o.toList++(x.toList.drop i).take k:=by
 rw [zI9,Array.toList_extract,zI3,Nat.add_sub_cancel_left]
section
variable {A B:List Keyed} {o:List Keyed} {ia ib:Nat}
theorem cI {l:List Keyed} {i:Nat} (h:i=l.length):l.drop i=[]:=List.drop_of_length_le (by lia)
theorem ow {l:List Keyed} {i:Nat} (h:i+1=l.length):∀ x∈l.drop i,kv x=kv (l[l.length - 1]'(by lia)):=fun x hx=>by
 have e:l.drop i=l[i]::l.drop (i+1):=zD3 (by lia)
 rw [e,cI h] at hx
 have:x=l[i]:=by simpa using hx
 subst this
 congr 2
 lia
end
section
variable {prog:Program} {w:World} {A:Around} {E:Value->Shared->Prop}
theorem ak {st:SortSt} {xs:Array Keyed} {i:Nat} {Q:Keyed->SortSt->Prop} (hi:i<xs.toList.length) (h:Q xs.toList[i] st):wpS (model prog w) A E KV.sh (elem' xs i) Q st:=
 eu (by rw [← Array.getElem?_toList,List.getElem?_eq_getElem hi]) h
theorem eo {st:SortSt} {g:Nat} {Q:Unit->SortSt->Prop} (h:Q () (SortSt.mk' (kindOf st) (arrOf st) (pendingOf st) g (failedOf st))):wpS (model prog w) A E KV.sh (setG g) Q st:=by
 rw [qK];exact wpS_modify h
theorem cf {xs:Array Keyed} (hs:xs.toList.Pairwise Le) (ky:Keyed) (lf:Bool) (bs n:Nat) (hn:bs+n<=xs.size):∃ c,c<=n/\∀ i,i<n->Byd lf ky xs bs i=decide (i<c):=by
 have mono:∀ i j,i<=j->bs+j<xs.size->K xs (bs+i)<=K xs (bs+j):=fun i j hij hj=>by
  have e1:xs[bs+i]? = some (xs.toList[bs+i]'(by rw [zD0];lia)):=by rw [← Array.getElem?_toList,List.getElem?_eq_getElem]
  have e2:xs[bs+j]? = some (xs.toList[bs+j]'(by rw [zD0];lia)):=by rw [← Array.getElem?_toList,List.getElem?_eq_getElem]
  rw [p6 e1,p6 e2]
  by_cases h:i=j
  · subst h;exact zE7 _
  · exact zE8.mp hs _ _ _ _ (by lia)
 have down:∀ i j,i<=j->j<n->Byd lf ky xs bs j=true->Byd lf ky xs bs i=true:=fun i j hij hj h=>by
  have:=mono i j hij (by lia)
  unfold Byd at h ⊢
  cases lf with
  | true=>simp only [if_true,decide_eq_true_eq] at h ⊢;lia
  | false=>simp only [zC4,if_false,Bool.not_eq_true',decide_eq_false_iff_not] at h ⊢;lia
 induction n with
 | zero=>exact ⟨0,zA1 _,fun i hi=>absurd hi (Nat.not_lt_zero _)⟩
 | succ n ih=>
   obtain ⟨c,hc,hd⟩:=ih (by lia) (fun i j hij hj h=>down i j hij (by lia) h)
   by_cases hb:Byd lf ky xs bs n=true
   · refine ⟨n+1,zA1 _,fun i hi=>?_⟩
     rw [decide_eq_true hi]
     exact down i n (by lia) (by lia) hb
   · refine ⟨c,by lia,fun i hi=>?_⟩
     by_cases h:i=n
     · subst h
       rw [decide_eq_false (by lia)]
       exact Bool.not_eq_true _▸(by simpa using hb)
     · exact hd i (by lia)
theorem mY {xs:Array Keyed} {i:Nat} (hi:i<xs.toList.length):K xs i=kv xs.toList[i]:=p6 (by rw [← Array.getElem?_toList,List.getElem?_eq_getElem hi])
end
open PyProof.Rows hiding K SortedTo K_bubble K_mirror K_congr K_mirror_equal
variable [KV]
theorem bU {l:List Keyed} {k:Nat} {z:Keyed} (h:z∈l.drop k):∃ u,∃ h:k+u<l.length,z=l[k+u]:=by
 obtain ⟨u,hu,rfl⟩:=zE5.mp h
 rw [zC7] at hu
 exact ⟨u,by lia,by rw [List.getElem_drop]⟩
theorem bW {l:List Keyed} (h:l.Pairwise Le) {i:Nat} (hi:i<l.length):∀ z∈l.drop i,kv l[i]<=kv z:=fun z hz=>by
 rw [zD3 hi] at hz
 rcases zB2.mp hz with rfl | hz
 · exact zE7 _
 · exact gK h hi z hz
theorem gfalse {xs:Array Keyed} {ky:Keyed} {bs n c:Nat} (hn:bs+n=xs.toList.length) (cut:∀ i,i<n->Byd false ky xs bs i=decide (i<c)) :
 (∀ t (h:bs+t<xs.toList.length),t<c->kv xs.toList[bs+t]<=kv ky)/\(∀ z∈xs.toList.drop (bs+c),kv ky<kv z):=by
 constructor
 · intro t h ht
   have:=cut t (by lia)
   rw [decide_eq_true ht] at this
   unfold Byd at this
   rw [mY h] at this
   simp only [zC4,if_false,Bool.not_eq_true',decide_eq_false_iff_not] at this
   lia
 · intro z hz
   obtain ⟨u,hu,rfl⟩:=bU hz
   have:=cut (c+u) (by lia)
   rw [decide_eq_false (by lia)] at this
   unfold Byd at this
   have e:bs+(c+u)=bs+c+u:=by lia
   rw [e,mY hu] at this
   simpa using this
theorem oJ {xs:Array Keyed} {ky:Keyed} {bs n c:Nat} (hn:bs+n=xs.toList.length) (cut:∀ i,i<n->Byd true ky xs bs i=decide (i<c)) :
 (∀ t (h:bs+t<xs.toList.length),t<c->kv xs.toList[bs+t]<kv ky)/\(∀ z∈xs.toList.drop (bs+c),kv ky<=kv z):=by
 constructor
 · intro t h ht
   have:=cut t (by lia)
   rw [decide_eq_true ht] at this
   unfold Byd at this
   rw [mY h] at this
   simpa using this
 · intro z hz
   obtain ⟨u,hu,rfl⟩:=bU hz
   have:=cut (c+u) (by lia)
   rw [decide_eq_false (by lia)] at this
   unfold Byd at this
   have e:bs+(c+u)=bs+c+u:=by lia
   rw [e,mY hu] at this
   simpa using this
theorem MI.start {A B:List Keyed} (hB:B.Pairwise Le) (hb:0<B.length) (h0:∀ z∈A,kv B[0]<=kv z):MI A B [B[0]] 0 1:=by
 have m:MI A B [] 0 0:=⟨by simp,List.Pairwise.nil,fun x hx=>(nomatch hx),fun x hx=>(nomatch hx)⟩
 exact m.pushB hB hb fun z hz=>h0 z (by simpa using hz)
theorem MI.doneB {xa xb ou:Array Keyed} {i j:Nat} (m:MI xa.toList xb.toList ou.toList i j) (hA:xa.toList.Pairwise Le) (hB:xb.toList.Pairwise Le) (h:j=xb.toList.length):Mer xa.toList xb.toList (ou++xa.extract i xa.size++xb.extract j xb.size).toList:=by
 rw [gA]
 exact m.finAB hA hB fun x _ y hy=>by rw [cI h] at hy;cases hy
theorem MI.doneA {xa xb ou:Array Keyed} {i j:Nat} (m:MI xa.toList xb.toList ou.toList i j) (hA:xa.toList.Pairwise Le) (hB:xb.toList.Pairwise Le) (h:i=xa.toList.length):Mer xa.toList xb.toList (ou++xa.extract i xa.size++xb.extract j xb.size).toList:=by
 rw [gA]
 exact m.finAB hA hB fun x hx y _=>by rw [cI h] at hx;cases hx
theorem MI.last {xa xb ou:Array Keyed} {i j:Nat} (m:MI xa.toList xb.toList ou.toList i j) (hA:xa.toList.Pairwise Le) (hB:xb.toList.Pairwise Le) (h:i+1=xa.toList.length) (hl:∀ z∈xb.toList,kv z<=kv (xa.toList[xa.toList.length - 1]'(by lia))):Mer xa.toList xb.toList (ou++xb.extract j xb.size++xa.extract i xa.size).toList:=by
 rw [gA]
 exact m.finBA hA hB fun x hx y hy=>by rw [ow h x hx];exact hl y (List.mem_of_mem_drop hy)
section
variable {prog:Program} {w:World} {A:Around} {E:Value->Shared->Prop}
theorem s_mlo {st:SortSt} {xa xb:Array Keyed} {Q:Array Keyed->SortSt->Prop} (hk:kindOf st=KV.kind) (hIa:AllI xa) (hIb:AllI xb) (hA:xa.toList.Pairwise Le) (hB:xb.toList.Pairwise Le) (ha:0<xa.toList.length) (hb:0<xb.toList.length)
 (h0:∀ z∈xa.toList,kv (xb.toList[0])<=kv z) (hl:∀ z∈xb.toList,kv z<=kv (xa.toList[xa.toList.length - 1]'(by lia)))
 (h:∀ o st',SameSt st st'->Mer xa.toList xb.toList o.toList->Q o st'):wpS (model prog w) A E KV.sh (mlo xa xb) Q st:=by
 have hsa:xa.size=xa.toList.length:=(zD0 ..).symm
 have hsb:xb.size=xb.toList.length:=(zD0 ..).symm
 rw [mlo_eq]
 refine wpS_bind (wpS_lift (wpAny_rule ⟨rfl,?_⟩))
 dsimp only
 refine wpS_bind (ak hb ?_)
 have m0:MI xa.toList xb.toList (#[xb.toList[0]]:Array Keyed).toList 0 1:=MI.start hB hb h0
 by_cases c1:1=xb.size
 · rw [if_pos (by simpa using c1)]
   exact wpS_pure (h _ _ (SameSt.refl _) (m0.doneB hA hB (by lia)))
 rw [if_neg (by simpa using c1)]
 by_cases c2:0+1=xa.size
 · rw [if_pos (by simpa using c2)]
   exact wpS_pure (h _ _ (SameSt.refl _) (m0.last hA hB (by lia) hl))
 rw [if_neg (by simpa using c2)]
 refine wpS_bind (wpS_get ?_)
 refine wpS_bind (wpS_mono (wpS_forRange (I:=fun x c st'=>SameSt st st'/\∃ ou i j mg,c=(none,ou,i,j,mg)/\MI xa.toList xb.toList ou.toList i j/\i+1<xa.size/\j<xb.toList.length/\x+1<=i+j) (Q:=fun c st'=>SameSt st st'/\∃ res rest,c=(some res,rest)/\Mer xa.toList xb.toList res.toList) ?step ?fin ⟨SameSt.refl _,_,_,_,_,rfl,m0,by lia,by lia,by lia⟩) ?post)
 case post=>
  rintro c st' ⟨sm,res,rest,rfl,me⟩
  exact wpS_pure (h _ _ sm me)
 case fin=>
  rintro c st' ⟨sm,ou,i,j,mg,rfl,m,hi,hj,hx⟩
  exfalso
  lia
 case step=>
  rintro x c st1 _ hx ⟨sm,ou,i,j,mg,rfl,m,hi,hj,hx2⟩
  dsimp only
  refine wpS_bind (wpS_mono (wpS_forRange (I:=fun y c st'=>SameSt st st'/\∃ ou i j ac bc,c=(none,ou,i,j,ac,bc)/\MI xa.toList xb.toList ou.toList i j/\i+1<xa.size/\j<xb.toList.length/\x+1+min y 1<=i+j)
   (Q:=fun c st'=>SameSt st st'/\((∃ res rest,c=(some res,rest)/\Mer xa.toList xb.toList res.toList)\/∃ ou i j ac bc,c=(none,ou,i,j,ac,bc)/\MI xa.toList xb.toList ou.toList i j/\i+1<xa.size/\j<xb.toList.length/\x+2<=i+j)) ?s1 ?f1 ⟨sm,_,_,_,_,_,rfl,m,hi,hj,by lia⟩) ?p1)
  case f1=>
   rintro c st2 ⟨sm2,ou,i,j,ac,bc,rfl,m,hi,hj,hx3⟩
   exact ⟨sm2,.inr ⟨_,_,_,_,_,rfl,m,hi,hj,by lia⟩⟩
  case s1=>
   rintro y c st2 _ hy ⟨sm2,ou,i,j,ac,bc,rfl,m,hi,hj,hx3⟩
   dsimp only
   refine wpS_bind (ak hj (wpS_bind (ak (i:=i) (by lia) ?_)))
   refine wpS_bind (s_lt (sm2.kind.trans hk) (hIb _ (zB1 _)) (hIa _ (zB1 _)) ?_)
   by_cases bw:kv xb.toList[j]<kv (xa.toList[i]'(by lia))
   · simp only [bw,decide_true,if_true]
     refine wpS_bind (ak hj ?_)
     have m2:MI xa.toList xb.toList (ou.push xb.toList[j]).toList i (j+1):=by
      rw [zE2]
      exact m.pushB hB hj fun z hz=>zD6 (zC9 bw) (bW hA (by lia) z hz)
     by_cases e1:j+1=xb.size
     · rw [if_pos (by simpa using e1)]
       exact wpS_pure ⟨sm2,.inl ⟨_,_,rfl,m2.doneB hA hB (by lia)⟩⟩
     · rw [if_neg (by simpa using e1)]
       split
       · exact wpS_pure ⟨sm2,.inr ⟨_,_,_,_,_,rfl,m2,hi,by lia,by lia⟩⟩
       · exact wpS_pure ⟨sm2,_,_,_,_,_,rfl,m2,hi,by lia,by lia⟩
   · simp only [bw,decide_false,zC4,if_false]
     refine wpS_bind (ak (i:=i) (by lia) ?_)
     have m2:MI xa.toList xb.toList (ou.push (xa.toList[i]'(by lia))).toList (i+1) j:=by
      rw [zE2]
      exact m.pushA hA (by lia) fun z hz=>zD6 (Int.not_lt.mp bw) (bW hB hj z hz)
     by_cases e1:i+1+1=xa.size
     · rw [if_pos (by simpa using e1)]
       exact wpS_pure ⟨sm2,.inl ⟨_,_,rfl,m2.last hA hB (by lia) hl⟩⟩
     · rw [if_neg (by simpa using e1)]
       split
       · exact wpS_pure ⟨sm2,.inr ⟨_,_,_,_,_,rfl,m2,by lia,hj,by lia⟩⟩
       · exact wpS_pure ⟨sm2,_,_,_,_,_,rfl,m2,by lia,hj,by lia⟩
  case p1=>
   rintro c st2 ⟨sm2,⟨res,rest,rfl,me⟩ | ⟨ou,i,j,ac,bc,rfl,m,hi,hj,hx3⟩⟩
   · exact wpS_pure ⟨sm2,_,_,rfl,me⟩
   dsimp only
   refine wpS_bind (wpS_lift (wpAny_rule ⟨rfl,?_⟩))
   refine wpS_bind (wpS_mono (wpS_forRange (I:=fun y c st'=>SameSt st st'/\∃ ou i j mg ac bc,c=(none,ou,i,j,mg,ac,bc)/\MI xa.toList xb.toList ou.toList i j/\i+1<xa.size/\j<xb.toList.length/\x+2<=i+j)
    (Q:=fun c st'=>SameSt st st'/\((∃ res rest,c=(some res,rest)/\Mer xa.toList xb.toList res.toList)\/∃ ou i j mg ac bc,c=(none,ou,i,j,mg,ac,bc)/\MI xa.toList xb.toList ou.toList i j/\i+1<xa.size/\j<xb.toList.length/\x+2<=i+j)) ?s2 ?f2 ⟨sm2,_,_,_,_,_,_,rfl,m,hi,hj,hx3⟩) ?p2)
   case f2=>
    rintro c st3 ⟨sm3,ou,i,j,mg,ac,bc,rfl,m,hi,hj,hx4⟩
    exact ⟨sm3,.inr ⟨_,_,_,_,_,_,rfl,m,hi,hj,hx4⟩⟩
   case p2=>
    rintro c st3 ⟨sm3,⟨res,rest,rfl,me⟩ | ⟨ou,i,j,mg,ac,bc,rfl,m,hi,hj,hx4⟩⟩
    · exact wpS_pure ⟨sm3,_,_,rfl,me⟩
    · dsimp only
      refine wpS_bind (eo ?_)
      exact wpS_pure ⟨sm3.setG _,_,_,_,_,rfl,m,hi,hj,by lia⟩
   case s2=>
    rintro y c st3 _ hy ⟨sm3',ou,i,j,mg,ac,bc,rfl,m,hi,hj,hx4⟩
    dsimp only
    have sm3:=fun g=>sm3'.setG g
    obtain ⟨c1,hc1,cut1⟩:=cf hA xb.toList[j] false i (xa.size - i) (by lia)
    obtain ⟨le1,gt1⟩:=gfalse (by lia) cut1
    have m1:MI xa.toList xb.toList (ou++xa.extract i (i+c1)).toList (i+c1) j:=by
     rw [dv]
     exact m.extA hA c1 (by lia) fun t ht htc z hz=>zD6 (le1 t ht htc) (bW hB hj z hz)
    by_cases hmg:mg > 1
    · rw [if_pos hmg]
      refine wpS_bind (eo (wpS_bind (ak hj ?_)))
      refine wpS_bind (cz (c:=c1) ((sm3 _).kind.trans hk) hIa (hIb _ (zB1 _)) (by lia) (by lia) hc1 cut1 ?_)
      dsimp only
      by_cases k0:c1 > 0
      · rw [if_pos k0]
        by_cases e1:i+c1+1=xa.size
        · rw [if_pos (by simpa using e1)]
          exact wpS_pure ⟨sm3 _,.inl ⟨_,_,rfl,m1.last hA hB (by lia) hl⟩⟩
        · rw [if_neg (by simpa using e1)]
          by_cases e2:i+c1=xa.size
          · rw [if_pos (by simpa using e2)]
            exact wpS_pure ⟨sm3 _,.inl ⟨_,_,rfl,m1.doneA hA hB (by lia)⟩⟩
          · rw [if_neg (by simpa using e2)]
            refine wpS_bind (ak hj ?_)
            have M2:MI xa.toList xb.toList (Array.push (ou++xa.extract i (i+c1)) xb.toList[j]).toList (i+c1) (j+1):=by rw [zE2];exact MI.pushB m1 hB hj (fun z hz=>zC9 (gt1 z hz))
            by_cases e3:j+1=xb.size
            · rw [if_pos (by simpa using e3)]
              exact wpS_pure ⟨sm3 _,.inl ⟨_,_,rfl,M2.doneB hA hB (by lia)⟩⟩
            · rw [if_neg (by simpa using e3)]
              refine wpS_bind (ak (i:=(i+c1)) (by lia) ?_)
              obtain ⟨c2,hc2,cut2⟩:=cf hB (xa.toList[(i+c1)]'(by lia)) true (j+1) (xb.size - (j+1)) (by lia)
              obtain ⟨lt2,ge2⟩:=oJ (by lia) cut2
              refine wpS_bind (cz (c:=c2) ((sm3 _).kind.trans hk) hIb (hIa _ (zB1 _)) (by lia) (by lia) hc2 cut2 ?_)
              dsimp only
              by_cases k1:c2 > 0
              · rw [if_pos k1]
                have M3:MI xa.toList xb.toList (Array.push (ou++xa.extract i (i+c1)) xb.toList[j]++xb.extract (j+1) (j+1+c2)).toList (i+c1) (j+1+c2):=by
                 rw [dv]
                 exact M2.extB hB c2 (by lia) fun t ht htc z hz=>zD6 (zC9 (lt2 t ht htc)) (bW hA (by lia) z hz)
                by_cases e4:j+1+c2=xb.size
                · rw [if_pos (by simpa using e4)]
                  exact wpS_pure ⟨sm3 _,.inl ⟨_,_,rfl,M3.doneB hA hB (by lia)⟩⟩
                · rw [if_neg (by simpa using e4)]
                  refine wpS_bind (ak (i:=(i+c1)) (by lia) ?_)
                  have M4:MI xa.toList xb.toList (Array.push (Array.push (ou++xa.extract i (i+c1)) xb.toList[j]++xb.extract (j+1) (j+1+c2)) (xa.toList[(i+c1)]'(by lia))).toList ((i+c1)+1) (j+1+c2):=by rw [zE2];exact MI.pushA M3 hA (by lia) ge2
                  by_cases e5:(i+c1)+1+1=xa.size
                  · rw [if_pos (by simpa using e5)]
                    exact wpS_pure ⟨sm3 _,.inl ⟨_,_,rfl,M4.last hA hB (by lia) hl⟩⟩
                  · rw [if_neg (by simpa using e5)]
                    split
                    · exact wpS_pure ⟨sm3 _,.inr ⟨_,_,_,_,_,_,rfl,M4,by lia,by lia,by lia⟩⟩
                    · exact wpS_pure ⟨sm3 _,_,_,_,_,_,_,rfl,M4,by lia,by lia,by lia⟩
              · rw [if_neg k1]
                have c20:c2=0:=by lia
                refine wpS_bind (ak (i:=(i+c1)) (by lia) ?_)
                have M4:MI xa.toList xb.toList (Array.push (Array.push (ou++xa.extract i (i+c1)) xb.toList[j]) (xa.toList[(i+c1)]'(by lia))).toList ((i+c1)+1) (j+1):=by rw [zE2];exact MI.pushA M2 hA (by lia) (fun z hz=>ge2 z (by rw [c20,zF5];exact hz))
                by_cases e5:(i+c1)+1+1=xa.size
                · rw [if_pos (by simpa using e5)]
                  exact wpS_pure ⟨sm3 _,.inl ⟨_,_,rfl,M4.last hA hB (by lia) hl⟩⟩
                · rw [if_neg (by simpa using e5)]
                  split
                  · exact wpS_pure ⟨sm3 _,.inr ⟨_,_,_,_,_,_,rfl,M4,by lia,by lia,by lia⟩⟩
                  · exact wpS_pure ⟨sm3 _,_,_,_,_,_,_,rfl,M4,by lia,by lia,by lia⟩
      · rw [if_neg k0]
        have c10:c1=0:=by lia
        refine wpS_bind (ak hj ?_)
        have M2:MI xa.toList xb.toList (Array.push ou xb.toList[j]).toList i (j+1):=by rw [zE2];exact MI.pushB m hB hj (fun z hz=>zC9 (gt1 z (by rw [c10,zF5];exact hz)))
        by_cases e3:j+1=xb.size
        · rw [if_pos (by simpa using e3)]
          exact wpS_pure ⟨sm3 _,.inl ⟨_,_,rfl,M2.doneB hA hB (by lia)⟩⟩
        · rw [if_neg (by simpa using e3)]
          refine wpS_bind (ak (i:=i) (by lia) ?_)
          obtain ⟨c2,hc2,cut2⟩:=cf hB (xa.toList[i]'(by lia)) true (j+1) (xb.size - (j+1)) (by lia)
          obtain ⟨lt2,ge2⟩:=oJ (by lia) cut2
          refine wpS_bind (cz (c:=c2) ((sm3 _).kind.trans hk) hIb (hIa _ (zB1 _)) (by lia) (by lia) hc2 cut2 ?_)
          dsimp only
          by_cases k1:c2 > 0
          · rw [if_pos k1]
            have M3:MI xa.toList xb.toList (Array.push ou xb.toList[j]++xb.extract (j+1) (j+1+c2)).toList i (j+1+c2):=by
             rw [dv]
             exact M2.extB hB c2 (by lia) fun t ht htc z hz=>zD6 (zC9 (lt2 t ht htc)) (bW hA (by lia) z hz)
            by_cases e4:j+1+c2=xb.size
            · rw [if_pos (by simpa using e4)]
              exact wpS_pure ⟨sm3 _,.inl ⟨_,_,rfl,M3.doneB hA hB (by lia)⟩⟩
            · rw [if_neg (by simpa using e4)]
              refine wpS_bind (ak (i:=i) (by lia) ?_)
              have M4:MI xa.toList xb.toList (Array.push (Array.push ou xb.toList[j]++xb.extract (j+1) (j+1+c2)) (xa.toList[i]'(by lia))).toList (i+1) (j+1+c2):=by rw [zE2];exact MI.pushA M3 hA (by lia) ge2
              by_cases e5:i+1+1=xa.size
              · rw [if_pos (by simpa using e5)]
                exact wpS_pure ⟨sm3 _,.inl ⟨_,_,rfl,M4.last hA hB (by lia) hl⟩⟩
              · rw [if_neg (by simpa using e5)]
                split
                · exact wpS_pure ⟨sm3 _,.inr ⟨_,_,_,_,_,_,rfl,M4,by lia,by lia,by lia⟩⟩
                · exact wpS_pure ⟨sm3 _,_,_,_,_,_,_,rfl,M4,by lia,by lia,by lia⟩
          · rw [if_neg k1]
            have c20:c2=0:=by lia
            refine wpS_bind (ak (i:=i) (by lia) ?_)
            have M4:MI xa.toList xb.toList (Array.push (Array.push ou xb.toList[j]) (xa.toList[i]'(by lia))).toList (i+1) (j+1):=by rw [zE2];exact MI.pushA M2 hA (by lia) (fun z hz=>ge2 z (by rw [c20,zF5];exact hz))
            by_cases e5:i+1+1=xa.size
            · rw [if_pos (by simpa using e5)]
              exact wpS_pure ⟨sm3 _,.inl ⟨_,_,rfl,M4.last hA hB (by lia) hl⟩⟩
            · rw [if_neg (by simpa using e5)]
              split
              · exact wpS_pure ⟨sm3 _,.inr ⟨_,_,_,_,_,_,rfl,M4,by lia,by lia,by lia⟩⟩
              · exact wpS_pure ⟨sm3 _,_,_,_,_,_,_,rfl,M4,by lia,by lia,by lia⟩
    · rw [if_neg hmg]
      refine wpS_bind (eo (wpS_bind (ak hj ?_)))
      refine wpS_bind (cz (c:=c1) ((sm3 _).kind.trans hk) hIa (hIb _ (zB1 _)) (by lia) (by lia) hc1 cut1 ?_)
      dsimp only
      by_cases k0:c1 > 0
      · rw [if_pos k0]
        by_cases e1:i+c1+1=xa.size
        · rw [if_pos (by simpa using e1)]
          exact wpS_pure ⟨sm3 _,.inl ⟨_,_,rfl,m1.last hA hB (by lia) hl⟩⟩
        · rw [if_neg (by simpa using e1)]
          by_cases e2:i+c1=xa.size
          · rw [if_pos (by simpa using e2)]
            exact wpS_pure ⟨sm3 _,.inl ⟨_,_,rfl,m1.doneA hA hB (by lia)⟩⟩
          · rw [if_neg (by simpa using e2)]
            refine wpS_bind (ak hj ?_)
            have M2:MI xa.toList xb.toList (Array.push (ou++xa.extract i (i+c1)) xb.toList[j]).toList (i+c1) (j+1):=by rw [zE2];exact MI.pushB m1 hB hj (fun z hz=>zC9 (gt1 z hz))
            by_cases e3:j+1=xb.size
            · rw [if_pos (by simpa using e3)]
              exact wpS_pure ⟨sm3 _,.inl ⟨_,_,rfl,M2.doneB hA hB (by lia)⟩⟩
            · rw [if_neg (by simpa using e3)]
              refine wpS_bind (ak (i:=(i+c1)) (by lia) ?_)
              obtain ⟨c2,hc2,cut2⟩:=cf hB (xa.toList[(i+c1)]'(by lia)) true (j+1) (xb.size - (j+1)) (by lia)
              obtain ⟨lt2,ge2⟩:=oJ (by lia) cut2
              refine wpS_bind (cz (c:=c2) ((sm3 _).kind.trans hk) hIb (hIa _ (zB1 _)) (by lia) (by lia) hc2 cut2 ?_)
              dsimp only
              by_cases k1:c2 > 0
              · rw [if_pos k1]
                have M3:MI xa.toList xb.toList (Array.push (ou++xa.extract i (i+c1)) xb.toList[j]++xb.extract (j+1) (j+1+c2)).toList (i+c1) (j+1+c2):=by
                 rw [dv]
                 exact M2.extB hB c2 (by lia) fun t ht htc z hz=>zD6 (zC9 (lt2 t ht htc)) (bW hA (by lia) z hz)
                by_cases e4:j+1+c2=xb.size
                · rw [if_pos (by simpa using e4)]
                  exact wpS_pure ⟨sm3 _,.inl ⟨_,_,rfl,M3.doneB hA hB (by lia)⟩⟩
                · rw [if_neg (by simpa using e4)]
                  refine wpS_bind (ak (i:=(i+c1)) (by lia) ?_)
                  have M4:MI xa.toList xb.toList (Array.push (Array.push (ou++xa.extract i (i+c1)) xb.toList[j]++xb.extract (j+1) (j+1+c2)) (xa.toList[(i+c1)]'(by lia))).toList ((i+c1)+1) (j+1+c2):=by rw [zE2];exact MI.pushA M3 hA (by lia) ge2
                  by_cases e5:(i+c1)+1+1=xa.size
                  · rw [if_pos (by simpa using e5)]
                    exact wpS_pure ⟨sm3 _,.inl ⟨_,_,rfl,M4.last hA hB (by lia) hl⟩⟩
                  · rw [if_neg (by simpa using e5)]
                    split
                    · exact wpS_pure ⟨sm3 _,.inr ⟨_,_,_,_,_,_,rfl,M4,by lia,by lia,by lia⟩⟩
                    · exact wpS_pure ⟨sm3 _,_,_,_,_,_,_,rfl,M4,by lia,by lia,by lia⟩
              · rw [if_neg k1]
                have c20:c2=0:=by lia
                refine wpS_bind (ak (i:=(i+c1)) (by lia) ?_)
                have M4:MI xa.toList xb.toList (Array.push (Array.push (ou++xa.extract i (i+c1)) xb.toList[j]) (xa.toList[(i+c1)]'(by lia))).toList ((i+c1)+1) (j+1):=by rw [zE2];exact MI.pushA M2 hA (by lia) (fun z hz=>ge2 z (by rw [c20,zF5];exact hz))
                by_cases e5:(i+c1)+1+1=xa.size
                · rw [if_pos (by simpa using e5)]
                  exact wpS_pure ⟨sm3 _,.inl ⟨_,_,rfl,M4.last hA hB (by lia) hl⟩⟩
                · rw [if_neg (by simpa using e5)]
                  split
                  · exact wpS_pure ⟨sm3 _,.inr ⟨_,_,_,_,_,_,rfl,M4,by lia,by lia,by lia⟩⟩
                  · exact wpS_pure ⟨sm3 _,_,_,_,_,_,_,rfl,M4,by lia,by lia,by lia⟩
      · rw [if_neg k0]
        have c10:c1=0:=by lia
        refine wpS_bind (ak hj ?_)
        have M2:MI xa.toList xb.toList (Array.push ou xb.toList[j]).toList i (j+1):=by rw [zE2];exact MI.pushB m hB hj (fun z hz=>zC9 (gt1 z (by rw [c10,zF5];exact hz)))
        by_cases e3:j+1=xb.size
        · rw [if_pos (by simpa using e3)]
          exact wpS_pure ⟨sm3 _,.inl ⟨_,_,rfl,M2.doneB hA hB (by lia)⟩⟩
        · rw [if_neg (by simpa using e3)]
          refine wpS_bind (ak (i:=i) (by lia) ?_)
          obtain ⟨c2,hc2,cut2⟩:=cf hB (xa.toList[i]'(by lia)) true (j+1) (xb.size - (j+1)) (by lia)
          obtain ⟨lt2,ge2⟩:=oJ (by lia) cut2
          refine wpS_bind (cz (c:=c2) ((sm3 _).kind.trans hk) hIb (hIa _ (zB1 _)) (by lia) (by lia) hc2 cut2 ?_)
          dsimp only
          by_cases k1:c2 > 0
          · rw [if_pos k1]
            have M3:MI xa.toList xb.toList (Array.push ou xb.toList[j]++xb.extract (j+1) (j+1+c2)).toList i (j+1+c2):=by
             rw [dv]
             exact M2.extB hB c2 (by lia) fun t ht htc z hz=>zD6 (zC9 (lt2 t ht htc)) (bW hA (by lia) z hz)
            by_cases e4:j+1+c2=xb.size
            · rw [if_pos (by simpa using e4)]
              exact wpS_pure ⟨sm3 _,.inl ⟨_,_,rfl,M3.doneB hA hB (by lia)⟩⟩
            · rw [if_neg (by simpa using e4)]
              refine wpS_bind (ak (i:=i) (by lia) ?_)
              have M4:MI xa.toList xb.toList (Array.push (Array.push ou xb.toList[j]++xb.extract (j+1) (j+1+c2)) (xa.toList[i]'(by lia))).toList (i+1) (j+1+c2):=by rw [zE2];exact MI.pushA M3 hA (by lia) ge2
              by_cases e5:i+1+1=xa.size
              · rw [if_pos (by simpa using e5)]
                exact wpS_pure ⟨sm3 _,.inl ⟨_,_,rfl,M4.last hA hB (by lia) hl⟩⟩
              · rw [if_neg (by simpa using e5)]
                split
                · exact wpS_pure ⟨sm3 _,.inr ⟨_,_,_,_,_,_,rfl,M4,by lia,by lia,by lia⟩⟩
                · exact wpS_pure ⟨sm3 _,_,_,_,_,_,_,rfl,M4,by lia,by lia,by lia⟩
          · rw [if_neg k1]
            have c20:c2=0:=by lia
            refine wpS_bind (ak (i:=i) (by lia) ?_)
            have M4:MI xa.toList xb.toList (Array.push (Array.push ou xb.toList[j]) (xa.toList[i]'(by lia))).toList (i+1) (j+1):=by rw [zE2];exact MI.pushA M2 hA (by lia) (fun z hz=>ge2 z (by rw [c20,zF5];exact hz))
            by_cases e5:i+1+1=xa.size
            · rw [if_pos (by simpa using e5)]
              exact wpS_pure ⟨sm3 _,.inl ⟨_,_,rfl,M4.last hA hB (by lia) hl⟩⟩
            · rw [if_neg (by simpa using e5)]
              split
              · exact wpS_pure ⟨sm3 _,.inr ⟨_,_,_,_,_,_,rfl,M4,by lia,by lia,by lia⟩⟩
              · exact wpS_pure ⟨sm3 _,_,_,_,_,_,_,rfl,M4,by lia,by lia,by lia⟩
end
open PyProof.Rows hiding K SortedTo K_bubble K_mirror K_congr K_mirror_equal
variable [KV]
structure MH (A B:List Keyed) (o:List Keyed) (na nb:Nat):Prop where
 perm:o.Perm (A.drop na++B.drop nb)
 srt:o.Pairwise Le
 lea:∀ x∈o,∀ y∈A.take na,kv y<=kv x
 leb:∀ x∈o,∀ y∈B.take nb,kv y<=kv x
theorem gJ {l:List Keyed} (h:l.Pairwise Le) {i:Nat} (hi:i<l.length):∀ y∈l.take i,kv y<=kv l[i]:=fun y hy=>by
 obtain ⟨u,hu,rfl⟩:=zE5.mp hy
 rw [zB7] at hu
 rw [zF7]
 exact zE8.mp h _ _ _ _ (by lia)
theorem cF {l:List Keyed} {i:Nat} {y:Keyed} (h:y∈l.take i):y∈l.take (i+1):=(List.take_sublist_take_left (Nat.le_succ i)).mem h
theorem dG {l:List Keyed} {i:Nat} (hi:i<l.length):l[i]∈l.take (i+1):=by
 rw [zE1,List.getElem?_eq_getElem hi]
 exact zB0 _ (zD4.mpr rfl)
theorem MH.pushA {A B o:List Keyed} {na nb:Nat} (m:MH A B o (na+1) nb) (hA:A.Pairwise Le) (hi:na<A.length) (h:∀ z∈B.take nb,kv z<=kv A[na]):MH A B (A[na]::o) na nb:=by
 refine ⟨?_,?_,fun x hx y hy=>?_,fun x hx y hy=>?_⟩
 · rw [zD3 hi,zH5]
   exact List.Perm.cons _ m.perm
 · exact List.pairwise_cons.mpr ⟨fun x hx=>m.lea x hx _ (dG hi),m.srt⟩
 · rcases zB2.mp hx with rfl | hx
   · exact gJ hA hi y hy
   · exact m.lea x hx y (cF hy)
 · rcases zB2.mp hx with rfl | hx
   · exact h y hy
   · exact m.leb x hx y hy
theorem MH.pushB {A B o:List Keyed} {na nb:Nat} (m:MH A B o na (nb+1)) (hB:B.Pairwise Le) (hi:nb<B.length) (h:∀ z∈A.take na,kv z<=kv B[nb]):MH A B (B[nb]::o) na nb:=by
 refine ⟨?_,?_,fun x hx y hy=>?_,fun x hx y hy=>?_⟩
 · rw [zD3 hi]
   exact (List.Perm.cons _ m.perm).trans List.perm_middle.symm
 · exact List.pairwise_cons.mpr ⟨fun x hx=>m.leb x hx _ (dG hi),m.srt⟩
 · rcases zB2.mp hx with rfl | hx
   · exact h y hy
   · exact m.lea x hx y hy
 · rcases zB2.mp hx with rfl | hx
   · exact gJ hB hi y hy
   · exact m.leb x hx y (cF hy)
theorem MH.extA {A B o:List Keyed} {nb:Nat} (hA:A.Pairwise Le):∀ (k c:Nat),MH A B o (c+k) nb->c+k<=A.length->(∀ i (hi:i<A.length),c<=i->i<c+k->∀ z∈B.take nb,kv z<=kv A[i])->MH A B ((A.drop c).take k++o) c nb
 | 0,c,m,_,_=>by rw [List.take_zero];exact m
 | k+1,c,m,hk,h=>by
   have m':MH A B o (c+1+k) nb:=by rw [show c+1+k=c+(k+1) by lia];exact m
   have ih:=MH.extA hA k (c+1) m' (by lia) fun i hi h1 h2=>h i hi (by lia) (by lia)
   have hi:c<A.length:=by lia
   rw [zD3 hi,List.take_succ_cons,zH5]
   exact ih.pushA hA hi (h c hi (zA1 _) (by lia))
theorem MH.extB {A B o:List Keyed} {na:Nat} (hB:B.Pairwise Le):∀ (k c:Nat),MH A B o na (c+k)->c+k<=B.length->(∀ i (hi:i<B.length),c<=i->i<c+k->∀ z∈A.take na,kv z<=kv B[i])->MH A B ((B.drop c).take k++o) na c
 | 0,c,m,_,_=>by rw [List.take_zero];exact m
 | k+1,c,m,hk,h=>by
   have m':MH A B o na (c+1+k):=by rw [show c+1+k=c+(k+1) by lia];exact m
   have ih:=MH.extB hB k (c+1) m' (by lia) fun i hi h1 h2=>h i hi (by lia) (by lia)
   have hi:c<B.length:=by lia
   rw [zD3 hi,List.take_succ_cons,zH5]
   exact ih.pushB hB hi (h c hi (zA1 _) (by lia))
theorem MH.finAB {A B o:List Keyed} {na nb:Nat} (m:MH A B o na nb) (hA:A.Pairwise Le) (hB:B.Pairwise Le) (h:∀ x∈A.take na,∀ y∈B.take nb,kv x<=kv y):Mer A B (A.take na++B.take nb++o):=by
 refine ⟨?_,?_⟩
 · have e:=(zE6 (A.take na++B.take nb) m.perm).trans (dh (A.take na) (B.take nb) (A.drop na) (B.drop nb))
   rw [zE0,zE0] at e
   exact e
 · refine zD1.mpr ⟨zD1.mpr ⟨hA.sublist (zI7 _ _),hB.sublist (zI7 _ _),fun x hx y hy=>h x hx y hy⟩,m.srt,fun x hx y hy=>?_⟩
   rcases zC1.mp hx with hx | hx
   · exact m.lea y hy x hx
   · exact m.leb y hy x hx
theorem MH.finBA {A B o:List Keyed} {na nb:Nat} (m:MH A B o na nb) (hA:A.Pairwise Le) (hB:B.Pairwise Le) (h:∀ x∈A.take na,∀ y∈B.take nb,kv y<=kv x):Mer A B (B.take nb++A.take na++o):=by
 refine ⟨?_,?_⟩
 · have e:=(zE6 (A.take na++B.take nb) m.perm).trans (dh (A.take na) (B.take nb) (A.drop na) (B.drop nb))
   rw [zE0,zE0] at e
   exact (zH9 o zH1).trans e
 · refine zD1.mpr ⟨zD1.mpr ⟨hB.sublist (zI7 _ _),hA.sublist (zI7 _ _),fun x hx y hy=>h y hy x hx⟩,m.srt,fun x hx y hy=>?_⟩
   rcases zC1.mp hx with hx | hx
   · exact m.leb y hy x hx
   · exact m.lea y hy x hx
theorem fF (o x y:Array Keyed) (i j:Nat):(x.extract 0 i++y.extract 0 j++o.reverse).toList=x.toList.take i++y.toList.take j++o.toList.reverse:=by
 have e:∀ (z:Array Keyed) (k:Nat),(z.extract 0 k).toList=z.toList.take k:=fun z k=>by
  rw [Array.toList_extract,zI3,List.drop_zero,Nat.sub_zero]
 rw [zI9,zI9,e,e,Array.toList_reverse]
theorem fE (o:Array Keyed) (z:Keyed):(o.push z).toList.reverse=z::o.toList.reverse:=by
 rw [zE2,List.reverse_append];rfl
theorem il (o x:Array Keyed) (c n:Nat):(o++(x.extract c n).reverse).toList.reverse=(x.toList.drop c).take (n - c)++o.toList.reverse:=by
 rw [zI9,List.reverse_append,Array.toList_reverse,List.reverse_reverse,Array.toList_extract,zI3]
def MHa (xa xb ou:Array Keyed) (na nb:Nat):Prop:=MH xa.toList xb.toList ou.toList.reverse na nb
section
variable {xa xb ou:Array Keyed} {na nb:Nat}
theorem MHa.done0 (m:MHa xa xb ou na nb) (hA:xa.toList.Pairwise Le) (hB:xb.toList.Pairwise Le) (h:na=0\/nb=0):Mer xa.toList xb.toList (xa.extract 0 na++xb.extract 0 nb++ou.reverse).toList:=by
 rw [fF]
 refine MH.finAB m hA hB fun x hx y hy=>?_
 rcases h with h | h
 · rw [h] at hx;simp at hx
 · rw [h] at hy;simp at hy
theorem MHa.first (m:MHa xa xb ou na nb) (hA:xa.toList.Pairwise Le) (hB:xb.toList.Pairwise Le) (hb:0<xb.toList.length) (h:nb=1) (h0:∀ z∈xa.toList,kv xb.toList[0]<=kv z):Mer xa.toList xb.toList (xb.extract 0 nb++xa.extract 0 na++ou.reverse).toList:=by
 rw [fF]
 refine MH.finBA m hA hB fun x hx y hy=>?_
 rw [h,zE1,List.getElem?_eq_getElem hb] at hy
 have:y=xb.toList[0]:=by simpa using hy
 rw [this]
 exact h0 x (List.mem_of_mem_take hx)
theorem MHa.pushA (m:MHa xa xb ou (na+1) nb) (hA:xa.toList.Pairwise Le) (hi:na<xa.toList.length) (h:∀ z∈xb.toList.take nb,kv z<=kv xa.toList[na]):MHa xa xb (ou.push xa.toList[na]) na nb:=by
 unfold MHa;rw [fE];exact MH.pushA m hA hi h
theorem MHa.pushB (m:MHa xa xb ou na (nb+1)) (hB:xb.toList.Pairwise Le) (hi:nb<xb.toList.length) (h:∀ z∈xa.toList.take na,kv z<=kv xb.toList[nb]):MHa xa xb (ou.push xb.toList[nb]) na nb:=by
 unfold MHa;rw [fE];exact MH.pushB m hB hi h
theorem MHa.extA {c:Nat} (m:MHa xa xb ou na nb) (hA:xa.toList.Pairwise Le) (hc:c<=na) (hn:na<=xa.toList.length) (h:∀ i (hi:i<xa.toList.length),c<=i->i<na->∀ z∈xb.toList.take nb,kv z<=kv xa.toList[i]):MHa xa xb (ou++(xa.extract c na).reverse) c nb:=by
 unfold MHa;rw [il]
 exact MH.extA hA (na - c) c (by rw [show c+(na - c)=na by lia];exact m) (by lia) fun i hi h1 h2=>h i hi h1 (by lia)
theorem MHa.extB {c:Nat} (m:MHa xa xb ou na nb) (hB:xb.toList.Pairwise Le) (hc:c<=nb) (hn:nb<=xb.toList.length) (h:∀ i (hi:i<xb.toList.length),c<=i->i<nb->∀ z∈xa.toList.take na,kv z<=kv xb.toList[i]):MHa xa xb (ou++(xb.extract c nb).reverse) na c:=by
 unfold MHa;rw [il]
 exact MH.extB hB (nb - c) c (by rw [show c+(nb - c)=nb by lia];exact m) (by lia) fun i hi h1 h2=>h i hi h1 (by lia)
end
theorem ffalse {xs:Array Keyed} {ky:Keyed} {n c:Nat} (hn:n<=xs.toList.length) (hc:c<=n) (cut:∀ i,i<n->Byd false ky xs 0 i=decide (i<c)) :
 (∀ z∈xs.toList.take c,kv z<=kv ky)/\(∀ i (h:i<xs.toList.length),c<=i->i<n->kv ky<kv xs.toList[i]):=by
 have key:∀ i (h:i<xs.toList.length),i<n->(!decide (kv ky<kv xs.toList[i]))=decide (i<c):=fun i h hi=>by
  have:=cut i hi
  unfold Byd at this
  rw [zJ1,mY h] at this
  simpa using this
 constructor
 · intro z hz
   obtain ⟨u,hu,rfl⟩:=zE5.mp hz
   rw [zB7] at hu
   have:=key u (by lia) (by lia)
   rw [zF7]
   rw [decide_eq_true (show u<c by lia)] at this
   simpa using this
 · intro i h h1 h2
   have:=key i h h2
   rw [decide_eq_false (show ¬ i<c by lia)] at this
   simpa using this
theorem oM {xs:Array Keyed} {ky:Keyed} {n c:Nat} (hn:n<=xs.toList.length) (hc:c<=n) (cut:∀ i,i<n->Byd true ky xs 0 i=decide (i<c)) :
 (∀ z∈xs.toList.take c,kv z<kv ky)/\(∀ i (h:i<xs.toList.length),c<=i->i<n->kv ky<=kv xs.toList[i]):=by
 have key:∀ i (h:i<xs.toList.length),i<n->decide (kv xs.toList[i]<kv ky)=decide (i<c):=fun i h hi=>by
  have:=cut i hi
  unfold Byd at this
  rw [zJ1,mY h] at this
  simpa using this
 constructor
 · intro z hz
   obtain ⟨u,hu,rfl⟩:=zE5.mp hz
   rw [zB7] at hu
   have:=key u (by lia) (by lia)
   rw [zF7]
   rw [decide_eq_true (show u<c by lia)] at this
   simpa using this
 · intro i h h1 h2
   have:=key i h h2
   rw [decide_eq_false (show ¬ i<c by lia)] at this
   simpa using this
theorem bS {l:List Keyed} (h:l.Pairwise Le) {n:Nat} (hn:n<l.length):∀ z∈l.take (n+1),kv z<=kv l[n]:=fun z hz=>by
 rw [zE1,List.getElem?_eq_getElem hn] at hz
 rcases zC1.mp hz with hz | hz
 · exact gJ h hn z hz
 · have:z=l[n]:=by simpa using hz
   rw [this];exact zE7 _
def mhi:Array Keyed->Array Keyed->StateT SortSt Sem (Array Keyed):=sortPriv% PySem.Builtin.mergeHi
theorem mhi_eq (xa xb:Array Keyed):mhi xa xb=(do
 rule "list.sort.merge-hi"
 let tot:=xa.size+xb.size
 let dn (ou:Array Keyed) (i j:Nat):=xa.extract 0 i++xb.extract 0 j++ou.reverse
 let fb (ou:Array Keyed) (i j:Nat):=xb.extract 0 j++xa.extract 0 i++ou.reverse
 let mut i:=xa.size - 1
 let mut j:=xb.size
 let mut ou:Array Keyed:=#[← elem' xa i]
 if i == 0 then return dn ou i j
 if j == 1 then return fb ou i j
 let mut mg:=gallopOf (← get)
 for _ in [0:tot] do
  let mut ac:=0
  let mut bc:=0
  for _ in [0:tot] do
   let some aw ← lt' (← elem' xb (j - 1)) (← elem' xa (i - 1)) | return dn ou i j
   if aw then
    i:=i - 1;ou:=ou.push (← elem' xa i);ac:=ac+1;bc:=0
    if i == 0 then return dn ou i j
    if ac>=mg then break
   else
    j:=j - 1;ou:=ou.push (← elem' xb j);bc:=bc+1;ac:=0
    if j == 1 then return fb ou i j
    if bc>=mg then break
  rule "list.sort.gallop"
  mg:=mg+1
  for _ in [0:tot] do
   if mg > 1 then mg:=mg - 1
   setG mg
   let some t ← gal false (← elem' xb (j - 1)) xa 0 i (i - 1) | return dn ou i j
   let k:=i - t
   ac:=k
   if k > 0 then
    ou:=ou++(xa.extract t i).reverse;i:=t
    if i == 0 then return dn ou i j
   j:=j - 1;ou:=ou.push (← elem' xb j)
   if j == 1 then return fb ou i j
   let some t ← gal true (← elem' xa (i - 1)) xb 0 j (j - 1) | return dn ou i j
   let k:=j - t
   bc:=k
   if k > 0 then
    ou:=ou++(xb.extract t j).reverse;j:=t
    if j == 1 then return fb ou i j
    if j == 0 then return dn ou i j
   i:=i - 1;ou:=ou.push (← elem' xa i)
   if i == 0 then return dn ou i j
   if ac<7&&bc<7 then break
  mg:=mg+1
  setG mg
 unsupported "internal:list.sort.merge-bound"):=rfl
open PyProof.Rows hiding K SortedTo K_bubble K_mirror K_congr K_mirror_equal
variable [KV]
section
variable {prog:Program} {w:World} {A:Around} {E:Value->Shared->Prop}
theorem s_mhi {st:SortSt} {xa xb:Array Keyed} {Q:Array Keyed->SortSt->Prop} (hk:kindOf st=KV.kind) (hIa:AllI xa) (hIb:AllI xb) (hA:xa.toList.Pairwise Le) (hB:xb.toList.Pairwise Le) (ha:0<xa.toList.length) (hb:0<xb.toList.length)
 (h0:∀ z∈xa.toList,kv (xb.toList[0])<=kv z) (hl:∀ z∈xb.toList,kv z<=kv (xa.toList[xa.toList.length - 1]'(by lia)))
 (h:∀ o st',SameSt st st'->Mer xa.toList xb.toList o.toList->Q o st'):wpS (model prog w) A E KV.sh (mhi xa xb) Q st:=by
 have hsa:xa.size=xa.toList.length:=(zD0 ..).symm
 have hsb:xb.size=xb.toList.length:=(zD0 ..).symm
 rw [mhi_eq]
 refine wpS_bind (wpS_lift (wpAny_rule ⟨rfl,?_⟩))
 dsimp only
 refine wpS_bind (ak (i:=xa.size - 1) (by lia) ?_)
 have m0:MHa xa xb #[xa.toList[xa.size - 1]'(by lia)] (xa.size - 1) xb.size:=by
  have mm:MHa xa xb #[] (xa.size - 1+1) xb.size:=by
   refine ⟨?_,List.Pairwise.nil,fun x hx=>(nomatch hx),fun x hx=>(nomatch hx)⟩
   rw [cI (show xa.size - 1+1=xa.toList.length by lia),cI hsb]
   exact List.Perm.refl _
  refine mm.pushA hA (by lia) fun z hz=>?_
  have:=hl z (List.mem_of_mem_take hz)
  have e:xa.toList[xa.toList.length - 1]'(by lia)=xa.toList[xa.size - 1]'(by lia):=by congr 1
  rw [← e];exact this
 by_cases c1:xa.size - 1=0
 · rw [if_pos (by simpa using c1)]
   exact wpS_pure (h _ _ (SameSt.refl _) (m0.done0 hA hB (.inl c1)))
 rw [if_neg (by simpa using c1)]
 by_cases c2:xb.size=1
 · rw [if_pos (by simpa using c2)]
   exact wpS_pure (h _ _ (SameSt.refl _) (m0.first hA hB hb c2 h0))
 rw [if_neg (by simpa using c2)]
 refine wpS_bind (wpS_get ?_)
 refine wpS_bind (wpS_mono (wpS_forRange (I:=fun x c st'=>SameSt st st'/\∃ i j ou mg,c=(none,i,j,ou,mg)/\MHa xa xb ou i j/\0<i/\i<xa.size/\1<j/\j<=xb.size/\i+j+x+1<=xa.size+xb.size) (Q:=fun c st'=>SameSt st st'/\∃ res rest,c=(some res,rest)/\Mer xa.toList xb.toList res.toList) ?step ?fin ⟨SameSt.refl _,_,_,_,_,rfl,m0,by lia,by lia,by lia,by lia,by lia⟩) ?post)
 case post=>
  rintro c st' ⟨sm,res,rest,rfl,me⟩
  exact wpS_pure (h _ _ sm me)
 case fin=>
  rintro c st' ⟨sm,i,j,ou,mg,rfl,m,hi,hi2,hj,hj2,hx⟩
  exfalso
  lia
 case step=>
  rintro x c st1 _ hx ⟨sm,i,j,ou,mg,rfl,m,hi,hi2,hj,hj2,hx2⟩
  dsimp only
  refine wpS_bind (wpS_mono (wpS_forRange (I:=fun y c st'=>SameSt st st'/\∃ i j ou ac bc,c=(none,i,j,ou,ac,bc)/\MHa xa xb ou i j/\0<i/\i<xa.size/\1<j/\j<=xb.size/\i+j+x+1+min y 1<=xa.size+xb.size)
   (Q:=fun c st'=>SameSt st st'/\((∃ res rest,c=(some res,rest)/\Mer xa.toList xb.toList res.toList)\/∃ i j ou ac bc,c=(none,i,j,ou,ac,bc)/\MHa xa xb ou i j/\0<i/\i<xa.size/\1<j/\j<=xb.size/\i+j+x+2<=xa.size+xb.size)) ?s1 ?f1 ⟨sm,_,_,_,_,_,rfl,m,hi,hi2,hj,hj2,by lia⟩) ?p1)
  case f1=>
   rintro c st2 ⟨sm2,i,j,ou,ac,bc,rfl,m,hi,hi2,hj,hj2,hx3⟩
   exact ⟨sm2,.inr ⟨_,_,_,_,_,rfl,m,hi,hi2,hj,hj2,by lia⟩⟩
  case s1=>
   rintro y c st2 _ hy ⟨sm2,i,j,ou,ac,bc,rfl,m,hi,hi2,hj,hj2,hx3⟩
   dsimp only
   refine wpS_bind (ak (i:=j - 1) (by lia) (wpS_bind (ak (i:=i - 1) (by lia) ?_)))
   refine wpS_bind (s_lt (sm2.kind.trans hk) (hIb _ (zB1 _)) (hIa _ (zB1 _)) ?_)
   by_cases aw:kv (xb.toList[j - 1]'(by lia))<kv (xa.toList[i - 1]'(by lia))
   · simp only [aw,decide_true,if_true]
     refine wpS_bind (ak (i:=i - 1) (by lia) ?_)
     have m2:MHa xa xb (ou.push (xa.toList[i - 1]'(by lia))) (i - 1) j:=MHa.pushA (by rw [show i - 1+1=i by lia];exact m) hA (by lia) fun z hz=>by
      refine zD6 ?_ (zC9 aw)
      exact bS hB (n:=j - 1) (by lia) z (by rw [show j - 1+1=j by lia];exact hz)
     by_cases e1:i - 1=0
     · rw [if_pos (by simpa using e1)]
       exact wpS_pure ⟨sm2,.inl ⟨_,_,rfl,m2.done0 hA hB (.inl e1)⟩⟩
     · rw [if_neg (by simpa using e1)]
       split
       · exact wpS_pure ⟨sm2,.inr ⟨_,_,_,_,_,rfl,m2,by lia,by lia,hj,hj2,by lia⟩⟩
       · exact wpS_pure ⟨sm2,_,_,_,_,_,rfl,m2,by lia,by lia,hj,hj2,by lia⟩
   · simp only [aw,decide_false,zC4,if_false]
     refine wpS_bind (ak (i:=j - 1) (by lia) ?_)
     have m2:MHa xa xb (ou.push (xb.toList[j - 1]'(by lia))) i (j - 1):=MHa.pushB (by rw [show j - 1+1=j by lia];exact m) hB (by lia) fun z hz=>by
      refine zD6 ?_ (Int.not_lt.mp aw)
      exact bS hA (n:=i - 1) (by lia) z (by rw [show i - 1+1=i by lia];exact hz)
     by_cases e1:j - 1=1
     · rw [if_pos (by simpa using e1)]
       exact wpS_pure ⟨sm2,.inl ⟨_,_,rfl,m2.first hA hB hb e1 h0⟩⟩
     · rw [if_neg (by simpa using e1)]
       split
       · exact wpS_pure ⟨sm2,.inr ⟨_,_,_,_,_,rfl,m2,hi,hi2,by lia,by lia,by lia⟩⟩
       · exact wpS_pure ⟨sm2,_,_,_,_,_,rfl,m2,hi,hi2,by lia,by lia,by lia⟩
  case p1=>
   rintro c st2 ⟨sm2,⟨res,rest,rfl,me⟩ | ⟨i,j,ou,ac,bc,rfl,m,hi,hi2,hj,hj2,hx3⟩⟩
   · exact wpS_pure ⟨sm2,_,_,rfl,me⟩
   dsimp only
   refine wpS_bind (wpS_lift (wpAny_rule ⟨rfl,?_⟩))
   refine wpS_bind (wpS_mono (wpS_forRange (I:=fun y c st'=>SameSt st st'/\∃ i j ou mg ac bc,c=(none,i,j,ou,mg,ac,bc)/\MHa xa xb ou i j/\0<i/\i<xa.size/\1<j/\j<=xb.size/\i+j+x+2<=xa.size+xb.size)
    (Q:=fun c st'=>SameSt st st'/\((∃ res rest,c=(some res,rest)/\Mer xa.toList xb.toList res.toList)\/∃ i j ou mg ac bc,c=(none,i,j,ou,mg,ac,bc)/\MHa xa xb ou i j/\0<i/\i<xa.size/\1<j/\j<=xb.size/\i+j+x+2<=xa.size+xb.size)) ?s2 ?f2 ⟨sm2,_,_,_,_,_,_,rfl,m,hi,hi2,hj,hj2,hx3⟩) ?p2)
   case f2=>
    rintro c st3 ⟨sm3,i,j,ou,mg,ac,bc,rfl,m,hi,hi2,hj,hj2,hx4⟩
    exact ⟨sm3,.inr ⟨_,_,_,_,_,_,rfl,m,hi,hi2,hj,hj2,hx4⟩⟩
   case p2=>
    rintro c st3 ⟨sm3,⟨res,rest,rfl,me⟩ | ⟨i,j,ou,mg,ac,bc,rfl,m,hi,hi2,hj,hj2,hx4⟩⟩
    · exact wpS_pure ⟨sm3,_,_,rfl,me⟩
    · dsimp only
      refine wpS_bind (eo ?_)
      exact wpS_pure ⟨sm3.setG _,_,_,_,_,rfl,m,hi,hi2,hj,hj2,by lia⟩
   case s2=>
    rintro y c st3 _ hy ⟨sm3',i,j,ou,mg,ac,bc,rfl,m,hi,hi2,hj,hj2,hx4⟩
    dsimp only
    have sm3:=fun g=>sm3'.setG g
    obtain ⟨c1,hc1,cut1⟩:=cf hA (xb.toList[j - 1]'(by lia)) false 0 i (by lia)
    obtain ⟨le1,gt1⟩:=ffalse (by lia) hc1 cut1
    have m1:MHa xa xb (ou++(xa.extract c1 i).reverse) c1 j:=m.extA hA hc1 (by lia) fun t ht h1 h2 z hz=>by
     refine zD6 ?_ (zC9 (gt1 t ht h1 h2))
     exact bS hB (n:=j - 1) (by lia) z (by rw [show j - 1+1=j by lia];exact hz)
    by_cases hmg:mg > 1
    · rw [if_pos hmg]
      refine wpS_bind (eo (wpS_bind (ak (i:=j - 1) (by lia) ?_)))
      refine wpS_bind (cz (c:=c1) ((sm3 _).kind.trans hk) hIa (hIb _ (zB1 _)) (by lia) (by lia) hc1 cut1 ?_)
      dsimp only
      by_cases k0:i - c1 > 0
      · rw [if_pos k0]
        by_cases e1:c1=0
        · rw [if_pos (by simpa using e1)]
          exact wpS_pure ⟨sm3 _,.inl ⟨_,_,rfl,m1.done0 hA hB (.inl e1)⟩⟩
        · rw [if_neg (by simpa using e1)]
          refine wpS_bind (ak (i:=j - 1) (by lia) ?_)
          have M2:MHa xa xb (Array.push (ou++(xa.extract c1 i).reverse) (xb.toList[j - 1]'(by lia))) c1 (j - 1):=MHa.pushB (by rw [show j - 1+1=j by lia];exact m1) hB (by lia) (fun z hz=>le1 z hz)
          by_cases e3:j - 1=1
          · rw [if_pos (by simpa using e3)]
            exact wpS_pure ⟨sm3 _,.inl ⟨_,_,rfl,M2.first hA hB hb e3 h0⟩⟩
          · rw [if_neg (by simpa using e3)]
            refine wpS_bind (ak (i:=c1 - 1) (by lia) ?_)
            obtain ⟨c2,hc2,cut2⟩:=cf hB (xa.toList[c1 - 1]'(by lia)) true 0 (j - 1) (by lia)
            obtain ⟨lt2,ge2⟩:=oM (by lia) hc2 cut2
            refine wpS_bind (cz (c:=c2) ((sm3 _).kind.trans hk) hIb (hIa _ (zB1 _)) (by lia) (by lia) hc2 cut2 ?_)
            dsimp only
            by_cases k1:j - 1 - c2 > 0
            · rw [if_pos k1]
              have M3:MHa xa xb (Array.push (ou++(xa.extract c1 i).reverse) (xb.toList[j - 1]'(by lia))++(xb.extract c2 (j - 1)).reverse) c1 c2:=M2.extB hB hc2 (by lia) fun t ht h1 h2 z hz=>by
               refine zD6 ?_ (ge2 t ht h1 h2)
               exact bS hA (n:=c1 - 1) (by lia) z (by rw [show c1 - 1+1=c1 by lia];exact hz)
              by_cases e4:c2=1
              · rw [if_pos (by simpa using e4)]
                exact wpS_pure ⟨sm3 _,.inl ⟨_,_,rfl,M3.first hA hB hb e4 h0⟩⟩
              · rw [if_neg (by simpa using e4)]
                by_cases e6:c2=0
                · rw [if_pos (by simpa using e6)]
                  exact wpS_pure ⟨sm3 _,.inl ⟨_,_,rfl,M3.done0 hA hB (.inr e6)⟩⟩
                · rw [if_neg (by simpa using e6)]
                  refine wpS_bind (ak (i:=c1 - 1) (by lia) ?_)
                  have M4:MHa xa xb (Array.push (Array.push (ou++(xa.extract c1 i).reverse) (xb.toList[j - 1]'(by lia))++(xb.extract c2 (j - 1)).reverse) (xa.toList[c1 - 1]'(by lia))) (c1 - 1) c2:=MHa.pushA (by rw [show c1 - 1+1=c1 by lia];exact M3) hA (by lia) (fun z hz=>zC9 (lt2 z hz))
                  by_cases e5:c1 - 1=0
                  · rw [if_pos (by simpa using e5)]
                    exact wpS_pure ⟨sm3 _,.inl ⟨_,_,rfl,M4.done0 hA hB (.inl e5)⟩⟩
                  · rw [if_neg (by simpa using e5)]
                    split
                    · exact wpS_pure ⟨sm3 _,.inr ⟨_,_,_,_,_,_,rfl,M4,by lia,by lia,by lia,by lia,by lia⟩⟩
                    · exact wpS_pure ⟨sm3 _,_,_,_,_,_,_,rfl,M4,by lia,by lia,by lia,by lia,by lia⟩
            · rw [if_neg k1]
              have c20:c2=j - 1:=by lia
              refine wpS_bind (ak (i:=c1 - 1) (by lia) ?_)
              have M4:MHa xa xb (Array.push (Array.push (ou++(xa.extract c1 i).reverse) (xb.toList[j - 1]'(by lia))) (xa.toList[c1 - 1]'(by lia))) (c1 - 1) (j - 1):=MHa.pushA (by rw [show c1 - 1+1=c1 by lia];exact M2) hA (by lia) (fun z hz=>zC9 (lt2 z (by rw [c20];exact hz)))
              by_cases e5:c1 - 1=0
              · rw [if_pos (by simpa using e5)]
                exact wpS_pure ⟨sm3 _,.inl ⟨_,_,rfl,M4.done0 hA hB (.inl e5)⟩⟩
              · rw [if_neg (by simpa using e5)]
                split
                · exact wpS_pure ⟨sm3 _,.inr ⟨_,_,_,_,_,_,rfl,M4,by lia,by lia,by lia,by lia,by lia⟩⟩
                · exact wpS_pure ⟨sm3 _,_,_,_,_,_,_,rfl,M4,by lia,by lia,by lia,by lia,by lia⟩
      · rw [if_neg k0]
        have c10:c1=i:=by lia
        refine wpS_bind (ak (i:=j - 1) (by lia) ?_)
        have M2:MHa xa xb (Array.push ou (xb.toList[j - 1]'(by lia))) i (j - 1):=MHa.pushB (by rw [show j - 1+1=j by lia];exact m) hB (by lia) (fun z hz=>le1 z (by rw [c10];exact hz))
        by_cases e3:j - 1=1
        · rw [if_pos (by simpa using e3)]
          exact wpS_pure ⟨sm3 _,.inl ⟨_,_,rfl,M2.first hA hB hb e3 h0⟩⟩
        · rw [if_neg (by simpa using e3)]
          refine wpS_bind (ak (i:=i - 1) (by lia) ?_)
          obtain ⟨c2,hc2,cut2⟩:=cf hB (xa.toList[i - 1]'(by lia)) true 0 (j - 1) (by lia)
          obtain ⟨lt2,ge2⟩:=oM (by lia) hc2 cut2
          refine wpS_bind (cz (c:=c2) ((sm3 _).kind.trans hk) hIb (hIa _ (zB1 _)) (by lia) (by lia) hc2 cut2 ?_)
          dsimp only
          by_cases k1:j - 1 - c2 > 0
          · rw [if_pos k1]
            have M3:MHa xa xb (Array.push ou (xb.toList[j - 1]'(by lia))++(xb.extract c2 (j - 1)).reverse) i c2:=M2.extB hB hc2 (by lia) fun t ht h1 h2 z hz=>by
             refine zD6 ?_ (ge2 t ht h1 h2)
             exact bS hA (n:=i - 1) (by lia) z (by rw [show i - 1+1=i by lia];exact hz)
            by_cases e4:c2=1
            · rw [if_pos (by simpa using e4)]
              exact wpS_pure ⟨sm3 _,.inl ⟨_,_,rfl,M3.first hA hB hb e4 h0⟩⟩
            · rw [if_neg (by simpa using e4)]
              by_cases e6:c2=0
              · rw [if_pos (by simpa using e6)]
                exact wpS_pure ⟨sm3 _,.inl ⟨_,_,rfl,M3.done0 hA hB (.inr e6)⟩⟩
              · rw [if_neg (by simpa using e6)]
                refine wpS_bind (ak (i:=i - 1) (by lia) ?_)
                have M4:MHa xa xb (Array.push (Array.push ou (xb.toList[j - 1]'(by lia))++(xb.extract c2 (j - 1)).reverse) (xa.toList[i - 1]'(by lia))) (i - 1) c2:=MHa.pushA (by rw [show i - 1+1=i by lia];exact M3) hA (by lia) (fun z hz=>zC9 (lt2 z hz))
                by_cases e5:i - 1=0
                · rw [if_pos (by simpa using e5)]
                  exact wpS_pure ⟨sm3 _,.inl ⟨_,_,rfl,M4.done0 hA hB (.inl e5)⟩⟩
                · rw [if_neg (by simpa using e5)]
                  split
                  · exact wpS_pure ⟨sm3 _,.inr ⟨_,_,_,_,_,_,rfl,M4,by lia,by lia,by lia,by lia,by lia⟩⟩
                  · exact wpS_pure ⟨sm3 _,_,_,_,_,_,_,rfl,M4,by lia,by lia,by lia,by lia,by lia⟩
          · rw [if_neg k1]
            have c20:c2=j - 1:=by lia
            refine wpS_bind (ak (i:=i - 1) (by lia) ?_)
            have M4:MHa xa xb (Array.push (Array.push ou (xb.toList[j - 1]'(by lia))) (xa.toList[i - 1]'(by lia))) (i - 1) (j - 1):=MHa.pushA (by rw [show i - 1+1=i by lia];exact M2) hA (by lia) (fun z hz=>zC9 (lt2 z (by rw [c20];exact hz)))
            by_cases e5:i - 1=0
            · rw [if_pos (by simpa using e5)]
              exact wpS_pure ⟨sm3 _,.inl ⟨_,_,rfl,M4.done0 hA hB (.inl e5)⟩⟩
            · rw [if_neg (by simpa using e5)]
              split
              · exact wpS_pure ⟨sm3 _,.inr ⟨_,_,_,_,_,_,rfl,M4,by lia,by lia,by lia,by lia,by lia⟩⟩
              · exact wpS_pure ⟨sm3 _,_,_,_,_,_,_,rfl,M4,by lia,by lia,by lia,by lia,by lia⟩
    · rw [if_neg hmg]
      refine wpS_bind (eo (wpS_bind (ak (i:=j - 1) (by lia) ?_)))
      refine wpS_bind (cz (c:=c1) ((sm3 _).kind.trans hk) hIa (hIb _ (zB1 _)) (by lia) (by lia) hc1 cut1 ?_)
      dsimp only
      by_cases k0:i - c1 > 0
      · rw [if_pos k0]
        by_cases e1:c1=0
        · rw [if_pos (by simpa using e1)]
          exact wpS_pure ⟨sm3 _,.inl ⟨_,_,rfl,m1.done0 hA hB (.inl e1)⟩⟩
        · rw [if_neg (by simpa using e1)]
          refine wpS_bind (ak (i:=j - 1) (by lia) ?_)
          have M2:MHa xa xb (Array.push (ou++(xa.extract c1 i).reverse) (xb.toList[j - 1]'(by lia))) c1 (j - 1):=MHa.pushB (by rw [show j - 1+1=j by lia];exact m1) hB (by lia) (fun z hz=>le1 z hz)
          by_cases e3:j - 1=1
          · rw [if_pos (by simpa using e3)]
            exact wpS_pure ⟨sm3 _,.inl ⟨_,_,rfl,M2.first hA hB hb e3 h0⟩⟩
          · rw [if_neg (by simpa using e3)]
            refine wpS_bind (ak (i:=c1 - 1) (by lia) ?_)
            obtain ⟨c2,hc2,cut2⟩:=cf hB (xa.toList[c1 - 1]'(by lia)) true 0 (j - 1) (by lia)
            obtain ⟨lt2,ge2⟩:=oM (by lia) hc2 cut2
            refine wpS_bind (cz (c:=c2) ((sm3 _).kind.trans hk) hIb (hIa _ (zB1 _)) (by lia) (by lia) hc2 cut2 ?_)
            dsimp only
            by_cases k1:j - 1 - c2 > 0
            · rw [if_pos k1]
              have M3:MHa xa xb (Array.push (ou++(xa.extract c1 i).reverse) (xb.toList[j - 1]'(by lia))++(xb.extract c2 (j - 1)).reverse) c1 c2:=M2.extB hB hc2 (by lia) fun t ht h1 h2 z hz=>by
               refine zD6 ?_ (ge2 t ht h1 h2)
               exact bS hA (n:=c1 - 1) (by lia) z (by rw [show c1 - 1+1=c1 by lia];exact hz)
              by_cases e4:c2=1
              · rw [if_pos (by simpa using e4)]
                exact wpS_pure ⟨sm3 _,.inl ⟨_,_,rfl,M3.first hA hB hb e4 h0⟩⟩
              · rw [if_neg (by simpa using e4)]
                by_cases e6:c2=0
                · rw [if_pos (by simpa using e6)]
                  exact wpS_pure ⟨sm3 _,.inl ⟨_,_,rfl,M3.done0 hA hB (.inr e6)⟩⟩
                · rw [if_neg (by simpa using e6)]
                  refine wpS_bind (ak (i:=c1 - 1) (by lia) ?_)
                  have M4:MHa xa xb (Array.push (Array.push (ou++(xa.extract c1 i).reverse) (xb.toList[j - 1]'(by lia))++(xb.extract c2 (j - 1)).reverse) (xa.toList[c1 - 1]'(by lia))) (c1 - 1) c2:=MHa.pushA (by rw [show c1 - 1+1=c1 by lia];exact M3) hA (by lia) (fun z hz=>zC9 (lt2 z hz))
                  by_cases e5:c1 - 1=0
                  · rw [if_pos (by simpa using e5)]
                    exact wpS_pure ⟨sm3 _,.inl ⟨_,_,rfl,M4.done0 hA hB (.inl e5)⟩⟩
                  · rw [if_neg (by simpa using e5)]
                    split
                    · exact wpS_pure ⟨sm3 _,.inr ⟨_,_,_,_,_,_,rfl,M4,by lia,by lia,by lia,by lia,by lia⟩⟩
                    · exact wpS_pure ⟨sm3 _,_,_,_,_,_,_,rfl,M4,by lia,by lia,by lia,by lia,by lia⟩
            · rw [if_neg k1]
              have c20:c2=j - 1:=by lia
              refine wpS_bind (ak (i:=c1 - 1) (by lia) ?_)
              have M4:MHa xa xb (Array.push (Array.push (ou++(xa.extract c1 i).reverse) (xb.toList[j - 1]'(by lia))) (xa.toList[c1 - 1]'(by lia))) (c1 - 1) (j - 1):=MHa.pushA (by rw [show c1 - 1+1=c1 by lia];exact M2) hA (by lia) (fun z hz=>zC9 (lt2 z (by rw [c20];exact hz)))
              by_cases e5:c1 - 1=0
              · rw [if_pos (by simpa using e5)]
                exact wpS_pure ⟨sm3 _,.inl ⟨_,_,rfl,M4.done0 hA hB (.inl e5)⟩⟩
              · rw [if_neg (by simpa using e5)]
                split
                · exact wpS_pure ⟨sm3 _,.inr ⟨_,_,_,_,_,_,rfl,M4,by lia,by lia,by lia,by lia,by lia⟩⟩
                · exact wpS_pure ⟨sm3 _,_,_,_,_,_,_,rfl,M4,by lia,by lia,by lia,by lia,by lia⟩
      · rw [if_neg k0]
        have c10:c1=i:=by lia
        refine wpS_bind (ak (i:=j - 1) (by lia) ?_)
        have M2:MHa xa xb (Array.push ou (xb.toList[j - 1]'(by lia))) i (j - 1):=MHa.pushB (by rw [show j - 1+1=j by lia];exact m) hB (by lia) (fun z hz=>le1 z (by rw [c10];exact hz))
        by_cases e3:j - 1=1
        · rw [if_pos (by simpa using e3)]
          exact wpS_pure ⟨sm3 _,.inl ⟨_,_,rfl,M2.first hA hB hb e3 h0⟩⟩
        · rw [if_neg (by simpa using e3)]
          refine wpS_bind (ak (i:=i - 1) (by lia) ?_)
          obtain ⟨c2,hc2,cut2⟩:=cf hB (xa.toList[i - 1]'(by lia)) true 0 (j - 1) (by lia)
          obtain ⟨lt2,ge2⟩:=oM (by lia) hc2 cut2
          refine wpS_bind (cz (c:=c2) ((sm3 _).kind.trans hk) hIb (hIa _ (zB1 _)) (by lia) (by lia) hc2 cut2 ?_)
          dsimp only
          by_cases k1:j - 1 - c2 > 0
          · rw [if_pos k1]
            have M3:MHa xa xb (Array.push ou (xb.toList[j - 1]'(by lia))++(xb.extract c2 (j - 1)).reverse) i c2:=M2.extB hB hc2 (by lia) fun t ht h1 h2 z hz=>by
             refine zD6 ?_ (ge2 t ht h1 h2)
             exact bS hA (n:=i - 1) (by lia) z (by rw [show i - 1+1=i by lia];exact hz)
            by_cases e4:c2=1
            · rw [if_pos (by simpa using e4)]
              exact wpS_pure ⟨sm3 _,.inl ⟨_,_,rfl,M3.first hA hB hb e4 h0⟩⟩
            · rw [if_neg (by simpa using e4)]
              by_cases e6:c2=0
              · rw [if_pos (by simpa using e6)]
                exact wpS_pure ⟨sm3 _,.inl ⟨_,_,rfl,M3.done0 hA hB (.inr e6)⟩⟩
              · rw [if_neg (by simpa using e6)]
                refine wpS_bind (ak (i:=i - 1) (by lia) ?_)
                have M4:MHa xa xb (Array.push (Array.push ou (xb.toList[j - 1]'(by lia))++(xb.extract c2 (j - 1)).reverse) (xa.toList[i - 1]'(by lia))) (i - 1) c2:=MHa.pushA (by rw [show i - 1+1=i by lia];exact M3) hA (by lia) (fun z hz=>zC9 (lt2 z hz))
                by_cases e5:i - 1=0
                · rw [if_pos (by simpa using e5)]
                  exact wpS_pure ⟨sm3 _,.inl ⟨_,_,rfl,M4.done0 hA hB (.inl e5)⟩⟩
                · rw [if_neg (by simpa using e5)]
                  split
                  · exact wpS_pure ⟨sm3 _,.inr ⟨_,_,_,_,_,_,rfl,M4,by lia,by lia,by lia,by lia,by lia⟩⟩
                  · exact wpS_pure ⟨sm3 _,_,_,_,_,_,_,rfl,M4,by lia,by lia,by lia,by lia,by lia⟩
          · rw [if_neg k1]
            have c20:c2=j - 1:=by lia
            refine wpS_bind (ak (i:=i - 1) (by lia) ?_)
            have M4:MHa xa xb (Array.push (Array.push ou (xb.toList[j - 1]'(by lia))) (xa.toList[i - 1]'(by lia))) (i - 1) (j - 1):=MHa.pushA (by rw [show i - 1+1=i by lia];exact M2) hA (by lia) (fun z hz=>zC9 (lt2 z (by rw [c20];exact hz)))
            by_cases e5:i - 1=0
            · rw [if_pos (by simpa using e5)]
              exact wpS_pure ⟨sm3 _,.inl ⟨_,_,rfl,M4.done0 hA hB (.inl e5)⟩⟩
            · rw [if_neg (by simpa using e5)]
              split
              · exact wpS_pure ⟨sm3 _,.inr ⟨_,_,_,_,_,_,rfl,M4,by lia,by lia,by lia,by lia,by lia⟩⟩
              · exact wpS_pure ⟨sm3 _,_,_,_,_,_,_,rfl,M4,by lia,by lia,by lia,by lia,by lia⟩
end
open PyProof.Rows hiding K SortedTo K_bubble K_mirror K_congr K_mirror_equal
variable [KV]
def PM:List (Nat×Nat×Nat)->List (List Keyed)->Nat->Prop
 | [],[],_=>True
 | p::r,l::ls,lo=>p.1=lo/\p.2.1=l.length/\PM r ls (lo+l.length)
 | _,_,_=>False
theorem PM.len:∀ {ps:List (Nat×Nat×Nat)} {ls:List (List Keyed)} {lo:Nat},PM ps ls lo->ps.length=ls.length
 | [],[],_,_=>rfl
 | _::r,_::ls,lo,h=>by rw [zB9,zB9,PM.len h.2.2]
 | [],_::_,_,h=>h.elim
 | _::_,[],_,h=>h.elim
theorem PM.at:∀ {ps:List (Nat×Nat×Nat)} {a:List (List Keyed)} {l:List Keyed} {b:List (List Keyed)} {lo:Nat},PM ps (a++l::b) lo->∃ pw,ps[a.length]? = some (lo+a.flatten.length,l.length,pw)
 | (s,n,p)::r,[],l,b,lo,h=>⟨p,by have h1:=h.1;have h2:=h.2.1;simp only at h1 h2;subst h1 h2;rfl⟩
 | p::r,x::a,l,b,lo,h=>by
   obtain ⟨pw,e⟩:=PM.at (a:=a) h.2.2
   refine ⟨pw,?_⟩
   rw [zB9,List.getElem?_cons_succ,e,zD5,zA5,zI5]
 | [],[],_,_,_,h=>h.elim
 | [],_::_,_,_,_,h=>h.elim
theorem PM.merge:∀ {ps:List (Nat×Nat×Nat)} {a:List (List Keyed)} {l m:List Keyed} {b:List (List Keyed)} {lo:Nat} {x:List Keyed} {pw:Nat},PM ps (a++l::m::b) lo->x.length=l.length+m.length ->
 PM ((ps.set a.length (lo+a.flatten.length,l.length+m.length,pw)).eraseIdx (a.length+1)) (a++x::b) lo
 | p::q::r,[],l,m,b,lo,x,pw,h,hx=>by
   obtain ⟨h1,h2,h3,h4,h5⟩:=h
   show PM ((lo+0,l.length+m.length,pw)::r) (x::b) lo
   refine ⟨rfl,hx.symm,?_⟩
   rw [hx,← zI5]
   exact h5
 | p::r,y::a,l,m,b,lo,x,pw,h,hx=>by
   obtain ⟨h1,h2,h3⟩:=h
   have ih:=PM.merge (pw:=pw) h3 hx
   show PM (p::((r.set a.length _).eraseIdx (a.length+1))) (y::(a++x::b)) lo
   refine ⟨h1,h2,?_⟩
   rw [zD5,zA5,← zI5]
   exact ih
 | [],[],_,_,_,_,_,_,h,_=>h.elim
 | [_],[],_,_,_,_,_,_,h,_=>h.2.2.elim
 | [],_::_,_,_,_,_,_,_,h,_=>h.elim
theorem iu {xs:Array Keyed} {pre R post:List Keyed} (e:xs.toList=pre++R++post) {t:Nat} (ht:t<R.length):xs[pre.length+t]? = some R[t]:=by
 rw [← Array.getElem?_toList,e,zB6,List.getElem?_append_right (by lia),Nat.add_sub_cancel_left,List.getElem?_append_left ht,List.getElem?_eq_getElem ht]
theorem lZ {xs:Array Keyed} {R:List Keyed} (hs:R.Pairwise Le) (ky:Keyed) (lf:Bool) (bs:Nat) (hK:∀ t (h:t<R.length),K xs (bs+t)=kv R[t]):∃ c,c<=R.length/\∀ i,i<R.length->Byd lf ky xs bs i=decide (i<c):=by
 have down:∀ i j,i<=j->j<R.length->Byd lf ky xs bs j=true->Byd lf ky xs bs i=true:=fun i j hij hj h=>by
  have hm:kv (R[i]'(by lia))<=kv R[j]:=by
   by_cases e:i=j
   · subst e;exact zE7 _
   · exact zE8.mp hs _ _ _ _ (by lia)
  unfold Byd at h ⊢
  rw [hK j hj] at h
  rw [hK i (by lia)]
  cases lf with
  | true=>simp only [if_true,decide_eq_true_eq] at h ⊢;lia
  | false=>simp only [zC4,if_false,Bool.not_eq_true',decide_eq_false_iff_not] at h ⊢;lia
 have main:∀ n,n<=R.length->∃ c,c<=n/\∀ i,i<n->Byd lf ky xs bs i=decide (i<c):=by
  intro n
  induction n with
  | zero=>exact fun _=>⟨0,zA1 _,fun i hi=>absurd hi (Nat.not_lt_zero _)⟩
  | succ n ih=>
    intro hn
    obtain ⟨c,hc,hd⟩:=ih (by lia)
    by_cases hb:Byd lf ky xs bs n=true
    · refine ⟨n+1,zA1 _,fun i hi=>?_⟩
      rw [decide_eq_true hi]
      exact down i n (by lia) (by lia) hb
    · refine ⟨c,by lia,fun i hi=>?_⟩
      by_cases h:i=n
      · subst h
        rw [decide_eq_false (by lia)]
        exact Bool.not_eq_true _▸(by simpa using hb)
      · exact hd i (by lia)
 exact main _ (zA1 _)
theorem ef:∀ (l:List Keyed) (k off:Nat) (xs:Array Keyed),off+k+l.length<=xs.size->((l.zipIdx k).foldl (fun a (x:Keyed×Nat)=>a.setIfInBounds (off+x.2) x.1) xs).toList=xs.toList.take (off+k)++l++xs.toList.drop (off+k+l.length)
 | [],k,off,xs,_=>by simp
 | p::l,k,off,xs,h=>by
   rw [List.zipIdx_cons,List.foldl_cons]
   rw [zB9] at h
   rw [ef l (k+1) off _ (by rw [Array.size_setIfInBounds];lia)]
   rw [Array.toList_setIfInBounds]
   have hlen:off+k<xs.toList.length:=by rw [zD0];lia
   rw [List.drop_set_of_lt (by lia),zB9]
   have e1:(xs.toList.set (off+k) p).take (off+(k+1))=xs.toList.take (off+k)++[p]:=by
    rw [← zI5,zE1,List.take_set_of_le (by lia),List.getElem?_set_self hlen]
    rfl
   have e2:off+(k+1)+l.length=off+k+(l.length+1):=by lia
   rw [e1,e2]
   simp
theorem pw3 {a b c:List Keyed} (ha:a.Pairwise Le) (hb:b.Pairwise Le) (hc:c.Pairwise Le) (hab:∀ x∈a,∀ y∈b,kv x<=kv y) (hac:∀ x∈a,∀ y∈c,kv x<=kv y) (hbc:∀ x∈b,∀ y∈c,kv x<=kv y):(a++b++c).Pairwise Le:=by
 refine zD1.mpr ⟨zD1.mpr ⟨ha,hb,hab⟩,hc,fun x hx y hy=>?_⟩
 rcases zC1.mp hx with hx | hx
 · exact hac x hx y hy
 · exact hbc x hx y hy
def mat:Nat->StateT SortSt Sem Bool:=sortPriv% PySem.Builtin.mergeAt
theorem mat_is:mergeAt'=mat:=rfl
theorem mat_eq (i:Nat):mat i=(do
 let z ← get
 let (some (p,n,pw),some (q,m,_)):=((pendingOf z)[i]?,(pendingOf z)[i+1]?) | unsupported "internal:list.sort.pending"
 set (setPending z (((pendingOf z).setIfInBounds i (p,n+m,pw)).eraseIdxIfInBounds (i+1)))
 let some k ← gal false (← elem' (arrOf z) q) (arrOf z) p n 0 | return false
 let (p,n):=(p+k,n - k)
 if n == 0 then return true
 let some m ← gal true (← elem' (arrOf z) (p+n - 1)) (arrOf z) q m (m - 1) | return false
 if m == 0 then return true
 let x:=(arrOf z).extract p q
 let y:=(arrOf z).extract q (q+m)
 let mg ← if n<=m then mlo x y else mhi x y
 modify fun v=>setArr v (mg.toList.zipIdx.foldl (fun a (u,j)=>a.setIfInBounds (p+j) u) (arrOf v))
 return (failedOf (← get)).isNone):=rfl
open PyProof.Rows hiding K SortedTo K_bubble K_mirror K_congr K_mirror_equal
variable [KV]
theorem s_set {prog:Program} {w:World} {A:Around} {E:Value->Shared->Prop} {st v:SortSt} {Q:PUnit->SortSt->Prop} (h:Q ⟨⟩ v):wpS (model prog w) A E KV.sh (set v:StateT SortSt Sem PUnit) Q st:=by
 unfold wpS
 rw [StateT.run_set]
 exact wpAny_pure ⟨rfl,h⟩
theorem fm:∀ (p z:List Keyed) (c:Nat),(p++z).drop (p.length+c)=z.drop c
 | [],z,c=>by simp
 | x::p,z,c=>by
   rw [zB9,show p.length+1+c=p.length+c+1 by lia,zH5,List.drop_succ_cons]
   exact fm p z c
theorem lR {xs:Array Keyed} {pre R post:List Keyed} (e:xs.toList=pre++R++post) (c d:Nat) (hd:d<=R.length) (hc:c<=d):(xs.extract (pre.length+c) (pre.length+d)).toList=(R.drop c).take (d - c):=by
 rw [Array.toList_extract,zI3,e,zB6,fm]
 have:(R++post).drop c=R.drop c++post:=List.drop_append_of_le_length (by lia)
 rw [this,show pre.length+d - (pre.length+c)=d - c by lia,List.take_append_of_le_length (by rw [zC7];lia)]
theorem AllI.sub {xs ys:Array Keyed} (h:AllI xs) (hs:∀ p∈ys.toList,p∈xs.toList):AllI ys:=fun p hp=>h p (hs p hp)
section
variable {prog:Program} {w:World} {A:Around} {E:Value->Shared->Prop}
structure Kept (a b:SortSt):Prop where
 kind:kindOf b=kindOf a
 fail:failedOf b=failedOf a
theorem s_mat {st:SortSt} {L1 L2:List (List Keyed)} {R1 R2 rest:List Keyed} {Q:Bool->SortSt->Prop} (hk:kindOf st=KV.kind) (hf:failedOf st=none) (hI:AllI (arrOf st))
 (ha:(arrOf st).toList=(L1++R1::R2::L2).flatten++rest) (pm:PM (pendingOf st).toList (L1++R1::R2::L2) 0) (n1:R1≠[]) (n2:R2≠[]) (s1:R1.Pairwise Le) (s2:R2.Pairwise Le)
 (h:∀ st' R,Kept st st'->R.Perm (R1++R2)->R.Pairwise Le->(arrOf st').toList=(L1++R::L2).flatten++rest->PM (pendingOf st').toList (L1++R::L2) 0->Q true st'):wpS (model prog w) A E KV.sh (mat L1.length) Q st:=by
 have p1:0<R1.length:=zG5.mpr n1
 have p2:0<R2.length:=zG5.mpr n2
 obtain ⟨pw,e1⟩:=pm.at
 have e2':=(show PM (pendingOf st).toList ((L1++[R1])++R2::L2) 0 by rw [zB6];exact pm).at
 obtain ⟨pw2,e2⟩:=e2'
 rw [zA5,List.length_singleton,zI2,zD5,List.flatten_nil,zE3,zA5] at e2
 rw [Array.getElem?_toList] at e1 e2
 have ea:(arrOf st).toList=L1.flatten++R1++(R2++L2.flatten++rest):=by rw [ha];simp
 have eb:(arrOf st).toList=(L1.flatten++R1)++R2++(L2.flatten++rest):=by rw [ha];simp
 have hsz:(arrOf st).size=L1.flatten.length+R1.length+R2.length+L2.flatten.length+rest.length:=by
  rw [← zD0,ha]
  simp only [zI2,zD5,zA5]
  lia
 have pmR:∀ R:List Keyed,R.length=R1.length+R2.length->PM (((pendingOf st).setIfInBounds L1.length (0+L1.flatten.length,R1.length+R2.length,pw)).eraseIdxIfInBounds (L1.length+1)).toList (L1++R::L2) 0:=fun R hR=>by
  have:=PM.merge (pw:=pw) pm hR
  rw [Array.toList_eraseIdxIfInBounds,Array.toList_setIfInBounds]
  exact this
 have join:(L1++(R1++R2)::L2).flatten++rest=(arrOf st).toList:=by rw [ha];simp
 rw [mat_eq]
 refine wpS_bind (wpS_get ?_)
 rw [e1,e2]
 dsimp only
 refine wpS_bind (s_set ?_)
 have g2:(arrOf st)[0+(L1.flatten.length+R1.length)]? = some R2[0]:=by
  have:=iu eb p2
  rw [zA5,zF5] at this
  rw [zJ1];exact this
 refine wpS_bind (eu g2 ?_)
 have hK1:∀ t (ht:t<R1.length),K (arrOf st) (0+L1.flatten.length+t)=kv R1[t]:=fun t ht=>by
  rw [zJ1];exact p6 (iu ea ht)
 have hK2:∀ t (ht:t<R2.length),K (arrOf st) (0+(L1.flatten.length+R1.length)+t)=kv R2[t]:=fun t ht=>by
  have:=p6 (iu eb ht)
  rw [zA5] at this
  rw [zJ1];exact this
 have hI2:IsI R2[0]:=hI _ (by rw [eb];exact zF8 _ (zB0 _ (zB1 _)))
 obtain ⟨c,hc,cut⟩:=lZ s1 R2[0] false (0+L1.flatten.length) hK1
 have lo:∀ t (ht:t<R1.length),t<c->kv R1[t]<=kv R2[0]:=fun t ht htc=>by
  have:=cut t ht
  unfold Byd at this
  rw [hK1 t ht,decide_eq_true htc] at this
  simp only [zC4,if_false,Bool.not_eq_true',decide_eq_false_iff_not] at this
  lia
 have up:∀ t (ht:t<R1.length),c<=t->kv R2[0]<kv R1[t]:=fun t ht htc=>by
  have:=cut t ht
  unfold Byd at this
  rw [hK1 t ht,decide_eq_false (show ¬ t<c by lia)] at this
  simpa using this
 refine wpS_bind (cz (st:=setPending st _) (c:=c) hk hI hI2 (by lia) p1 hc cut ?_)
 dsimp only
 have b0:∀ y∈R2,kv R2[0]<=kv y:=fun y hy=>bW s2 p2 y (by simpa using hy)
 by_cases c1:R1.length - c=0
 · rw [if_pos (by simpa using c1)]
   refine wpS_pure (h _ (R1++R2) ⟨rfl,rfl⟩ (List.Perm.refl _) ?_ join.symm (pmR _ (by rw [zA5])))
   refine zD1.mpr ⟨s1,s2,fun x hx y hy=>?_⟩
   obtain ⟨t,ht,rfl⟩:=zE5.mp hx
   exact zD6 (lo t ht (by lia)) (b0 y hy)
 rw [if_neg (by simpa using c1)]
 have gl:(arrOf st)[0+L1.flatten.length+c+(R1.length - c) - 1]? = some (R1[R1.length - 1]'(by lia)):=by
  have:=iu ea (t:=R1.length - 1) (by lia)
  rw [show 0+L1.flatten.length+c+(R1.length - c) - 1=L1.flatten.length+(R1.length - 1) by lia];exact this
 refine wpS_bind (eu gl ?_)
 have hI1:IsI (R1[R1.length - 1]'(by lia)):=hI _ (by rw [ea];exact zF8 _ (zB0 _ (zB1 _)))
 obtain ⟨d,hd,cut2⟩:=lZ s2 (R1[R1.length - 1]'(by lia)) true (0+(L1.flatten.length+R1.length)) hK2
 have lo2:∀ t (ht:t<R2.length),t<d->kv R2[t]<kv (R1[R1.length - 1]'(by lia)):=fun t ht htc=>by
  have:=cut2 t ht
  unfold Byd at this
  rw [hK2 t ht,decide_eq_true htc] at this
  simpa using this
 have up2:∀ t (ht:t<R2.length),d<=t->kv (R1[R1.length - 1]'(by lia))<=kv R2[t]:=fun t ht htc=>by
  have:=cut2 t ht
  unfold Byd at this
  rw [hK2 t ht,decide_eq_false (show ¬ t<d by lia)] at this
  simpa using this
 refine wpS_bind (cz (st:=setPending st _) (c:=d) hk hI hI1 (by lia) (by lia) hd cut2 ?_)
 dsimp only
 have lastA:∀ x∈R1,kv x<=kv (R1[R1.length - 1]'(by lia)):=fun x hx=>by
  refine bS s1 (n:=R1.length - 1) (by lia) x ?_
  rw [zC2 (by lia)];exact hx
 by_cases c2:d=0
 · rw [if_pos (by simpa using c2)]
   refine wpS_pure (h _ (R1++R2) ⟨rfl,rfl⟩ (List.Perm.refl _) ?_ join.symm (pmR _ (by rw [zA5])))
   refine zD1.mpr ⟨s1,s2,fun x hx y hy=>?_⟩
   exact zD6 (lastA x hx) (zD6 (up2 0 p2 (by lia)) (b0 y hy))
 rw [if_neg (by simpa using c2)]
 have ex:((arrOf st).extract (0+L1.flatten.length+c) (0+(L1.flatten.length+R1.length))).toList=R1.drop c:=by
  have:=lR ea c R1.length (zA1 _) hc
  rw [zJ1,zJ1,this,zC2 (by rw [zC7];exact zA1 _)]
 have ey:((arrOf st).extract (0+(L1.flatten.length+R1.length)) (0+(L1.flatten.length+R1.length)+d)).toList=R2.take d:=by
  have:=lR eb 0 d hd (zC6 _)
  rw [zA5,zF5,List.drop_zero,Nat.sub_zero] at this
  rw [zJ1];exact this
 generalize hx:(arrOf st).extract (0+L1.flatten.length+c) (0+(L1.flatten.length+R1.length))=xx at ex ⊢
 generalize hy:(arrOf st).extract (0+(L1.flatten.length+R1.length)) (0+(L1.flatten.length+R1.length)+d)=yy at ey ⊢
 have Ix:AllI xx:=hI.sub fun p hp=>by rw [ex] at hp;rw [ea];exact zF8 _ (zB0 _ (List.mem_of_mem_drop hp))
 have Iy:AllI yy:=hI.sub fun p hp=>by rw [ey] at hp;rw [eb];exact zF8 _ (zB0 _ (List.mem_of_mem_take hp))
 have Sx:xx.toList.Pairwise Le:=by rw [ex];exact s1.sublist (zI8 _ _)
 have Sy:yy.toList.Pairwise Le:=by rw [ey];exact s2.sublist (zI7 _ _)
 have lx:xx.toList.length=R1.length - c:=by rw [ex,zC7]
 have ly:yy.toList.length=d:=by rw [ey,zB7];lia
 have y0:yy.toList[0]'(by lia)=R2[0]:=by simp only [ey,zF7]
 have xl:xx.toList[xx.toList.length - 1]'(by lia)=R1[R1.length - 1]'(by lia):=by
  simp only [ex,List.getElem_drop,zC7]
  congr 1
  lia
 have h0:∀ z∈xx.toList,kv (yy.toList[0]'(by lia))<=kv z:=fun z hz=>by
  rw [y0]
  rw [ex] at hz
  obtain ⟨u,hu,rfl⟩:=bU hz
  exact zC9 (up _ hu (by lia))
 have hl:∀ z∈yy.toList,kv z<=kv (xx.toList[xx.toList.length - 1]'(by lia)):=fun z hz=>by
  rw [xl]
  rw [ey] at hz
  obtain ⟨u,hu,rfl⟩:=zE5.mp hz
  rw [zB7] at hu
  rw [zF7]
  exact zC9 (lo2 u (by lia) (by lia))
 have fin:∀ (o:Array Keyed) (st2:SortSt),SameSt (setPending st (((pendingOf st).setIfInBounds L1.length (0+L1.flatten.length,R1.length+R2.length,pw)).eraseIdxIfInBounds (L1.length+1))) st2->Mer xx.toList yy.toList o.toList ->
  wpS (model prog w) A E KV.sh (do modify fun v=>setArr v (o.toList.zipIdx.foldl (fun a (u,j)=>a.setIfInBounds (0+L1.flatten.length+c+j) u) (arrOf v));return (failedOf (← get)).isNone) Q st2:=by
  intro o st2 sm me
  refine wpS_bind (wpS_modify (wpS_bind (wpS_get ?_)))
  have hf2:failedOf st2=none:=sm.fail.trans hf
  show wpS _ _ _ _ (pure (failedOf st2).isNone) Q _
  rw [hf2]
  have harr:arrOf st2=arrOf st:=sm.arr
  have lo':o.toList.length=R1.length - c+d:=by rw [me.perm.length_eq,zA5,lx,ly]
  have hwb:=ef o.toList 0 (0+L1.flatten.length+c) (arrOf st) (by rw [lo'];lia)
  refine wpS_pure (h _ (R1.take c++o.toList++R2.drop d) ⟨sm.kind,sm.fail⟩ ?_ ?_ ?_ ?_)
  · have e:=me.perm
    rw [ex,ey] at e
    have e3:(R1.take c++o.toList++R2.drop d).Perm (R1.take c++(R1.drop c++R2.take d)++R2.drop d):=zH9 _ (zE6 _ e)
    have e4:R1.take c++(R1.drop c++R2.take d)++R2.drop d=R1++R2:=by
     rw [← zB6,zE0,zB6,zE0]
    rw [e4] at e3
    exact e3
  · have om:∀ z∈o.toList,z∈R1.drop c\/z∈R2.take d:=fun z hz=>by
     have:=me.perm.mem_iff.mp hz
     rw [ex,ey] at this
     exact zC1.mp this
    have ta:∀ x∈R1.take c,kv x<=kv R2[0]:=fun x hx=>by
     obtain ⟨u,hu,rfl⟩:=zE5.mp hx
     rw [zB7] at hu
     rw [zF7]
     exact lo u (by lia) (by lia)
    have td:∀ y∈R2.drop d,kv (R1[R1.length - 1]'(by lia))<=kv y:=fun y hy=>by
     obtain ⟨u,hu,rfl⟩:=bU hy
     exact up2 _ hu (by lia)
    refine pw3 (s1.sublist (zI7 _ _)) me.srt (s2.sublist (zI8 _ _)) (fun x hx y hy=>?_) (fun x hx y hy=>?_) (fun x hx y hy=>?_)
    · rcases om y hy with hy | hy
      · obtain ⟨u,hu,rfl⟩:=bU hy
        exact zD6 (ta x hx) (zC9 (up _ hu (by lia)))
      · exact zD6 (ta x hx) (b0 y (List.mem_of_mem_take hy))
    · exact zD6 (ta x hx) (b0 y (List.mem_of_mem_drop hy))
    · rcases om x hx with hx | hx
      · exact zD6 (lastA x (List.mem_of_mem_drop hx)) (td y hy)
      · obtain ⟨u,hu,rfl⟩:=zE5.mp hx
        rw [zB7] at hu
        rw [zF7]
        exact zD6 (zC9 (lo2 u (by lia) (by lia))) (td y hy)
  · show (o.toList.zipIdx.foldl (fun a (x:Keyed×Nat)=>a.setIfInBounds (0+L1.flatten.length+c+x.2) x.1) (arrOf st2)).toList=_
    rw [harr]
    refine hwb.trans ?_
    rw [zF5,lo']
    have t1:(arrOf st).toList.take (0+L1.flatten.length+c)=L1.flatten++R1.take c:=by
     rw [ea,zB6,zJ1,List.take_append,zC2 (by lia),Nat.add_sub_cancel_left,List.take_append_of_le_length (by lia)]
    have t2:(arrOf st).toList.drop (0+L1.flatten.length+c+(R1.length - c+d))=R2.drop d++(L2.flatten++rest):=by
     rw [eb,zB6,show 0+L1.flatten.length+c+(R1.length - c+d)=(L1.flatten++R1).length+d by rw [zA5];lia,fm,List.drop_append_of_le_length (by lia)]
    rw [t1,t2]
    simp only [zI2,zD5,zB6]
  · show PM (pendingOf st2).toList _ _
    rw [sm.pend]
    refine pmR _ ?_
    rw [zA5,zA5,zB7,zC7,lo']
    lia
 by_cases c3:R1.length - c<=d
 · rw [if_pos c3]
   exact wpS_bind (s_mlo hk Ix Iy Sx Sy (by lia) (by lia) h0 hl fun o st2 sm me=>fin o st2 sm me)
 · rw [if_neg c3]
   exact wpS_bind (s_mhi hk Ix Iy Sx Sy (by lia) (by lia) h0 hl fun o st2 sm me=>fin o st2 sm me)
end
open PyProof.Rows hiding K SortedTo K_bubble K_mirror K_congr K_mirror_equal
variable [KV]
structure SX (a₀:Array Keyed) (lo:Nat) (st₀ st:SortSt):Prop where
 perm:(arrOf st).Perm a₀
 kind:kindOf st=KV.kind
 fail:failedOf st=none
 pend:pendingOf st=pendingOf st₀
 pre:∀ k,k<lo->(arrOf st)[k]? = a₀[k]?
theorem SX.size {a₀:Array Keyed} {lo:Nat} {st₀ st:SortSt} (h:SX a₀ lo st₀ st):(arrOf st).size=a₀.size:=h.perm.size_eq
theorem SX.setA {a₀:Array Keyed} {lo:Nat} {st₀ st:SortSt} (h:SX a₀ lo st₀ st) {xs:Array Keyed} (hp:xs.Perm (arrOf st)) (he:∀ k,k<lo->xs[k]? = (arrOf st)[k]?):SX a₀ lo st₀ (setArr st xs):=
 ⟨hp.trans h.perm,h.kind,h.fail,h.pend,fun k hk=>(he k hk).trans (h.pre k hk)⟩
def jR (xs:Array Keyed) (lo n:Nat):Prop:=∀ i j,i<=j->j<n->K xs (lo+i)<=K xs (lo+j)
def tJ (xs:Array Keyed) (lo n:Nat):Prop:=∀ i j,i<=j->j<n->K xs (lo+j)<=K xs (lo+i)
section
variable {prog:Program} {w:World} {A:Around} {E:Value->Shared->Prop} {a₀:Array Keyed} {lo:Nat} {st₀:SortSt}
theorem km {st:SortSt} {i j:Nat} {Q:Option Bool->SortSt->Prop} (hX:SX a₀ lo st₀ st) (h0:AllI a₀) (hi:i<a₀.size) (hj:j<a₀.size) (h:Q (some (decide (K (arrOf st) i<K (arrOf st) j))) st):wpS (model prog w) A E KV.sh (ltAt' i j) Q st:=by
 have get:∀ k,k<a₀.size->∃ p,(arrOf st)[k]? = some p/\IsI p:=fun k hk=>by
  have hk':k<(arrOf st).size:=by rw [hX.size];exact hk
  have hm:(arrOf st)[k]∈a₀.toList:=(zI0.mp hX.perm).mem_iff.mp (by simp)
  exact ⟨_,getElem?_pos (arrOf st) k hk',h0 _ hm⟩
 obtain ⟨p,e1,g1⟩:=get i hi
 obtain ⟨q,e2,g2⟩:=get j hj
 rw [p6 e1,p6 e2] at h
 rw [ltAt'_eq]
 exact wpS_bind (wpS_get (wpS_bind (eu e1 (wpS_bind (eu e2 (s_lt hX.kind g1 g2 h))))))
theorem cx {st:SortSt} {i j:Nat} (hX:SX a₀ lo st₀ st) (hi:lo<=i) (hj:j<=a₀.size):SX a₀ lo st₀ (setArr st (mirror (arrOf st) i j ((j - i) / 2))):=
 hX.setA (mirror_perm _ _ _ _) fun k hk=>by
  rw [getElem?_mirror_all (by rw [hX.size];exact hj),if_neg (by lia)]
theorem s_bin {st:SortSt} {n ok:Nat} {Q:Bool->SortSt->Prop} (h0:AllI a₀) (hn:lo+n<=a₀.size) (hok:ok<=n) (hX:SX a₀ lo st₀ st) (hs:jR (arrOf st) lo ok)
 (h:∀ st',SX a₀ lo st₀ st'->jR (arrOf st') lo n->Q true st'):wpS (model prog w) A E KV.sh (binarySort' lo n ok) Q st:=by
 rw [binarySort'_eq]
 refine wpS_bind (wpS_mono (wpS_forRange (I:=fun k c z=>c=(none,())/\SX a₀ lo st₀ z/\jR (arrOf z) lo (min k n)) (Q:=fun c z=>c=(none,())/\SX a₀ lo st₀ z/\jR (arrOf z) lo n) ?st1 ?fi1 ?in1) ?po1)
 case po1=>rintro c z ⟨rfl,zX,zs⟩;exact wpS_pure (h z zX zs)
 case in1=>
  refine ⟨rfl,hX,fun i j hij hj=>?_⟩
  by_cases h1:ok=0
  · have:i=j:=by lia
    subst this;exact zE7 _
  · exact hs i j hij (by lia)
 case fi1=>
  rintro c z ⟨hc,zX,zs⟩
  refine ⟨hc,zX,?_⟩
  rwa [show min (max (max ok 1) n) n=n by lia] at zs
 case st1=>
  rintro k c z hak hkn ⟨rfl,zX,zs⟩
  rw [show min k n=k by lia] at zs
  refine wpS_bind (wpS_mono (wpS_forRange (I:=fun x c v=>z=v/\∃ l r,c=(none,l,r)/\l<=r/\r<=k/\r - l<=k - x/\(∀ i,i<l->K (arrOf z) (lo+i)<=K (arrOf z) (lo+k))/\(∀ i,r<=i->i<k->K (arrOf z) (lo+k)<K (arrOf z) (lo+i)))
   (Q:=fun c v=>z=v/\∃ l r,c=(none,l,r)/\l<=k/\(∀ i,i<l->K (arrOf z) (lo+i)<=K (arrOf z) (lo+k))/\(∀ i,l<=i->i<k->K (arrOf z) (lo+k)<K (arrOf z) (lo+i))) ?ist ?ifi ⟨rfl,0,k,rfl,by lia,by lia,by lia,fun i hi=>by lia,fun i g1 g2=>by lia⟩) ?ipo)
  case ifi=>
   rintro c v ⟨rfl,l,r,rfl,hlr,hrk,hm,hlo,hhi⟩
   have:l=r:=by lia
   subst this
   exact ⟨rfl,l,l,rfl,hrk,hlo,hhi⟩
  case ist=>
   rintro x c v _ hxk ⟨rfl,l,r,rfl,hlr,hrk,hm,hlo,hhi⟩
   dsimp only
   by_cases hge:l>=r
   · rw [if_pos hge]
     have:l=r:=by lia
     subst this
     exact wpS_pure ⟨rfl,l,l,rfl,hrk,hlo,hhi⟩
   · rw [if_neg hge]
     refine wpS_bind (km zX h0 (by lia) (by lia) ?_)
     by_cases hz:K (arrOf z) (lo+k)<K (arrOf z) (lo+(l+r) / 2)
     · simp only [hz,decide_true,if_true]
       exact wpS_pure ⟨rfl,l,(l+r) / 2,rfl,by lia,by lia,by lia,hlo,fun i g1 g2=>Int.lt_of_lt_of_le hz (zs _ _ g1 g2)⟩
     · simp only [hz,decide_false,zC4,if_false]
       exact wpS_pure ⟨rfl,(l+r) / 2+1,r,rfl,by lia,by lia,by lia,fun i g1=>zD6 (zs i ((l+r) / 2) (by lia) (by lia)) (Int.not_lt.mp hz),hhi⟩
  case ipo=>
   rintro c v ⟨rfl,l,r,rfl,hlk,hlo,hhi⟩
   show wpS _ _ _ _ (do moveDown' (lo+k) (lo+l);pure (ForInStep.yield (none,()))) _ _
   rw [moveDown'_eq]
   have hks:lo+k<(arrOf z).size:=by rw [zX.size];lia
   have hd:lo+k - (lo+k - (lo+l))=lo+l:=by lia
   refine wpS_bind (wpS_modify (wpS_pure ⟨rfl,zX.setA (bubble_perm _ _ _) fun q hq=>?_,?_⟩))
   · rw [getElem?_bubble hks _ (by lia),hd,if_neg (by lia),if_neg (by lia)]
   · rw [show min (k+1) n=k+1 by lia]
     intro i j hij hj
     show K (bubble (arrOf z) (lo+k) (lo+k - (lo+l))) (lo+i)<=K (bubble (arrOf z) (lo+k) (lo+k - (lo+l))) (lo+j)
     rw [K_bubble hks (by lia),K_bubble hks (by lia),hd]
     have back:∀ q,0<q->lo+q - 1=lo+(q - 1):=fun q hq=>by lia
     repeat' split
     all_goals first
      | (exfalso;lia)
      | exact zE7 _
      | exact hlo _ (by lia)
      | (rw [back j (by lia)];exact zC9 (hhi _ (by lia) (by lia)))
      | exact zC9 (hhi _ (by lia) (by lia))
      | (rw [back i (by lia),back j (by lia)];exact zs _ _ (by lia) (by lia))
      | (rw [back i (by lia)];exact zs _ _ (by lia) (by lia))
      | (rw [back j (by lia)];exact zs _ _ (by lia) (by lia))
      | exact zs _ _ (by lia) (by lia)
end
open PyProof.Rows hiding K SortedTo K_bubble K_mirror K_congr K_mirror_equal
variable [KV]
def upL (lo a m:Nat):StateT SortSt Sem (Option (Option Nat)×Nat):=
 forIn [a:m] ((none,a):Option (Option Nat)×Nat) fun _ c=>do
  let t ← ltAt' (lo+c.snd) (lo+c.snd - 1)
  match t with
  | some b=>if b=true then pure (.done (none,c.snd)) else pure (.yield (none,c.snd+1))
  | _=>pure (.done (some none,c.snd))
def dnL (lo a m:Nat):StateT SortSt Sem (Option (Option Nat)×Nat×Nat):=
 forIn [a:m] ((none,a,0):Option (Option Nat)×Nat×Nat) fun _ c=>do
  let t ← ltAt' (lo+c.snd.fst) (lo+c.snd.fst - 1)
  match t with
  | some b=>
    if b=true then
     if c.snd.snd > 0 then do
      reverseSlice' (lo+c.snd.fst - (c.snd.snd+1)) (lo+c.snd.fst)
      pure (.yield (none,c.snd.fst+1,0))
     else pure (.yield (none,c.snd.fst+1,0))
    else do
     let u ← ltAt' (lo+c.snd.fst - 1) (lo+c.snd.fst)
     match u with
     | some d=>if d=true then pure (.done (none,c.snd.fst,c.snd.snd)) else pure (.yield (none,c.snd.fst+1,c.snd.snd+1))
     | _=>pure (.done (some none,c.snd.fst,c.snd.snd))
  | _=>pure (.done (some none,c.snd.fst,c.snd.snd))
def enL (lo a m:Nat):StateT SortSt Sem (Option Nat):=do
 reverseSlice' lo (lo+a)
 let c ← upL lo a m
 match c.fst with
 | some r=>pure r
 | none=>pure (some c.snd)
def faL (lo a m:Nat):StateT SortSt Sem (Option Nat):=do
 liftM (rule "list.sort.descending-run")
 let c ← dnL lo (a+1) m
 match c.fst with
 | some r=>pure r
 | none=>
   if c.snd.snd > 0 then do
    reverseSlice' (lo+c.snd.fst - (c.snd.snd+1)) (lo+c.snd.fst)
    enL lo c.snd.fst m
   else enL lo c.snd.fst m
theorem run_eq (lo m:Nat):countRun' lo m=(do
 let c ← upL lo 1 m
 match c.fst with
 | some r=>pure r
 | none=>
   if (c.snd == m)=true then pure (some c.snd)
   else if c.snd > 1 then do
    let t ← ltAt' lo (lo+c.snd - 1)
    match t with
    | some b=>if b=true then pure (some c.snd) else do
     reverseSlice' lo (lo+c.snd)
     faL lo c.snd m
    | _=>pure none
   else faL lo c.snd m):=by
 rw [countRun'_eq]
 dsimp only
 unfold faL enL dnL upL
 congr 1
 funext c
 obtain ⟨r,k⟩:=c
 cases r with
 | some r=>rfl
 | none=>
   dsimp only
   split
   · rfl
   · split
     · congr 1
       funext t
       cases t with
       | none=>rfl
       | some b=>
         dsimp only
         split
         · rfl
         · congr 1
           funext _y
           congr 1
           funext _x
           congr 1
           congr 1
           funext y
           obtain ⟨r,k,q⟩:=y
           cases r with
           | some r=>rfl
           | none=>
             dsimp only
             split
             · congr 1
               funext _z
               congr 1
               funext _x
               congr 1
               funext y
               obtain ⟨r,k⟩:=y
               cases r <;> rfl
             · congr 1
               funext _x
               congr 1
               funext y
               obtain ⟨r,k⟩:=y
               cases r <;> rfl
     · skip
       congr 1
       funext _x
       congr 1
       congr 1
       funext y
       obtain ⟨r,k,q⟩:=y
       cases r with
       | some r=>rfl
       | none=>
         dsimp only
         split
         · congr 1
           funext _z
           congr 1
           funext _x
           congr 1
           funext y
           obtain ⟨r,k⟩:=y
           cases r <;> rfl
         · congr 1
           funext _x
           congr 1
           funext y
           obtain ⟨r,k⟩:=y
           cases r <;> rfl
section
variable {prog:Program} {w:World} {A:Around} {E:Value->Shared->Prop} {a₀:Array Keyed} {lo:Nat} {st₀:SortSt}
theorem nz {st:SortSt} {i j:Nat} {Q:Unit->SortSt->Prop} (h:Q () (setArr st (mirror (arrOf st) i j ((j - i) / 2)))):wpS (model prog w) A E KV.sh (reverseSlice' i j) Q st:=by
 rw [reverseSlice'_eq]
 exact wpS_modify h
theorem jP {lo x:Nat} (h:1<=x):lo+x - 1=lo+(x - 1):=by lia
theorem s_up {st:SortSt} {a m:Nat} {Q:Option (Option Nat)×Nat->SortSt->Prop} (h0:AllI a₀) (hm:lo+m<=a₀.size) (ha:1<=a) (ham:a<=m) (hX:SX a₀ lo st₀ st)
 (hs:jR (arrOf st) lo a)
 (h:∀ n,a<=n->n<=m->jR (arrOf st) lo n->(n=m\/K (arrOf st) (lo+n)<K (arrOf st) (lo+(n - 1)))->Q (none,n) st):wpS (model prog w) A E KV.sh (upL lo a m) Q st:=by
 unfold upL
 refine wpS_forRange (I:=fun x c v=>st=v/\c=(none,x)/\jR (arrOf st) lo x) ?s1 ?f1 ⟨rfl,rfl,hs⟩
 case f1=>
  rintro c v ⟨rfl,rfl,g⟩
  rw [show max a m=m by lia] at g ⊢
  exact h m ham (zA1 _) g (.inl rfl)
 case s1=>
  rintro x c v hax hxm ⟨rfl,rfl,g⟩
  dsimp only
  rw [jP (by lia)]
  refine wpS_bind (km hX h0 (by lia) (by lia) ?_)
  by_cases hl:K (arrOf st) (lo+x)<K (arrOf st) (lo+(x - 1))
  · simp only [hl,decide_true,if_true]
    exact wpS_pure (h x hax (by lia) g (.inr hl))
  · simp only [hl,decide_false,zC4,if_false]
    refine wpS_pure ⟨rfl,rfl,fun i j hij hj=>?_⟩
    rcases Nat.lt_or_ge j x with q | q
    · exact g i j hij q
    · obtain rfl:j=x:=by lia
      rcases Nat.eq_or_lt_of_le hij with rfl | q2
      · exact zE7 _
      · exact zD6 (g i (j - 1) (by lia) (by lia)) (Int.not_lt.mp hl)
theorem s_en {st:SortSt} {a m:Nat} {Q:Option Nat->SortSt->Prop} (h0:AllI a₀) (hm:lo+m<=a₀.size) (ha:1<=a) (ham:a<=m) (hX:SX a₀ lo st₀ st)
 (hs:tJ (arrOf st) lo a) (h:∀ n v,SX a₀ lo st₀ v->1<=n->n<=m->jR (arrOf v) lo n->Q (some n) v):wpS (model prog w) A E KV.sh (enL lo a m) Q st:=by
 unfold enL
 have hz:lo+a<=(arrOf st).size:=by rw [hX.size];lia
 refine wpS_bind (nz ?_)
 have hX':=cx (i:=lo) (j:=lo+a) hX (zA1 _) (by lia)
 refine wpS_bind (s_up h0 hm ha ham hX' ?_ fun n g1 g2 g3 _=>wpS_pure (h n _ hX' (by lia) g2 g3))
 intro i j hij hj
 show K (mirror (arrOf st) lo (lo+a) ((lo+a - lo) / 2)) _<=K (mirror (arrOf st) lo (lo+a) ((lo+a - lo) / 2)) _
 rw [K_mirror hz,K_mirror hz,if_pos (by lia),if_pos (by lia),show lo+(lo+a) - 1 - (lo+i)=lo+(a - 1 - i) by lia,show lo+(lo+a) - 1 - (lo+j)=lo+(a - 1 - j) by lia]
 exact hs _ _ (by lia) (by lia)
def tq (xs:Array Keyed) (lo n q:Nat):Prop:=∀ i,lo+n - (q+1)<=i->i<lo+n->K xs i=K xs (lo+n - 1)
theorem mT {xs:Array Keyed} {n:Nat} (h:1<=n):tq xs lo n 0:=fun i a b=>by
 obtain rfl:i=lo+n - 1:=by lia
 rfl
theorem s_dn {st:SortSt} {a m:Nat} {Q:Option (Option Nat)×Nat×Nat->SortSt->Prop} (h0:AllI a₀) (hm:lo+m<=a₀.size) (ha:1<=a) (ham:a<=m) (hX:SX a₀ lo st₀ st)
 (hs:tJ (arrOf st) lo a)
 (h:∀ n q v,SX a₀ lo st₀ v->a<=n->n<=m->tJ (arrOf v) lo n->q+1<=n->tq (arrOf v) lo n q->Q (none,n,q) v):wpS (model prog w) A E KV.sh (dnL lo a m) Q st:=by
 unfold dnL
 refine wpS_forRange (I:=fun x c v=>∃ q,c=(none,x,q)/\SX a₀ lo st₀ v/\tJ (arrOf v) lo x/\q+1<=x/\tq (arrOf v) lo x q) ?s1 ?f1 ⟨0,rfl,hX,hs,by lia,mT ha⟩
 case f1=>
  rintro c v ⟨q,rfl,vX,vs,vq,va⟩
  rw [show max a m=m by lia] at vs vq va ⊢
  exact h m q v vX ham (zA1 _) vs vq va
 case s1=>
  rintro x c v hax hxm ⟨q,rfl,vX,vs,vq,va⟩
  dsimp only
  have hz:lo+x<=(arrOf v).size:=by rw [vX.size];lia
  have grow:∀ xs:Array Keyed,(∀ k,K xs k=K (arrOf v) k)->K (arrOf v) (lo+x)<=K (arrOf v) (lo+(x - 1))->tJ xs lo (x+1):=by
   intro xs hk hl i j hij hj
   rw [hk,hk]
   rcases Nat.lt_or_ge j x with g | g
   · exact vs i j hij g
   · obtain rfl:j=x:=by lia
     rcases Nat.eq_or_lt_of_le hij with rfl | g2
     · exact zE7 _
     · exact zD6 hl (vs i (j - 1) (by lia) (by lia))
  rw [jP (by lia)]
  refine wpS_bind (km vX h0 (by lia) (by lia) ?_)
  by_cases hl:K (arrOf v) (lo+x)<K (arrOf v) (lo+(x - 1))
  · simp only [hl,decide_true,if_true]
    by_cases hq:q > 0
    · rw [if_pos hq]
      exact wpS_bind (nz (wpS_pure ⟨0,rfl,cx vX (by lia) (by lia),grow _ (K_mirror_equal hz va) (zC9 hl),by lia,mT (by lia)⟩))
    · rw [if_neg hq]
      exact wpS_pure ⟨0,rfl,vX,grow _ (fun _=>rfl) (zC9 hl),by lia,mT (by lia)⟩
  · simp only [hl,decide_false,zC4,if_false]
    refine wpS_bind (km vX h0 (by lia) (by lia) ?_)
    by_cases hg:K (arrOf v) (lo+(x - 1))<K (arrOf v) (lo+x)
    · simp only [hg,decide_true,if_true]
      exact wpS_pure (h x q v vX hax (by lia) vs vq va)
    · simp only [hg,decide_false,zC4,if_false]
      have he:K (arrOf v) (lo+x)=K (arrOf v) (lo+(x - 1)):=by lia
      refine wpS_pure ⟨q+1,rfl,vX,grow _ (fun _=>rfl) (by lia),by lia,fun i g1 g2=>?_⟩
      rw [show lo+(x+1) - 1=lo+x by lia]
      by_cases hi:i=lo+x
      · rw [hi]
      · rw [he,← jP (by lia)]
        exact va i (by lia) (by lia)
theorem s_fa {st:SortSt} {a m:Nat} {Q:Option Nat->SortSt->Prop} (h0:AllI a₀) (hm:lo+m<=a₀.size) (ham:a+1<=m) (hX:SX a₀ lo st₀ st)
 (hs:tJ (arrOf st) lo (a+1)) (h:∀ n v,SX a₀ lo st₀ v->1<=n->n<=m->jR (arrOf v) lo n->Q (some n) v):wpS (model prog w) A E KV.sh (faL lo a m) Q st:=by
 unfold faL
 refine wpS_bind (wpS_lift (wpAny_rule ⟨rfl,?_⟩))
 refine wpS_bind (s_dn h0 hm (by lia) ham hX hs fun n q v vX g1 g2 vs vq va=>?_)
 dsimp only
 have hz:lo+n<=(arrOf v).size:=by rw [vX.size];lia
 by_cases hq:q > 0
 · rw [if_pos hq]
   refine wpS_bind (nz (s_en h0 hm (by lia) g2 (cx vX (by lia) (by lia)) ?_ h))
   intro i j hij hj
   show K (mirror (arrOf v) _ _ _) _<=K (mirror (arrOf v) _ _ _) _
   rw [K_mirror_equal hz va,K_mirror_equal hz va]
   exact vs i j hij hj
 · rw [if_neg hq]
   exact s_en h0 hm (by lia) g2 vX vs h
theorem s_run {st:SortSt} {m:Nat} {Q:Option Nat->SortSt->Prop} (h0:AllI a₀) (hm:lo+m<=a₀.size) (h1:1<=m) (hX:SX a₀ lo st₀ st)
 (h:∀ n v,SX a₀ lo st₀ v->1<=n->n<=m->jR (arrOf v) lo n->Q (some n) v):wpS (model prog w) A E KV.sh (countRun' lo m) Q st:=by
 rw [run_eq]
 have one:jR (arrOf st) lo 1:=fun i j hij hj=>by
  obtain rfl:i=j:=by lia
  exact zE7 _
 refine wpS_bind (s_up h0 hm (zA1 1) h1 hX one fun n g1 g2 gs go=>?_)
 dsimp only
 by_cases hn:n=m
 · rw [if_pos (by simpa using hn)]
   exact wpS_pure (h n st hX g1 g2 gs)
 · rw [if_neg (by simpa using hn)]
   have hl:=go.resolve_left hn
   by_cases hg:n > 1
   · rw [if_pos hg]
     rw [jP (by lia)]
     refine wpS_bind (km (i:=lo) hX h0 (by lia) (by lia) ?_)
     by_cases hr:K (arrOf st) lo<K (arrOf st) (lo+(n - 1))
     · simp only [hr,decide_true,if_true]
       exact wpS_pure (h n st hX g1 g2 gs)
     · simp only [hr,decide_false,zC4,if_false]
       have hz:lo+n<=(arrOf st).size:=by rw [hX.size];lia
       have al:∀ k,lo<=k->k<lo+n->K (arrOf st) k=K (arrOf st) (lo+n - 1):=by
        intro k k1 k2
        obtain ⟨d,rfl⟩:=Nat.exists_eq_add_of_le k1
        have e1:=gs 0 d (by lia) (by lia)
        have e2:=gs d (n - 1) (by lia) (by lia)
        rw [jP (by lia)]
        rw [zF5] at e1
        lia
       refine wpS_bind (nz (s_fa h0 hm (by lia) (cx hX (zA1 _) (by lia)) ?_ h))
       intro i j hij hj
       show K (mirror (arrOf st) _ _ _) _<=K (mirror (arrOf st) _ _ _) _
       rw [K_mirror_equal hz al,K_mirror_equal hz al]
       rcases Nat.lt_or_ge j n with q | q
       · rw [al (lo+i) (by lia) (by lia),al (lo+j) (by lia) (by lia)]
         exact zE7 _
       · obtain rfl:j=n:=by lia
         rcases Nat.eq_or_lt_of_le hij with rfl | q2
         · exact zE7 _
         · rw [al (lo+i) (by lia) (by lia),jP (by lia)]
           exact zC9 hl
   · rw [if_neg hg]
     obtain rfl:n=1:=by lia
     refine s_fa h0 hm (by lia) hX ?_ h
     intro i j hij hj
     rcases Nat.eq_or_lt_of_le hij with rfl | q2
     · exact zE7 _
     · obtain rfl:i=0:=by lia
       obtain rfl:j=1:=by lia
       exact zC9 hl
end
open PyProof.Rows hiding K SortedTo K_bubble K_mirror K_congr K_mirror_equal
variable [KV]
structure RS (a₀:Array Keyed) (st:SortSt) (Ls:List (List Keyed)) (rest:List Keyed):Prop where
 kind:kindOf st=KV.kind
 fail:failedOf st=none
 perm:(arrOf st).Perm a₀
 arr:(arrOf st).toList=Ls.flatten++rest
 pm:PM (pendingOf st).toList Ls 0
 runs:∀ R∈Ls,R≠[]/\R.Pairwise Le
theorem AllI.perm {xs ys:Array Keyed} (h:AllI xs) (p:ys.Perm xs):AllI ys:=fun q hq=>h q ((zI0.mp p).mem_iff.mp hq)
theorem PM.alter:∀ {ps:List (Nat×Nat×Nat)} {ls:List (List Keyed)} {lo:Nat} (k:Nat) {f:Nat×Nat×Nat->Nat×Nat×Nat},(∀ p,(f p).1=p.1/\(f p).2.1=p.2.1)->PM ps ls lo->PM (ps.modify k f) ls lo
 | [],[],_,k,f,_,_=>by cases k <;> trivial
 | p::r,l::ls,lo,0,f,hf,h=>by
   show PM (f p::r) (l::ls) lo
   exact ⟨(hf p).1.trans h.1,(hf p).2.trans h.2.1,h.2.2⟩
 | p::r,l::ls,lo,k+1,f,hf,h=>by
   show PM (p::r.modify k f) (l::ls) lo
   exact ⟨h.1,h.2.1,PM.alter k hf h.2.2⟩
 | [],_::_,_,_,_,_,h=>h.elim
 | _::_,[],_,_,_,_,h=>h.elim
theorem PM.snoc:∀ {ps:List (Nat×Nat×Nat)} {ls:List (List Keyed)} {lo:Nat} {R:List Keyed} {k n:Nat},PM ps ls lo->k=lo+ls.flatten.length->n=R.length->PM (ps++[(k,n,0)]) (ls++[R]) lo
 | [],[],lo,R,k,n,_,e,e2=>⟨by simpa using e,e2,trivial⟩
 | p::r,l::ls,lo,R,k,n,h,e,e2=>by
   refine ⟨h.1,h.2.1,PM.snoc h.2.2 ?_ e2⟩
   rw [e,zD5,zA5,zI5]
 | [],_::_,_,_,_,_,h,_,_=>h.elim
 | _::_,[],_,_,_,_,h,_,_=>h.elim
section
variable {prog:Program} {w:World} {A:Around} {E:Value->Shared->Prop} {a₀:Array Keyed}
theorem pg {st:SortSt} {Ls:List (List Keyed)} {rest:List Keyed} {i:Nat} {Q:Bool->SortSt->Prop} (h0:AllI a₀) (r:RS a₀ st Ls rest) (hi:i+1<Ls.length)
 (h:∀ v Ms,RS a₀ v Ms rest->Ms.length+1=Ls.length->Ms.flatten.length=Ls.flatten.length->Q true v):wpS (model prog w) A E KV.sh (mergeAt' i) Q st:=by
 obtain ⟨L1,R1,R2,L2,rfl,rfl⟩:∃ L1 R1 R2 L2,Ls=L1++R1::R2::L2/\i=L1.length:=by
  refine ⟨Ls.take i,Ls[i],Ls[i+1],Ls.drop (i+2),?_,by rw [zB7];lia⟩
  rw [← zD3 hi,← zD3 (by lia),zE0]
 have m1:=r.runs R1 (by simp)
 have m2:=r.runs R2 (by simp)
 rw [mat_is]
 refine s_mat r.kind r.fail (h0.perm r.perm) r.arr r.pm m1.1 m2.1 m1.2 m2.2 fun v R hk hp hs ha hpm=>?_
 have hl:=hp.length_eq
 rw [zA5] at hl
 refine h v (L1++R::L2) ⟨hk.kind.trans r.kind,hk.fail.trans r.fail,?_,ha,hpm,?_⟩ (by simp;lia) ?_
 · refine Array.Perm.trans ?_ r.perm
   rw [zI0,ha,r.arr]
   refine zH9 _ ?_
   rw [zI2,zI2,zD5,zD5,zD5,← zB6 R1]
   exact zE6 _ (zH9 _ hp)
 · intro T hT
   rcases zC1.mp hT with g | g
   · exact r.runs T (by simp [g])
   · rcases zB2.mp g with rfl | g
     · refine ⟨fun e=>?_,hs⟩
       rw [e] at hl
       have:=zG5.mpr m1.1
       simp at hl
       lia
     · exact r.runs T (by simp [g])
 · simp only [zI2,zD5,zA5]
   lia
theorem fR:∀ {Ls:List (List Keyed)},(∀ R∈Ls,R≠[]/\R.Pairwise Le)->Ls.length<=Ls.flatten.length
 | [],_=>zA1 _
 | R::Ls,h=>by
   have:=fR (Ls:=Ls) fun T hT=>h T (zB4 _ hT)
   have:=zG5.mpr (h R (by simp)).1
   rw [zB9,zD5,zA5]
   lia
theorem RS.psize {st:SortSt} {Ls:List (List Keyed)} {rest:List Keyed} (r:RS a₀ st Ls rest):(pendingOf st).size=Ls.length:=by
 rw [← zD0];exact r.pm.len
theorem RS.total {st:SortSt} {Ls:List (List Keyed)} {rest:List Keyed} (r:RS a₀ st Ls rest):Ls.flatten.length+rest.length=a₀.size:=by
 rw [← zA5,← r.arr,zD0,r.perm.size_eq]
theorem RS.cut {st v:SortSt} {Ls:List (List Keyed)} {rest:List Keyed} {n:Nat} (r:RS a₀ st Ls rest) (x:SX (arrOf st) Ls.flatten.length st v) (hn:Ls.flatten.length+n<=a₀.size) (hs:jR (arrOf v) Ls.flatten.length n) :
 ∃ R rest',R.length=n/\R.Pairwise Le/\RS a₀ v Ls (R++rest'):=by
 have hz:(arrOf v).toList.length=a₀.size:=by rw [zD0,x.size,r.perm.size_eq]
 have ht:(arrOf v).toList.take Ls.flatten.length=Ls.flatten:=by
  have e:(arrOf v).toList.take Ls.flatten.length=(arrOf st).toList.take Ls.flatten.length:=by
   refine List.ext_getElem? fun k=>?_
   rw [List.getElem?_take,List.getElem?_take]
   split
   · rename_i g
     rw [Array.getElem?_toList,Array.getElem?_toList]
     exact x.pre k g
   · rfl
  rw [e,r.arr,List.take_left]
 refine ⟨((arrOf v).toList.drop Ls.flatten.length).take n,((arrOf v).toList.drop Ls.flatten.length).drop n,?_,?_,x.kind,x.fail,x.perm.trans r.perm,?_,?_,r.runs⟩
 · rw [zB7,zC7,hz];lia
 · refine zE8.mpr fun i j hi hj hij=>?_
   rw [zB7,zC7,hz] at hi hj
   have:=hs i j (zJ0 hij) (by lia)
   rw [mY (by lia),mY (by lia)] at this
   rw [zF7,zF7,List.getElem_drop,List.getElem_drop]
   exact this
 · rw [zE0]
   conv=>lhs;rw [← zE0 Ls.flatten.length (arrOf v).toList,ht]
 · rw [x.pend];exact r.pm
theorem RS.add {st:SortSt} {Ls:List (List Keyed)} {R rest:List Keyed} {k n:Nat} (r:RS a₀ st Ls (R++rest)) (hR:R≠[]) (hs:R.Pairwise Le) (hk:k=Ls.flatten.length) (hn:n=R.length) :
 RS a₀ (setPending st ((pendingOf st).push (k,n,0))) (Ls++[R]) rest where
 kind:=r.kind
 fail:=r.fail
 perm:=r.perm
 arr:=by show (arrOf st).toList=_;rw [r.arr];simp
 pm:=by
  show PM ((pendingOf st).push (k,n,0)).toList _ 0
  rw [zE2]
  exact r.pm.snoc (by lia) hn
 runs:=fun T hT=>by
  rcases zC1.mp hT with g | g
  · exact r.runs T g
  · rw [zD4.mp g];exact ⟨hR,hs⟩
theorem RS.alter {st:SortSt} {Ls:List (List Keyed)} {rest:List Keyed} {k:Nat} {f:Nat×Nat×Nat->Nat×Nat×Nat} (hf:∀ p,(f p).1=p.1/\(f p).2.1=p.2.1) (r:RS a₀ st Ls rest) :
 RS a₀ (setPending st ((pendingOf st).modify k f)) Ls rest where
 kind:=r.kind
 fail:=r.fail
 perm:=r.perm
 arr:=r.arr
 pm:=by
  show PM ((pendingOf st).modify k f).toList _ 0
  rw [Array.toList_modify]
  exact r.pm.alter k hf
 runs:=r.runs
theorem RS.sorted {st:SortSt} {Ls:List (List Keyed)} (r:RS a₀ st Ls []) (h1:Ls.length<=1):SortedTo (arrOf st) a₀.size:=by
 have hz:(arrOf st).toList.length=a₀.size:=by rw [zD0,r.perm.size_eq]
 have hp:(arrOf st).toList.Pairwise Le:=by
  rw [r.arr]
  match Ls,h1,r.runs with
  | [],_,_=>simp
  | [R],_,g=>simpa using (g R (by simp)).2
 intro i j hij hj
 rw [mY (by lia),mY (by lia)]
 rcases Nat.eq_or_lt_of_le hij with e | e
 · subst e;exact zE7 _
 · exact zE8.mp hp i j (by lia) (by lia) e
end
open PyProof.Rows hiding K SortedTo K_bubble K_mirror K_congr K_mirror_equal
variable [KV]
section
variable {prog:Program} {w:World} {A:Around} {E:Value->Shared->Prop} {a₀:Array Keyed}
def eA (sz lo n:Nat):StateT SortSt Sem (ForInStep (Option Unit×Nat)):=do
 let z ← get
 match (pendingOf z).back? with
 | some (p,k,_)=>do
   let c ← forIn [0:sz] ((none,()):Option Unit×Unit) fun _ _=>do
    let z ← get
    match if (pendingOf z).size > 1 then (pendingOf z)[(pendingOf z).size - 2]? else none with
    | some (_,_,o)=>
      if o<=power' sz (2*p+k) (2*p+k+k+n) sz then pure (.done (none,()))
      else do
       let b ← mergeAt' ((pendingOf z).size - 2)
       if (!b)=true then pure (.done (some (),())) else pure (.yield (none,()))
    | _=>pure (.done (none,()))
   match c.fst with
   | some r=>pure (.done (some r,lo))
   | none=>do
     modify fun s=>setPending s ((pendingOf s).modify ((pendingOf s).size - 1) fun x=>(x.fst,x.2.fst,power' sz (2*p+k) (2*p+k+k+n) sz))
     modify fun s=>setPending s ((pendingOf s).push (lo,n,0))
     pure (.yield (none,lo+n))
 | _=>do
   modify fun s=>setPending s ((pendingOf s).push (lo,n,0))
   pure (.yield (none,lo+n))
theorem s_put {st:SortSt} {Ls:List (List Keyed)} {R rest:List Keyed} {sz lo n:Nat} {Q:ForInStep (Option Unit×Nat)->SortSt->Prop} (h0:AllI a₀) (r:RS a₀ st Ls (R++rest)) (hlo:lo=Ls.flatten.length) (hn:n=R.length) (hR:R≠[]) (hs:R.Pairwise Le)
 (h:∀ v Ms,RS a₀ v Ms rest->Ms.flatten.length=lo+n->Q (.yield (none,lo+n)) v):wpS (model prog w) A E KV.sh (eA sz lo n) Q st:=by
 unfold eA
 refine wpS_bind (wpS_get ?_)
 have fin:∀ {v:SortSt} {Ms:List (List Keyed)},RS a₀ v Ms (R++rest)->Ms.flatten.length=lo->Q (.yield (none,lo+n)) (setPending v ((pendingOf v).push (lo,n,0))):=fun {v Ms} g e=>
  h _ (Ms++[R]) (g.add hR hs e.symm hn) (by rw [zI2,zA5,e,zD5,List.flatten_nil,zE3,hn])
 split
 · rename_i p k _ _
   generalize power' sz (2*p+k) (2*p+k+k+n) sz=pw
   refine wpS_bind (wpS_mono (wpS_forRange (I:=fun x c v=>c=(none,())/\∃ Ms,RS a₀ v Ms (R++rest)/\Ms.flatten.length=lo) (Q:=fun c v=>c=(none,())/\∃ Ms,RS a₀ v Ms (R++rest)/\Ms.flatten.length=lo) ?s2 (fun _ _ g=>g) ⟨rfl,Ls,r,hlo.symm⟩) ?p2)
   case p2=>
    rintro c v ⟨rfl,Ms,g,e⟩
    dsimp only
    refine wpS_bind (wpS_modify (wpS_bind (wpS_modify (wpS_pure ?_))))
    exact fin (g.alter (fun _=>⟨rfl,rfl⟩)) e
   case s2=>
    rintro x c v _ _ ⟨rfl,Ms,g,e⟩
    refine wpS_bind (wpS_get ?_)
    rw [g.psize]
    split
    · rename_i o ho
      by_cases h1:Ms.length > 1
      · by_cases h2:o<=pw
        · rw [if_pos h2]
          exact wpS_pure ⟨rfl,Ms,g,e⟩
        · rw [if_neg h2]
          refine wpS_bind (pg h0 g (by lia) fun u Ns g2 e1 e2=>?_)
          simp only [Bool.not_true,zC4,if_false]
          exact wpS_pure ⟨rfl,Ns,g2,e2.trans e⟩
      · rw [if_neg h1] at ho
        cases ho
    · exact wpS_pure ⟨rfl,Ms,g,e⟩
 · exact wpS_bind (wpS_modify (wpS_pure (fin r hlo.symm)))
theorem rG {c:Bool} {m:Nat} (h:¬ m<=1):(if c=true then m - 2 - 1 else m - 2)+1<m:=by
 split <;> lia
theorem s_all {st:SortSt} {Q:Unit->SortSt->Prop} (h0:AllI a₀) (hk:kindOf st=KV.kind) (hf:failedOf st=none) (hp:arrOf st=a₀) (he:pendingOf st=#[])
 (h:∀ v,(arrOf v).Perm a₀->failedOf v=none->SortedTo (arrOf v) a₀.size->Q () v):wpS (model prog w) A E KV.sh sortRuns' Q st:=by
 rw [sortRuns'_eq]
 refine wpS_bind (wpS_get ?_)
 dsimp only
 rw [hp]
 generalize minRun' a₀.size a₀.size 0=mr
 have r0:RS a₀ st [] a₀.toList:=⟨hk,hf,by rw [hp],by rw [hp];rfl,by rw [he];trivial,fun R hR=>by cases hR⟩
 refine wpS_bind (wpS_mono (wpS_forRange (I:=fun x c z=>∃ Ls rest,c=(none,Ls.flatten.length)/\RS a₀ z Ls rest/\x<=Ls.flatten.length)
  (Q:=fun c z=>∃ Ls k,c=(none,k)/\RS a₀ z Ls []) ?s1 ?f1 ⟨[],_,rfl,r0,zA1 _⟩) ?p1)
 case f1=>
  rintro c z ⟨Ls,rest,rfl,r,hx⟩
  have:=r.total
  have e:rest=[]:=List.length_eq_zero_iff.mp (by lia)
  subst e
  exact ⟨Ls,_,rfl,r⟩
 case p1=>
  rintro c z ⟨Ls,k,rfl,r⟩
  dsimp only
  refine wpS_bind (wpS_mono (wpS_forRange (I:=fun x c v=>c=(none,())/\∃ Ms,RS a₀ v Ms []/\Ms.length+x<=a₀.size) (Q:=fun c v=>c=(none,())/\∃ Ms,RS a₀ v Ms []/\Ms.length<=1) ?s2 ?f2 ?i2) ?p2)
  case i2=>
   have e1:=fR r.runs
   have e2:=r.total
   exact ⟨rfl,Ls,r,by simp only [List.length_nil] at e2;lia⟩
  case f2=>
   rintro c v ⟨rfl,Ms,g,hl⟩
   exact ⟨rfl,Ms,g,by lia⟩
  case p2=>
   rintro c v ⟨rfl,Ms,g,hl⟩
   exact wpS_pure (h v g.perm g.fail (g.sorted hl))
  case s2=>
   rintro x c v _ hx ⟨rfl,Ms,g,hl⟩
   refine wpS_bind (wpS_get ?_)
   rw [g.psize]
   by_cases h1:Ms.length<=1
   · rw [if_pos h1]
     exact wpS_pure ⟨rfl,Ms,g,h1⟩
   · rw [if_neg h1]
     refine wpS_bind (pg h0 g (rG h1) fun u Ns g2 e1 e2=>?_)
     simp only [Bool.not_true,zC4,if_false]
     exact wpS_pure ⟨rfl,Ns,g2,by lia⟩
 case s1=>
  rintro x c z _ hx ⟨Ls,rest,rfl,r,hxl⟩
  dsimp only
  have tot:=r.total
  by_cases hge:Ls.flatten.length>=a₀.size
  · rw [if_pos hge]
    have e:rest=[]:=List.length_eq_zero_iff.mp (by lia)
    subst e
    exact wpS_pure ⟨Ls,_,rfl,r⟩
  · rw [if_neg hge]
    have hI:=h0.perm r.perm
    have hsz:=r.perm.size_eq
    have x0:SX (arrOf z) Ls.flatten.length z z:=⟨Array.Perm.refl _,r.kind,r.fail,rfl,fun _ _=>rfl⟩
    refine wpS_bind (s_run hI (by lia) (by lia) x0 fun n v vX g1 g2 gs=>?_)
    dsimp only
    refine Eq.mp (congrArg (fun p=>wpS (model prog w) A E KV.sh p _ v) (?_:(if n<mr then do
     liftM (rule "list.sort.binary-insertion")
     let b ← binarySort' Ls.flatten.length (min (a₀.size - Ls.flatten.length) mr) n
     if (!b)=true then pure (ForInStep.done (some (),Ls.flatten.length)) else eA a₀.size Ls.flatten.length (min (a₀.size - Ls.flatten.length) mr)
     else eA a₀.size Ls.flatten.length n)=_)) ?_
    · unfold eA
      congr 1
      · congr 1
        funext _y
        congr 1
        funext b
        congr 1
        congr 1
        funext z
        cases (pendingOf z).back? with
        | none=>rfl
        | some t=>
          obtain ⟨p,k,o⟩:=t
          dsimp only
          congr 1
          funext c
          obtain ⟨r,_⟩:=c
          cases r <;> rfl
      · congr 1
        funext z
        cases (pendingOf z).back? with
        | none=>rfl
        | some t=>
          obtain ⟨p,k,o⟩:=t
          dsimp only
          congr 1
          funext c
          obtain ⟨r,_⟩:=c
          cases r <;> rfl
    have last:∀ {u:SortSt} {k:Nat},1<=k->k<=a₀.size - Ls.flatten.length->SX (arrOf z) Ls.flatten.length z u->jR (arrOf u) Ls.flatten.length k->wpS (model prog w) A E KV.sh (eA a₀.size Ls.flatten.length k) (fun t st'=>∃ Ms rs,t=.yield (none,Ms.flatten.length)/\RS a₀ st' Ms rs/\x+1<=Ms.flatten.length) u:=fun {u k} k1 k2 uX us=>by
     obtain ⟨R,rest',e1,e2,e3⟩:=r.cut uX (by lia) us
     refine s_put h0 e3 rfl e1.symm (fun e=>by rw [e] at e1;simp at e1;lia) e2 fun v2 Ms g e=>?_
     exact ⟨Ms,rest',by rw [e],g,by lia⟩
    by_cases hm:n<mr
    · rw [if_pos hm]
      refine wpS_bind (wpS_lift (wpAny_rule ⟨rfl,?_⟩))
      refine wpS_bind (s_bin hI (by lia) (by lia) vX gs fun u uX us=>?_)
      simp only [Bool.not_true,zC4,if_false]
      refine wpS_mono (last (by lia) (by lia) uX us) ?_
      rintro t u2 ⟨Ms,rs,rfl,g,e⟩
      exact ⟨Ms,rs,rfl,g,e⟩
    · rw [if_neg hm]
      refine wpS_mono (last g1 g2 vX gs) ?_
      rintro t u2 ⟨Ms,rs,rfl,g,e⟩
      exact ⟨Ms,rs,rfl,g,e⟩
end
end SRV
namespace SRT
open PySem PyProof.Rows
abbrev kvI (s:Shared):SRV.KV where
 sh:=s
 kind:=oneType'
 kv:=fun p=>numOf p.1
 good:=fun p=>∃ t,p.1=.int (numOf p.1) t
 lt:=fun {prog w A E st x y Q} hk hx hy h=>by
  obtain ⟨t,e⟩:=hx;obtain ⟨u,e'⟩:=hy
  rw [lt'_eq];refine wpS_bind (wpS_get ?_)
  rw [hk,keyLt'_oneType,e,e'];exact wpS_bind (wpS_lift (wpAny_attempt (oneLt_int ⟨rfl,wpS_pure h⟩)))
def AllI (xs:Array Keyed):Prop:=∀ p∈xs.toList,∃ t,p.1=.int (numOf p.1) t
theorem AllI.perm {xs ys:Array Keyed} (h:AllI xs) (p:ys.Perm xs):AllI ys:=fun q hq=>h q ((zI0.mp p).mem_iff.mp hq)
def core (a:Addr) (e1:Nat) (ar:Array Value) (b:Bool):Sem Fin:=do
 let knd ← if ar.size<2 then pure general' else keyKind' ar
 let ((),z) ← (if ar.size<2 then pure () else sortRuns').run (SortSt.mk' knd (if b then (ar.zip ar).reverse else ar.zip ar) #[] 7 none)
 let srt:=(arrOf z).map (·.2)
 let tch:=(← seqEpoch a) != e1
 Builtin.List.listUpdate (.ref a) fun _=>if b then srt.reverse else srt
 if let some e:=failedOf z then rule "list.sort.comparison-raised";throw e
 if tch then rule "list.sort.modified";raiseError "ValueError" "list modified during sort"
 ret .none
theorem jm (a:Addr):Builtin.«list.sort» ⟨[.ref a],[]⟩=(do
 let ar ← Builtin.List.listItems (.ref a)
 Builtin.List.listUpdate (.ref a) fun _=>#[]
 let e1 ← seqEpoch a
 let t ← newTuple ar.toList
 let l ← newList []
 holding [t,l] (core a e1 ar false)):=by rw [list_sort_plain];rfl
theorem nE (a:Addr):Builtin.«list.sort» ⟨[.ref a],[(Str.ofString "reverse",.bool true)]⟩=(do
 let ar ← Builtin.List.listItems (.ref a)
 Builtin.List.listUpdate (.ref a) fun _=>#[]
 let e1 ← seqEpoch a
 let t ← newTuple ar.toList
 let l ← newList []
 holding [t,l] (do let _ ← rule "list.sort.reverse";core a e1 ar true)):=by rw [list_sort_rev];rfl
theorem sY {vs:List Value} {ns:List Int} (hI:IntsAre vs ns):AllI (pairsOf vs):=fun p hp=>by
 obtain ⟨n,t,e⟩:=hI.intKeys p hp
 refine ⟨t,?_⟩
 show p.1=.int (numOf p.1) t
 rw [e]
 rfl
section
variable {prog:Program} {w:World} {A:Around} {E:Value->Shared->Prop} {s:Shared}
theorem o7 {a:Addr} {e1:Nat} {vs:List Value} {ns:List Int} {b:Bool} {P:Fin->Shared->Prop} (hA:s.heap.get? a=some (seqObj "list" #[] e1)) (hI:IntsAre vs ns) (hz:vs.length<=sizeLine)
 (h:∀ (o:Array Value) (ns':List Int),IntsAre o.toList ns'->ns'.Perm ns->Ordered b ns'->P (.done (.ret .none)) { s with heap:=s.heap.update a (Obj.mapSeq fun _=>o) }):wpAny (model prog w) A (core a e1 vs.toArray b) P E s:=by
 unfold core
 have fin:∀ z:SortSt,(arrOf z).Perm (pairsOf vs)->failedOf z=none->SortedTo (arrOf z) (pairsOf vs).size->wpAny (model prog w) A (do
  let tch:=(← seqEpoch a) != e1
  Builtin.List.listUpdate (.ref a) fun _=>if b then ((arrOf z).map (·.2)).reverse else (arrOf z).map (·.2)
  if let some e:=failedOf z then rule "list.sort.comparison-raised";throw e
  if tch then rule "list.sort.modified";raiseError "ValueError" "list modified during sort"
  ret .none) P E s:=fun z hp hf hs=>by
  obtain ⟨ns',q1,q2,q3⟩:=sorted_out_rev hI hp hs b
  have hlen:((arrOf z).map (·.2)).size<=sizeLine+1:=by rw [Array.size_map,hp.size_eq,pairsOf_size];lia
  refine wpAny_bind (seqEpoch_at hA rfl (wpAny_bind (listUpdate_at hA rfl ?_ (hsz2:=?sz))))
  case sz=>
   split
   · rw [Array.size_reverse];exact hlen
   · exact hlen
  rw [hf]
  simp only [bne_self_eq_false,zC4,if_false]
  exact wpAny_pure (h _ ns' q1 q2 q3)
 have hst:(if b=true then (vs.toArray.zip vs.toArray).reverse else vs.toArray.zip vs.toArray).Perm (pairsOf vs):=by
  cases b
  · exact Array.Perm.refl _
  · rw [if_pos rfl,zI0,Array.toList_reverse]
    exact zG9 _
 by_cases h2:vs.toArray.size<2
 · rw [if_pos h2,if_pos h2]
   refine wpAny_bind (wpAny_pure ?_)
   dsimp only
   rw [StateT.run_pure]
   refine wpAny_bind (wpAny_pure (fin (SortSt.mk' general' _ #[] 7 none) hst rfl fun i j hij hj=>?_))
   rw [pairsOf_size] at hj
   rw [zA7] at h2
   obtain rfl:i=j:=by lia
   exact zE7 _
 · rw [if_neg h2,if_neg h2]
   obtain ⟨x,y,r,rfl⟩:∃ x y r,vs=x::y::r:=by
    rw [zA7] at h2
    match vs,h2 with
    | [],g=>simp at g
    | [_],g=>simp at g
    | x::y::r,_=>exact ⟨x,y,r,rfl⟩
   rw [keyKind_ints hI]
   refine wpAny_bind (wpAny_pure ?_)
   generalize hL:x::y::r=L at *
   have ha0:AllI (if b=true then (L.toArray.zip L.toArray).reverse else L.toArray.zip L.toArray):=(sY hI).perm hst
   letI inst:SRV.KV:=kvI s
   refine wpAny_bind (wpAny_mono (SRV.s_all (st:=SortSt.mk' oneType' (if b=true then (L.toArray.zip L.toArray).reverse else L.toArray.zip L.toArray) #[] 7 none)
    (Q:=fun _ z=>(arrOf z).Perm (pairsOf L)/\failedOf z=none/\SortedTo (arrOf z) (pairsOf L).size) ha0 rfl rfl rfl rfl fun z g1 g2 g3=>⟨g1.trans hst,g2,by rw [← hst.size_eq];exact g3⟩) ?_ fun _ _ e=>e)
   rintro ⟨⟨⟩,z⟩ s' ⟨rfl,g1,g2,g3⟩
   exact fin z g1 g2 g3
theorem jX {a:Addr} {vs:List Value} {n:Nat} {P:Fin->Shared->Prop} {f:Nat->Array Value->Sem Fin} (hA:s.heap.get? a=some (seqObj "list" vs.toArray n)) (hz:vs.length<=sizeLine)
 (h:∀ (s':Shared) e1,s'={ s with heap:=((s.heap.update a (Obj.mapSeq fun _=>#[])).push (seqObj "tuple" vs.toArray 0)).push (seqObj "list" #[] 0) }->s'.heap.get? a=some (seqObj "list" #[] e1)->wpAny (model prog w) A (f e1 vs.toArray) P E s') :
 wpAny (model prog w) A (do
  let ar ← Builtin.List.listItems (.ref a)
  Builtin.List.listUpdate (.ref a) fun _=>#[]
  let e1 ← seqEpoch a
  let t ← newTuple ar.toList
  let l ← newList []
  holding [t,l] (f e1 ar)) P E s:=by
 have ha:a<s.heap.objs.size:=Heap.lt_size hA
 refine wpAny_bind (listItems_at hA rfl (wpAny_bind (listUpdate_at hA rfl ?_ (hsz:=by rw [zA7];exact hz))))
 obtain ⟨e1,hE⟩:∃ e1,(s.heap.update a (Obj.mapSeq fun _=>#[])).get? a=some (seqObj "list" #[] e1):=⟨_,get?_update_seq hA fun _=>#[]⟩
 refine wpAny_bind (seqEpoch_at hE rfl (wpAny_bind (wpAny_newTuple (wpAny_bind (wpAny_newList (wpAny_holding ?_)) ) ?hs)))
 case hs=>exact hz
 refine h _ e1 rfl ?_
 show (((s.heap.update a (Obj.mapSeq fun _=>#[])).push (seqObj "tuple" vs.toArray 0)).push (seqObj "list" #[] 0)).get? a=_
 rw [Heap.get?_push_ne _ _ _ (by rw [size_push',Heap.size_update];exact fun e=>absurd ha (by rw [e];exact Nat.not_lt.mpr (Nat.le_succ _))),Heap.get?_push_ne _ _ _ (by rw [Heap.size_update];exact fun e=>absurd ha (by rw [e];exact zG8 _))]
 exact hE
def kwOf (b:Bool):List (Str×Value):=if b then [(Str.ofString "reverse",.bool true)] else []
theorem w_sort {a:Addr} {vs:List Value} {ns:List Int} {n:Nat} {b:Bool} {P:Fin->Shared->Prop} (hA:s.heap.get? a=some (seqObj "list" vs.toArray n)) (hI:IntsAre vs ns) (hz:vs.length<=sizeLine)
 (h:∀ (o:Array Value) (ns':List Int),IntsAre o.toList ns'->ns'.Perm ns->Ordered b ns'->P (.done (.ret .none)) { s with heap:=sortedHeap s.heap a vs o }):wpAny (model prog w) A (Builtin.«list.sort» ⟨[.ref a],kwOf b⟩) P E s:=by
 cases b with
 | false=>
   show wpAny _ _ (Builtin.«list.sort» ⟨[.ref a],[]⟩) _ _ _
   rw [jm]
   refine jX hA hz fun s' e1 e hA'=>o7 hA' hI hz fun o ns' g1 g2 g3=>?_
   subst e
   exact h o ns' g1 g2 g3
 | true=>
   show wpAny _ _ (Builtin.«list.sort» ⟨[.ref a],[(Str.ofString "reverse",.bool true)]⟩) _ _ _
   rw [nE]
   refine jX hA hz fun s' e1 e hA'=>wpAny_bind (wpAny_rule (o7 hA' hI hz fun o ns' g1 g2 g3=>?_))
   subst e
   exact h o ns' g1 g2 g3
theorem jY {l:Addr} {vs:List Value} {o:Obj} {T:String} {n:Nat} {Q:List Value->Shared->Prop} (ho:s.heap.get? l=some o) (hc:o.cls=.type T) (hd:o.data=.seq vs.toArray n) (hT:T="list"\/T="tuple") (hz:vs.length<=sizeLine)
 (h:Q vs { s with heap:=(s.heap.push (seqObj "list" #[] 0)).update s.heap.objs.size (Obj.mapSeq (·++vs.toArray)) }):wpAny (model prog w) A (collect (.ref l)) Q E s:=by
 unfold collect
 refine wpAny_bind (wpAny_runValue (codeAny_builtin entry_proto_collect' ?mk))
 case mk=>
 show wpAny _ _ (do again (.builtin "list.__iadd__" ⟨[← newList [],.ref l],[]⟩)) _ _ _
 refine wpAny_bind (wpAny_newList (wpAny_pure (And.intro (Code.quiet_builtin _ (by decide +kernel)) (codeAny_builtin entry_list_iadd' ?_))))
 show wpAny (model prog w) _ (Builtin.List.listExtendWith (.ref s.heap.objs.size) (.ref l) (.ref s.heap.objs.size)) _ _ { s with heap:=s.heap.push (seqObj "list" #[] 0) }
 unfold Builtin.List.listExtendWith
 have hO':(s.heap.push (seqObj "list" #[] 0)).get? l=some o:=Heap.get?_push_of_some _ ho
 have hN:(s.heap.push (seqObj "list" #[] 0)).get? s.heap.objs.size=some (seqObj "list" #[] 0):=Heap.get?_push_size _ rfl
 refine wpAny_bind (wpAny_typeOf (T:=T) ⟨o,hO',hc⟩ ?_)
 have e1:(Value.type "list" == Value.type "list")=true:=by rfl
 have e2:(Value.type "tuple" == Value.type "tuple")=true:=by rfl
 rw [if_pos (by rcases hT with rfl | rfl <;> simp [e1,e2])]
 refine wpAny_bind (listItems_at hO' hd (wpAny_bind (listItems_at hN rfl ?_)))
 rw [if_neg (by simp)]
 refine wpAny_bind (listUpdate_at hN rfl (wpAny_pure ?_) (zC6 _) (by rw [Array.size_append,zA7];show 0+vs.length<=_;lia))
 show wpAny (model prog w) A (do
  let z ← load s.heap.objs.size
  match z.data with
  | .seq xs _=>pure xs.toList
  | _=>unsupported "internal:collect") Q E ⟨(s.heap.push (seqObj "list" #[] 0)).update s.heap.objs.size (Obj.mapSeq (·++vs.toArray)),s.gens,s.drawn,s.toks,s.os⟩
 refine wpAny_bind (wpAny_load (get?_update_seq hN _) ?_)
 show wpAny (model prog w) _ (pure ((#[]:Array Value)++vs.toArray).toList) Q E _
 have e3:((#[]:Array Value)++vs.toArray).toList=vs:=by simp
 rw [e3]
 exact wpAny_pure h
theorem w_sorted {l:Addr} {vs:List Value} {ns:List Int} {o:Obj} {T:String} {n:Nat} {b:Bool} {Q:Value->Shared->Prop} (ho:s.heap.get? l=some o) (hc:o.cls=.type T) (hd:o.data=.seq vs.toArray n) (hT:T="list"\/T="tuple") (hI:IntsAre vs ns) (hz:vs.length<=sizeLine)
 (h:∀ (r:Array Value) (ns':List Int),IntsAre r.toList ns'->ns'.Perm ns->Ordered b ns'->Q (.ref (s.heap.objs.size+1)) { s with heap:=sortedAll s.heap vs r }):wpAny (model prog w) A (call (.builtin "sorted") [.ref l] (kwOf b)) Q E s:=by
 have ha:argsOk "sorted" ⟨[.ref l],kwOf b⟩:=by cases b;exact args_sorted1 _;exact args_sorted_rev _ _
 refine call_function_entry_kw kind_sorted plain_sorted entry_sorted ha ?_
 unfold Builtin.«sorted»
 refine wpAny_bind (m:=checkCount "sorted" 1 1 _) (wpAny_pure (wpAny_bind (jY ho hc hd hT hz (wpAny_bind (wpAny_newList ?_ ?hs)))))
 case hs=>exact hz
 generalize hG:(s.heap.push (seqObj "list" #[] 0)).update s.heap.objs.size (Obj.mapSeq (·++vs.toArray))=G
 have sG:G.objs.size=s.heap.objs.size+1:=by rw [← hG,Heap.size_update,size_push']
 have hL:(G.push (seqObj "list" vs.toArray 0)).get? (s.heap.objs.size+1)=some (seqObj "list" vs.toArray 0):=by rw [← sG];exact Heap.get?_push_size _ rfl
 show wpAny _ _ _ _ _ { s with heap:=G.push (seqObj "list" vs.toArray 0) }
 rw [show ({ s with heap:=G }:Shared).heap.objs.size=s.heap.objs.size+1 from sG]
 have hs:argsOk "list.sort" ⟨[.ref (s.heap.objs.size+1)],kwOf b⟩:=by cases b;exact args_list_sort _;exact args_list_sort_rev _ _
 refine wpAny_bind (wpAny_holding (wpAny_call_entry_kw slot_list_sort ⟨_,hL,rfl⟩ entry_list_sort (w_sort hL hI hz fun r ns' g1 g2 g3=>⟨_,rfl,wpAny_pure ⟨_,rfl,?_⟩⟩) hs))
 have:=h r ns' g1 g2 g3
 unfold sortedAll at this
 rw [hG] at this
 exact this
end
end SRT
namespace L2
open PySem PySem.Spec PyProof.Rows
section
variable {X:Cx}
def fN (K:PySem.W.Frag) (b:Bool):List V->Hp->VK->Prop:=fun xs H Q=>match xs with
 | [.ref p]=>∃ ns:List Int,(SqL K H p (ns.map V.int)\/SqT K H p (ns.map V.int))/\∀ l ns',H l=none->List.Perm ns' ns->Ordered b ns'->Q (.ref l) (upd H l (.lst (ns'.map V.int)))
 | _=>False
theorem ny {b:Bool} (pins:List (Addr×Obj)) (s:Shared) (σ:St) (H:Hp) (xs:List V) (us:List Value) (Q:VK) (I:Inv X pins σ H s) (r:Vals xs us) (h:fN X.K b xs H Q) :
 wpAny (model X.prog X.w) X.A (call (.builtin "sorted") us (SRT.kwOf b)) (EP X pins σ Q) X.xe s:=by
 unfold fN at h
 split at h
 · rename_i p
   obtain ⟨ns,hq,q⟩:=h
   obtain ⟨u,rfl,rx⟩:=cg r
   cases rx
   obtain ⟨its,T,o,n,hI,hz,hz2,ho,hc,hd,hT⟩:∃ (its:List Value) (T:String) (o:Obj) (n:Nat),IntsAre its ns/\its.length<=sizeLine/\ns.length<=sizeLine/\s.heap.get? p=some o/\o.cls=.type T/\o.data=.seq its.toArray n/\(T="list"\/T="tuple"):=by
    rcases hq with hq | hq
    · obtain ⟨its,rv,pl,hz⟩:=I.list hq
      obtain ⟨o,ho,hc,n,hd⟩:=id pl.isList
      exact ⟨its,"list",o,n,eE rv,by rw [← rv.length];exact hz,by rw [zA0] at hz;exact hz,ho,hc,hd,.inl rfl⟩
    · obtain ⟨its,rv,pl,hz⟩:=I.tuple hq
      obtain ⟨o,ho,hc,n,hd⟩:=id pl
      exact ⟨its,"tuple",o,n,eE rv,by rw [← rv.length];exact hz,by rw [zA0] at hz;exact hz,ho,hc,hd,.inr rfl⟩
   refine SRT.w_sorted ho hc hd hT hI hz fun out ns' a1 a2 a3=>?_
   obtain ⟨e,he⟩:=sortedAll_at s.heap its out
   refine ⟨.ref (s.heap.objs.size+1),_,I.laid (t':=s.toks) (a:=s.heap.objs.size+1) (o:=.lst (ns'.map V.int)) (fun c ob q=>sortedAll_old q) (Nat.le_succ _) ?_,rfl,q _ ns' (I.hok.fresh (Nat.le_succ _)) a2 a3⟩
   refine ⟨?_,out.toList,e,dq a1,he⟩
   rw [zA0,a2.length_eq]
   exact hz2
 · exact h.elim
theorem jJ:CallR X (.builtin "sorted") (fN X.K false):=fun pins s σ H xs us Q I r h=>ny (b:=false) pins s σ H xs us Q I r h
variable {e:Expr} {es:List Expr} {t:TA} {p pos:Pos}
theorem kX (hg:Gl X "sorted") (hm:X.mg "sorted" = none) (ha:PA X (e::es) t) (he:starEach (e::es) X.env=(false,eval e X.env)::starEach es X.env) (hpl:(backTo pos (starEach es X.env)).any (·.1)=false) :
 PE X (.Call (.Name "sorted" p) (e::es) [] pos) (tCB (fN X.K false) t):=aW jJ hg hm gj ha (by decide) (by decide) he hpl
theorem jV (hg:Gl X "sorted") (hm:X.mg "sorted" = none) (ha:ZA X (e::es) t) (he:starEach (e::es) X.env=(false,eval e X.env)::starEach es X.env) (hpl:(backTo pos (starEach es X.env)).any (·.1)=false) :
 ZE X (.Call (.Name "sorted" p) (e::es) [] pos) (tCB (fN X.K false) t):=by with_unfolding_all exact kX hg hm ha he hpl
variable {o:Expr} {to:TE} {apos cpos:Pos}
end
end L2
namespace L2
open PySem PySem.Spec PyProof.Rows
section
variable {X:Cx}
variable {e:Expr} {es:List Expr} {t:TA} {p pos:Pos}
def nQ:V->List V->Hp->VK->Prop:=fun x vs H Q=>match x,vs with
 | .ref l,[.ref b]=>∃ xs zs,H l=some (.lst xs)/\H b=some (.lst zs)/\xs.length+zs.length<=sizeLine/\Q .non (upd H l (.lst (xs++zs)))
 | _,_=>False
theorem sk:MtM X "list.extend" nQ:=fun pins s σ H x vs v us Q I rx rv h=>by
 unfold nQ at h
 split at h
 · obtain ⟨xs,zs,h1,h2,h3,q⟩:=h
   exact lp pins s σ H _ _ v us Q I rx rv ⟨_,_,xs,zs,rfl,rfl,h1,h2,h3,q⟩
 · exact h.elim
variable {o:Expr} {to:TE} {apos cpos:Pos}
theorem kR (ho:PE X o to) (ha:PA X (e::es) t) (hbase:attributeBase o "extend" X.env (eval o X.env)=eval o X.env:=by rfl)
 (hfew:((backTo cpos (starEach (e::es) X.env)).all (fun x=>!x.1)&&(backToKw cpos (keywordEach [] X.env)).all (fun x=>x.1.isSome)
   && decide ((e::es).length+([]:List Keyword).length+(if ([]:List Keyword).isEmpty then 0 else 1)<30))=true:=by rfl)
 (hline:(apos.endLine == cpos.line)=true:=by rfl) (hs:starEach (e::es) X.env=(false,eval e X.env)::starEach es X.env:=by rfl) (hplain:(backTo cpos (starEach es X.env)).any (·.1)=false:=by rfl) :
 PE X (.Call (.Attribute o "extend" apos) (e::es) [] cpos) (fun σ H Q=>to σ H fun x H1=>tyV X.K "list" x H1/\t σ H1 fun xs H2=>nQ x xs H2 Q):=
 pe_bm PySem.F.plainAttrs_list PySem.F.slot_list_extend PySem.F.type_list_extend sk ho ha hbase hfew hline hs hplain
theorem jT (ho:ZE X o to) (ha:ZA X (e::es) t) (hbase:attributeBase o "extend" X.env (eval o X.env)=eval o X.env:=by rfl)
 (hfew:((backTo cpos (starEach (e::es) X.env)).all (fun x=>!x.1)&&(backToKw cpos (keywordEach [] X.env)).all (fun x=>x.1.isSome)
   && decide ((e::es).length+([]:List Keyword).length+(if ([]:List Keyword).isEmpty then 0 else 1)<30))=true:=by rfl)
 (hline:(apos.endLine == cpos.line)=true:=by rfl) (hs:starEach (e::es) X.env=(false,eval e X.env)::starEach es X.env:=by rfl) (hplain:(backTo cpos (starEach es X.env)).any (·.1)=false:=by rfl) :
 ZE X (.Call (.Attribute o "extend" apos) (e::es) [] cpos) (fun σ H Q=>to σ H fun x H1=>tyV X.K "list" x H1/\t σ H1 fun xs H2=>nQ x xs H2 Q):=by with_unfolding_all exact kR ho ha hbase hfew hline hs hplain
end
section
variable {X:Cx} {e:Expr} {es:List Expr} {t:TA} {p pos:Pos} {o:Expr} {to:TE} {apos cpos:Pos}
def tNo:TS:=fun _ _ _=>False
theorem ps_no {st:Stmt}:PS X st tNo:=fun _ _ _ _ _ _ h=>h.elim
theorem zs_no {st:Stmt}:ZS X st tNo:=by with_unfolding_all exact ps_no
end
section
variable {prog:Program} {w:World} {A:Around} {E:Value->Shared->Prop} {R:Result->Shared->Prop} {s:Shared}
theorem j9 (elt t1 i1 t2 i2:Expr) (c1 c2:List Expr) (scope:Scope) (pos:Pos) (it acc:Value) (env:Env) :
 compTurn (.ListComp elt [⟨t1,i1,c1,0⟩,⟨t2,i2,c2,0⟩] scope pos) 1 it acc env=(do
  standAt i2.pos
  match ← pyNext it with
  | none=>pure (.done .next)
  | some v=>
    letOwnedTupleGo t2 it v
    assign t2 env v
    let mut ok:=true
    for c in c2 do
     if ok then ok ← isTrue c env (eval c env)
    if ok then
     (do let _ ← call (.builtin "list.append") [acc,← eval elt env])
    again (.compLoop (.ListComp elt [⟨t1,i1,c1,0⟩,⟨t2,i2,c2,0⟩] scope pos) 1 it acc env)):=by rfl
theorem j8 (elt t1 i1 t2 i2:Expr) (c1 c2:List Expr) (scope:Scope) (pos:Pos) (it acc:Value) (env:Env) :
 compTurn (.ListComp elt [⟨t1,i1,c1,0⟩,⟨t2,i2,c2,0⟩] scope pos) 0 it acc env=(do
  standAt i1.pos
  match ← pyNext it with
  | none=>pure (.done .next)
  | some v=>
    letOwnedTupleGo t1 it v
    assign t1 env v
    let mut ok:=true
    for c in c1 do
     if ok then ok ← isTrue c env (eval c env)
    if ok then
     let x ← eval i2 env
     standAt i2.pos
     let x ← (if ((0:Nat) != 0)=true then foldedIterable i2 x else foldedSetIterable i2 env x)
     let _ ← runOwn (.compStart (.ListComp elt [⟨t1,i1,c1,0⟩,⟨t2,i2,c2,0⟩] scope pos) 1 (← holding [x] (if ((0:Nat) != 0)=true then asyncIter x else pyIter x)) acc env) env
    again (.compLoop (.ListComp elt [⟨t1,i1,c1,0⟩,⟨t2,i2,c2,0⟩] scope pos) 0 it acc env)):=by rfl
theorem jy {elt t1 i1 t2 i2:Expr} {c1 c2:List Expr} {scope:Scope} {pos:Pos} {it acc:Value} {env:Env} (I:Nat->Shared->Prop)
 (turn:∀ n s,I n s->wpAny (model prog w) A (pyNext it) (fun r s₁=>match r with
   | none=>R (.ok .next) s₁
   | some v=>wpAny (model prog w) A (letOwnedTupleGo t2 it v) (fun _ s₁'=>wpAny (model prog w) A (assign t2 env v) (fun _ s₂=>
    wpAny (model prog w) A (forIn c2 true fun c r=>if r=true then do let ok ← isTrue c env (eval c env);pure (ForInStep.yield ok) else pure (ForInStep.yield r)) (fun ok s₃=>
     if ok=true then wpAny (model prog w) A (eval elt env) (fun x s₄=>
      wpAny (model prog w) A (call (.builtin "list.append") [acc,x]) (fun _ s₅=>∃ m,m<n/\I m s₅) (fun _ _=>False) s₄) (fun _ _=>False) s₃
     else ∃ m,m<n/\I m s₃) (fun _ _=>False) s₂) (fun _ _=>False) s₁') (fun _ _=>False) s₁) (fun _ _=>False) s)
 (n:Nat) (h:I n s) :
 codeAny (model prog w) A (.compLoop (.ListComp elt [⟨t1,i1,c1,0⟩,⟨t2,i2,c2,0⟩] scope pos) 1 it acc env) R s:=by
 refine codeAny_loop rfl I (fun n s hI=>?_) n h
 show wpAny _ A ((compTurn (.ListComp elt [⟨t1,i1,c1,0⟩,⟨t2,i2,c2,0⟩] scope pos) 1 it acc env).onRaise (fun x=>do noteFrame x env;theTreesLotGoes x)) _ _ s
 refine wpAny_noted ?_
 rw [j9]
 refine wpAny_bind (wpAny_standAt (wpAny_bind (wpAny_mono (turn n s hI) (fun r s₁ h₁=>?_) fun _ _ h'=>h'.elim)))
 cases r with
 | none=>exact wpAny_pure h₁
 | some v=>
   refine wpAny_bind (wpAny_mono h₁ (fun _ s₁' h₁'=>?_) fun _ _ h'=>h'.elim)
   refine wpAny_bind (wpAny_mono h₁' (fun _ s₂ h₂=>wpAny_bind (wpAny_mono h₂ (fun ok s₃ h₃=>?_) fun _ _ h'=>h'.elim)) fun _ _ h'=>h'.elim)
   cases ok with
   | false=>exact wpAny_pure ⟨rfl,h₃⟩
   | true=>
     exact wpAny_bind (wpAny_bind (wpAny_mono h₃ (fun x s₄ h₄=>wpAny_bind (wpAny_mono h₄ (fun _ s₅ h₅=>wpAny_pure (wpAny_pure ⟨rfl,h₅⟩)) fun _ _ h'=>h'.elim)) fun _ _ h'=>h'.elim))
theorem gC {elt t1 i1 t2 i2:Expr} {c1 c2:List Expr} {scope:Scope} {pos:Pos} {it acc:Value} {env:Env}
 (h0:codeAny (model prog w) A (.compLoop (.ListComp elt [⟨t1,i1,c1,0⟩,⟨t2,i2,c2,0⟩] scope pos) 1 it acc env) R s)
 (h:wpAny (model prog w) A (pyIter it) (fun it' s'=>codeAny (model prog w) A (.compLoop (.ListComp elt [⟨t1,i1,c1,0⟩,⟨t2,i2,c2,0⟩] scope pos) 1 it' acc env) R s')
   (notedBy (model prog w) A env fun x s'=>R (.error x) s') s) :
 codeAny (model prog w) A (.compStart (.ListComp elt [⟨t1,i1,c1,0⟩,⟨t2,i2,c2,0⟩] scope pos) 1 it acc env) R s:=by
 refine codeAny_of_tree ?_
 show wpAny _ _ ((compStart (.ListComp elt [⟨t1,i1,c1,0⟩,⟨t2,i2,c2,0⟩] scope pos) 1 it acc env).onRaise (fun x=>do noteFrame x env;standAt theWindowsPlace)) _ _ s
 refine wpAny_notedAt ?_
 unfold compStart
 show wpAny _ _ (ask >>= _) _ _ s
 refine wpAny_bind (wpAny_askSetting (wpAny_ite ?_))
 split
 · first
    | exact wpAny_bind (wpAny_pure (wpAny_pure (And.intro rfl h0)))
    | exact wpAny_pure (And.intro rfl h0)
 · first
    | exact wpAny_bind (wpAny_rule (wpAny_bind (wpAny_standAt (wpAny_bind (wpAny_mono h (fun it' s' h'=>wpAny_pure (And.intro rfl h')) fun _ _ x=>x)))))
    | (refine wpAny_bind (wpAny_rule ?_);show wpAny _ _ (standAt i2.pos >>= _) _ _ s;exact wpAny_bind (wpAny_standAt (wpAny_bind (wpAny_mono h (fun it' s' h'=>wpAny_pure (And.intro rfl h')) fun _ _ x=>x))))
theorem jx {elt t1 i1 t2 i2:Expr} {c1 c2:List Expr} {scope:Scope} {pos:Pos} {it acc:Value} {env:Env} (I:Nat->Shared->Prop)
 (hs:∀ x,foldedSetIterable i2 env x=pure x)
 (turn:∀ n s,I n s->wpAny (model prog w) A (pyNext it) (fun r s₁=>match r with
   | none=>R (.ok .next) s₁
   | some v=>wpAny (model prog w) A (letOwnedTupleGo t1 it v) (fun _ s₁'=>wpAny (model prog w) A (assign t1 env v) (fun _ s₂=>
    wpAny (model prog w) A (forIn c1 true fun c r=>if r=true then do let ok ← isTrue c env (eval c env);pure (ForInStep.yield ok) else pure (ForInStep.yield r)) (fun ok s₃=>
     if ok=true then wpAny (model prog w) A (eval i2 env) (fun x s₄=>wpAny (model prog w) A (pyIter x) (fun it2 s₅=>
      codeAny (model prog w) A (.compStart (.ListComp elt [⟨t1,i1,c1,0⟩,⟨t2,i2,c2,0⟩] scope pos) 1 it2 acc env) (fun r s₆=>r=.ok .next/\∃ m,m<n/\I m s₆) s₅) (fun _ _=>False) s₄) (fun _ _=>False) s₃
     else ∃ m,m<n/\I m s₃) (fun _ _=>False) s₂) (fun _ _=>False) s₁') (fun _ _=>False) s₁) (fun _ _=>False) s)
 (n:Nat) (h:I n s) :
 codeAny (model prog w) A (.compLoop (.ListComp elt [⟨t1,i1,c1,0⟩,⟨t2,i2,c2,0⟩] scope pos) 0 it acc env) R s:=by
 refine codeAny_loop rfl I (fun n s hI=>?_) n h
 show wpAny _ A ((compTurn (.ListComp elt [⟨t1,i1,c1,0⟩,⟨t2,i2,c2,0⟩] scope pos) 0 it acc env).onRaise (fun x=>do noteFrame x env;theTreesLotGoes x)) _ _ s
 refine wpAny_noted ?_
 rw [j8]
 refine wpAny_bind (wpAny_standAt (wpAny_bind (wpAny_mono (turn n s hI) (fun r s₁ h₁=>?_) fun _ _ h'=>h'.elim)))
 cases r with
 | none=>exact wpAny_pure h₁
 | some v=>
   refine wpAny_bind (wpAny_mono h₁ (fun _ s₁' h₁'=>?_) fun _ _ h'=>h'.elim)
   refine wpAny_bind (wpAny_mono h₁' (fun _ s₂ h₂=>wpAny_bind (wpAny_mono h₂ (fun ok s₃ h₃=>?_) fun _ _ h'=>h'.elim)) fun _ _ h'=>h'.elim)
   cases ok with
   | false=>exact wpAny_pure ⟨rfl,h₃⟩
   | true=>
     refine wpAny_bind (wpAny_mono h₃ (fun x s₄ h₄=>wpAny_bind (wpAny_standAt ?_)) fun _ _ h'=>h'.elim)
     refine wpAny_bind (wpAny_of_eq (t:=foldedSetIterable i2 env x) (hs x) ?_)
     refine wpAny_bind (wpAny_holding (wpAny_mono (t:=pyIter x) h₄ (fun it2 s₅ h₅=>?_) fun _ _ h'=>h'.elim))
     refine wpAny_bind (wpAny_runOwn (codeAny_mono h₅ (fun r s₆ h₆=>?_)))
     obtain ⟨rfl,h₆⟩:=h₆
     exact wpAny_pure ⟨rfl,h₆⟩
end
section
variable {X:Cx} {nv:List Str} {ix:List (Str×Nat)} {scope:Scope} {pins:List (Addr×Obj)} {σ:St} {H:Hp} {s:Shared} {elt t1 i1 t2 i2:Expr} {c1 c2:List Expr} {pos:Pos}
def CmpI (g:TG) (ti:TT) (te:TE) (σ:St) (J:It) (ys0:List V) (Fin:List V->Hp->Prop) (H1:Hp):Prop:=
 ∃ W:Nat->Nat->List V->Hp->Prop,(∃ m,W 0 m ys0 H1)/\∀ i m ys H,W i m ys H ->
   (J.stop i H/\Fin ys H)\/(J.go i H/\ys.length<sizeLine/\∃ N:List V->Hp->Prop,(∀ ys' H',N ys' H'->∃ m',m' < m/\W (i+1) m' ys' H') /\
     ∀ x H',J.yld i H x H'->g x σ H' fun σ2 H2=>ti σ2 H2 fun b H3=>if b=true then te σ2 H3 fun y H4=>N (ys++[y]) H4 else N ys H3)
def tm (nv:List Str) (ix:List (Str×Nat)) (g1:TG) (ti1:TT) (wi2:TI) (g2:TG) (ti2:TT) (te:TE) (σ:St) (J:It) (Fin:List V->Hp->Prop) (H1:Hp):Prop:=
 ∃ W:Nat->Nat->List V->Hp->Prop,(∃ m,W 0 m [] H1)/\∀ i m ys H,W i m ys H ->
   (J.stop i H/\Fin ys H)\/(J.go i H/\∃ N:List V->Hp->Prop,(∀ ys' H',N ys' H'->∃ m',m' < m/\W (i+1) m' ys' H') /\
     ∀ x H',J.yld i H x H'->g1 x (st0 nv ix σ) H' fun σ1 H2=>ti1 σ1 H2 fun b H3=>if b=true then wi2 σ1 H3 fun J2 H4=>CmpI g2 ti2 te σ1 J2 ys N H4 else N ys H3)
def KpT (g2:TG) (σ1:St):Prop:=∀ (v:V) (H:Hp) (Q:St->Hp->Prop),g2 v σ1 H Q->g2 v σ1 H fun σ2 H2=>Kp σ1 σ2/\Q σ2 H2
def KpG2 (nv:List Str) (g1 g2:TG):Prop:=∀ (fr:St) (v:V) (H:Hp) (Q:St->Hp->Prop),g1 v (nv.map (fun _=>none)++fr) H Q->g1 v (nv.map (fun _=>none)++fr) H fun σ1 H1=>(Kp (nv.map (fun _=>none)++fr) σ1/\KpT g2 σ1)/\Q σ1 H1
theorem lN {D:Addr} {J:It} {fp:List Addr} {it:Addr} {tn:Nat->Heap->Prop} {g:TG} {ti:TT} {te:TE} {N:List V->Hp->Prop} {pl:List (Addr×Obj)} {ys:List V} {its:List Value} {k:Nat}
 (hc:X.calm=true) (hp0:X.pn=[]) (I:Inv X ([(D,bV its k)]++pl) σ H s) (rv:Vals ys its) (hz:ys.length<=sizeLine) (T:Turn X.prog X.w X.K t2 J fp it tn) (st:tn 0 s.heap) (hf:∀ b∈fp,de X ([(D,bV its k)]++pl) H b)
 (hD1:D∈X.ex\/X.s₀.heap.objs.size<=D) (hD2:∀ x c,X.env.cells.lookup x=some c->c≠D) (hD3:∀ p∈pl,p.1≠D)
 (kg:KpT g σ) (hg:PG X t2 g) (hi:PIf X c2 ti) (he:PE X elt te) (hx:X.xe=fun _ _=>False) (q:CmpI g ti te σ J ys N H) :
 codeAny (model X.prog X.w) X.A (.compStart (.ListComp elt [⟨t1,i1,c1,0⟩,⟨t2,i2,c2,0⟩] scope pos) 1 (.ref it) (.ref D) X.env)
  (fun r s'=>r=.ok .next/\∃ H' ys' its' k',Inv X ([(D,bV its' k')]++pl) σ H' s'/\Vals ys' its'/\ys'.length<=sizeLine/\N ys' H') s:=by
 obtain ⟨W,⟨m0,w0⟩,turn⟩:=q
 have fpD:∀ b∈fp,b≠D:=fun b hb z=>by
  have:=(hf b hb).2.2.2.2.2 (D,bV its k) (by rw [hp0];simp)
  exact this z.symm
 have fpc:∀ {H':Hp} {its':List Value} {k':Nat},(∀ b∈fp,H' b=none)->∀ b∈fp,de X ([(D,bV its' k')]++pl) H' b:=fun {H' its' k'} hn b hb=>by
  obtain ⟨_,f1,f2,f3,f4,f5⟩:=hf b hb
  refine ⟨hn b hb,f1,f2,f3,f4,fun p hp z=>?_⟩
  rw [hp0,List.nil_append] at hp
  rcases zC1.mp hp with hp | hp
  · have e:p=(D,bV its' k'):=by simpa using hp
    subst e
    exact fpD b hb z.symm
  · exact f5 p (by rw [hp0,List.nil_append];exact zB0 _ hp) z
 have loop:codeAny (model X.prog X.w) X.A (.compLoop (.ListComp elt [⟨t1,i1,c1,0⟩,⟨t2,i2,c2,0⟩] scope pos) 1 (.ref it) (.ref D) X.env)
  (fun r s'=>r=.ok .next/\∃ H' ys' its' k',Inv X ([(D,bV its' k')]++pl) σ H' s'/\Vals ys' its'/\ys'.length<=sizeLine/\N ys' H') s:=by
  refine jy (fun n s'=>∃ i H' ys its k,Inv X ([(D,bV its k)]++pl) σ H' s'/\Vals ys its/\ys.length<=sizeLine/\tn i s'.heap/\(∀ b∈fp,H' b=none)/\W i n ys H')
   ?_ m0 ⟨0,H,ys,its,k,I,rv,hz,st,fun b hb=>(hf b hb).1,w0⟩
  rintro n s3 ⟨i,H3,ys,its,k,I3,rv,hz,st3,fr3,w3⟩
  rcases turn i n ys H3 w3 with ⟨stop,fin0⟩ | ⟨go,hlt',N',hN,step⟩
  · refine thn (T.done X rfl rfl rfl hc i _ s3 _ H3 _ I3 (fpc fr3) st3 stop) fun r s4 ⟨hr,I4⟩=>?_
    subst hr
    exact ⟨rfl,H3,ys,its,k,I4,rv,hz,fin0⟩
  · refine thn (T.item X rfl rfl rfl hc i _ s3 _ H3 _ I3 (fpc fr3) st3 go) fun r s4 ⟨u,hr,h4⟩=>?_
    subst hr
    refine thn h4 fun _ s5 ⟨x,H5,I5,r5,y5,st5,fr5⟩=>?_
    have I5':=I5.pinned (fpc fr5) (T.obj _ _ st5)
    have hg':=hg _ s5 _ H5 x u _ I5' r5 (kg _ _ _ (step x H5 y5))
    rw [hx] at hg'
    refine thn hg' fun _ s6 ⟨σ6,H6,I6,kp,q6⟩=>?_
    have hi':=hi _ s6 σ6 H6 _ I6 q6
    rw [hx] at hi'
    refine thn hi' fun b s7 ⟨H7,I7,q7⟩=>?_
    have again:∀ {s7:Shared} {H7:Hp} {ys' its':List _} {k':Nat},Inv X (([(D,bV its' k')]++pl)++bq fp s5.heap) σ6 H7 s7->Vals ys' its'->ys'.length<=sizeLine->N' ys' H7 ->
     ∃ m,m<n/\∃ i H' ys its k,Inv X ([(D,bV its k)]++pl) σ H' s7/\Vals ys its/\ys.length<=sizeLine/\tn i s7.heap/\(∀ b∈fp,H' b=none)/\W i m ys H':=fun {s7 H7 ys' its' k'} I8 rv' hz' n8=>by
     obtain ⟨m',hm,w8⟩:=hN _ _ n8
     have pn:=fun (b:Addr) (o:Obj) (hb:b∈fp) (e:s5.heap.get? b=some o)=>I8.pin (b,o) (zB0 _ (zB0 _ (bA hb e)))
     refine ⟨m',hm,i+1,H7,ys',its',k',(I8.unpinned).weak kp.1 kp.2,rv',hz',T.keep _ _ _ st5 fun b hb o e=>(pn b o hb e).1,fun b hb=>?_,w8⟩
     obtain ⟨o,e,d⟩:=T.obj _ _ st5 b hb
     exact (pn b o hb e).2.1
    cases b with
    | false=>
      rw [if_neg zC3] at q7 ⊢
      exact again I7 rv hz q7
    | true=>
      rw [if_pos rfl] at q7 ⊢
      have he':=he _ s7 σ6 H7 _ I7 q7
      rw [hx] at he'
      refine thn he' fun u8 s8 ⟨y,H8,I8,r8,q8⟩=>?_
      obtain ⟨p1,p2,p3,p4,p5⟩:=I8.pin (D,bV its k) (zB0 _ zA8)
      refine append_at (hsz:=by rw [zA7,← rv.length];exact zJ0 hlt') p1 fun h9 hs9 hD9=>?_
      have I9:Inv X (pl++bq fp s5.heap) σ6 H8 { s8 with heap:=h9 }:=by
       have Iu:Inv X (pl++bq fp s5.heap) σ6 H8 s8:=I8.pins_of fun p hp=>I8.pin p (zB0 _ (by rw [zB6];exact zB0 _ hp))
       refine Iu.turned (t':=s8.toks) (it:=D) (fun b o hb e=>(hs9.2 b hb).trans e) p2 p3 hD1 hD2 fun p hp z=>?_
       rw [hp0,List.nil_append] at hp
       rcases zC1.mp hp with hp | hp
       · exact hD3 p hp z
       · obtain ⟨hb,_⟩:=cD hp
         exact fpD _ hb z
      have I10:Inv X (([(D,bV (its++[u8]) (k+1))]++pl)++bq fp s5.heap) σ6 H8 { s8 with heap:=h9 }:=
       I9.pins_of fun p hp=>by
        rw [zB6] at hp
        rcases zC1.mp hp with hp | hp
        · have e:p=(D,bV (its++[u8]) (k+1)):=by simpa using hp
          subst e
          refine ⟨?_,p2,p3,p4,fun v z=>by cases z⟩
          rw [List.push_toArray] at hD9
          exact hD9
        · exact I9.pin p (zB0 _ hp)
      exact again I10 (rv.append (.cons r8 .nil)) (by rw [zA5,List.length_singleton];exact hlt') q8
 exact gC loop (T.self _ 0 _ _ _ st loop)
theorem l0 {J:It} {fp:List Addr} {it:Addr} {tn:Nat->Heap->Prop} {g1 g2:TG} {ti1 ti2:TT} {wi2:TI} {te:TE} {Fin:List V->Hp->Prop} {E:Value->Shared->Prop} {RR:Value->Addr->Result->Shared->Prop}
 (co:CompOk X nv ix scope) (hc:X.calm=true) (I:Inv X pins σ H s) (T:Turn X.prog X.w X.K t1 J fp it tn) (st:tn 0 s.heap) (hf:∀ b∈fp,de X pins H b)
 (kg:KpG2 nv g1 g2) (hg:∀ C s₀ H₀ fp,PG (aT X nv ix scope C s₀ H₀ fp) t1 g1) (hi:∀ C s₀ H₀ fp,PIf (aT X nv ix scope C s₀ H₀ fp) c1 ti1)
 (hw2:∀ C s₀ H₀ fp,PI (aT X nv ix scope C s₀ H₀ fp) t2 i2 wi2) (hg2:∀ C s₀ H₀ fp,PG (aT X nv ix scope C s₀ H₀ fp) t2 g2) (hi2:∀ C s₀ H₀ fp,PIf (aT X nv ix scope C s₀ H₀ fp) c2 ti2) (he:∀ C s₀ H₀ fp,PE (aT X nv ix scope C s₀ H₀ fp) elt te)
 (hs2:∀ C s₀ H₀ fp x,foldedSetIterable i2 (aT X nv ix scope C s₀ H₀ fp).env x=pure x)
 (q:tm nv ix g1 ti1 wi2 g2 ti2 te σ J Fin H)
 (fin:∀ D C s' H' ys,Inv X pins σ (upd H' D (.lst ys)) s'->H' D=none->Fin ys H'->(∃ m,s'.heap.Ns C m)->de X pins (upd H' D (.lst ys)) C->RR (.ref D) C (.ok .next) s') :
 wpAny (model X.prog X.w) X.A (newList []) (fun acc s₃=>wpAny (model X.prog X.w) X.A (newFunctionEnv scope X.env.globals (cU X.env scope.names []) [] X.env.qual none .none (some X.env)) (fun cenv s₄=>
  codeAny (model X.prog X.w) X.A (.compStart (.ListComp elt [⟨t1,i1,c1,0⟩,⟨t2,i2,c2,0⟩] scope pos) 0 (.ref it) acc { cenv with scope:=relabel scope X.env }) (RR acc cenv.locals) s₄) E s₃) E s:=by
 obtain ⟨W,⟨m0,w0⟩,turn⟩:=q
 refine wpAny_newObj_type (wpAny_newFunctionEnv co.nocell (by intro y hy;simp at hy) (fun h₁ hns₁ hsb₁=>?_) co.kind)
 dsimp only at hns₁ hsb₁ ⊢
 generalize hH2:s.heap.push { cls:=.type "list",dict:=none,data:=.seq ([]:List Value).toArray }=H2 at hns₁ hsb₁ ⊢
 have hC:H2.objs.size=s.heap.objs.size+1:=by rw [← hH2,Heap.size_push]
 rw [hC] at hns₁ hsb₁ ⊢
 have hDC:s.heap.objs.size≠s.heap.objs.size+1:=zB8 (zG1 _)
 have below:∀ b,b<s.heap.objs.size->b≠s.heap.objs.size+1/\b≠s.heap.objs.size:=fun b hb=>⟨zB8 (zH8 hb),zB8 hb⟩
 have old:∀ b o,s.heap.get? b=some o->h₁.get? b=some o:=fun b o e=>hsb₁.extBut b o (below b (Heap.lt_size e)).1 (Heap.get?_push_of_some _ (hH2▸Heap.get?_push_of_some _ e))
 have hacc:h₁.get? s.heap.objs.size=some (bV [] 0):=hsb₁.extBut _ _ hDC (Heap.get?_push_of_some _ (hH2▸Heap.get?_push_size _ rfl))
 have hlt:∀ b∈fp,b<s.heap.objs.size:=fun b hb=>by
  obtain ⟨o,e,_⟩:=T.obj 0 _ st b hb
  exact Heap.lt_size e
 have I₁:=fun tk=>gh (tk:=tk) co I hf hlt hns₁ old hacc
 have st₁:tn 0 h₁:=T.keep 0 _ _ st fun b _ o e=>old b o e
 have fpD:∀ {H':Hp},H' s.heap.objs.size=none->de X pins H' s.heap.objs.size:=fun hn=>I.fpOk (zA1 _) hn
 have loop:∀ tk:Nat,codeAny (model X.prog X.w) X.A (.compLoop (.ListComp elt [⟨t1,i1,c1,0⟩,⟨t2,i2,c2,0⟩] scope pos) 0 (.ref it) (.ref s.heap.objs.size) (compEnvC scope (cU X.env scope.names []) (s.heap.objs.size+1) X.env))
  (RR (.ref s.heap.objs.size) (s.heap.objs.size+1)) { s with heap:=h₁,toks:=tk }:=by
  intro tk
  refine jx (fun n s'=>∃ i H' ys its k,Inv (aT X nv ix scope (s.heap.objs.size+1) s H fp) [(s.heap.objs.size,bV its k)] (st0 nv ix σ) H' s'/\Vals ys its/\ys.length<=sizeLine/\tn i s'.heap/\(∀ b∈fp,H' b=none)/\W i n ys H')
   (hs2 (s.heap.objs.size+1) s H fp) ?_ m0 ⟨0,H,[],[],0,I₁ tk,.nil,zC6 _,st₁,fun b hb=>(hf b hb).1,w0⟩
  rintro n s3 ⟨i,H3,ys,its,k,I3,rv,hz,st3,fr3,w3⟩
  have fpc:∀ {H':Hp} {its:List Value} {k:Nat},(∀ b∈fp,H' b=none)->∀ b∈fp,de (aT X nv ix scope (s.heap.objs.size+1) s H fp) [(s.heap.objs.size,bV its k)] H' b:=fun {H' its k} hn b hb=>by
   refine ⟨hn b hb,(below b (hlt b hb)).1,fun hs=>?_,.inl hb,fun x c e=>(hf b hb).2.2.2.2.1 x c (co.look I.ok e),fun p hp z=>?_⟩
   · rcases zB2.mp (I.stkSub b hs) with e | h
     · exact (hf b hb).2.1 e
     · exact (hf b hb).2.2.1 h
   · have e:p=(s.heap.objs.size,bV its k):=by simpa [aT] using hp
     subst e
     exact (below b (hlt b hb)).2 z.symm
  have pD:=fun {ps:List (Addr×Obj)} {σ':St} {H':Hp} {s':Shared} (I':Inv (aT X nv ix scope (s.heap.objs.size+1) s H fp) ((s.heap.objs.size,bV its k)::ps) σ' H' s')=>
   I'.pin (s.heap.objs.size,bV its k) (zB0 _ zA8)
  rcases turn i n ys H3 w3 with ⟨stop,fin0⟩ | ⟨go,N,hN,step⟩
  · refine thn (T.done (aT X nv ix scope (s.heap.objs.size+1) s H fp) rfl rfl rfl hc i _ s3 _ H3 _ I3 (fpc fr3) st3 stop) fun r s4 ⟨hr,I4⟩=>?_
    subst hr
    obtain ⟨p1,p2,_⟩:=pD I4
    have I5:=(md I hf I4).track rv hz p1 p2 (fpD p2)
    obtain ⟨mC,hmC,_⟩:=I4.loc
    exact fin _ _ s4 H3 ys I5 p2 fin0 ⟨mC,hmC⟩ (I.fpOk (Nat.le_succ _) (by rw [ao (Ne.symm hDC)];exact I4.free))
  · refine thn (T.item (aT X nv ix scope (s.heap.objs.size+1) s H fp) rfl rfl rfl hc i _ s3 _ H3 _ I3 (fpc fr3) st3 go) fun r s4 ⟨u,hr,h4⟩=>?_
    subst hr
    refine thn h4 fun _ s5 ⟨x,H5,I5,r5,y5,st5,fr5⟩=>?_
    have I5':=I5.pinned (fpc fr5) (T.obj _ _ st5)
    refine thn (hg _ _ _ _ _ s5 _ H5 x u _ I5' r5 (kg _ _ _ _ (step x H5 y5))) fun _ s6 ⟨σ6,H6,I6,⟨kp,kt⟩,q6⟩=>?_
    refine thn (hi _ _ _ _ _ s6 σ6 H6 _ I6 q6) fun b s7 ⟨H7,I7,q7⟩=>?_
    have again:∀ {s7:Shared} {H7:Hp} {ys' its':List _} {k':Nat},Inv (aT X nv ix scope (s.heap.objs.size+1) s H fp) ([(s.heap.objs.size,bV its' k')]++bq fp s5.heap) σ6 H7 s7->Vals ys' its'->ys'.length<=sizeLine->N ys' H7 ->
     ∃ m,m<n/\∃ i H' ys its k,Inv (aT X nv ix scope (s.heap.objs.size+1) s H fp) [(s.heap.objs.size,bV its k)] (st0 nv ix σ) H' s7/\Vals ys its/\ys.length<=sizeLine/\tn i s7.heap/\(∀ b∈fp,H' b=none)/\W i m ys H':=fun {s7 H7 ys' its' k'} I8 rv' hz' n8=>by
     obtain ⟨m',hm,w8⟩:=hN _ _ n8
     have pn:=fun (b:Addr) (o:Obj) (hb:b∈fp) (e:s5.heap.get? b=some o)=>I8.pin (b,o) (zB0 _ (zB0 _ (bA hb e)))
     refine ⟨m',hm,i+1,H7,ys',its',k',(I8.unpinned).weak kp.1 kp.2,rv',hz',T.keep _ _ _ st5 fun b hb o e=>(pn b o hb e).1,fun b hb=>?_,w8⟩
     obtain ⟨o,e,d⟩:=T.obj _ _ st5 b hb
     exact (pn b o hb e).2.1
    cases b with
    | false=>
      rw [if_neg zC3] at q7 ⊢
      exact again I7 rv hz q7
    | true=>
      rw [if_pos rfl] at q7 ⊢
      refine thn (hw2 _ _ _ _ _ s7 σ6 H7 _ I7 q7) fun v8 s8 h8=>thn h8 fun itv s9 h9=>?_
      obtain ⟨it2,fp2,tn2,J2,H9,e9,I9,T2,st9,f9,q9⟩:=h9
      subst e9
      refine codeAny_mono (lN (X:=aT X nv ix scope (s.heap.objs.size+1) s H fp) (elt:=elt) (t1:=t1) (i1:=i1) (c1:=c1) (i2:=i2) hc rfl I9 rv hz T2 st9 f9 (.inr (zA1 _)) (fun x c e z=>?_) (fun p hp z=>?_) kt (hg2 _ _ _ _) (hi2 _ _ _ _) (he _ _ _ _) rfl q9) fun r s10 h10=>?_
      · obtain ⟨v,o,e1,_⟩:=I.cell x c (co.look I.ok e)
        exact absurd (Heap.lt_size e1) (by rw [z];exact zG8 _)
      · obtain ⟨hb,_⟩:=cD hp
        exact (below _ (hlt _ hb)).2 z
      · obtain ⟨rfl,H10,ys',its',k',I10,rv10,hz10,n10⟩:=h10
        exact ⟨rfl,again I10 rv10 hz10 n10⟩
 exact codeAny_compStart_list (loop _) (T.self _ 0 _ _ _ st₁ (loop _))
def pe (nv:List Str) (ix:List (Str×Nat)) (wi:TI) (g1:TG) (ti1:TT) (wi2:TI) (g2:TG) (ti2:TT) (te:TE):TE:=fun σ H Q=>wi σ H fun J H1=>tm nv ix g1 ti1 wi2 g2 ti2 te σ J (fun ys H2=>∀ D,H2 D=none->Q (.ref D) (upd H2 D (.lst ys))) H1
theorem pe_two {wi wi2:TI} {g1 g2:TG} {ti1 ti2:TT} {te:TE} (nv:List Str) (ix:List (Str×Nat)) (hc:X.calm=true) (co:CompOk X nv ix scope) (hit:PI X t1 i1 wi) (kg:KpG2 nv g1 g2) (hg:∀ C s₀ H₀ fp,PG (aT X nv ix scope C s₀ H₀ fp) t1 g1)
 (hi:∀ C s₀ H₀ fp,PIf (aT X nv ix scope C s₀ H₀ fp) c1 ti1) (hw2:∀ C s₀ H₀ fp,PI (aT X nv ix scope C s₀ H₀ fp) t2 i2 wi2) (hg2:∀ C s₀ H₀ fp,PG (aT X nv ix scope C s₀ H₀ fp) t2 g2) (hi2:∀ C s₀ H₀ fp,PIf (aT X nv ix scope C s₀ H₀ fp) c2 ti2) (he:∀ C s₀ H₀ fp,PE (aT X nv ix scope C s₀ H₀ fp) elt te)
 (hs:∀ x,foldedSetIterable i1 X.env x=pure x:=by intro _;rfl) (hs2:∀ C s₀ H₀ fp x,foldedSetIterable i2 (aT X nv ix scope C s₀ H₀ fp).env x=pure x:=by intro _ _ _ _ _;rfl):PE X (.ListComp elt [⟨t1,i1,c1,0⟩,⟨t2,i2,c2,0⟩] scope pos) (pe nv ix wi g1 ti1 wi2 g2 ti2 te):=by
 intro pins s σ H Q I h
 rw [eval_ListComp]
 refine wpAny_comprehension_free (use:=none) rfl hs (cV (co.cells I.ok)) co.kind co.names (thn (hit pins s σ H _ I h) fun v s1 h1=>thn h1 fun itv s2 h2=>?_)
 obtain ⟨it,fp,tn,J,H2,e,I2,T,st2,f2,q⟩:=h2
 subst e
 refine l0 co hc I2 T st2 f2 kg hg hi hw2 hg2 hi2 he hs2 q fun D C s' H' ys I' hD fin ⟨m,hm⟩ hC=>?_
 obtain ⟨c0,c1,c2,c3,c4,c5⟩:=hC
 exact ⟨m,hm,fun h' hs'=>⟨.ref D,_,I'.turned (t':=s'.toks) (fun b o hb e=>(hs'.2 b hb).trans e) c0 c1 c3 c4 c5,rfl,fin D hD⟩⟩
theorem ze_two {wi wi2:TI} {g1 g2:TG} {ti1 ti2:TT} {te:TE} (nv:List Str) (ix:List (Str×Nat)) (hc:X.calm=true) (co:CompOk X nv ix scope) (hit:ZI X t1 i1 wi) (kg:KpG2 nv g1 g2) (hg:∀ C s₀ H₀ fp,ZG (aT X nv ix scope C s₀ H₀ fp) t1 g1)
 (hi:∀ C s₀ H₀ fp,ZIf (aT X nv ix scope C s₀ H₀ fp) c1 ti1) (hw2:∀ C s₀ H₀ fp,ZI (aT X nv ix scope C s₀ H₀ fp) t2 i2 wi2) (hg2:∀ C s₀ H₀ fp,ZG (aT X nv ix scope C s₀ H₀ fp) t2 g2) (hi2:∀ C s₀ H₀ fp,ZIf (aT X nv ix scope C s₀ H₀ fp) c2 ti2) (he:∀ C s₀ H₀ fp,ZE (aT X nv ix scope C s₀ H₀ fp) elt te)
 (hs:∀ x,foldedSetIterable i1 X.env x=pure x:=by intro _;rfl) (hs2:∀ C s₀ H₀ fp x,foldedSetIterable i2 (aT X nv ix scope C s₀ H₀ fp).env x=pure x:=by intro _ _ _ _ _;rfl):ZE X (.ListComp elt [⟨t1,i1,c1,0⟩,⟨t2,i2,c2,0⟩] scope pos) (pe nv ix wi g1 ti1 wi2 g2 ti2 te):=by with_unfolding_all exact pe_two nv ix hc co hit kg hg hi hw2 hg2 hi2 he hs hs2
end
section
variable {κ:Type} [DecidableEq κ]
def ci (kvs:List (κ×V)) (k:κ):Option V:=(kvs.find? fun kv=>decide (kv.1=k)).map (·.2)
def dU (kvs:List (κ×V)) (k:κ) (v:V):List (κ×V):=
 if (kvs.any fun kv=>decide (kv.1=k))=true then kvs.map (fun kv=>if kv.1=k then (kv.1,v) else kv) else kvs++[(k,v)]
theorem aU {p:κ×V} {r:List (κ×V)} {k:κ} (e:p.1=k):ci (p::r) k=some p.2:=by simp [ci,List.find?_cons,e]
theorem aV {p:κ×V} {r:List (κ×V)} {k:κ} (e:¬ p.1=k):ci (p::r) k=ci r k:=by simp [ci,List.find?_cons,e]
theorem bZ (k:κ):∀ kvs:List (κ×V),(kvs.any fun kv=>decide (kv.1=k))=(ci kvs k).isSome
 | []=>rfl
 | p::r=>by
   rw [List.any_cons]
   by_cases e:p.1=k
   · simp only [aU e,decide_eq_true e,Bool.true_or,Option.isSome_some]
   · rw [aV e,decide_eq_false e,Bool.false_or];exact bZ k r
theorem ii (k j:κ) (y:V):∀ kvs:List (κ×V),ci (kvs.map fun kv=>if kv.1=k then (kv.1,y) else kv) j=(ci kvs j).map fun x=>if j=k then y else x
 | []=>rfl
 | p::r=>by
   have ih:=ii k j y r
   rw [zA9]
   by_cases h:p.1=k
   · rw [if_pos h]
     by_cases e:p.1=j
     · rw [aU (p:=(p.1,y)) e,aU e,Option.map_some,if_pos (e.symm.trans h)]
     · rw [aV (p:=(p.1,y)) e,aV e,ih]
   · rw [if_neg h]
     by_cases e:p.1=j
     · rw [aU (p:=p) e,aU e,Option.map_some,if_neg (fun z=>h (e.trans z))]
     · rw [aV (p:=p) e,aV e,ih]
theorem fD (k j:κ) (y:V):∀ kvs:List (κ×V),ci kvs k=none->ci (kvs++[(k,y)]) j=if j=k then some y else ci kvs j
 | [],_=>by
   by_cases e:k=j
   · rw [if_pos e.symm];exact aU (p:=(k,y)) e
   · rw [if_neg (fun z=>e z.symm)];exact aV (p:=(k,y)) e
 | p::r,hn=>by
   rw [zH5]
   have hk:¬ p.1=k:=fun z=>by rw [aU z] at hn;cases hn
   rw [aV hk] at hn
   have ih:=fD k j y r hn
   by_cases e:p.1=j
   · rw [aU e,aU e,if_neg (fun z=>hk (e.trans z))]
   · rw [aV e,aV e,ih]
theorem ig (kvs:List (κ×V)) (k j:κ) (y:V):ci (dU kvs k y) j=if j=k then some y else ci kvs j:=by
 unfold dU
 by_cases a:(kvs.any fun kv=>decide (kv.1=k))=true
 · rw [if_pos a,ii]
   rw [bZ] at a
   by_cases e:j=k
   · obtain ⟨x,hx⟩:=Option.isSome_iff_exists.mp a
     rw [if_pos e,e,hx,Option.map_some,if_pos rfl]
   · rw [if_neg e]
     cases ci kvs j with
     | none=>rfl
     | some x=>rw [Option.map_some,if_neg e]
 · rw [if_neg a]
   refine fD k j y kvs ?_
   rw [bZ] at a
   cases q:ci kvs k with
   | none=>rfl
   | some x=>rw [q] at a;exact (a rfl).elim
theorem cq (kvs:List (κ×V)) (k:κ) (v:V):(dU kvs k v).length<=kvs.length+1:=by
 unfold dU
 split
 · rw [zA0];lia
 · rw [zA5,zB9,List.length_nil];lia
theorem nW {kvs:List (κ×V)} {k:κ} (v:V) (h:ci kvs k=none):dU kvs k v=kvs++[(k,v)]:=by
 unfold dU
 rw [bZ,h]
 exact if_neg (by decide)
theorem RelO.isSome_eq {o:Option V} {u:Option Value} (r:RelO o u):o.isSome=u.isSome:=by
 cases o with
 | none=>cases u with
   | none=>rfl
   | some _=>exact (show False from r).elim
 | some _=>cases u with
   | none=>exact (show False from r).elim
   | some _=>rfl
theorem KV.val {kvs:List (κ×V)} {vs:List (κ×Value)} (r:KV kvs vs) (k:κ):RelO (ci kvs k) (valueAt vs k):=by
 unfold KV at r
 induction r with
 | nil=>exact True.intro
 | @cons p q ps qs h t ih=>
   obtain ⟨h1,h2⟩:=h
   by_cases e:p.1=k
   · have e':q.1=k:=h1.symm.trans e
     have b:valueAt (q::qs) k=some q.2:=by simp [valueAt,List.find?_cons,e']
     rw [aU e,b];exact h2
   · have e':¬ q.1=k:=fun z=>e (h1.trans z)
     have b:valueAt (q::qs) k=valueAt qs k:=by simp [valueAt,List.find?_cons,e']
     rw [aV e,b];exact ih
theorem KV.any {kvs:List (κ×V)} {vs:List (κ×Value)} (r:KV kvs vs) (k:κ):(kvs.any fun kv=>decide (kv.1=k))=vs.any fun kv=>decide (kv.1=k):=by
 unfold KV at r
 induction r with
 | nil=>rfl
 | cons h t ih=>rw [List.any_cons,List.any_cons,ih,h.1]
theorem KV.repl {kvs:List (κ×V)} {vs:List (κ×Value)} (r:KV kvs vs) (k:κ) {y:V} {u:Value} (ry:RelV y u) :
 KV (kvs.map fun kv=>if kv.1=k then (kv.1,y) else kv) (vs.map fun kv=>if kv.1=k then (kv.1,u) else kv):=by
 unfold KV at r ⊢
 induction r with
 | nil=>exact .nil
 | @cons p q ps qs h t ih=>
   rw [zA9,zA9]
   refine .cons ?_ ih
   obtain ⟨h1,h2⟩:=h
   by_cases e:p.1=k
   · rw [if_pos e,if_pos (h1.symm.trans e)];exact ⟨h1,ry⟩
   · rw [if_neg e,if_neg (fun z=>e (h1.trans z))];exact ⟨h1,h2⟩
theorem KV.put {kvs:List (κ×V)} {vs:List (κ×Value)} (r:KV kvs vs) (k:κ) {y:V} {u:Value} (ry:RelV y u):KV (dU kvs k y) (stored vs k u):=by
 unfold dU stored
 rw [r.any k]
 by_cases e:(vs.any fun kv=>decide (kv.1=k))=true
 · rw [if_pos e,if_pos e];exact r.repl k ry
 · rw [if_neg e,if_neg e];exact Paired.snoc r ⟨rfl,ry⟩
theorem KV.length {kvs:List (κ×V)} {vs:List (κ×Value)} (r:KV kvs vs):kvs.length=vs.length:=Paired.length r
end
theorem oD {P:Program} {w:World} {k:Key} {u:Value} (r:RelV (kV k) u):(aX P w).is k u=true:=by
 cases k with
 | inl i=>obtain ⟨t,e⟩:=(show ∃ t,u=Value.int i t from r);subst e;exact gS P w i t
 | inr x=>obtain ⟨t,e⟩:=(show ∃ t,u=Value.str x t from r);subst e;exact gR P w x t
theorem fX {P:Program} {w:World}:∀ {ks:List Key} {us:List Value},Vals (ks.map kV) us->ItemsAre (aX P w) ks us
 | [],_,r=>by rw [zF1] at r;cases r;exact .nil
 | k::ks,_,r=>by
   rw [zA9] at r
   cases r with
   | cons h t=>exact .cons (oD h) (fX t)
abbrev KT (H:Hp):List (List Key×V)->List (List Key×Addr×Value)->Prop:=Paired fun p q=>p.1=q.1/\H q.2.1=some (.tup (p.1.map kV))/\RelV p.2 q.2.2
theorem KT.val {H:Hp} {kvs:List (List Key×V)} {xs:List (List Key×Addr×Value)} (r:KT H kvs xs) (k:List Key):RelO (ci kvs k) ((atKey xs k).map (·.2)):=by
 induction r with
 | nil=>exact True.intro
 | @cons p q ps qs h t ih=>
   obtain ⟨h1,_,h2⟩:=h
   by_cases e:p.1=k
   · have e':q.1=k:=h1.symm.trans e
     have b:atKey (q::qs) k=some q.2:=by simp [atKey,List.find?_cons,e']
     rw [aU e,b];exact h2
   · have e':¬ q.1=k:=fun z=>e (h1.trans z)
     have b:atKey (q::qs) k=atKey qs k:=by simp [atKey,List.find?_cons,e']
     rw [aV e,b];exact ih
theorem KT.repl {H:Hp} {kvs:List (List Key×V)} {xs:List (List Key×Addr×Value)} (r:KT H kvs xs) (k:List Key) {y:V} {u:Value} (ry:RelV y u) :
 KT H (kvs.map fun kv=>if kv.1=k then (kv.1,y) else kv) (xs.map (putAt k u)):=by
 induction r with
 | nil=>exact .nil
 | @cons p q ps qs h t ih=>
   rw [zA9,zA9]
   refine .cons ?_ ih
   obtain ⟨h1,h2,h3⟩:=h
   unfold putAt
   by_cases e:p.1=k
   · rw [if_pos e,if_pos (h1.symm.trans e)];exact ⟨h1,h2,ry⟩
   · rw [if_neg e,if_neg (fun z=>e (h1.trans z))];exact ⟨h1,h2,h3⟩
theorem KT.put {H:Hp} {kvs:List (List Key×V)} {xs:List (List Key×Addr×Value)} (r:KT H kvs xs) (k:List Key) {b:Addr} {y:V} {u:Value} (hb:H b=some (.tup (k.map kV))) (ry:RelV y u) :
 KT H (dU kvs k y) (storedH xs k b u):=by
 have e:(kvs.any fun kv=>decide (kv.1=k))=(atKey xs k).isSome:=by
  rw [bZ,(r.val k).isSome_eq,Option.isSome_map]
 unfold dU storedH
 rw [e]
 by_cases q:(atKey xs k).isSome=true
 · rw [if_pos q,if_pos q];exact r.repl k ry
 · rw [if_neg q,if_neg q];exact Paired.snoc r ⟨rfl,hb,ry⟩
theorem KT.keeps {H H':Hp} {kvs:List (List Key×V)} {xs:List (List Key×Addr×Value)} (r:KT H kvs xs) (ht:∀ b ys,H b=some (.tup ys)->H' b=some (.tup ys)):KT H' kvs xs:=
 Paired.mapP r fun _ _ z=>⟨z.1,ht _ _ z.2.1,z.2.2⟩
section
variable {P:Program} {w:World} {H:Hp} {h:Heap} {a:Addr}
theorem rd_of {u:HO} (ok:HOk P w H h) (e:Rd H a u):ObjOk P w H h a u:=e.ok ok
theorem sJ {kvs:List (Key×V)} (ok:HOk P w H h) (e:Rd H a (.dK kvs)):kvs.length<=sizeLine/\(a == sysModules)=false/\∃ vs,KV kvs vs/\h.DictOf (aX P w) a vs:=
 show ObjOk P w H h a (.dK kvs) from rd_of ok e
theorem dk_of {kvs:List (Key×V)} (ok:HOk P w H h) (e:H a=some (.dK kvs)):kvs.length<=sizeLine/\(a == sysModules)=false/\∃ vs,KV kvs vs/\h.DictOf (aX P w) a vs:=sJ ok (.inl e)
theorem fV {ks:List Key} (ok:HOk P w H h) (e:H a=some (.tup (ks.map kV))):(tupleKind (aX P w)).is h ks a:=by
 obtain ⟨_,its,r,pT⟩:=(show ObjOk P w H h a (.tup (ks.map kV)) from ok a _ e)
 obtain ⟨o,h1,h2,n,h3⟩:=pT.tup
 exact ⟨o,its.toArray,n,h1,h2,h3,by simpa using fX r⟩
theorem sH {kvs:List (List Key×V)} (ok:HOk P w H h) (e:Rd H a (.dT kvs)):kvs.length<=sizeLine/\(a == sysModules)=false /\
 ∃ xs,KT H kvs xs/\h.DictOfH (tupleKind (aX P w)) a xs:=by
 obtain ⟨z,y,xs,r,o,es,ep,h1,h2,h3,h4,h5⟩:=(show ObjOk P w H h a (.dT kvs) from rd_of ok e)
 refine ⟨z,y,xs,r,o,es,ep,h1,h2,h3,h4,fun x hx=>?_,h5⟩
 have all:∀ {l:List (List Key×V)} {m:List (List Key×Addr×Value)},KT H l m->∀ x∈m,(tupleKind (aX P w)).is h x.1 x.2.1:=by
  intro l m q
  induction q with
  | nil=>intro x hx;exact nomatch hx
  | @cons p q ps qs hq t ih=>
    intro x hx
    rcases zB2.mp hx with e | hx
    · subst e
      exact fV ok (by rw [← hq.1];exact hq.2.1)
    · exact ih x hx
 exact all r x hx
theorem dt_of {kvs:List (List Key×V)} (ok:HOk P w H h) (e:H a=some (.dT kvs)):kvs.length<=sizeLine/\(a == sysModules)=false /\
 ∃ xs,KT H kvs xs/\h.DictOfH (tupleKind (aX P w)) a xs:=sH ok (.inl e)
end
def DGet (H:Hp) (a:Addr) (y:V) (r:Option V):Prop:=
 (∃ kvs k,Rd H a (.dK kvs)/\y=kV k/\r=ci kvs k)\/∃ kvs k b,Rd H a (.dT kvs)/\y=.ref b/\H b=some (.tup (k.map kV))/\r=ci kvs k
def DPut (H:Hp) (a:Addr) (y v:V) (H':Hp):Prop:=
 (∃ kvs k,H a=some (.dK kvs)/\y=kV k/\kvs.length<sizeLine/\H'=upd H a (.dK (dU kvs k v))) \/
 ∃ kvs k b,H a=some (.dT kvs)/\y=.ref b/\H b=some (.tup (k.map kV))/\kvs.length<sizeLine/\H'=upd H a (.dT (dU kvs k v))
theorem DPut.t {H:Hp} {a b:Addr} {kvs:List (List Key×V)} {k:List Key} {v:V} (e:H a=some (.dT kvs)) (eb:H b=some (.tup (k.map kV))) (hl:kvs.length<sizeLine) :
 DPut H a (.ref b) v (upd H a (.dT (dU kvs k v))):=.inr ⟨kvs,k,b,e,rfl,eb,hl,rfl⟩
section
variable {X:Cx} {pins:List (Addr×Obj)} {σ:St} {H:Hp} {s:Shared} {a:Addr} {y v:V} {u r:Value} {o:Option V} {A:Around} {E:Value->Shared->Prop}
theorem d_in {Q:Value->Shared->Prop} (hu:A.units+1<cLine) (I:Inv X pins σ H s) (g:DGet H a y o) (ry:RelV y u) (h:∀ s',Inv X pins σ H s'->Q (.bool o.isSome) s') :
 wpAny (model X.prog X.w) A (compareOp .In u (.ref a)) Q E s:=by
 rcases g with ⟨kvs,k,e,ey,l⟩ | ⟨kvs,k,b,e,ey,eb,l⟩
 · subst ey
   obtain ⟨z,hd,vs,rel,dd⟩:=sJ I.hok e
   refine wpAny_in_of (oD ry) hd dd.mapOf ?_
   rw [← (rel.val k).isSome_eq,← l]
   exact h _ (I.tok _)
 · subst ey
   cases (show u=Value.ref b from ry)
   obtain ⟨z,hd,xs,rel,dd⟩:=sH I.hok e
   refine wpAny_in_heap (tupleKind_room_in1 hu) (fV I.hok eb) hd dd ?_
   have q:=(rel.val k).isSome_eq
   rw [Option.isSome_map] at q
   rw [← q,← l]
   exact h _ (I.tok _)
theorem sK {Q:Value->Shared->Prop} (hu:A.units+1<cLine) (I:Inv X pins σ H s) (g:DGet H a y o) (ry:RelV y u) (h:∀ s',Inv X pins σ H s'->Q (.bool (!o.isSome)) s') :
 wpAny (model X.prog X.w) A (compareOp .NotIn u (.ref a)) Q E s:=by
 rcases g with ⟨kvs,k,e,ey,l⟩ | ⟨kvs,k,b,e,ey,eb,l⟩
 · subst ey
   obtain ⟨z,hd,vs,rel,dd⟩:=sJ I.hok e
   refine wpAny_notIn_of (oD ry) hd dd.mapOf ?_
   rw [← (rel.val k).isSome_eq,← l]
   exact h _ (I.tok _)
 · subst ey
   cases (show u=Value.ref b from ry)
   obtain ⟨z,hd,xs,rel,dd⟩:=sH I.hok e
   refine wpAny_notIn_heap (tupleKind_room_in1 hu) (fV I.hok eb) hd dd ?_
   have q:=(rel.val k).isSome_eq
   rw [Option.isSome_map] at q
   rw [← q,← l]
   exact h _ (I.tok _)
theorem lX {h':Heap} {t':Nat} {ob:HO} (I:Inv X pins σ H s) (mu:Mut (H a)) (hs:Heap.SameBut a s.heap h') (he:∃ q,h'.get? a=some q) (new:ObjOk X.prog X.w (upd H a ob) h' a ob) :
 Inv X pins σ (upd H a ob) { s with heap:=h',toks:=t' }:=
 I.write (x:=a) (e:=a) mu (.inl rfl) (fun b q hb z=>(hs.2 b hb).trans z) he new
theorem dk_new {P:Program} {w:World} {H':Hp} {h':Heap} {kvs:List (Key×V)} {vs:List (Key×Value)} (z:kvs.length<=sizeLine) (hd:(a == sysModules)=false) (rel:KV kvs vs) (dd:h'.DictOf (aX P w) a vs) :
 ObjOk P w H' h' a (.dK kvs):=⟨z,hd,vs,rel,dd⟩
theorem lY {H':Hp} {Q:Unit->Shared->Prop} (hu:A.units+1<cLine) (I:Inv X pins σ H s) (g:DPut H a y v H') (ry:RelV y u) (rv:RelV v r) (h:∀ s',Inv X pins σ H' s'->Q () s') :
 wpAny (model X.prog X.w) A (setItem (.ref a) u r) Q E s:=by
 rcases g with ⟨kvs,k,e,ey,l,eH⟩ | ⟨kvs,k,b,e,ey,eb,l,eH⟩
 · subst ey eH
   obtain ⟨z,hd,vs,rel,dd⟩:=dk_of I.hok e
   have hz:vs.length<=sizeLine:=by rw [← rel.length];exact z
   have hl:(dU kvs k v).length<=sizeLine:=by have:=cq kvs k v;lia
   refine wpAny_setItem_pairs (hsz:=hz) (oD ry) dd fun h' dd' hs=>h _ ?_
   have he:∃ q,h'.get? a=some q:=let ⟨q,_,_,hq,_⟩:=dd';⟨q,hq⟩
   exact lX I (by rw [e];exact True.intro) hs he (dk_new hl hd (rel.put k rv) dd')
 · subst ey eH
   cases (show u=Value.ref b from ry)
   obtain ⟨z,hd,xs,rel,dd⟩:=dt_of I.hok e
   have hz:xs.length<=sizeLine:=by rw [← Paired.length rel];exact z
   have hl:(dU kvs k v).length<=sizeLine:=by have:=cq kvs k v;lia
   refine wpAny_setItem_heap (hsz:=hz) (tupleKind_room_in1 hu) (fV I.hok eb) dd fun h' dd' hs=>h _ ?_
   obtain ⟨q,es,ep,hq,h2,h3,h4,_,h5⟩:=dd'
   refine lX I (by rw [e];exact True.intro) hs ⟨q,hq⟩ ⟨hl,hd,_,(rel.put k eb rv).keeps fun c ys ec=>?_,q,es,ep,hq,h2,h3,h4,h5⟩
   rw [ao (li ec e (fun z=>nomatch z))]
   exact ec
end
def NoSl (i:Expr):Prop:=∀ ov iv,subscripted i false ov iv=operate [ov,iv] (getItem ov iv)
theorem qx {prog:Program} {w:World} {A:Around} {E:Value->Shared->Prop} {s:Shared} {env:Env} {value slice:Expr} {pos:Pos} {T id:String} {Q:Value->Shared->Prop}
 (hl:typeLookup (.type T) "__getitem__" = pure (some (.builtin id))) (hs:NoSl slice)
 (h:wpAny (model prog w) A (eval value env) (fun o s₁=>wpAny (model prog w) A (eval slice env) (fun i s₂=>s₂.TypeIs o T/\wpAny (model prog w) A (getItem o i) Q E s₂) E s₁) E s) :
 wpAny (model prog w) A (eval (.Subscript value slice pos) env) Q E s:=by
 refine Subscript_ (wpAny_mono h (fun o s₁ h₁=>wpAny_mono h₁ (fun i s₂ h₂=>?_) fun _ _ x=>x) fun _ _ x=>x)
 obtain ⟨hT,h₂⟩:=h₂
 unfold subscriptTail
 refine wpAny_bind ?_
 rw [getitemInPython_of_ne hT.not_modules]
 refine wpAny_bind (wpAny_specialOf hT hl ?_)
 have fin:wpAny (model prog w) A (subscripted slice false o i) (fun r s₃=>wpAny (model prog w) A (letTemporaryGo value o r >>= fun _=>pure r) Q E s₃) E s₂:=by
  rw [hs o i]
  exact wpAny_operating (wpAny_mono h₂ (fun r s₃ h₃=>wpAny_bind (wpAny_letTemporaryGo (wpAny_pure h₃))) fun _ _ x=>x)
 first
  | exact wpAny_pure (wpAny_bind fin)
  | exact wpAny_bind (wpAny_pure (wpAny_bind fin))
  | exact wpAny_bind fin
def tDIn (ty td:TE):TE:=fun σ H Q=>ty σ H fun y H1=>td σ H1 fun x H2=>∃ a o,x=.ref a/\DGet H2 a y o/\Q (.bl o.isSome) H2
def kh (ty td:TE):TE:=fun σ H Q=>ty σ H fun y H1=>td σ H1 fun x H2=>∃ a o,x=.ref a/\DGet H2 a y o/\Q (.bl (!o.isSome)) H2
def sDPut (td ty tv:TE):TS:=fun D σ H=>tv σ H fun v H1=>td σ H1 fun x H2=>ty σ H2 fun y H3=>∃ a H4,x=.ref a/\DPut H3 a y v H4/\D.nx σ H4
section
variable {X:Cx} {o i e value:Expr} {pos pos' tpos:Pos} {td ty tv:TE}
theorem pc_din (hu:X.A.units+1<cLine) (hi:PE X i ty) (ho:PE X o td):PC X .In i o (tDIn ty td):=by
 intro pins s σ H Q I h
 refine thn (hi pins s σ H _ I h) fun iv s1 ⟨y,H1,I1,ry,q1⟩=>thn (ho pins s1 σ H1 _ I1 q1) fun u s2 ⟨x,H2,I2,rx,a,ov,ex,g,q2⟩=>?_
 subst ex
 obtain rfl:u=Value.ref a:=rx
 exact d_in hu I2 g ry fun s3 I3=>⟨.bl ov.isSome,H2,I3,rfl,q2⟩
theorem zc_din (hu:X.A.units+1<cLine) (hi:ZE X i ty) (ho:ZE X o td):ZC X .In i o (tDIn ty td):=by with_unfolding_all exact pc_din hu hi ho
theorem kZ (hu:X.A.units+1<cLine) (hi:PE X i ty) (ho:PE X o td):PC X .NotIn i o (kh ty td):=by
 intro pins s σ H Q I h
 refine thn (hi pins s σ H _ I h) fun iv s1 ⟨y,H1,I1,ry,q1⟩=>thn (ho pins s1 σ H1 _ I1 q1) fun u s2 ⟨x,H2,I2,rx,a,ov,ex,g,q2⟩=>?_
 subst ex
 obtain rfl:u=Value.ref a:=rx
 exact sK hu I2 g ry fun s3 I3=>⟨.bl (!ov.isSome),H2,I3,rfl,q2⟩
theorem fC (hu:X.A.units+1<cLine) (hi:ZE X i ty) (ho:ZE X o td):ZC X .NotIn i o (kh ty td):=by with_unfolding_all exact kZ hu hi ho
theorem rp (hu:X.A.units+1<cLine) (ho:PE X o td) (hi:PE X i ty) (hv:PE X value tv) (hs:swapsWith value (some (.Subscript o i pos')) pos.line X.env=pure false) :
 PS X (.Assign [.Subscript o i pos'] value pos) (sDPut td ty tv):=by
 intro pins s σ H D I h
 refine wpAny_Assign_Subscript (thn (hv pins s σ H _ I h) fun r s1 ⟨v,H1,I1,rv,q1⟩=>thn (ho pins s1 σ H1 _ I1 q1) fun u s2 ⟨x,H2,I2,rx,q2⟩=>thn (hi pins s2 σ H2 _ I2 q2) fun iv s3 ⟨y,H3,I3,ry,a,H4,ex,g,q3⟩=>?_) hs
 subst ex
 obtain rfl:u=Value.ref a:=rx
 exact lY hu I3 g ry rv fun s4 I4=>⟨σ,H4,I4,q3⟩
theorem qa (hu:X.A.units+1<cLine) (ho:ZE X o td) (hi:ZE X i ty) (hv:ZE X value tv) (hs:swapsWith value (some (.Subscript o i pos')) pos.line X.env=pure false) :
 ZS X (.Assign [.Subscript o i pos'] value pos) (sDPut td ty tv):=by with_unfolding_all exact rp hu ho hi hv hs
end
theorem oP {P:Program} {w:World} {H:Hp} (h:Heap) (hb:sysModules<h.objs.size):ObjOk P w H (h.push { cls:=.type "dict",data:=.dict #[] }) h.objs.size (.dT []):=
 ⟨zC6 _,beq_eq_false_iff_ne.mpr (Ne.symm (zB8 hb)),[],.nil,_,#[],0,Heap.get?_push_size _ rfl,⟨rfl,rfl,rfl⟩,rfl,rfl,List.nodup_nil⟩
def pd:TE:=fun _ H Q=>∀ p,H p=none->Q (.ref p) (upd H p (.dT []))
section
variable {X:Cx} {pos:Pos}
theorem oa:PE X (.Dict [] [] pos) pd:=fun pins s σ H Q I h=>
 wpAny_Dict_empty ⟨.ref s.heap.objs.size,_,I.laid (a:=s.heap.objs.size) (o:=.dT []) (t':=s.toks) (fun _ _ q=>Heap.get?_push_of_some _ q) (zA1 _) (oP s.heap I.big),rfl,h _ (I.hok.fresh (zA1 _))⟩
end
end L2
namespace PySem
open Sem (wp)
theorem lG:typeLookup (.type "list") "keys" = pure none:=by rw [typeLookup_type,builtinLookup_eq_fast];kernel_rfl
theorem lF {prog:Program} {w:World} {A:Around} {E:Value->Shared->Prop} {s:Shared} {a:Addr} {xs:Array Value} {k:Nat} {sl:Array (Option Value)} {Q:Option Value->Shared->Prop}
 (hx:s.heap.get? a=some { cls:=.type "list",dict:=none,data:=.seq xs k,slots:=sl }) (hA:A.handled=none)
 (h:∀ h' tk,(∀ b o,s.heap.get? b=some o->h'.get? b=some o)->Q none { s with heap:=h',toks:=tk }) :
 wpAny (model prog w) A (getAttr? (.ref a) "keys") Q E s:=by
 obtain ⟨hp,g,d,tk,os⟩:=s
 have hT:∀ tk',(⟨hp,g,d,tk',os⟩:Shared).TypeIs (.ref a) "list":=fun _=>⟨_,hx,rfl⟩
 have f1:=sub_AttributeError
 have f3:=F.slot_list_getattribute.lookup
 have f4:=F.slot_list_getattribute.bind (.ref a)
 have f5:=am_list_getattr_none
 have hmiss:=lG
 have hname:(["__module__","__name__","__qualname__","__doc__","__annotations__"]:List Str).contains "keys" = false:=by decide +kernel
 have hsz:("keys" : Str).length+100<=sizeLine:=by rw [sizeLine_eq];decide +kernel
 unfold getAttr? getAttrBy? getAttrBy
 repeat (any_goals (first | assumption | exact hT _ | ((with_reducible show wpAny _ _ (call (Value.builtin "list.__getattribute__") _ _) _ _ _);refine call_meets F.slot_list_getattribute (hT _) am_entry_list_getattribute (F.args_list_getattribute_2 _ _) (meets_getattribute_miss_list a xs k sl "keys" _ hmiss hname hsz) ⟨hx,hA,fun h' tk' e hx'=>?_⟩) | wp_step))
 obtain ⟨t',u',he⟩:=hx'.there
 show wpAny _ _ (getattributeRaised _ _ _ _ _ _ _) _ _ _
 unfold getattributeRaised
 repeat (any_goals (first | assumption | wp_step))
 exact h _ _ hx'.keeps
theorem cB:plainId "dict.update.loop" = true:=by decide +kernel
theorem gf:entryFor table "dict.update.loop" = some Builtin.«dict.update.loop»:=entryFor_of_tree (by kernel_rfl)
end PySem
namespace L2
open PySem PySem.Spec PyProof.Rows
section
variable {X:Cx}
theorem kI:∀ (cs:List Addr) (its:List Value),Vals (cs.map V.ref) its->its=cs.map Value.ref
 | [],_,r=>by cases r;rfl
 | c::cs,_,r=>by
   cases r with
   | cons a b=>
     cases a
     rw [kI cs _ b]
     rfl
variable {e:Expr} {es:List Expr} {t:TA} {p pos:Pos}
theorem jM:bootBuiltins "dict" = some (.type "dict"):=by decide +kernel
end
section
variable {X:Cx}
def Itv (K:PySem.W.Frag) (a:Addr) (n:Nat):It:=⟨fun i H=>i<n/\∃ xs,SqL K H a xs/\xs.length=n,fun i H x H'=>H'=H/\∀ xs,SqL K H a xs->xs[n - 1 - i]? = some x,fun i _=>i=n⟩
theorem ni {P:Program} {w:World} {K:PySem.W.Frag} {tg:Expr} {a it:Addr} {n:Nat}:Turn P w K tg (Itv K a n) [it] it (fun i h=>h.IsRevIter it a ((n:Int) - 1 - (i:Int))) where
 mem:=by simp
 obj:=fun i h st b hb=>by
  have e:b=it:=by simpa using hb
  subst e
  obtain ⟨o,e,c,d⟩:=st
  exact ⟨o,e,fun v z=>by rw [d] at z;cases z⟩
 keep:=fun i h h' st k=>st.at fun o e=>k it (by simp) o e
 item:=by
  intro X hP hw hK hc i pins s σ H E I hf st hg
  subst hP hw hK
  obtain ⟨hi,xs,hq,hl⟩:=hg
  obtain ⟨its,rv,pl,hz⟩:=I.list hq
  obtain ⟨f0,f1,f2,f3,f4,f5⟩:=hf it (by simp)
  have e:(n:Int) - 1 - (i:Int)=((n - 1 - i:Nat):Int):=by lia
  rw [e] at st
  have hxl:n - 1 - i<xs.length:=by lia
  have hx:xs[n - 1 - i]? = some xs[n - 1 - i]:=List.getElem?_eq_getElem hxl
  obtain ⟨u,hu,ru⟩:=rv.get hx
  refine wpAny_pyNext_rev_item st pl.isList (x:=u) (by simpa using hu) fun h' st' sb=>?_
  have I1:Inv X pins σ H { s with heap:=h' }:=I.turned (t':=s.toks) (fun b o hb e=>(sb.2 b hb).trans e) f0 f1 f3 f4 f5
  have e2:((n - 1 - i:Nat):Int) - 1=(n:Int) - 1 - ((i+1:Nat):Int):=by lia
  rw [e2] at st'
  obtain ⟨o,e,c,d⟩:=id st'
  exact ⟨u,rfl,lP (s:={ s with heap:=h' }) e c d (by decide) ⟨xs[n - 1 - i],H,I1,ru,⟨rfl,fun ys hy=>by rw [I.list_inj hy hq];exact hx⟩,st',fun b hb=>(hf b hb).1⟩⟩
 done:=by
  intro X hP hw hK hc i pins s σ H E I hf st hg
  subst hP hw hK
  have hi:i=n:=hg
  subst hi
  obtain ⟨f0,f1,f2,f3,f4,f5⟩:=hf it (by simp)
  have e:(i:Int) - 1 - (i:Int)=-1:=by lia
  rw [e] at st
  exact wpAny_pyNext_rev_end (I.ok.hd hc) st fun h' eb=>⟨rfl,I.turned (t':=s.toks) (fun b o hb e=>eb b o hb e) f0 f1 f3 f4 f5⟩
 self:=fun _ _ _ _ _ st h=>wpAny_pyIter_revIter st h
theorem d6:bootBuiltins "reversed" = some (.type "reversed"):=by decide +kernel
def iRev (K:PySem.W.Frag) (ta:TA):TI:=fun σ H R=>ta σ H fun vs H1=>match vs with
 | [.ref a]=>∃ xs,SqL K H1 a xs/\R (Itv K a xs.length) H1
 | _=>False
theorem pi_rev {l tg:Expr} {ta:TA} {p pos:Pos} (hg:Gl X "reversed") (hm:X.mg "reversed" = none) (ha:PA X [l] ta) (hs:starEach [l] X.env=[(false,eval l X.env)]:=by rfl) :
 PI X tg (.Call (.Name "reversed" p) [l] [] pos) (iRev X.K ta):=by
 intro pins s σ H R I h
 refine Call_ (dI I hg hm d6 (PyProof.Rows.callWith_type1 (thn (ha pos pins s σ H _ I h) fun us s1 ⟨vs,H1,I1,r1,q1⟩=>?_) hs rfl))
 dsimp only at q1
 split at q1
 · rename_i a
   obtain ⟨xs,hx,q⟩:=q1
   obtain ⟨u,rfl,rx⟩:=cg r1
   cases rx
   obtain ⟨its,rv,pl,hz⟩:=I1.list hx
   refine call_reversed_list pl.isList ?_
   have e:((its.toArray.size:Nat):Int) - 1=(xs.length:Int) - 1 - ((0:Nat):Int):=by rw [zA7,← rv.length];lia
   rw [e]
   have hit:(s1.heap.push (revObj a ((xs.length:Int) - 1 - ((0:Nat):Int)))).IsRevIter s1.heap.objs.size a ((xs.length:Int) - 1 - ((0:Nat):Int)):=⟨_,Heap.get?_push_size _ rfl,rfl,rfl⟩
   refine wpAny_pyIter_revIter (s:={ s1 with heap:=s1.heap.push (revObj a ((xs.length:Int) - 1 - ((0:Nat):Int))) }) hit ⟨s1.heap.objs.size,[s1.heap.objs.size],_,_,H1,rfl,I1.kept (t':=s1.toks) fun b o e=>Heap.get?_push_of_some _ e,ni,hit,fun b hb=>?_,q⟩
   have e:b=s1.heap.objs.size:=by simpa using hb
   subst e
   exact I1.fpOk (zA1 _) (I1.hok.fresh (zA1 _))
 · exact q1.elim
theorem zi_rev {l tg:Expr} {ta:TA} {p pos:Pos} (hg:Gl X "reversed") (hm:X.mg "reversed" = none) (ha:ZA X [l] ta) (hs:starEach [l] X.env=[(false,eval l X.env)]:=by rfl) :
 ZI X tg (.Call (.Name "reversed" p) [l] [] pos) (iRev X.K ta):=by with_unfolding_all exact pi_rev hg hm ha hs
theorem sQ {K:PySem.W.Frag} {a:Addr} {xs:List V} {nv:List Str} {ix:List (Str×Nat)} {σ:St} {H:Hp} {g:TG} {ti:TT} {te:TE} {Fin:List V->Hp->Prop} (Pv:Nat->List V->Hp->Prop) (h0:Pv 0 [] H) (hl:∀ i ys H,i<=xs.length->Pv i ys H->SqL K H a xs)
 (hs:∀ i x ys H,i<xs.length->xs[xs.length - 1 - i]? = some x->Pv i ys H->ys.length<sizeLine/\g x (st0 nv ix σ) H fun σ2 H2=>ti σ2 H2 fun b H3=>if b=true then te σ2 H3 fun y H4=>Pv (i+1) (ys++[y]) H4 else Pv (i+1) ys H3)
 (hd:∀ ys H,Pv xs.length ys H->Fin ys H):p8 nv ix g ti te σ (Itv K a xs.length) Fin H:=by
 refine ⟨fun i m ys H=>m=xs.length - i/\i<=xs.length/\Pv i ys H,⟨xs.length,by simp,zC6 _,h0⟩,?_⟩
 rintro i m ys H ⟨rfl,hi,p⟩
 have q:=hl i ys H hi p
 by_cases hlt:i<xs.length
 · have hx:xs[xs.length - 1 - i]? = some (xs[xs.length - 1 - i]'(by lia)):=List.getElem?_eq_getElem (by lia)
   refine .inr ⟨⟨hlt,xs,q,rfl⟩,(hs i _ ys H hlt hx p).1,Pv (i+1),fun σ' H' p'=>⟨xs.length - (i+1),by lia,rfl,hlt,p'⟩,fun x H' y=>?_⟩
   obtain ⟨e',y⟩:=y
   subst e'
   exact (hs i x ys _ hlt (y xs q) p).2
 · have e:i=xs.length:=by lia
   subst e
   exact .inl ⟨rfl,hd ys H p⟩
end
section
variable {X:Cx}
theorem noPy60 {x y:Int} (h:y.natAbs<2 ^ 60):Builtin.divisionGoesByPylong x y=false:=by
 unfold Builtin.divisionGoesByPylong
 have h1:(if (y == 0)=true then 0 else y.natAbs.log2 / 30+1)<=300:=by
  split
  · exact zC6 _
  · rename_i hy
    have hne:y.natAbs≠0:=fun z=>hy (by simp;lia)
    have:y.natAbs.log2<60:=(Nat.log2_lt hne).mpr h
    lia
 simp only [Bool.and_eq_false_iff]
 exact .inl (decide_eq_false (by lia))
def CDivB (i j:Int):Prop:=0<j/\j<1152921504606846976
theorem ff:OpR X (binaryOp .FloorDiv) (rP CDivB fun i j=>.int (i / j)):=(show OpR X (binaryOp .FloorDiv) (rI CDivB fun i j=>.int (i / j)) from opI fun i j _ _ _ _ _ hc q=>by
 have h1:(0:Int)<j:=hc.1
 have h2:j<1152921504606846976:=hc.2
 exact floordiv_int (by lia) (by rw [Int.fdiv_eq_ediv_of_nonneg i (by lia)];exact q) (.inl (noPy60 (by lia)))).imp nK
theorem oA {ns:List Int} (h:ns≠[]):ns.getD (argBest (fun i j=>decide (ns.getD i 0<ns.getD j 0)) (ns.length - 1)) 0∈ns/\∀ n∈ns,ns.getD (argBest (fun i j=>decide (ns.getD i 0<ns.getD j 0)) (ns.length - 1)) 0<=n:=by
 have hp:0<ns.length:=zG5.mpr h
 obtain ⟨h1,h2⟩:=argBest_lt (fun i=>ns.getD i 0) (ns.length - 1)
 have hlt:argBest (fun i j=>decide (ns.getD i 0<ns.getD j 0)) (ns.length - 1)<ns.length:=by lia
 refine ⟨?_,fun n hn=>?_⟩
 · rw [zA3,List.getElem?_eq_getElem hlt]
   exact zB1 hlt
 · obtain ⟨i,hi,rfl⟩:=zE5.mp hn
   have:=h2 i (by lia)
   have e:ns.getD i 0=ns[i]:=by rw [zA3,List.getElem?_eq_getElem hi];rfl
   rw [e] at this
   exact this
def nL:List V->Hp->VK->Prop:=fun xs H Q=>match xs with
 | [.ref p]=>∃ ns:List Int,H p=some (.tup (ns.map V.int))/\ns≠[]/\∀ M,M∈ns->(∀ n∈ns,M<=n)->Q (.int M) H
 | _=>False
theorem mt (hc:X.calm=true):CallR X (.builtin "min") nL:=by
 intro pins s σ H xs us Q I r h
 unfold nL at h
 split at h
 · rename_i p
   obtain ⟨ns,hq,hne,q⟩:=h
   obtain ⟨u,rfl,rx⟩:=cg r
   cases rx
   have hh:X.A.in1.handled=none:=I.ok.hd hc
   have hb:=oA hne
   obtain ⟨its,rv,pl,hz⟩:=I.tuple (SqT.of hq)
   have hlen:its.length=ns.length:=by rw [← rv.length,zA0]
   have hlt:p<s.heap.objs.size:=pl.lt
   refine call_min_walk (wpAny_pyIter_tuple pl ?_)
   refine ⟨s.heap.objs.size,_,_,_,_,_,_,rfl,Walks.tuple hh s.heap.objs.size p (zB8 hlt) its.toArray,⟨⟨_,Heap.get?_push_size _ rfl,rfl,rfl⟩,pl.push _⟩,?_,?_,CmpOf.ints_lt (fun i=>ns.getD i 0) (fun i v hv=>bM rv hv),fun v h' tk hv hk=>?_⟩
   · intro b hb
     rw [Heap.size_push]
     rcases zB2.mp hb with rfl | hb
     · exact zG1 _
     · rcases zB2.mp hb with rfl | hb
       · exact zH8 hlt
       · cases hb
   · rw [zA7,hlen];exact zG5.mpr hne
   · obtain ⟨t,rfl⟩:=bM rv hv
     refine ⟨.int _,H,I.kept fun b o e=>hk b o (by simpa using zB8 (Heap.lt_size e)) (Heap.get?_push_of_some _ e),⟨t,rfl⟩,?_⟩
     rw [zA7,hlen]
     exact q _ hb.1 hb.2
 · exact h.elim
variable {e:Expr} {es:List Expr} {t:TA} {p pos:Pos}
theorem oi (hc:X.calm=true) (hg:Gl X "min") (hm:X.mg "min" = none) (ha:PA X (e::es) t) (he:starEach (e::es) X.env=(false,eval e X.env)::starEach es X.env) (hpl:(backTo pos (starEach es X.env)).any (·.1)=false) :
 PE X (.Call (.Name "min" p) (e::es) [] pos) (tCB nL t):=aW (mt hc) hg hm gn ha (by decide) (by decide) he hpl
theorem m8 (hc:X.calm=true) (hg:Gl X "min") (hm:X.mg "min" = none) (ha:ZA X (e::es) t) (he:starEach (e::es) X.env=(false,eval e X.env)::starEach es X.env) (hpl:(backTo pos (starEach es X.env)).any (·.1)=false) :
 ZE X (.Call (.Name "min" p) (e::es) [] pos) (tCB nL t):=by with_unfolding_all exact oi hc hg hm ha he hpl
end
end L2
namespace K51
open PySem L2
def top (i:Nat):Stmt:=PySem.Challenge.pw_partrests_k51_whole_lists_in_rounds.main.body.getD i (.Pass ⟨0,0,0,0⟩)
def Hand (H:Hp) (a:Addr) (n:Nat):Prop:=∃ g s c:Int,H a=some (.lst [.int g,.int s,.int c])/\0<=g/\0<=s/\s<2305843009213693951/\0<=c/\c<=n
def Step (a:Addr) (n:Nat) (H H':Hp):Prop:=(∀ b o,b≠a->H b=some o->H' b=some o)/\Hand H' a n
theorem Hand.mono {H:Hp} {a:Addr} {n m:Nat} (h:Hand H a n) (k:n<=m):Hand H a m:=let ⟨g,s,c,e,h1,h2,h3,h4,h5⟩:=h;⟨g,s,c,e,h1,h2,h3,h4,by lia⟩
theorem Hand.same {H H':Hp} {a:Addr} {n:Nat} (h:Hand H a n) (y:Same H H'):Hand H' a n:=let ⟨g,s,c,e,r⟩:=h;⟨g,s,c,y _ _ e,r⟩
theorem Hand.at {H:Hp} {a:Addr} {n:Nat} (h:Hand H a n):∃ xs,H a=some (.lst xs):=let ⟨_,_,_,e,_⟩:=h;⟨_,e⟩
theorem Hand.ne {H:Hp} {a b:Addr} {n:Nat} (h:Hand H a n) (hb:H b=none):b≠a:=fun z=>by
 obtain ⟨xs,e⟩:=h.at
 rw [z,e] at hb
 cases hb
theorem Step.trans {a:Addr} {n m:Nat} {H H1 H2:Hp} (x:Step a n H H1) (y:Step a m H1 H2):Step a m H H2:=⟨fun b o k e=>y.1 b o k (x.1 b o k e),y.2⟩
theorem Step.same {a:Addr} {n:Nat} {H H1 H2:Hp} (x:Step a n H H1) (y:Same H1 H2):Step a n H H2:=⟨fun b o k e=>y b o (x.1 b o k e),x.2.same y⟩
theorem Step.refl {a:Addr} {n:Nat} {H:Hp} (h:Hand H a n):Step a n H H:=⟨fun _ _ _ e=>e,h⟩
theorem Step.mono {a:Addr} {n m:Nat} {H H':Hp} (x:Step a n H H') (k:n<=m):Step a m H H':=⟨x.1,x.2.mono k⟩
theorem Step.tup {a b:Addr} {n m:Nat} {H H1:Hp} {xs:List V} (h:Hand H a m) (x:Step a n H H1) (e:H b=some (.tup xs)):H1 b=some (.tup xs):=by
 obtain ⟨ys,e'⟩:=h.at
 exact x.1 b _ (li e e' (by intro z;cases z)) e
theorem gU {ns ms:List Int} (e:ns.map V.int=ms.map V.int):ns=ms:=by
 have:=congrArg (List.map fun v=>match v with | V.int i=>i | _=>0) e
 simpa [Function.comp_def] using this
theorem cX {xs:List V} {k:Int} {j:Nat} {v:V} (h:k=(j:Int)) (hx:xs[j]? = some v):atI xs k=some v:=by subst h;exact sV hx
theorem fz {ns:List Int} {j:Nat} (h:j<ns.length):(ns.map V.int)[j]? = some (.int ns[j]):=by rw [List.getElem?_map,List.getElem?_eq_getElem h];rfl
theorem dg (n:Nat) (x:Int):(List.replicate n [V.int x]).flatten=(List.replicate n x).map V.int:=by
 induction n with
 | zero=>rfl
 | succ n ih=>rw [zG4,zD5,ih,zG4,zA9];rfl
theorem cT {n:Nat} (h:n<=1000):n<=sizeLine:=zJ0 (aq h)
theorem mulR {a b:Int} (h1:-(2 ^ 64)<b) (h2:b<2 ^ 64):IntMulOk a b:=IntMulOk.of_right (intBits_le_64 h1 h2)
theorem lj {a b:Int} (h1:-(2 ^ 64)<a) (h2:a<2 ^ 64):IntMulOk a b:=IntMulOk.of_left (intBits_le_64 h1 h2)
section
variable {P:Program} {w:World} {K:PySem.W.Frag} {mg:Str->Option Value} {base:Heap} {f:Addr} {fd:FuncData}
theorem sc_take:FnScope ["_law_state","_law_many","_law_digit","_law_mixed"] ["_law_state","_law_many"] (ag (top 31)):=⟨rfl,rfl,rfl,by decide +kernel,rfl,by decide +kernel,by decide +kernel⟩
def gF:Sp:=fun vs H Q _=>∃ (a:Addr) (m:Int) (n:Nat),vs=[.ref a,.int m]/\Hand H a n/\n<1000000000/\0<m/\m<1152921504606846976/\∀ r H',0<=r->r<m->Step a (n+1) H H'->Q (.int r) H'
theorem se (F:Fun K "_law_take" "_law_take" (top 31) f fd):FnOk P w K mg base CX0 1 f fd ["_law_state","_law_many"] gF:=by
 refine F.okz sc_take (fun vs H Q E h=>?_) (fun cdv A outer s H vs Q E hr h=>?_)
 · obtain ⟨a,m,n,rfl,_⟩:=h;rfl
 obtain ⟨a,m,n,rfl,⟨g,z,c,hl,g0,z0,z1,c0,c1⟩,n1,m0,m1,q⟩:=h
 have nd:=sc_take.nd
 refine ⟨_,(af (cY (aY iB (bh dL (zn 0) ah (fun _ _=>rfl)) ah (bn _)) (af (ay (i:=2) nd rfl (Or.inl rfl) (am bf (bh dL (zn 0) ah (fun _ _=>rfl)) (zn 1)))
  (af (d8 (am ff (bh dL (zn 0) ah (fun _ _=>rfl)) (zn 1)) (fB (zn 0) ah ca))
  (ai (aC (zn 2))))) bb)
  (af (d8 (am aE (bh dL (zn 0) ah (fun _ _=>rfl)) ah) (fB (zn 0) ah ca))
  (af (ay (i:=3) nd rfl (Or.inl rfl) (am bf (am aG (am aE (am aE (bh dL (zn 0) ah (fun _ _=>rfl)) (am aG (am aG ah (bh dL (zn 0) ah (fun _ _=>rfl))) (bh dL (zn 0) ah (fun _ _=>rfl)))) ah) ah) ah))
  (af (ay (i:=3) nd rfl (Or.inl rfl) (am bf (am aG (zn 3) (am aE (am bf (zn 3) ah) (am aG ah (bh dL (zn 0) ah (fun _ _=>rfl))))) ah))
  (ai (aC (am bf (am aE (am ff (zn 3) ah) (am ff (zn 3) ah)) (zn 1)))))))),?_⟩
 refine ⟨_,.inl (SqL.of hl),.int g,rfl,?_⟩
 refine tG (fun hg=>?_) (fun hg=>?_)
 · refine ⟨_,.inl (SqL.of hl),.int g,rfl,m0,?_⟩
   refine ⟨_,.inl (SqL.of hl),.int g,rfl,⟨m0,m1⟩,?_⟩
   refine ⟨a,_,_,_,rfl,rfl,hl,rfl,?_⟩
   refine q _ _ (zF6 _ (by lia)) (zF0 _ m0) ⟨fun b o n e=>?_,g / m,z,c,ad,Int.ediv_nonneg g0 (by lia),z0,z1,c0,by lia⟩
   rw [ao n];exact e
 · refine ⟨_,.inl (SqL.of hl),.int c,rfl,?_⟩
   refine ⟨a,_,_,_,rfl,rfl,hl,rfl,?_⟩
   refine ⟨_,.inl (SqL.of ad),.int z,rfl,?_⟩
   refine ⟨_,.inl (SqL.of ad),.int (c+1),rfl,lj (by decide) (by decide),?_⟩
   refine ⟨_,.inl (SqL.of ad),.int (c+1),rfl,mulR (by lia) (by lia),mulR (by decide) (by decide),(show (0:Int)<2305843009213693921 by decide),?_⟩
   generalize hb1:(z+65537*(c+1)*(c+1)+11)*48271 % 2305843009213693921=b1
   have e1:0<=b1:=by rw [← hb1];exact zF6 _ (by decide)
   have e2:b1<2305843009213693921:=by rw [← hb1];exact zF0 _ (by decide)
   refine ⟨(show (0:Int)<1000003 by decide),?_⟩
   refine ⟨_,.inl (SqL.of ad),.int (c+1),rfl,lj (by decide) (by decide),lj (by lia) (by lia),(show (0:Int)<2305843009213693907 by decide),?_⟩
   refine ⟨⟨by decide,by decide⟩,⟨by decide,by decide⟩,m0,?_⟩
   refine q _ _ (zF6 _ (by lia)) (zF0 _ m0) ⟨fun b o n e=>?_,g,z,c+1,ad,g0,z0,z1,by lia,by lia⟩
   rw [ao n];exact e
theorem sc_hand:FnScope ["_law_script","_law_state","_law_far","_law_cell","_law_k","_law_one"] ["_law_script"] (ag (top 30)):=⟨rfl,rfl,rfl,by decide +kernel,rfl,by decide +kernel,by decide +kernel⟩
def gG (K:PySem.W.Frag):Sp:=fun vs H Q _=>∃ (a:Addr) (ns:List Int),vs=[.ref a]/\SqL K H a (ns.map V.int)/\ns.length<=63/\∀ p H',H p=none->Same H H'->Hand H' p 0->Q (.ref p) H'
theorem iV (ns:List Int) (k:Int):∃ ms:List Int,fA (ns.map V.int) none (some k)=ms.map V.int/\ms.length<=ns.length:=by
 refine ⟨(ns.drop (HT.sIx (ns.map V.int).length 0 none)).take (HT.sIx (ns.map V.int).length (ns.map V.int).length (some k) - HT.sIx (ns.map V.int).length 0 none),?_,?_⟩
 · unfold fA
   rw [List.map_take,List.map_drop]
 · rw [zB7,zC7]
   lia
theorem iR (j:Nat) (h:j<=63):Builtin.Int.intBits (((10:Int) ^ Int.toNat 60) ^ j)<=2 ^ 20:=by
 have h1:Builtin.Int.intBits ((10:Int) ^ Int.toNat 60)<=200:=by decide +kernel
 have h2:=intBits_pow_le h1 j
 refine zC8 h2 ?_
 have:200*j+1<=200*63+1:=by lia
 exact zC8 this (by decide)
theorem oy (x:Int):Builtin.Int.intBits (x % (10:Int) ^ Int.toNat 60)<=2 ^ 20:=by
 refine zC8 (intBits_le_iff (m:=200).mpr ?_) (by decide)
 have h0:0<=x % (10:Int) ^ Int.toNat 60:=zF6 _ (by decide)
 have h1:x % (10:Int) ^ Int.toNat 60<(10:Int) ^ Int.toNat 60:=zF0 _ (by decide)
 have h2:(10:Int) ^ Int.toNat 60<=((2 ^ 200:Nat):Int):=by decide
 lia
theorem nk:Builtin.Int.intBits ((10:Int) ^ Int.toNat 60)<=2 ^ 20:=by decide +kernel
def St (H0 H:Hp) (p:Addr):Prop:=Same H0 H/\Hand H p 0
theorem sf (F:Fun K "_law_hand" "_law_hand" (top 30) f fd) (m_abs:mg "abs" = none) (m_enumerate:mg "enumerate" = none) (m_len:mg "len" = none):FnOk P w K mg base CX0 1 f fd ["_law_script"] (gG K):=by
 refine F.okz sc_hand (fun vs H Q E h=>?_) (fun cdv A outer s H vs Q E hr h=>?_)
 · obtain ⟨a,ns,rfl,_⟩:=h;rfl
 obtain ⟨a,ns,rfl,hS,hl,q⟩:=h
 have nd:=sc_hand.nd
 have hu:=hr.units
 have rest:∃ t,ZSs (oT CX0 P w K mg base ["_law_script","_law_state","_law_far","_law_cell","_law_k","_law_one"] "_law_hand" (ag (top 30)) f cdv A outer s H E).nox ((au (top 30)).drop 2) t /\
  ∀ (H1:Hp) (p:Addr) (s2 s3:Option V),H p=none->St H H1 p->t { nx:=fun _ H'=>Q .non H',rt:=Q } [some (.ref a),some (.ref p),s2,s3,none,none] H1:=by
  refine ⟨_,(af (bo PassesOwn.never rfl (bD rfl m_enumerate (aa (bY tx (zn 0) cQ (cP ah)) ae)) (ce rfl (aA (aj (i:=4) nd rfl (Or.inl rfl)) (aA (aj (i:=3) nd rfl (Or.inl rfl)) bx))) (af (ay (i:=5) nd rfl (Or.inl rfl) (am aE (am aE (am bf (zn 3) ah) (am aG ah (zn 4))) ah))
   (ai (d8 (am bf (am aE (am aG (bh dL (zn 1) ah (fun _ _=>rfl)) ah) (zn 5)) ah) (fB (zn 1) ah ca)))))
   (ai (aC (zn 1)))),?_⟩
  intro H1 p s2 s3 hp st1
  obtain ⟨ms,em,lm⟩:=iV ns 63
  refine ⟨_,rfl,a,rfl,.inr ⟨_,SqL.same st1.1 hS,fun d hd=>?_⟩⟩
  rw [em]
  have yd:=Same.new hd (.lst (ms.map V.int))
  have dp:p≠d:=fun z=>by obtain ⟨xs,e⟩:=st1.2.at;rw [z,hd] at e;cases e
  have dH:H d=none:=by
   cases e:H d with
   | none=>rfl
   | some o=>have:=st1.1 d o e;rw [hd] at this;cases this
  refine ⟨false,_,SqK.lst ad,fZ (xs:=ms.map V.int) (fun i σ H'=>St H H' p/\H' d=some (.lst (ms.map V.int))/\∃ x2 x3 x4 x5,σ=[some (.ref a),some (.ref p),x2,x3,x4,x5]) ⟨⟨st1.1.trans yd,st1.2.same yd⟩,ad,_,_,_,_,rfl⟩ ?_ ?_ ?_⟩
  · rintro i σ H' _ ⟨_,e,_⟩
    exact SqK.lst e
  · rintro i x σ H' pr hx ⟨⟨y,⟨g,z,c,hl',g0,z0,z1,c0,c1⟩⟩,hd',x2,x3,x4,x5,rfl⟩ hpr
    have hi:i<ms.length:=by
     have:=(List.getElem?_eq_some_iff.mp hx).1
     rw [zA0] at this
     exact this
    have ex:x=.int ms[i]:=by rw [fz hi] at hx;exact (Option.some.inj hx).symm
    subst ex
    have yr:=Same.new hpr (.tup [.int i,.int ms[i]])
    refine ⟨pr,_,rfl,SqT.of ad,rfl,_,_,rfl,_,_,rfl,rfl,?_⟩
    have hp':=yr _ _ hl'
    have e1:0<=ms[i] % 2305843009213693951:=zF6 _ (by decide)
    have e2:ms[i] % 2305843009213693951<2305843009213693951:=zF0 _ (by decide)
    refine ⟨(show (0:Int)<2305843009213693951 by decide),lj (by decide) (by decide),?_⟩
    refine ⟨_,.inl (SqL.of hp'),.int z,rfl,mulR (by decide) (by decide),(show (0:Int)<2305843009213693951 by decide),?_⟩
    refine ⟨p,_,_,_,rfl,rfl,hp',rfl,?_⟩
    have e5:0<=(z*48271+(ms[i] % 2305843009213693951+7919*(i:Int)+3)) % 2305843009213693951:=zF6 _ (by decide)
    have e6:(z*48271+(ms[i] % 2305843009213693951+7919*(i:Int)+3)) % 2305843009213693951<2305843009213693951:=zF0 _ (by decide)
    refine ⟨⟨Same.updN (y.trans yr) hp,⟨g,_,c,ad,g0,e5,e6,c0,c1⟩⟩,?_,_,_,_,_,rfl⟩
    rw [ao (Ne.symm dp)]
    exact yr _ _ hd'
  · rintro σ H' ⟨⟨y,hh⟩,_,x2,x3,x4,x5,rfl⟩
    exact q p H' hp y hh
 obtain ⟨t2,ht2,rest⟩:=rest
 refine ⟨_,(af (ay (i:=1) nd rfl (Or.inl rfl) (a0 (aa ah (aa ah (aa ah ae)))))
  (af (cY (ZW.zt (zw_and (aY iB (bi rfl m_len (aa (zn 0) ae) rfl rfl) ah (bn _)) (p9 (aY op_geP (bh dL (zn 0) ah (fun _ _=>rfl)) (am gN ah ah) (bn _))))) (af (ay (i:=2) nd rfl (Or.inl rfl) ah)
  (ai (bo PassesOwn.never rfl (aP (bY tx (zn 0) cQ (cP ah))) (aj (i:=3) nd rfl (Or.inl rfl)) (af (d8 (am aE (bh dL (zn 1) ah (fun _ _=>rfl)) (am aG (am bf (qj rfl m_abs (aa (zn 3) ae) rfl rfl) (am gN ah ah)) (zn 2))) (fB (zn 1) ah ca))
  (ai (ay (i:=2) nd rfl (Or.inl rfl) (am aG (zn 2) (am gN ah ah)))))))) bb)
  ht2)),?_⟩
 refine ⟨by show 3<=sizeLine;decide,fun p hp=>?_⟩
 have y0:=Same.new hp (.lst [V.int 0,.int 0,.int 0])
 have st0':St H (upd H p (.lst [V.int 0,.int 0,.int 0])) p:=⟨y0,0,0,0,ad,by decide,by decide,by decide,by decide,by decide⟩
 refine ⟨_,.inl (SqL.same y0 hS),?_⟩
 refine tG (fun c=>?_) (fun c=>?_)
 · rw [zA0] at c
   have hj:0<ns.length:=by lia
   refine ⟨_,.inl (SqL.same y0 hS),.int ns[0],cX (j:=0) rfl (fz hj),⟨by decide,by decide,by decide⟩,?_⟩
   refine tG (fun c2=>?_) (fun c2=>?_)
   · obtain ⟨ms,em,lm⟩:=iV ns 63
     refine ⟨_,rfl,a,rfl,.inr ⟨_,SqL.same y0 hS,fun d hd=>?_⟩⟩
     rw [em]
     have yd:=Same.new hd (.lst (ms.map V.int))
     have dp:p≠d:=fun z=>by rw [← z,ad] at hd;cases hd
     refine ⟨d,rfl,⟨_,SqL.of ad⟩,bN (xs:=ms.map V.int) (fun i σ H'=>St H H' p/\H' d=some (.lst (ms.map V.int))/\∃ x3,σ=[some (.ref a),some (.ref p),some (.int (((10:Int) ^ Int.toNat 60) ^ i)),x3,none,none]) ⟨⟨st0'.1.trans yd,st0'.2.same yd⟩,ad,_,rfl⟩ ?_ ?_ ?_⟩
     · rintro i σ H' _ ⟨_,e,_⟩
       exact SqL.of e
     · rintro i x σ H' hx ⟨⟨y,⟨g,z,c,hl',g0,z0,z1,c0,c1⟩⟩,hd',x3,rfl⟩
       have hi:i<ms.length:=by
        have:=(List.getElem?_eq_some_iff.mp hx).1
        rw [zA0] at this
        exact this
       have ex:x=.int ms[i]:=by rw [fz hi] at hx;exact (Option.some.inj hx).symm
       subst ex
       refine ⟨_,.inl (SqL.of hl'),.int g,rfl,⟨by decide,by decide,by decide⟩,(show (0:Int)<10 ^ Int.toNat 60 by decide),IntMulOk.of_bits (oy _) (iR i (by lia)),?_⟩
       refine ⟨p,_,_,_,rfl,rfl,hl',rfl,?_⟩
       refine ⟨⟨by decide,by decide,by decide⟩,IntMulOk.of_bits (iR i (by lia)) nk,?_⟩
       refine ⟨⟨Same.updN y hp,⟨_,z,c,ad,?_,z0,z1,c0,c1⟩⟩,?_,some (.int ms[i]),?_⟩
       · have h0:0<=(if ms[i]<0 then -ms[i] else ms[i]) % (10:Int) ^ Int.toNat 60:=zF6 _ (by decide)
         have h1:0<=((10:Int) ^ Int.toNat 60) ^ i:=Int.pow_nonneg (by decide)
         have:=Int.mul_nonneg h0 h1
         lia
       · rw [ao (Ne.symm dp)]
         exact hd'
       · rw [Int.pow_succ]
         rfl
     · rintro σ H' ⟨st,_,x3,rfl⟩
       exact rest H' p _ _ hp st
   · exact rest _ p _ _ hp st0'
 · exact rest _ p _ _ hp st0'
end
end K51
namespace L2
open PySem PySem.Spec PyProof.Rows
def KTu (K:PySem.W.Frag) (a:Addr) (xs:List V):Prop:=∃ (o:Obj) (its:Array Value) (n:Nat),K.lookup a=some o/\o.cls=.type "tuple"/\o.data=.seq its n/\its.size<=sizeLine/\Vals xs its.toList
theorem KTu.sq {K:PySem.W.Frag} {a:Addr} {xs:List V} (h:KTu K a xs) (H:Hp):SqT K H a xs:=.inr h
def jB:List Value->List Int->Bool
 | [],[]=>true
 | .int i _::vs,n::ns=>decide (i=n)&&jB vs ns
 | _,_=>false
theorem oG:∀ {vs:List Value} {ns:List Int},jB vs ns=true->Vals (ns.map V.int) vs:=by
 intro vs
 induction vs with
 | nil=>intro ns h;cases ns with
   | nil=>exact .nil
   | cons n ns=>simp [jB] at h
 | cons v vs ih=>
   intro ns h
   cases ns with
   | nil=>cases v <;> simp [jB] at h
   | cons n ns=>
     cases v <;> simp [jB] at h
     obtain ⟨rfl,h⟩:=h
     exact .cons ⟨_,rfl⟩ (ih h)
def tupI (K:PySem.W.Frag) (v:Value) (ns:List Int):Bool:=match v with
 | .ref a=>(match K.lookup a with
   | some o=>o.cls == .type "tuple"&&(match o.data with | .seq its _=>decide (its.size<=1000)&&jB its.toList ns | _=>false)
   | none=>false)
 | _=>false
theorem qr {K:PySem.W.Frag} {v:Value} {ns:List Int} (h:tupI K v ns=true):∃ a,v=.ref a/\KTu K a (ns.map V.int):=by
 unfold tupI at h
 split at h
 · split at h
   · rename_i a _ o ho
     simp only [zE9] at h
     obtain ⟨h1,h2⟩:=h
     split at h2
     · rename_i its n hd
       simp only [zE9,decide_eq_true_eq] at h2
       exact ⟨a,rfl,o,its,n,ho,beq_iff_eq.mp h1,hd,zJ0 (aq h2.1),oG h2.2⟩
     · cases h2
   · cases h
 · cases h
def jg (K:PySem.W.Frag):List Value->List (List Int)->Bool
 | [],[]=>true
 | v::vs,n::ns=>tupI K v n&&jg K vs ns
 | _,_=>false
def KRows (K:PySem.W.Frag) (as:List Addr) (R:List (List Int)):Prop:=as.length=R.length/\∀ (i:Nat) (h:i<as.length) (h2:i<R.length),KTu K as[i] (R[i].map V.int)
theorem ij {K:PySem.W.Frag}:∀ {vs:List Value} {R:List (List Int)},jg K vs R=true->∃ as:List Addr,Vals (as.map V.ref) vs/\KRows K as R
 | [],[],_=>⟨[],.nil,rfl,fun i h=>absurd h (Nat.not_lt_zero _)⟩
 | v::vs,n::ns,h=>by
   simp only [jg,zE9] at h
   obtain ⟨a,rfl,ha⟩:=qr h.1
   obtain ⟨as,hv,hl,hr⟩:=ij h.2
   refine ⟨a::as,.cons rfl hv,by rw [zB9,zB9,hl],fun i h1 h2=>?_⟩
   cases i with
   | zero=>exact ha
   | succ i=>exact hr i (Nat.lt_of_succ_lt_succ h1) (Nat.lt_of_succ_lt_succ h2)
 | [],_::_,h=>by simp [jg] at h
 | _::_,[],h=>by simp [jg] at h
def KTs (K:PySem.W.Frag) (a:Addr) (R:List (List Int)):Prop:=∃ as:List Addr,KTu K a (as.map V.ref)/\KRows K as R
def tupT (K:PySem.W.Frag) (v:Value) (R:List (List Int)):Bool:=match v with
 | .ref a=>(match K.lookup a with
   | some o=>o.cls == .type "tuple"&&(match o.data with | .seq its _=>decide (its.size<=1000)&&jg K its.toList R | _=>false)
   | none=>false)
 | _=>false
theorem qq {K:PySem.W.Frag} {v:Value} {R:List (List Int)} (h:tupT K v R=true):∃ a,v=.ref a/\KTs K a R:=by
 unfold tupT at h
 split at h
 · split at h
   · rename_i a _ o ho
     simp only [zE9] at h
     obtain ⟨h1,h2⟩:=h
     split at h2
     · rename_i its n hd
       simp only [zE9,decide_eq_true_eq] at h2
       obtain ⟨as,hv,hr⟩:=ij h2.2
       exact ⟨a,rfl,as,⟨o,its,n,ho,beq_iff_eq.mp h1,hd,zJ0 (aq h2.1),hv⟩,hr⟩
     · cases h2
   · cases h
 · cases h
def ji (K:PySem.W.Frag):List DictEntry->List (Int×List (List Int))->Bool
 | [],[]=>true
 | e::es,(i,R)::D=>(match e.key with | .int j _=>decide (j=i) | _=>false)&&e.hash == hashInt i&&tupT K e.val R&&ji K es D
 | _,_=>false
theorem iw (prog:Program) (w:World) {K:PySem.W.Frag}:∀ {es:List DictEntry} {D:List (Int×List (List Int))},ji K es D=true ->
 (∀ e∈es,∃ k,(PySem.intKind prog w).is k e.key=true/\e.hash=(PySem.intKind prog w).hash k)/\∃ kvs:List (Int×Value),Pairs (PySem.intKind prog w) es kvs/\kvs.map (·.1)=D.map (·.1) /\
   ∀ t R,D.lookup t=some R->∃ a,valueAt kvs t=some (.ref a)/\KTs K a R
 | [],[],_=>⟨(fun _ h=>(nomatch h)),[],.nil,rfl,fun t R h=>by cases h⟩
 | e::es,(i,R)::D,h=>by
   simp only [ji,zE9] at h
   obtain ⟨⟨⟨h1,h2⟩,h3⟩,h4⟩:=h
   obtain ⟨hk,kvs,hp,hm,hf⟩:=iw prog w h4
   split at h1
   · rename_i j t hkey
     obtain rfl:=of_decide_eq_true h1
     have hi:(PySem.intKind prog w).is j e.key=true:=by rw [hkey];show Value.isInt j (.int j t)=true;simp [Value.isInt]
     obtain ⟨a,ea,ha⟩:=qq h3
     refine ⟨fun e' he'=>?_,(j,e.val)::kvs,.cons hi rfl hp,by simp [hm],fun t' R' hl=>?_⟩
     · rcases zB2.mp he' with rfl | he'
       · exact ⟨j,hi,beq_iff_eq.mp h2⟩
       · exact hk e' he'
     · rw [zF2] at hl
       by_cases hj:t'=j
       · subst hj
         rw [beq_self_eq_true] at hl
         cases hl
         exact ⟨a,by simp [valueAt,ea],ha⟩
       · have hb:(t' == j)=false:=by simpa using hj
         rw [hb] at hl
         obtain ⟨b,e1,e2⟩:=hf t' R' hl
         refine ⟨b,?_,e2⟩
         rw [← e1]
         unfold valueAt
         rw [List.find?_cons]
         have:decide (j=t')=false:=by simpa using fun z=>hj z.symm
         simp only [this]
   · cases h1
 | [],_::_,h=>by simp [ji] at h
 | _::_,[],h=>by simp [ji] at h
def tabL (K:PySem.W.Frag) (a:Addr) (D:List (Int×List (List Int))):Bool:=!(a == sysModules)&&decide ((D.map (·.1)).Nodup)&&(match K.lookup a with
 | some o=>o.cls == .type "dict"&&o.dict.isNone&&o.slots.isEmpty&&(match o.data with | .dict es _=>ji K es.toList D | _=>false)
 | none=>false)
theorem qw (prog:Program) (w:World) {K:PySem.W.Frag} {h:Heap} (hK:K.In h) {a:Addr} {D:List (Int×List (List Int))} (hl:tabL K a D=true) :
 ∃ kvs:List (Int×Value),h.DictOf (PySem.intKind prog w) a kvs/\∀ t R,D.lookup t=some R->∃ b,valueAt kvs t=some (.ref b)/\KTs K b R:=by
 simp only [tabL,zE9] at hl
 obtain ⟨⟨h0,hn⟩,hl⟩:=hl
 split at hl
 · rename_i o ho
   simp only [zE9] at hl
   obtain ⟨⟨⟨e1,e2⟩,e3⟩,e4⟩:=hl
   split at e4
   · rename_i es ep hd
     obtain ⟨hk,kvs,hp,hm,hf⟩:=iw prog w e4
     exact ⟨kvs,⟨o,es,ep,hK _ _ ho,⟨beq_iff_eq.mp e1,by simpa using e2,by simpa using e3⟩,hd,fun e he=>hk e (by simpa using he),hp,by rw [hm];exact of_decide_eq_true hn⟩,hf⟩
   · cases e4
 · cases hl
structure TabG (K:PySem.W.Frag) (mg:Str->Option Value) (x:Str) (D:List (Int×List (List Int))):Prop where
 ex:∃ a,mg x=some (.ref a)/\tabL K a D=true
section
variable {X:Cx}
def tTab (K:PySem.W.Frag) (D:List (Int×List (List Int))) (ti:TE):TE:=fun σ H Q=>ti σ H fun y H1=>∃ t R,y=.int t/\D.lookup t=some R/\∀ a,KTs K a R->Q (.ref a) H1
theorem pe_tab {x:Str} {i:Expr} {ti:TE} {D:List (Int×List (List Int))} {p pos:Pos} (hg:Gl X x) (hm:TabG X.K X.mg x D) (hi:PE X i ti) (hs:NoSl i) (hd:(x == ("__debug__" : Str))=false:=by decide):PE X (.Subscript (.Name x p) i pos) (tTab X.K D ti):=by
 obtain ⟨a,ha,hl⟩:=hm.ex
 intro pins s σ H Q I h
 refine qx PySem.F.slot_dict_getitem.lookup hs (thn ((rL (v:=.ref a) hg ha rfl hd) pins s σ H (fun x H1=>x=.ref a/\H1=H) I ⟨rfl,rfl⟩) fun u s1 ⟨x,H1,I1,rx,ex,eH⟩=>?_)
 subst ex eH
 obtain rfl:u=Value.ref a:=rx
 refine thn (hi pins s1 σ H1 _ I1 h) fun iv s2 ⟨y,H2,I2,ry,t,R,ey,hD,q⟩=>?_
 subst ey
 obtain ⟨tk,rfl⟩:=ry
 obtain ⟨kvs,dd,hf⟩:=qw X.prog X.w I2.kIn hl
 obtain ⟨b,hb,hT⟩:=hf t R hD
 exact ⟨dd.typeIs,wpAny_getItem_of (intKind_is X.prog X.w t tk) dd.mapOf hb ⟨.ref b,H2,I2.tok _,rfl,q b hT⟩⟩
theorem o6 {x:Str} {i:Expr} {ti:TE} {D:List (Int×List (List Int))} {p pos:Pos} (hg:Gl X x) (hm:TabG X.K X.mg x D) (hi:ZE X i ti) (hs:NoSl i) (hd:(x == ("__debug__" : Str))=false:=by decide):ZE X (.Subscript (.Name x p) i pos) (tTab X.K D ti):=by with_unfolding_all exact pe_tab hg hm hi.p hs hd
def nO (K:PySem.W.Frag):List V->Hp->VK->Prop:=fun xs H Q=>match xs with
 | [.ref p]=>∃ ys,(SqL K H p ys\/SqT K H p ys)/\Q (.int ys.length) H
 | _=>False
theorem mE:CallR X (.builtin "len") (nO X.K):=call_len_seq.imp fun xs H Q h=>by
 unfold nO at h
 split at h
 · obtain ⟨ys,h1,q⟩:=h
   exact ⟨_,ys,rfl,h1,q⟩
 · exact h.elim
def qU (K:PySem.W.Frag):R2:=fun x y H Q=>match x,y with
 | .int i,.int j=>Q (.int (i+j)) H
 | .ref a,.ref b=>∃ xs ys,SqT K H a xs/\SqT K H b ys/\xs≠[]/\ys≠[]/\xs.length+ys.length<=sizeLine/\∀ p,H p=none->Q (.ref p) (upd H p (.tup (xs++ys)))
 | _,_=>False
theorem ld:OpR X (binaryOp .Add) (qU X.K):=by
 intro pins s σ H x y v u Q I rx ry h
 unfold qU at h
 split at h
 · exact pE pins s σ H _ _ v u Q I rx ry ⟨_,_,rfl,rfl,h⟩
 · obtain ⟨xs,ys,h1,h2,n1,n2,hz,q⟩:=h
   exact lc pins s σ H _ _ v u Q I rx ry ⟨_,_,xs,ys,rfl,rfl,h1,h2,n1,hz,fun e=>absurd e n2,fun _ p hp=>q p hp⟩
 · exact h.elim
def nI (K:PySem.W.Frag):List V->Hp->VK->Prop:=fun xs H Q=>match xs with
 | [.ref p]=>∃ ns:List Int,SqT K H p (ns.map V.int)/\Q (.int ns.sum) H
 | _=>False
theorem mn (hc:X.calm=true):CallR X (.builtin "sum") (nI X.K):=by
 intro pins s σ H xs us Q I r h
 unfold nI at h
 split at h
 · rename_i p
   obtain ⟨ns,hq,q⟩:=h
   obtain ⟨u,rfl,rx⟩:=cg r
   cases rx
   have hh:X.A.in1.handled=none:=I.ok.hd hc
   obtain ⟨its,rv,pl,hz⟩:=I.tuple hq
   have hlt:p<s.heap.objs.size:=pl.lt
   refine call_sum_walkAnyS (wpAny_pyIter_tuple (show s.heap.IsTuple p its.toArray from pl) ?_)
   refine ⟨s.heap.objs.size,_,_,_,_,_,_,fun i=>ns.getD i 0,rfl,(Walks.tuple hh s.heap.objs.size p (zB8 hlt) its.toArray).toS,⟨⟨_,Heap.get?_push_size _ rfl,rfl,rfl⟩,?_⟩,?_,fun i v hv=>bM rv hv,fun s' t' m=>?_⟩
   · exact IsTup.keeps pl fun b o e=>Heap.get?_push_of_some _ e
   · intro b hb
     rw [Heap.size_push]
     rcases zB2.mp hb with rfl | hb
     · exact zG1 _
     · rcases zB2.mp hb with rfl | hb
       · exact zH8 hlt
       · cases hb
   · have I1:Inv X pins σ H s':=I.moved m fun b o e=>⟨by simpa using zB8 (Heap.lt_size e),Heap.get?_push_of_some _ e⟩
     refine ⟨.int _,H,I1,⟨t',rfl⟩,?_⟩
     rw [zA7,← rv.length,zA0,bF]
     exact q
 · exact h.elim
def rIxK (K:PySem.W.Frag):R2:=fun x y H Q=>match x,y with
 | .ref p,.int i=>∃ xs,SqT K H p xs/\∃ v,atI xs i=some v/\Q v H
 | _,_=>False
theorem ix_K:IxR X (rIxK X.K):=by
 intro value slice pins s σ H x y v u Q I rx ry h hs
 unfold rIxK at h
 split at h
 · obtain ⟨xs,h1,w,e,q⟩:=h
   exact pK value slice pins s σ H _ _ v u Q I rx ry ⟨_,xs,_,w,rfl,rfl,h1,e,q⟩ hs
 · exact h.elim
theorem m6 {pos:Pos}:ZE X (.Dict [] [] pos) pd:=by with_unfolding_all exact oa
variable {e:Expr} {es:List Expr} {t:TA} {p pos:Pos}
theorem oh (hc:X.calm=true) (hg:Gl X "sum") (hm:X.mg "sum" = none) (ha:PA X (e::es) t) (he:starEach (e::es) X.env=(false,eval e X.env)::starEach es X.env) (hpl:(backTo pos (starEach es X.env)).any (·.1)=false) :
 PE X (.Call (.Name "sum" p) (e::es) [] pos) (tCB (nI X.K) t):=aW (mn hc) hg hm gi ha (by decide) (by decide) he hpl
theorem m7 (hc:X.calm=true) (hg:Gl X "sum") (hm:X.mg "sum" = none) (ha:ZA X (e::es) t) (he:starEach (e::es) X.env=(false,eval e X.env)::starEach es X.env) (hpl:(backTo pos (starEach es X.env)).any (·.1)=false) :
 ZE X (.Call (.Name "sum" p) (e::es) [] pos) (tCB (nI X.K) t):=by with_unfolding_all exact oh hc hg hm ha he hpl
theorem oj (hg:Gl X "len") (hm:X.mg "len" = none) (ha:PA X (e::es) t) (he:starEach (e::es) X.env=(false,eval e X.env)::starEach es X.env) (hpl:(backTo pos (starEach es X.env)).any (·.1)=false) :
 PE X (.Call (.Name "len" p) (e::es) [] pos) (tCB (nO X.K) t):=aW mE hg hm PySem.boot_len ha (by decide) (by decide) he hpl
theorem hZ (hg:Gl X "len") (hm:X.mg "len" = none) (ha:ZA X (e::es) t) (he:starEach (e::es) X.env=(false,eval e X.env)::starEach es X.env) (hpl:(backTo pos (starEach es X.env)).any (·.1)=false) :
 ZE X (.Call (.Name "len" p) (e::es) [] pos) (tCB (nO X.K) t):=by with_unfolding_all exact oj hg hm ha he hpl
def nJ:List V->Hp->VK->Prop:=fun vs H1 Q=>match vs with
 | [.int j]=>∀ p,H1 p=none->Q (.ref p) (upd H1 p (tF p 0 j 1))
 | _=>False
theorem mq:CallR X (.type "range") nJ:=by
 intro pins s σ H xs us Q I r h
 unfold nJ at h
 split at h
 · obtain ⟨u1,rfl,t1,rfl⟩:=cg r
   exact call_range_1 ⟨.ref s.heap.objs.size,_,nC I,rfl,h _ (I.hok.fresh (zA1 _))⟩
 · exact h.elim
theorem jq (hg:Gl X "range") (hm:X.mg "range" = none) (ha:PA X (e::es) t) (he:starEach (e::es) X.env=(false,eval e X.env)::starEach es X.env) (hpl:(backTo pos (starEach es X.env)).any (·.1)=false) :
 PE X (.Call (.Name "range" p) (e::es) [] pos) (tCB nJ t):=cC mq hg hm boot_range ha (by decide) (by decide) he hpl
theorem i7 (hg:Gl X "range") (hm:X.mg "range" = none) (ha:ZA X (e::es) t) (he:starEach (e::es) X.env=(false,eval e X.env)::starEach es X.env) (hpl:(backTo pos (starEach es X.env)).any (·.1)=false) :
 ZE X (.Call (.Name "range" p) (e::es) [] pos) (tCB nJ t):=by with_unfolding_all exact jq hg hm ha he hpl
end
end L2
namespace M39
def bd (ns:List Int) (k:Nat):List Int:=(List.range k).map fun (i:Nat)=>ns.getD i 0+k - 1 - i
theorem aS (ns:List Int) (k:Nat):(bd ns k).length=k:=by unfold bd;rw [zA0,zD2]
def ct (ns:List Int) (k t r:Nat):Nat:=(bd ns k).countP fun b=>decide (b % (t:Int)=(r:Int))
def rd (ns:List Int) (t:Nat):Nat:=(ns.length+t - 1) / t
def vec (ns:List Int) (t:Nat):List Int:=(List.range t).map fun (r:Nat)=>(ct ns (t*rd ns t) t r:Int) - rd ns t
theorem eO (ns:List Int) (t:Nat):(vec ns t).length=t:=by unfold vec;rw [zA0,zD2]
theorem fM (ns:List Int) {t:Nat} (ht:0<t):ns.length<=t*rd ns t:=by
 unfold rd
 have:=Nat.div_add_mod (ns.length+t - 1) t
 have h2:=Nat.mod_lt (ns.length+t - 1) ht
 lia
theorem qQ (ns:List Int) {t:Nat} (ht:0<t):t*rd ns t<=ns.length+t - 1:=by
 unfold rd
 have:=Nat.div_add_mod (ns.length+t - 1) t
 lia
theorem cnt_one:∀ (t c:Nat),(List.range t).countP (fun j=>decide (j=c))=if c<t then 1 else 0
 | 0,c=>by simp
 | t+1,c=>by
   rw [zB5,List.countP_append,cnt_one t c,List.countP_singleton]
   by_cases h:t=c
   · subst h
     rw [if_neg (zG8 _),if_pos (decide_eq_true rfl),if_pos (zG1 _)]
   · rw [if_neg (show ¬ decide (t=c)=true by simpa using h)]
     by_cases h2:c<t
     · rw [if_pos h2,if_pos (by lia)]
     · rw [if_neg h2,if_neg (by lia)]
theorem sM {ns:List Int} {k t r:Nat} (hk:ns.length<=k) (hr:r<t):ct ns (k+t) t r=ct ns k t r+1:=by
 have hz:((t:Int))≠0:=by lia
 unfold ct bd
 rw [List.range_add,zA2,List.countP_append,zE4,List.countP_map,List.countP_map,List.countP_map]
 have e1:List.countP ((fun b=>decide (b % (t:Int)=(r:Int))) ∘ fun (i:Nat)=>ns.getD i 0+((k+t:Nat):Int) - 1 - i) (List.range k)=List.countP ((fun b=>decide (b % (t:Int)=(r:Int))) ∘ fun (i:Nat)=>ns.getD i 0+(k:Int) - 1 - i) (List.range k):=by
  refine List.countP_congr fun i _=>?_
  have:ns.getD i 0+((k+t:Nat):Int) - 1 - (i:Int)=(ns.getD i 0+(k:Int) - 1 - i)+t:=by lia
  show decide ((ns.getD i 0+((k+t:Nat):Int) - 1 - (i:Int)) % (t:Int)=(r:Int))=true↔decide ((ns.getD i 0+(k:Int) - 1 - (i:Int)) % (t:Int)=(r:Int))=true
  rw [decide_eq_true_iff,decide_eq_true_iff,this,Int.add_emod_right]
 have e2:List.countP ((fun b=>decide (b % (t:Int)=(r:Int))) ∘ ((fun (i:Nat)=>ns.getD i 0+((k+t:Nat):Int) - 1 - i) ∘ fun x=>k+x)) (List.range t)=1:=by
  have h:=cnt_one t (t - 1 - r)
  rw [if_pos (by lia)] at h
  rw [← h]
  refine List.countP_congr fun j hj=>?_
  have hj':=zA6.mp hj
  show decide ((ns.getD (k+j) 0+((k+t:Nat):Int) - 1 - ((k+j:Nat):Int)) % (t:Int)=(r:Int))=true↔decide (j=t - 1 - r)=true
  rw [decide_eq_true_iff,decide_eq_true_iff]
  have g:ns.getD (k+j) 0=0:=by
   rw [zA3,List.getElem?_eq_none (by lia)]
   rfl
  rw [g]
  have:(0:Int)+((k+t:Nat):Int) - 1 - ((k+j:Nat):Int)=((t - 1 - j:Nat):Int):=by lia
  rw [this]
  have hm:((t - 1 - j:Nat):Int) % (t:Int)=((t - 1 - j:Nat):Int):=Int.emod_eq_of_lt (by lia) (by lia)
  rw [hm]
  lia
 rw [e1,e2]
theorem bO {ns:List Int} {t r:Nat} (hr:r<t):∀ m:Nat,ct ns (t*(rd ns t+m)) t r=ct ns (t*rd ns t) t r+m
 | 0=>rfl
 | m+1=>by
   have e:t*(rd ns t+(m+1))=t*(rd ns t+m)+t:=by rw [← zI5,Nat.mul_add,Nat.mul_one]
   have:=fM ns (t:=t) (by lia)
   rw [e,sM (by rw [Nat.mul_add];lia) hr,bO hr m]
   rfl
theorem ic (ns:List Int) (t m:Nat):((List.range t).map fun (r:Nat)=>(ct ns (t*(rd ns t+m)) t r:Int) - ((rd ns t+m:Nat):Int))=vec ns t:=by
 unfold vec
 refine zA4 fun r hr=>?_
 rw [bO (zA6.mp hr) m]
 lia
theorem bj (f g:Nat->Int):∀ l:List Nat,(l.map fun r=>f r+g r).sum=(l.map f).sum+(l.map g).sum
 | []=>by simp
 | x::l=>by simp only [zA9,zB3,bj f g l];lia
theorem kr (t:Nat) (c:Int) (h0:0<=c) (h1:c<t):((List.range t).map fun (r:Nat)=>if c=(r:Int) then (1:Int) else 0).sum=1:=by
 have key:∀ n:Nat,((List.range n).map fun (r:Nat)=>if c=(r:Int) then (1:Int) else 0).sum=if c<n then 1 else 0:=by
  intro n
  induction n with
  | zero=>simp;lia
  | succ n ih=>
    rw [zB5,zA2,zC0,ih]
    simp only [zA9,zF1,zB3,zH3]
    by_cases h:c=(n:Int)
    · rw [if_neg (by lia),if_pos h,if_pos (by lia)];rfl
    · rw [if_neg h]
      by_cases h2:c<n
      · rw [if_pos h2,if_pos (by lia)];rfl
      · rw [if_neg h2,if_neg (by lia)];rfl
 rw [key,if_pos h1]
theorem cR (t:Nat) (ht:0<t):∀ l:List Int,((List.range t).map fun (r:Nat)=>((l.countP fun b=>decide (b % (t:Int)=(r:Int)):Nat):Int)).sum=l.length
 | []=>by
   have:((List.range t).map fun (r:Nat)=>(((([]:List Int).countP fun b=>decide (b % (t:Int)=(r:Int))):Nat):Int))=(List.range t).map fun _=>(0:Int):=zA4 fun _ _=>rfl
   rw [this]
   have:∀ l:List Nat,(l.map fun _=>(0:Int)).sum=0:=by
    intro l
    induction l with
    | nil=>rfl
    | cons x l ih=>rw [zA9,zB3,ih];rfl
   rw [this];rfl
 | x::l=>by
   have e:((List.range t).map fun (r:Nat)=>((((x::l).countP fun b=>decide (b % (t:Int)=(r:Int))):Nat):Int))=(List.range t).map fun (r:Nat)=>((l.countP fun b=>decide (b % (t:Int)=(r:Int)):Nat):Int)+(if x % (t:Int)=(r:Int) then (1:Int) else 0):=by
    refine zA4 fun r _=>?_
    rw [List.countP_cons]
    by_cases h:x % (t:Int)=(r:Int)
    · rw [if_pos h,if_pos (decide_eq_true h)];lia
    · rw [if_neg h,if_neg (by simpa using h)];lia
   rw [e,bj,cR t ht l,kr t _ (zF6 _ (by lia)) (zF0 _ (by lia)),zB9]
   lia
theorem j3 (ns:List Int) {t:Nat} (ht:0<t):(vec ns t).sum=0:=by
 have h:=cR t ht (bd ns (t*rd ns t))
 rw [aS] at h
 have e:vec ns t=(List.range t).map fun (r:Nat)=>((bd ns (t*rd ns t)).countP (fun b=>decide (b % (t:Int)=(r:Int))):Int)+(-(rd ns t:Int)):=by
  unfold vec ct
  refine zA4 fun r _=>by lia
 have c:∀ (z:Int) (l:List Nat),(l.map fun _=>z).sum=l.length*z:=by
  intro z l
  induction l with
  | nil=>simp
  | cons x l ih=>rw [zA9,zB3,ih,zB9,Int.natCast_add,Int.add_mul];simp;lia
 rw [e,bj (fun r=>((bd ns (t*rd ns t)).countP (fun b=>decide (b % (t:Int)=(r:Int))):Int)) (fun _=>-(rd ns t:Int)),h,c,zD2,Int.mul_neg,Int.natCast_mul]
 lia
end M39
namespace M40
open M39
def asc (l:List Int):List Int:=l.mergeSort fun a b=>decide (a<=b)
theorem aO (l:List Int):(asc l).Perm l:=List.mergeSort_perm _ _
theorem asc_up (l:List Int):(asc l).Pairwise (·<=·):=by
 have:=List.pairwise_mergeSort (le:=fun a b:Int=>decide (a<=b)) (fun a b c h1 h2=>by simp at *;lia) (fun a b=>by simp;lia) l
 exact this.imp fun h=>by simpa using h
theorem j7:∀ {l m:List Int},l.Perm m->l.Pairwise (·<=·)->m.Pairwise (·<=·)->l=m
 | [],m,h,_,_=>(List.Perm.nil_eq h)
 | a::l,[],h,_,_=>by cases h.length_eq
 | a::l,b::m,h,h1,h2=>by
   have ha:a∈b::m:=h.mem_iff.mp zA8
   have hb:b∈a::l:=h.mem_iff.mpr zA8
   have e:a=b:=by
    rcases zB2.mp ha with e | ha
    · exact e
    · rcases zB2.mp hb with e | hb
      · exact e.symm
      · have:=List.rel_of_pairwise_cons h1 hb
        have:=List.rel_of_pairwise_cons h2 ha
        lia
   subst e
   rw [j7 (List.Perm.cons_inv h) (List.Pairwise.of_cons h1) (List.Pairwise.of_cons h2)]
theorem asc_eq {l m:List Int} (h:m.Perm l) (hm:m.Pairwise (·<=·)):m=asc l:=j7 (h.trans (aO l).symm) hm (asc_up l)
theorem asc_of {l m:List Int} (h:l.Perm m):asc l=asc m:=asc_eq ((aO l).trans h) (asc_up l)
theorem fv (l:List Int):(asc l).length=l.length:=(aO l).length_eq
def dl (as:List Int):List Int:=(List.range as.length).map fun (j:Nat)=>as.getD j 0 - j
def pt (bs:List Int):List Int:=(dl (asc bs)).reverse.filter fun x=>decide (0<x)
theorem iU (as:List Int):(dl as).length=as.length:=by unfold dl;simp
theorem re {l m:List Int} (h:l.Perm m):pt l=pt m:=by unfold pt;rw [asc_of h]
theorem rng_up (m:Nat):((List.range m).map fun (i:Nat)=>(i:Int)).Pairwise (·<=·):=by
 refine zG6.mpr (List.pairwise_lt_range.imp fun h=>?_)
 lia
theorem mR {bs:List Int} (m:Nat) (h0:∀ b∈bs,(0:Int)<=b):asc (((List.range m).map fun (i:Nat)=>(i:Int))++bs.map fun (b:Int)=>b+(m:Int))=((List.range m).map fun (i:Nat)=>(i:Int))++(asc bs).map fun (b:Int)=>b+(m:Int):=by
 refine (asc_eq ?_ ?_).symm
 · exact (List.Perm.refl _).append ((aO bs).map _)
 · refine zD1.mpr ⟨rng_up m,zG6.mpr ((asc_up bs).imp fun h=>by lia),fun x hx y hy=>?_⟩
   obtain ⟨i,hi,rfl⟩:=zC5.mp hx
   obtain ⟨b,hb,rfl⟩:=zC5.mp hy
   have:=zA6.mp hi
   have:=h0 b ((aO bs).mem_iff.mp hb)
   lia
theorem oQ (m:Nat) (as:List Int):dl (((List.range m).map fun (i:Nat)=>(i:Int))++as.map fun (b:Int)=>b+(m:Int))=List.replicate m 0++dl as:=by
 unfold dl
 refine zD9 (by simp) fun j h1 h2=>?_
 have hl:j<m+as.length:=by simpa using h1
 rw [zG2,zG0]
 by_cases hj:j<m
 · rw [zG3 (by simpa using hj),List.getElem_replicate,zA3,List.getElem?_append_left (by simpa using hj),List.getElem?_map,List.getElem?_range hj]
   show ((j:Nat):Int) - j=0
   lia
 · rw [zF9 (by simpa using hj),zG2,zG0,zA3,List.getElem?_append_right (by simpa using hj),List.getElem?_map]
   have hk:j - m<as.length:=by lia
   simp only [zA0,zD2,zH0]
   rw [List.getElem?_eq_getElem hk,zA3,List.getElem?_eq_getElem hk]
   show as[j - m]+(m:Int) - (j:Int)=as[j - m] - ((j - m:Nat):Int)
   lia
theorem eZ {bs cs:List Int} (m:Nat) (h0:∀ b∈bs,(0:Int)<=b) (h:cs.Perm (((List.range m).map fun (i:Nat)=>(i:Int))++bs.map fun (b:Int)=>b+(m:Int))):pt cs=pt bs:=by
 rw [re h]
 unfold pt
 rw [mR m h0,oQ,List.reverse_append,zH4]
 have:(List.replicate m (0:Int)).reverse.filter (fun x=>decide (0<x))=[]:=by
  rw [List.reverse_replicate,List.filter_replicate]
  rfl
 rw [this,zE3]
def rq (bs:List Int) (t r:Nat):List Int:=(bs.filter fun b=>decide (b % (t:Int)=(r:Int))).map fun b=>b / (t:Int)
theorem iA:∀ (t r:Nat),r<t->(List.range t).filter (fun j=>decide (j=r))=[r]
 | 0,r,h=>by lia
 | t+1,r,h=>by
   rw [zB5,zH4]
   by_cases e:r=t
   · subst e
     have:(List.range r).filter (fun j=>decide (j=r))=[]:=by
      refine List.filter_eq_nil_iff.mpr fun j hj=>?_
      have:=zA6.mp hj
      simp
      lia
     rw [this]
     simp
   · rw [iA t r (by lia),zH6 (by simp;lia)]
     rfl
theorem mN {ns:List Int} {k:Nat} (t:Nat) (hk:ns.length<=k):bd ns (k+t)=(bd ns k).map (fun (b:Int)=>b+(t:Int))++((List.range t).reverse.map fun (j:Nat)=>(j:Int)):=by
 unfold bd
 rw [List.range_add,zA2,zE4,zE4]
 congr 1
 · refine zA4 fun i _=>?_
   show ns.getD i 0+((k+t:Nat):Int) - 1 - (i:Int)=ns.getD i 0+(k:Int) - 1 - i+t
   lia
 · refine zD9 (by simp) fun j h1 h2=>?_
   have hj:j<t:=by simpa using h1
   rw [zG2,zG0,zG2,List.getElem_reverse,zG0]
   show ns.getD (k+j) 0+((k+t:Nat):Int) - 1 - ((k+j:Nat):Int)=_
   have g:ns.getD (k+j) 0=0:=by
    rw [zA3,List.getElem?_eq_none (by lia)]
    rfl
   rw [g]
   simp only [zD2]
   lia
theorem qM {ns:List Int} {k t r:Nat} (hk:ns.length<=k) (hr:r<t):rq (bd ns (k+t)) t r=(rq (bd ns k) t r).map (fun (b:Int)=>b+((1:Nat):Int))++[0]:=by
 have hz:((t:Int))≠0:=by lia
 unfold rq
 rw [mN t hk,zH4,zA2]
 congr 1
 · rw [List.filter_map,zE4,zE4]
   have e1:((fun (b:Int)=>decide (b % (t:Int)=(r:Int))) ∘ fun (b:Int)=>b+(t:Int))=fun (b:Int)=>decide (b % (t:Int)=(r:Int)):=by
    funext b
    show decide ((b+(t:Int)) % (t:Int)=(r:Int))=_
    rw [Int.add_emod_right]
   rw [e1]
   refine zA4 fun b _=>?_
   show (b+(t:Int)) / (t:Int)=b / (t:Int)+((1:Nat):Int)
   rw [Int.add_ediv_of_dvd_right (Int.dvd_refl _),Int.ediv_self hz]
   rfl
 · rw [List.filter_map,List.filter_congr (q:=fun j=>decide (j=r)) fun j hj=>?_]
   · rw [List.filter_reverse,iA t r hr]
     show [(r:Int) / (t:Int)]=[0]
     rw [Int.ediv_eq_zero_of_lt (by lia) (by lia)]
   · have:=zA6.mp (List.mem_reverse.mp hj)
     show decide ((j:Int) % (t:Int)=(r:Int))=decide (j=r)
     rw [Int.emod_eq_of_lt (by lia) (by lia)]
     by_cases e:j=r
     · subst e;simp
     · rw [decide_eq_false e,decide_eq_false (by lia)]
theorem qO {bs:List Int} {t r:Nat} (h:∀ b∈bs,(0:Int)<=b):∀ x∈rq bs t r,(0:Int)<=x:=fun x hx=>by
 obtain ⟨b,hb,rfl⟩:=zC5.mp hx
 exact Int.ediv_nonneg (h b (zH2.mp hb).1) (by lia)
theorem g6 {ns:List Int} {k:Nat} (h:∀ n∈ns,(0:Int)<=n):∀ b∈bd ns k,(0:Int)<=b:=fun b hb=>by
 obtain ⟨i,hi,rfl⟩:=zC5.mp hb
 have:=zA6.mp hi
 have h0:(0:Int)<=ns.getD i 0:=by
  rw [zA3]
  cases e:ns[i]? with
  | none=>exact zE7 _
  | some n=>exact h n (zG7 e)
 lia
theorem nU {ns:List Int} {k t r:Nat} (hn:∀ n∈ns,(0:Int)<=n) (hk:ns.length<=k) (hr:r<t):pt (rq (bd ns (k+t)) t r)=pt (rq (bd ns k) t r):=by
 rw [qM hk hr]
 refine eZ 1 (qO (g6 hn)) ?_
 exact zH1
theorem eY {ns:List Int} {t r:Nat} (hn:∀ n∈ns,(0:Int)<=n) (hr:r<t):∀ m:Nat,pt (rq (bd ns (t*(rd ns t+m))) t r)=pt (rq (bd ns (t*rd ns t)) t r)
 | 0=>rfl
 | m+1=>by
   rw [← eY hn hr m]
   have e:t*(rd ns t+(m+1))=t*(rd ns t+m)+t:=by rw [← zI5,Nat.mul_succ]
   rw [e]
   refine nU hn ?_ hr
   have:=fM ns (t:=t) (by lia)
   have:t*rd ns t<=t*(rd ns t+m):=Nat.mul_le_mul_left _ (by lia)
   lia
def ax (t:Nat) (c:Nat->Nat):List Int:=(List.range t).flatMap fun (r:Nat)=>(List.range (c r)).map fun (i:Nat)=>((r+t*i:Nat):Int)
theorem cb (t:Nat) (c:Nat->Nat):∀ b∈ax t c,(0:Int)<=b:=fun b hb=>by
 obtain ⟨r,_,hb⟩:=List.mem_flatMap.mp hb
 obtain ⟨i,_,rfl⟩:=zC5.mp hb
 lia
theorem gc (f:Nat->Int) (g:Nat->List Int):∀ l:List Nat,(l.flatMap fun r=>f r::g r).Perm (l.map f++l.flatMap g)
 | []=>List.Perm.refl _
 | r::l=>by
   rw [zD8,zD8,zA9,zH5,zH5]
   refine List.Perm.cons _ ?_
   refine ((gc f g l).append_left (g r)).trans ?_
   rw [← zB6,← zB6]
   exact zH9 _ zH1
theorem jz (t:Nat) (c:Nat->Nat):pt (ax t fun r=>c r+1)=pt (ax t c):=by
 refine eZ t (cb t c) ?_
 unfold ax
 have e:(fun (r:Nat)=>(List.range (c r+1)).map fun (i:Nat)=>((r+t*i:Nat):Int))=fun (r:Nat)=>(r:Int)::((List.range (c r)).map fun (i:Nat)=>((r+t*i:Nat):Int)+(t:Int)):=by
  funext r
  rw [List.range_succ_eq_map,zA9,zE4]
  congr 1
  refine zA4 fun i _=>?_
  show ((r+t*(i+1):Nat):Int)=((r+t*i:Nat):Int)+(t:Int)
  rw [Nat.mul_succ]
  lia
 rw [e]
 refine (gc _ _ _).trans ?_
 rw [List.map_flatMap]
 refine zE6 _ (List.Perm.of_eq ?_)
 congr 1
 funext r
 rw [zE4]
 rfl
theorem ip {a b:List Int} (h:a.Perm b):a.sum=b.sum:=by
 induction h with
 | nil=>rfl
 | cons x _ ih=>rw [zB3,zB3,ih]
 | swap x y l=>simp only [zB3];lia
 | trans _ _ h1 h2=>rw [h1,h2]
theorem kq:∀ {l:List Int},(∀ x∈l,(0:Int)<=x)->(l.filter fun x=>decide (0<x)).sum=l.sum
 | [],_=>rfl
 | x::l,h=>by
   have ih:=kq fun y hy=>h y (zB4 _ hy)
   have:=h x zA8
   by_cases hx:0<x
   · rw [zH7 (by simpa using hx),zB3,zB3,ih]
   · rw [zH6 (by simpa using hx),zB3,ih]
     lia
theorem up_ge {as:List Int} (h:as.Pairwise (· < ·)) (h0:∀ b∈as,(0:Int)<=b):∀ (j:Nat) (hj:j<as.length),(j:Int)<=as[j]
 | 0,hj=>h0 _ (zB1 hj)
 | j+1,hj=>by
   have h1:=up_ge h h0 j (by lia)
   have h2:=zE8.mp h j (j+1) (by lia) hj (by lia)
   lia
theorem pY {bs:List Int} (h:bs.Nodup):(asc bs).Pairwise (· < ·):=by
 have h1:=asc_up bs
 have h2:(asc bs).Nodup:=(aO bs).nodup_iff.mpr h
 exact (List.pairwise_and_iff.mpr ⟨h1,h2⟩).imp fun ⟨a,b⟩=>by lia
theorem dl_nn {bs:List Int} (h:bs.Nodup) (h0:∀ b∈bs,(0:Int)<=b):∀ x∈dl (asc bs),(0:Int)<=x:=fun x hx=>by
 obtain ⟨j,hj,rfl⟩:=zC5.mp hx
 have hj':=zA6.mp hj
 rw [zA3,List.getElem?_eq_getElem hj']
 have:=up_ge (pY h) (fun b hb=>h0 b ((aO bs).mem_iff.mp hb)) j hj'
 show (0:Int)<=(asc bs)[j] - j
 lia
theorem dl_sum:∀ (as:List Int),2*(dl as).sum+(as.length:Int)*((as.length:Int) - 1)=2*as.sum:=by
 intro as
 have go:∀ (m:Nat) (f:Nat->Int),2*((List.range m).map fun (j:Nat)=>f j - j).sum+(m:Int)*((m:Int) - 1)=2*((List.range m).map f).sum:=by
  intro m f
  induction m with
  | zero=>rfl
  | succ m ih=>
    rw [zB5,zA2,zA2,zC0,zC0]
    simp only [zA9,zF1,zB3,zH3]
    have e:((m+1:Nat):Int)*(((m+1:Nat):Int) - 1)=(m:Int)*((m:Int) - 1)+2*m:=by
     have:((m+1:Nat):Int)=(m:Int)+1:=by lia
     rw [this,Int.add_mul,Int.one_mul,show (m:Int)+1 - 1=(m:Int) by lia,Int.mul_sub,Int.mul_one]
     lia
    rw [e]
    lia
 have:=go as.length fun j=>as.getD j 0
 unfold dl
 rw [this]
 congr 2
 refine zD9 (by simp) fun j h1 h2=>?_
 rw [zG2,zG0,zA3,List.getElem?_eq_getElem h2]
 rfl
theorem kO {bs:List Int} (h:bs.Nodup) (h0:∀ b∈bs,(0:Int)<=b):2*(pt bs).sum+(bs.length:Int)*((bs.length:Int) - 1)=2*bs.sum:=by
 unfold pt
 rw [kq (fun x hx=>dl_nn h h0 x (List.mem_reverse.mp hx)),ip (zG9 _)]
 have:=dl_sum (asc bs)
 rw [fv,ip (aO bs)] at this
 exact this
theorem sB {ns:List Int} (hw:ns.Pairwise (·>=·)) (hn:∀ n∈ns,(0:Int)<=n) {i j:Nat} (h:i<j):ns.getD j 0<=ns.getD i 0:=by
 rw [zA3,zA3]
 by_cases hj:j<ns.length
 · rw [List.getElem?_eq_getElem hj,List.getElem?_eq_getElem (show i<ns.length by lia)]
   exact zE8.mp hw i j (by lia) hj h
 · rw [List.getElem?_eq_none (by lia)]
   cases e:ns[i]? with
   | none=>exact zE7 _
   | some n=>exact hn n (zG7 e)
theorem mO {ns:List Int} {k:Nat} (hw:ns.Pairwise (·>=·)) (hn:∀ n∈ns,(0:Int)<=n):(bd ns k).Pairwise (· > ·):=by
 unfold bd
 refine zG6.mpr (List.pairwise_lt_range.imp fun {i j} h=>?_)
 have:=sB hw hn h
 show ns.getD j 0+(k:Int) - 1 - j<ns.getD i 0+(k:Int) - 1 - i
 lia
theorem cK {ns:List Int} {k:Nat} (hw:ns.Pairwise (·>=·)) (hn:∀ n∈ns,(0:Int)<=n):(bd ns k).Nodup:=(mO hw hn).imp fun h=>by lia
theorem eW {bs:List Int} {t r:Nat} (ht:0<t) (h:bs.Nodup):(rq bs t r).Nodup:=by
 unfold rq
 refine zG6.mpr ((List.Pairwise.filter _ h).imp_of_mem fun {a b} ha hb hab e=>hab ?_)
 have h1:a % (t:Int)=(r:Int):=by simpa using (zH2.mp ha).2
 have h2:b % (t:Int)=(r:Int):=by simpa using (zH2.mp hb).2
 rw [← Int.emod_add_mul_ediv a t,← Int.emod_add_mul_ediv b t,h1,h2,e]
theorem kF:∀ m:Nat,2*((List.range m).map fun (j:Nat)=>(j:Int)).sum=(m:Int)*((m:Int) - 1)
 | 0=>rfl
 | m+1=>by
   rw [zB5,zA2,zC0]
   simp only [zA9,zF1,zB3,zH3]
   have ih:=kF m
   have e:((m+1:Nat):Int)*(((m+1:Nat):Int) - 1)=(m:Int)*((m:Int) - 1)+2*m:=by
    have:((m+1:Nat):Int)=(m:Int)+1:=by lia
    rw [this,Int.add_mul,Int.one_mul,show (m:Int)+1 - 1=(m:Int) by lia,Int.mul_sub,Int.mul_one]
    lia
   rw [e]
   lia
theorem iO:∀ (ns:List Int) (k:Nat),ns.length<=k->((List.range k).map fun (i:Nat)=>ns.getD i 0).sum=ns.sum
 | [],k,_=>by
   have:((List.range k).map fun (i:Nat)=>([]:List Int).getD i 0)=List.replicate k 0:=by
    refine zD9 (by simp) fun j h1 h2=>by simp
   rw [this]
   simp
 | n::r,0,h=>by cases h
 | n::r,k+1,h=>by
   rw [List.range_succ_eq_map,zA9,zB3,zE4,zB3,← iO r k (by simpa using h)]
   rfl
theorem bd_sum {ns:List Int} {k:Nat} (h:ns.length<=k):2*(bd ns k).sum=2*ns.sum+(k:Int)*((k:Int) - 1):=by
 unfold bd
 have e:∀ m:Nat,2*((List.range m).map fun (i:Nat)=>ns.getD i 0+(k:Int) - 1 - i).sum=2*((List.range m).map fun (i:Nat)=>ns.getD i 0).sum+2*((m:Int)*((k:Int) - 1)) - 2*((List.range m).map fun (j:Nat)=>(j:Int)).sum:=by
  intro m
  induction m with
  | zero=>simp
  | succ m ih=>
    rw [zB5,zA2,zA2,zA2,zC0,zC0,zC0]
    simp only [zA9,zF1,zB3,zH3]
    have e:((m+1:Nat):Int)*((k:Int) - 1)=(m:Int)*((k:Int) - 1)+((k:Int) - 1):=by
     rw [show ((m+1:Nat):Int)=(m:Int)+1 by lia,Int.add_mul,Int.one_mul]
    rw [e]
    lia
 rw [e k,iO ns k h,kF]
 lia
theorem aR (c:Int) (f:Nat->Int):∀ l:List Nat,(l.map fun r=>c*f r).sum=c*(l.map f).sum
 | []=>by simp
 | r::l=>by rw [zA9,zB3,zA9,zB3,aR c f l,zI6]
def cnt (bs:List Int) (t r:Nat):Nat:=bs.countP fun b=>decide (b % (t:Int)=(r:Int))
theorem fI (bs:List Int) (t r:Nat):(rq bs t r).length=cnt bs t r:=by
 unfold rq cnt
 rw [zA0,List.countP_eq_length_filter]
theorem io:∀ l:List Nat,(l.map fun _=>(0:Int)).sum=0
 | []=>rfl
 | _::l=>by rw [zA9,zB3,io l];rfl
theorem fJ {t:Nat} (ht:0<t):∀ (bs:List Int),(∀ b∈bs,(0:Int)<=b)->((List.range t).map fun (r:Nat)=>(r:Int)*(cnt bs t r:Int)+(t:Int)*(rq bs t r).sum).sum=bs.sum
 | [],_=>by
   have:((List.range t).map fun (r:Nat)=>(r:Int)*(cnt [] t r:Int)+(t:Int)*(rq [] t r).sum)=(List.range t).map fun _=>(0:Int):=by
    refine zA4 fun r _=>?_
    show (r:Int)*((0:Nat):Int)+(t:Int)*0=0
    simp
   rw [this,io]
   rfl
 | b::bs,h=>by
   have ih:=fJ ht bs fun x hx=>h x (zB4 _ hx)
   rw [zB3,← ih]
   have h0:0<=b % (t:Int):=zF6 _ (by lia)
   have h1:b % (t:Int)<t:=zF0 _ (by lia)
   have one:=kr t (b % (t:Int)) h0 h1
   have e:((List.range t).map fun (r:Nat)=>(r:Int)*(cnt (b::bs) t r:Int)+(t:Int)*(rq (b::bs) t r).sum)=(List.range t).map fun (r:Nat)=>(if b % (t:Int)=(r:Int) then b else 0)+((r:Int)*(cnt bs t r:Int)+(t:Int)*(rq bs t r).sum):=by
    refine zA4 fun r _=>?_
    unfold cnt rq
    by_cases hr:b % (t:Int)=(r:Int)
    · rw [if_pos hr,List.countP_cons_of_pos (by simpa using hr),zH7 (by simpa using hr),zA9,zB3]
      have:=Int.emod_add_mul_ediv b t
      rw [hr] at this
      rw [show ((bs.countP (fun b=>decide (b % (t:Int)=(r:Int)))+1:Nat):Int)=(bs.countP (fun b=>decide (b % (t:Int)=(r:Int))):Int)+1 by lia,zI6,zI6,Int.mul_one]
      lia
    · rw [if_neg hr,List.countP_cons_of_neg (by simpa using hr),zH6 (by simpa using hr)]
      lia
   rw [e,bj]
   congr 1
   have e2:((List.range t).map fun (r:Nat)=>if b % (t:Int)=(r:Int) then b else 0)=(List.range t).map fun (r:Nat)=>b*(if b % (t:Int)=(r:Int) then (1:Int) else 0):=by
    refine zA4 fun r _=>?_
    split <;> simp
   rw [e2,aR,one,Int.mul_one]
theorem fK {t r r' i i':Nat} (hr:r<t) (hr':r' < t) (e:r+t*i=r' + t*i'):r=r'/\i=i':=by
 have h1:(r+t*i) % t=r:=by rw [Nat.add_mul_mod_self_left,zF3 hr]
 have h2:(r' + t*i') % t=r':=by rw [Nat.add_mul_mod_self_left,zF3 hr']
 have h3:r=r':=by rw [← h1,← h2,e]
 subst h3
 have:t*i=t*i':=by lia
 exact ⟨rfl,Nat.eq_of_mul_eq_mul_left (by lia) this⟩
theorem aQ {t:Nat} (ht:0<t) (c:Nat->Nat):(ax t c).Nodup:=by
 unfold ax List.Nodup
 refine List.pairwise_flatMap.mpr ⟨fun r hr=>?_,List.pairwise_lt_range.imp_of_mem fun {r r'} hr hr' h x hx y hy e=>?_⟩
 · refine zG6.mpr (List.pairwise_lt_range.imp fun {i j} h e=>?_)
   have:=(fK (zA6.mp hr) (zA6.mp hr) (show r+t*i=r+t*j by lia)).2
   lia
 · obtain ⟨i,_,rfl⟩:=zC5.mp hx
   obtain ⟨j,_,e'⟩:=zC5.mp hy
   have:=(fK (zA6.mp hr) (zA6.mp hr') (show r+t*i=r' + t*j by lia)).1
   lia
theorem iH (r t:Nat):∀ m:Nat,2*((List.range m).map fun (i:Nat)=>((r+t*i:Nat):Int)).sum=2*((r:Int)*m)+(t:Int)*((m:Int)*((m:Int) - 1))
 | 0=>by simp
 | m+1=>by
   rw [zB5,zA2,zC0,zI6,iH r t m]
   simp only [zA9,zF1,zB3,zH3]
   have e:((m+1:Nat):Int)*(((m+1:Nat):Int) - 1)=(m:Int)*((m:Int) - 1)+2*m:=by
    have:((m+1:Nat):Int)=(m:Int)+1:=by lia
    rw [this,Int.add_mul,Int.one_mul,show (m:Int)+1 - 1=(m:Int) by lia,Int.mul_sub,Int.mul_one]
    lia
   rw [e,zI6,show ((m+1:Nat):Int)=(m:Int)+1 by lia,zI6,Int.mul_one]
   have e3:((r+t*m:Nat):Int)=(r:Int)+(t:Int)*(m:Int):=by rw [Int.natCast_add,Int.natCast_mul]
   rw [e3,zI6 (t:Int),show (t:Int)*(2*(m:Int))=2*((t:Int)*(m:Int)) by rw [← Int.mul_assoc,Int.mul_comm (t:Int) 2,Int.mul_assoc]]
   lia
theorem iQ (f:Nat->List Int):∀ l:List Nat,(l.flatMap f).sum=(l.map fun r=>(f r).sum).sum
 | []=>rfl
 | r::l=>by rw [zD8,zC0,zA9,zB3,iQ f l]
theorem fj (f:Nat->List Int):∀ l:List Nat,((l.flatMap f).length:Int)=(l.map fun r=>((f r).length:Int)).sum
 | []=>rfl
 | r::l=>by
   rw [zD8,zA5,zA9,zB3,← fj f l]
   lia
theorem fT (t:Nat) (c:Nat->Nat):2*(ax t c).sum=((List.range t).map fun (r:Nat)=>2*((r:Int)*(c r:Int))+(t:Int)*((c r:Int)*((c r:Int) - 1))).sum:=by
 unfold ax
 rw [iQ,← aR]
 congr 1
 exact zA4 fun r _=>iH r t (c r)
theorem bB (t:Nat) (c:Nat->Nat):((ax t c).length:Int)=((List.range t).map fun (r:Nat)=>(c r:Int)).sum:=by
 unfold ax
 rw [fj]
 congr 1
 refine zA4 fun r _=>?_
 rw [zA0,zD2]
theorem qk {ns:List Int} {t k:Nat} (ht:0<t) (hn:∀ n∈ns,(0:Int)<=n) (hw:ns.Pairwise (·>=·)) (hk:ns.length<=k) :
 (pt (ax t fun r=>cnt (bd ns k) t r)).sum+(t:Int)*((List.range t).map fun (r:Nat)=>(pt (rq (bd ns k) t r)).sum).sum=ns.sum:=by
 have h1:=kO (aQ ht fun r=>cnt (bd ns k) t r) (cb t _)
 have hl:((ax t fun r=>cnt (bd ns k) t r).length:Int)=k:=by
  rw [bB]
  have:=cR t ht (bd ns k)
  rw [aS] at this
  exact this
 rw [hl,fT] at h1
 have h2:=fJ ht (bd ns k) (g6 hn)
 have h3:=bd_sum hk
 have h4:((List.range t).map fun (r:Nat)=>2*((r:Int)*(cnt (bd ns k) t r:Int))+(t:Int)*((cnt (bd ns k) t r:Int)*((cnt (bd ns k) t r:Int) - 1))).sum+2*((t:Int)*((List.range t).map fun (r:Nat)=>(pt (rq (bd ns k) t r)).sum).sum)=2*(bd ns k).sum:=by
  rw [← h2,← aR 2 (fun (r:Nat)=>(r:Int)*(cnt (bd ns k) t r:Int)+(t:Int)*(rq (bd ns k) t r).sum),← aR (t:Int),← aR 2,← bj]
  congr 1
  refine zA4 fun r _=>?_
  have g:=kO (eW (r:=r) ht (cK hw hn)) (qO (t:=t) (r:=r) (g6 (k:=k) hn))
  rw [fI] at g
  have g2:(t:Int)*(2*(pt (rq (bd ns k) t r)).sum+(cnt (bd ns k) t r:Int)*((cnt (bd ns k) t r:Int) - 1))=(t:Int)*(2*(rq (bd ns k) t r).sum):=by rw [g]
  rw [zI6] at g2
  have a1:(t:Int)*(2*(pt (rq (bd ns k) t r)).sum)=2*((t:Int)*(pt (rq (bd ns k) t r)).sum):=by rw [← Int.mul_assoc,Int.mul_comm (t:Int) 2,Int.mul_assoc]
  have a2:(t:Int)*(2*(rq (bd ns k) t r).sum)=2*((t:Int)*(rq (bd ns k) t r).sum):=by rw [← Int.mul_assoc,Int.mul_comm (t:Int) 2,Int.mul_assoc]
  rw [a1,a2] at g2
  rw [zI6]
  lia
 lia
theorem ge:∀ {l:List Int},l.Pairwise (·>=·)->(∀ x∈l,(0:Int)<=x)->∀ i:Nat,(l.filter fun x=>decide (0<x)).getD i 0=l.getD i 0
 | [],_,_,_=>rfl
 | x::l,h,h0,i=>by
   by_cases hx:0<x
   · rw [zH7 (by simpa using hx)]
     cases i with
     | zero=>rfl
     | succ i=>exact ge (List.Pairwise.of_cons h) (fun y hy=>h0 y (zB4 _ hy)) i
   · have hz:∀ y∈x::l,y=0:=fun y hy=>by
      have:=h0 y hy
      rcases zB2.mp hy with rfl | hy
      · lia
      · have:=List.rel_of_pairwise_cons h hy
        lia
     have e:(x::l).filter (fun x=>decide (0<x))=[]:=List.filter_eq_nil_iff.mpr fun y hy=>by rw [hz y hy];decide
     rw [e,zA3,zA3]
     cases g:(x::l)[i]? with
     | none=>rfl
     | some y=>exact (hz y (zG7 g)).symm
theorem dl_up {bs:List Int} (h:bs.Nodup):(dl (asc bs)).Pairwise (·<=·):=by
 unfold dl
 refine zG6.mpr (List.pairwise_lt_range.imp_of_mem fun {i j} hi hj hij=>?_)
 have hi':=zA6.mp hi
 have hj':=zA6.mp hj
 rw [zA3,zA3,List.getElem?_eq_getElem hi',List.getElem?_eq_getElem hj']
 show (asc bs)[i] - (i:Int)<=(asc bs)[j] - (j:Int)
 have go:∀ (m:Nat) (hm:i+m<(asc bs).length),(asc bs)[i]+(m:Int)<=(asc bs)[i+m]:=by
  intro m
  induction m with
  | zero=>intro _;exact Int.le_of_eq (by simp)
  | succ m ih=>
    intro hm
    have h1:=ih (by lia)
    have h2:=zE8.mp (pY h) (i+m) (i+(m+1)) (by lia) hm (by lia)
    lia
 have:=go (j - i) (by lia)
 have e:i+(j - i)=j:=by lia
 simp only [e] at this
 lia
theorem jO {bs:List Int} (h:bs.Nodup) (h0:∀ b∈bs,(0:Int)<=b):bd (pt bs) bs.length=(asc bs).reverse:=by
 have hl:=fv bs
 refine List.ext_getElem? fun i=>?_
 by_cases hi:i<bs.length
 · have hk:bs.length - 1 - i<(asc bs).length:=by lia
   have hp:(dl (asc bs)).reverse.Pairwise (·>=·):=List.pairwise_reverse.mpr (dl_up h)
   have e1:(pt bs).getD i 0=(asc bs)[bs.length - 1 - i] - ((bs.length - 1 - i:Nat):Int):=by
    unfold pt
    rw [ge hp (fun x hx=>dl_nn h h0 x (List.mem_reverse.mp hx)),zA3,List.getElem?_reverse (by rw [iU,hl];exact hi),iU,hl]
    unfold dl
    rw [List.getElem?_map,List.getElem?_range hk]
    show (asc bs).getD (bs.length - 1 - i) 0 - ((bs.length - 1 - i:Nat):Int)=_
    rw [zA3,List.getElem?_eq_getElem hk]
    rfl
   unfold bd
   rw [List.getElem?_map,List.getElem?_range hi,List.getElem?_reverse (by lia),hl,List.getElem?_eq_getElem hk]
   show some ((pt bs).getD i 0+(bs.length:Int) - 1 - (i:Int))=_
   rw [e1]
   congr 1
   lia
 · rw [List.getElem?_eq_none (by rw [aS];lia),List.getElem?_eq_none (by rw [List.length_reverse,hl];lia)]
theorem dB (bs:List Int):(pt bs).length<=bs.length:=by
 unfold pt
 refine zC8 (List.length_filter_le _ _) ?_
 rw [List.length_reverse,iU,fv]
 exact zA1 _
theorem kP {bs:List Int} (h:bs.Nodup):(∀ n∈pt bs,(1:Int)<=n)/\(pt bs).Pairwise (·>=·):=by
 refine ⟨fun n hn=>?_,?_⟩
 · have:0<n:=by simpa using (zH2.mp hn).2
   lia
 · exact List.Pairwise.filter _ (List.pairwise_reverse.mpr (dl_up h))
theorem dQ {t:Nat} (ht:0<t) (c:Nat->Nat) {r:Nat} (hr:r<t):cnt (ax t c) t r=c r:=by
 unfold cnt ax
 rw [List.countP_flatMap]
 have e:(List.map (List.countP fun b=>decide (b % (t:Int)=(r:Int))) ((List.range t).map fun (r':Nat)=>(List.range (c r')).map fun (i:Nat)=>((r' + t*i:Nat):Int)))=(List.range t).map fun (r':Nat)=>if r'=r then c r' else 0:=by
  rw [zE4]
  refine zA4 fun r' hr'=>?_
  have hr2:=zA6.mp hr'
  show ((List.range (c r')).map fun (i:Nat)=>((r' + t*i:Nat):Int)).countP (fun b=>decide (b % (t:Int)=(r:Int)))=_
  have hm:∀ i:Nat,((r' + t*i:Nat):Int) % (t:Int)=(r':Int):=fun i=>by
   rw [← Int.natCast_emod,Nat.add_mul_mod_self_left,zF3 hr2]
  by_cases hh:r'=r
  · subst hh
    rw [if_pos rfl,List.countP_eq_length.mpr fun b hb=>?_]
    · simp
    · obtain ⟨i,_,rfl⟩:=zC5.mp hb
      simpa using hm i
  · rw [if_neg hh,List.countP_eq_zero.mpr fun b hb=>?_]
    obtain ⟨i,_,rfl⟩:=zC5.mp hb
    rw [decide_eq_true_iff,hm i]
    lia
 have go:∀ t:Nat,r<t->((List.range t).map fun (r':Nat)=>if r'=r then c r' else 0).sum=c r:=by
  intro t
  induction t with
  | zero=>intro h;lia
  | succ t ih=>
    intro h
    rw [zB5,zA2,zC0]
    simp only [zA9,zF1,zB3,zH3]
    by_cases e:r=t
    · subst e
      have z:((List.range r).map fun (r':Nat)=>if r'=r then c r' else 0)=(List.range r).map fun _=>0:=by
       refine zA4 fun j hj=>?_
       have:=zA6.mp hj
       rw [if_neg (by lia)]
      rw [z,if_pos rfl,List.map_const',List.sum_replicate_nat]
      lia
    · rw [ih (by lia),if_neg (by lia)]
      lia
 have e':=congrArg List.sum e
 rw [go t hr,zE4] at e'
 exact e'
theorem iX {ns:List Int} {t k:Nat} (ht:0<t):(ax t fun r=>cnt (bd ns k) t r).length=k:=by
 have h:((ax t fun r=>cnt (bd ns k) t r).length:Int)=k:=by
  rw [bB]
  have:=cR t ht (bd ns k)
  rw [aS] at this
  exact this
 lia
theorem ie {ns:List Int} {t:Nat} (ht:0<t):vec (pt (ax t fun r=>cnt (bd ns (t*rd ns t)) t r)) t=vec ns t:=by
 generalize hL:(ax t fun r=>cnt (bd ns (t*rd ns t)) t r)=L
 have hlen:L.length=t*rd ns t:=by rw [← hL];exact iX ht
 have hnd:L.Nodup:=by rw [← hL];exact aQ ht _
 have hnn:∀ b∈L,(0:Int)<=b:=by rw [← hL];exact cb t _
 have hb:=jO hnd hnn
 rw [hlen] at hb
 have hct:∀ r:Nat,r<t->ct (pt L) (t*rd ns t) t r=ct ns (t*rd ns t) t r:=fun r hr=>by
  unfold ct
  rw [hb,(zG9 _).countP_eq,(aO L).countP_eq]
  have:=dQ ht (fun r=>cnt (bd ns (t*rd ns t)) t r) hr
  rw [hL] at this
  exact this
 have hle:rd (pt L) t<=rd ns t:=by
  have h1:=dB L
  rw [hlen] at h1
  unfold rd at *
  have h2:((pt L).length+t - 1) / t<=(t*((ns.length+t - 1) / t)+(t - 1)) / t:=Nat.div_le_div_right (by lia)
  have h3:(t*((ns.length+t - 1) / t)+(t - 1)) / t=(ns.length+t - 1) / t:=by
   have h4:(t - 1) / t=0:=Nat.div_eq_of_lt (Nat.sub_lt ht (by decide))
   rw [Nat.mul_add_div ht,h4,zF5]
  lia
 have hm:=ic (pt L) t (rd ns t - rd (pt L) t)
 have e:rd (pt L) t+(rd ns t - rd (pt L) t)=rd ns t:=by lia
 rw [e] at hm
 rw [← hm]
 unfold vec
 refine zA4 fun r hr=>?_
 rw [hct r (zA6.mp hr)]
end M40
namespace M43
open M39 M40
theorem j4 {t R:Nat} {c:Nat->Nat} (ht:0<t) (hs:((List.range t).map fun (r:Nat)=>(c r:Int)).sum=((t*R:Nat):Int)):vec (pt (ax t c)) t=(List.range t).map fun (r:Nat)=>(c r:Int) - R:=by
 have hlen:(ax t c).length=t*R:=by
  have:=bB t c
  rw [hs] at this
  lia
 have hnd:=aQ ht c
 have hnn:=cb t c
 have hb:=jO hnd hnn
 rw [hlen] at hb
 have hct:∀ r:Nat,r<t->ct (pt (ax t c)) (t*R) t r=c r:=fun r hr=>by
  unfold ct
  rw [hb,(zG9 _).countP_eq,(aO _).countP_eq]
  exact dQ ht c hr
 have hle:rd (pt (ax t c)) t<=R:=by
  have h1:=dB (ax t c)
  rw [hlen] at h1
  unfold rd
  have h2:((pt (ax t c)).length+t - 1) / t<=(t*R+(t - 1)) / t:=Nat.div_le_div_right (by lia)
  have h3:(t*R+(t - 1)) / t=R:=by
   have h4:(t - 1) / t=0:=Nat.div_eq_of_lt (Nat.sub_lt ht (by decide))
   rw [Nat.mul_add_div ht,h4,zF5]
  lia
 have hm:=ic (pt (ax t c)) t (R - rd (pt (ax t c)) t)
 have e:rd (pt (ax t c)) t+(R - rd (pt (ax t c)) t)=R:=by lia
 rw [e] at hm
 rw [← hm]
 refine zA4 fun r hr=>?_
 rw [hct r (zA6.mp hr)]
theorem bC (t:Nat) (c:Nat->Nat):∀ m:Nat,pt (ax t fun r=>c r+m)=pt (ax t c)
 | 0=>rfl
 | m+1=>(jz t fun r=>c r+m).trans (bC t c m)
theorem bK {t:Nat} {c d:Nat->Nat} (h:∀ r,r<t->c r=d r):ax t c=ax t d:=by
 unfold ax
 rw [List.flatMap_def,List.flatMap_def]
 congr 1
 refine zA4 fun r hr=>?_
 rw [h r (zA6.mp hr)]
theorem oW {t R:Nat} {c:Nat->Nat} (ht:0<t) (hs:((List.range t).map fun (r:Nat)=>(c r:Int)).sum=((t*R:Nat):Int)):pt (ax t fun r=>cnt (bd (pt (ax t c)) (t*rd (pt (ax t c)) t)) t r)=pt (ax t c):=by
 have hlen:(ax t c).length=t*R:=by
  have:=bB t c
  rw [hs] at this
  lia
 have hb:=jO (aQ ht c) (cb t c)
 rw [hlen] at hb
 have hle:rd (pt (ax t c)) t<=R:=by
  have h1:=dB (ax t c)
  rw [hlen] at h1
  unfold rd
  have h2:((pt (ax t c)).length+t - 1) / t<=(t*R+(t - 1)) / t:=Nat.div_le_div_right (by lia)
  have h3:(t*R+(t - 1)) / t=R:=by
   have h4:(t - 1) / t=0:=Nat.div_eq_of_lt (Nat.sub_lt ht (by decide))
   rw [Nat.mul_add_div ht,h4,zF5]
  lia
 obtain ⟨m,hm⟩:∃ m,R=rd (pt (ax t c)) t+m:=⟨R - rd (pt (ax t c)) t,by lia⟩
 have e:∀ r,r<t->cnt (bd (pt (ax t c)) (t*rd (pt (ax t c)) t)) t r+m=c r:=fun r hr=>by
  have h1:=bO (ns:=pt (ax t c)) hr m
  rw [← hm] at h1
  have h2:ct (pt (ax t c)) (t*R) t r=c r:=by
   unfold ct
   rw [hb,(zG9 _).countP_eq,(aO _).countP_eq]
   exact dQ ht c hr
  rw [h2] at h1
  exact h1.symm
 rw [← bC t _ m,bK e]
def sq (t:Nat) (n:Nat->Int):Int:=((List.range t).map fun (r:Nat)=>n r*n r).sum
def ro (t:Nat) (n:Nat->Int):Int:=((List.range t).map fun (r:Nat)=>(r:Int)*n r).sum
theorem ei {t R:Nat} {c:Nat->Nat} {n:Nat->Int} (ht:0<t) (hc:∀ r,r<t->(c r:Int)=R+n r) (hn:((List.range t).map n).sum=0):2*(pt (ax t c)).sum=(t:Int)*sq t n+2*ro t n:=by
 have hs:((List.range t).map fun (r:Nat)=>(c r:Int)).sum=(t:Int)*R:=by
  have:∀ m:Nat,((List.range m).map fun (r:Nat)=>(R:Int)+n r).sum=(m:Int)*R+((List.range m).map n).sum:=by
   intro m
   induction m with
   | zero=>simp
   | succ m ih=>
     rw [zB5,zA2,zA2,zC0,zC0,ih]
     simp only [zA9,zF1,zB3,zH3]
     rw [show ((m+1:Nat):Int)=(m:Int)+1 by lia,Int.add_mul,Int.one_mul]
     lia
  rw [zA4 (g:=fun (r:Nat)=>(R:Int)+n r) fun r hr=>hc r (zA6.mp hr),this t,hn,Int.add_zero]
 have h1:=kO (aQ ht c) (cb t c)
 rw [bB,hs,fT] at h1
 have h2:((List.range t).map fun (r:Nat)=>2*((r:Int)*(c r:Int))+(t:Int)*((c r:Int)*((c r:Int) - 1))).sum=(R:Int)*((t:Int)*((t:Int) - 1))+2*ro t n+(t:Int)*((t:Int)*((R:Int)*((R:Int) - 1)))+(t:Int)*((2*(R:Int) - 1)*((List.range t).map n).sum)+(t:Int)*sq t n:=by
  have e:((List.range t).map fun (r:Nat)=>2*((r:Int)*(c r:Int))+(t:Int)*((c r:Int)*((c r:Int) - 1)))=(List.range t).map fun (r:Nat)=>2*((r:Int)*((R:Int)+n r))+(t:Int)*(((R:Int)+n r)*(((R:Int)+n r) - 1)):=by
   refine zA4 fun r hr=>?_
   rw [hc r (zA6.mp hr)]
  rw [e]
  have go:∀ m:Nat,((List.range m).map fun (r:Nat)=>2*((r:Int)*((R:Int)+n r))+(t:Int)*(((R:Int)+n r)*(((R:Int)+n r) - 1))).sum=(R:Int)*((m:Int)*((m:Int) - 1))+2*ro m n+(t:Int)*((m:Int)*((R:Int)*((R:Int) - 1)))+(t:Int)*((2*(R:Int) - 1)*((List.range m).map n).sum)+(t:Int)*sq m n:=by
   intro m
   induction m with
   | zero=>simp [ro,sq]
   | succ m ih=>
     unfold ro sq at ih ⊢
     rw [zB5,zA2,zA2,zA2,zA2,zC0,zC0,zC0,zC0,ih]
     simp only [zA9,zF1,zB3,zH3,Int.add_zero]
     have e1:((m+1:Nat):Int)=(m:Int)+1:=by lia
     rw [e1]
     generalize (m:Int)=M
     generalize (R:Int)=Q
     generalize (t:Int)=T
     generalize n m=N
     generalize ((List.range m).map fun (r:Nat)=>(r:Int)*n r).sum=A
     generalize ((List.range m).map n).sum=B
     generalize ((List.range m).map fun (r:Nat)=>n r*n r).sum=C
     grind
  exact go t
 rw [h2,hn,Int.mul_zero,Int.mul_zero] at h1
 generalize (pt (ax t c)).sum=S at h1 ⊢
 generalize sq t n=A at h1 ⊢
 generalize ro t n=B at h1 ⊢
 generalize (t:Int)=T at h1 ⊢
 generalize (R:Int)=Q at h1
 grind
end M43
namespace K51
open PySem L2 M39 M40 M43
theorem aZ {H H':Hp} {p:Addr} (y:Same H H') (h:H' p=none):H p=none:=by
 cases e:H p with
 | none=>rfl
 | some o=>
   have:=y _ _ e
   rw [h] at this
   cases this
def Tu (K:PySem.W.Frag) (H:Hp) (a:Addr) (ns:List Int) (k:Nat):Prop:=(H a=some (.tup (ns.map V.int))/\ns.length<=k)\/(KTu K a (ns.map V.int)/\0<ns.length/\ns.length<k)
theorem Tu.sq {K:PySem.W.Frag} {H H':Hp} {a:Addr} {ns:List Int} {k:Nat} (h:Tu K H a ns k) (y:Same H H'):SqT K H' a (ns.map V.int):=by
 rcases h with ⟨h,_⟩ | ⟨h,_⟩
 · exact SqT.of (y _ _ h)
 · exact h.sq _
theorem Tu.le {K:PySem.W.Frag} {H:Hp} {a:Addr} {ns:List Int} {k:Nat} (h:Tu K H a ns k):ns.length<=k:=by rcases h with h | h <;> lia
theorem Tu.same {K:PySem.W.Frag} {H H':Hp} {a:Addr} {ns:List Int} {k:Nat} (h:Tu K H a ns k) (y:Same H H'):Tu K H' a ns k:=by
 rcases h with ⟨h,l⟩ | h
 · exact .inl ⟨y _ _ h,l⟩
 · exact .inr h
def rAddE (K:PySem.W.Frag):R2:=fun x y H Q=>qT K x y H Q\/qU K x y H Q
theorem sa {X:Cx}:OpR X (binaryOp .Add) (rAddE X.K):=fun pins s σ H x y v u Q I rx ry h=>h.elim (aE pins s σ H x y v u Q I rx ry) (ld pins s σ H x y v u Q I rx ry)
theorem s0 {K:PySem.W.Frag} {H:Hp} {a b:Addr} {ns:List Int} {k:Nat} {Q:VK} (h:Tu K H a ns k) (hb:H b=some (.tup ((List.replicate (k - ns.length) (0:Int)).map V.int))) (hl:(ns.map V.int).length+((List.replicate (k - ns.length) (0:Int)).map V.int).length<=sizeLine) (q:∀ r H',Same H H'->H' r=some (.tup (ns.map V.int++(List.replicate (k - ns.length) (0:Int)).map V.int))->Q (.ref r) H'):rAddE K (.ref a) (.ref b) H Q:=by
 rcases h with ⟨h,_⟩ | ⟨h,h1,h2⟩
 · exact .inl (.inr ⟨_,_,h,hb,hl,q⟩)
 · refine .inr ⟨_,_,h.sq _,SqT.of hb,fun z=>?_,fun z=>?_,hl,fun p hp=>q p _ (Same.new hp _) ad⟩
   · have:=congrArg List.length z
     rw [zA0] at this
     have:ns.length=0:=this
     lia
   · have:=congrArg List.length z
     rw [zA0,zH0] at this
     have:k - ns.length=0:=this
     lia
structure Lls (H:Hp) (rs:List Addr) (lss:List (List Int)):Prop where
 len:rs.length=lss.length
 at_:∀ (i:Nat) (h1:i<rs.length) (h2:i<lss.length),H rs[i]=some (.lst (lss[i].map V.int))
 nd:rs.Nodup
theorem Lls.same {H H':Hp} {rs:List Addr} {lss:List (List Int)} (x:Lls H rs lss) (y:Same H H'):Lls H' rs lss:=⟨x.len,fun i h1 h2=>y _ _ (x.at_ i h1 h2),x.nd⟩
theorem Lls.set {H:Hp} {rs:List Addr} {lss:List (List Int)} {i:Nat} {ls:List Int} (x:Lls H rs lss) (h1:i<rs.length):Lls (upd H rs[i] (.lst (ls.map V.int))) rs (lss.set i ls):=by
 refine ⟨by rw [List.length_set];exact x.len,fun j h2 h3=>?_,x.nd⟩
 rw [List.length_set] at h3
 by_cases e:i=j
 · subst e
   rw [ad,List.getElem_set_self]
 · have ne:rs[j]≠rs[i]:=fun z=>e ((List.getElem_inj x.nd).mp z).symm
   rw [ao ne,List.getElem_set_ne e]
   exact x.at_ j h2 h3
theorem Lls.mem {H:Hp} {rs:List Addr} {lss:List (List Int)} (x:Lls H rs lss) {r:Addr} (h:r∈rs):∃ xs,H r=some (.lst xs):=by
 obtain ⟨i,hi,rfl⟩:=zE5.mp h
 exact ⟨_,x.at_ i hi (by rw [← x.len];exact hi)⟩
def But (rs:List Addr) (H H':Hp):Prop:=∀ b o,b∉rs->H b=some o->H' b=some o
theorem But.upd {rs:List Addr} {H H1:Hp} {r:Addr} {o:HO} (x:But rs H H1) (h:r∈rs):But rs H (upd H1 r o):=fun b u nb e=>by
 rw [ao (show b≠r from fun z=>nb (by rw [z];exact h))]
 exact x b u nb e
section
variable {P:Program} {w:World} {K:PySem.W.Frag} {mg:Str->Option Value} {base:Heap} {f:Addr} {fd:FuncData}
theorem sc_beads_of:FnScope ["parting","many","parts"] ["parting","many"] (ag (top 5)):=⟨rfl,rfl,rfl,by decide +kernel,rfl,by decide +kernel,by decide +kernel⟩
def bE (K:PySem.W.Frag):Sp:=fun vs H Q _=>∃ (a:Addr) (ns:List Int) (k:Nat),vs=[.ref a,.int k]/\Tu K H a ns k/\k<=900/\∀ p H',H p=none->Same H H'->H' p=some (.lst ((bd ns k).map V.int))->Q (.ref p) H'
theorem rY {ns:List Int} {k i:Nat} (hk:ns.length<=k) (hi:i<k):(ns.map V.int++(List.replicate (k - ns.length) (0:Int)).map V.int)[i]? = some (.int (ns.getD i 0)):=by
 rw [← zA2,List.getElem?_map]
 by_cases h:i<ns.length
 · rw [List.getElem?_append_left h,List.getElem?_eq_getElem h,zA3,List.getElem?_eq_getElem h];rfl
 · rw [List.getElem?_append_right (by lia),List.getElem?_replicate,if_pos (by lia),zA3,List.getElem?_eq_none (by lia)];rfl
def tH (ns:List Int) (k m:Nat):List Int:=(List.range m).map fun (i:Nat)=>ns.getD i 0+k - 1 - i
theorem mP (ns:List Int) (k m:Nat):tH ns k (m+1)=tH ns k m++[ns.getD m 0+k - 1 - m]:=by unfold tH;rw [zB5,zA2];rfl
theorem oY (ns:List Int) (k m:Nat):(tH ns k m).length=m:=by unfold tH;rw [zA0,zD2]
theorem gP (F:Fun K "beads_of" "beads_of" (top 5) f fd) (m_enumerate:mg "enumerate" = none) (m_len:mg "len" = none):FnOk P w K mg base CX0 1 f fd ["parting","many"] (bE K):=by
 refine F.okz sc_beads_of (fun vs H Q E h=>?_) (fun cdv A outer s H vs Q E hr h=>?_)
 · obtain ⟨a,ns,k,rfl,_⟩:=h;rfl
 obtain ⟨a,ns,k,rfl,ha,hk9,q⟩:=h
 have hk:=ha.le
 have nd:=sc_beads_of.nd
 have hu:=hr.units
 refine ⟨_,(af (ay (i:=2) nd rfl (Or.inl rfl) (am sa (zn 0) (am aG (ee (aa ah ae)) (am bG (zn 1) (hZ rfl m_len (aa (zn 0) ae) rfl rfl)))))
  (ai (aC (aN ["at","part"] [("many",1)] rfl ⟨rfl,by decide +kernel,by decide +kernel,rfl,rfl⟩ (bD rfl m_enumerate (aa (zn 2) ae)) dJ (fun _ _ _ _=>ce rfl (aA (aj (i:=0) (show List.Nodup (["at","part","many"]:List Str) by decide +kernel) rfl (Or.inl rfl)) (aA (aj (i:=1) (show List.Nodup (["at","part","many"]:List Str) by decide +kernel) rfl (Or.inl rfl)) bx))) (fun _ _ _ _=>aH) (fun _ _ _ _=>(am bG (am bG (am aE (zn 1) (zn 2)) ah) (zn 0))))))),?_⟩
 refine ⟨by show 1<=sizeLine;decide,fun d hd=>?_⟩
 have yd:=Same.new hd (.tup [V.int 0])
 refine ⟨_,.inr (ha.sq yd),?_⟩
 rw [zA0]
 have ek:((k:Int) - (ns.length:Int)).toNat=k - ns.length:=by lia
 refine ⟨⟨by lia,by lia⟩,.inr ⟨_,ad,cT (by rw [ek];show 1*(k - ns.length)<=1000;lia),fun r H1 y1 hr1=>?_⟩⟩
 rw [dg,ek] at hr1
 refine s0 (ha.same (yd.trans y1)) hr1 (cT (by rw [zA0,zA0,zH0];lia)) fun r2 H2 y2 hr2=>?_
 have hlen:(ns.map V.int++(List.replicate (k - ns.length) (0:Int)).map V.int).length=k:=by rw [zA5,zA0,zA0,zH0];lia
 have yy:=(yd.trans y1).trans y2
 refine ⟨true,_,SqK.tup hr2,cJ (xs:=ns.map V.int++(List.replicate (k - ns.length) (0:Int)).map V.int) (fun i zs H'=>Same H2 H'/\zs=(tH ns k i).map V.int) ⟨Same.refl _,rfl⟩ ?_ ?_ ?_ ?_⟩
 · rintro i zs H' _ ⟨y,_⟩
   exact SqK.tup (y _ _ hr2)
 · rintro i zs H' hi ⟨_,rfl⟩
   rw [zA0,oY]
   exact aq (by lia)
 · rintro i x zs H' p hx ⟨y,rfl⟩ hp
   have hi:i<k:=by rw [← hlen];exact (List.getElem?_eq_some_iff.mp hx).1
   have ex:x=.int (ns.getD i 0):=by rw [rY hk hi] at hx;exact (Option.some.inj hx).symm
   subst ex
   refine ⟨p,_,rfl,SqT.of ad,rfl,_,_,rfl,_,_,rfl,rfl,?_⟩
   refine ⟨y.trans (Same.new hp _),?_⟩
   rw [mP,zA2]
   rfl
 · rintro zs H' ⟨y,rfl⟩ D hD
   rw [hlen]
   refine q D _ ?_ ((yy.trans y).trans (Same.new hD _)) ad
   cases e:H D with
   | none=>rfl
   | some o=>have:=(yy.trans y) D o e;rw [hD] at this;cases this
theorem sc_rounds_of:FnScope ["parting","t"] ["parting","t"] (ag (top 7)):=⟨rfl,rfl,rfl,by decide +kernel,rfl,by decide +kernel,by decide +kernel⟩
def ba (K:PySem.W.Frag):Sp:=fun vs H Q _=>∃ (a:Addr) (ns:List Int) (t:Nat),vs=[.ref a,.int t]/\SqT K H a (ns.map V.int)/\0<t/\t<=100/\Q (.int (rd ns t)) H
theorem rd_int (ns:List Int) {t:Nat} (ht:0<t):((ns.length:Int)+(t:Int) - 1) / (t:Int)=(rd ns t:Int):=by
 unfold rd
 rw [Int.natCast_ediv]
 congr 1
 lia
theorem fO (F:Fun K "rounds_of" "rounds_of" (top 7) f fd) (m_len:mg "len" = none):FnOk P w K mg base CX0 1 f fd ["parting","t"] (ba K):=by
 refine F.okz sc_rounds_of (fun vs H Q E h=>?_) (fun cdv A outer s H vs Q E hr h=>?_)
 · obtain ⟨a,ns,t,rfl,_⟩:=h;rfl
 obtain ⟨a,ns,t,rfl,ha,ht,ht1,q⟩:=h
 have nd:=sc_rounds_of.nd
 refine ⟨_,(ai (aC (am bH (am bG (am ld (hZ rfl m_len (aa (zn 0) ae) rfl rfl) (zn 1)) ah) (zn 1)))),?_⟩
 refine ⟨_,.inr ha,⟨by lia,by lia⟩,?_⟩
 rw [zA0]
 show Q (.int (((ns.length:Int)+(t:Int) - 1) / (t:Int))) H
 rw [rd_int ns ht]
 exact q
def rn (bs:List Int) (t r:Nat):List Int:=(bs.filter fun b=>decide (b % (t:Int)=(r:Int))).map fun b=>b / (t:Int)
def rns (bs:List Int) (t:Nat):List (List Int):=(List.range t).map fun r=>rn bs t r
theorem bT (bs:List Int) (t:Nat):(rns bs t).length=t:=by unfold rns;rw [zA0,zD2]
theorem dz (bs:List Int) {t i:Nat} (h:i<(rns bs t).length):(rns bs t)[i]=rn bs t i:=by simp [rns]
theorem nB (bs:List Int) (b:Int) {t:Nat} (ht:0<t):rns (bs++[b]) t=(rns bs t).set (b % (t:Int)).toNat (rn bs t (b % (t:Int)).toNat++[b / (t:Int)]):=by
 have h0:0<=b % (t:Int):=zF6 _ (by lia)
 have h1:b % (t:Int)<t:=zF0 _ (by lia)
 refine zD9 (by rw [List.length_set,bT,bT]) fun i hi1 hi2=>?_
 rw [dz,List.getElem_set]
 have e:rn (bs++[b]) t i=if (b % (t:Int)).toNat=i then rn bs t i++[b / (t:Int)] else rn bs t i:=by
  unfold rn
  rw [zH4,zA2,List.filter_cons]
  by_cases h:(b % (t:Int)).toNat=i
  · rw [if_pos h,if_pos (decide_eq_true (by lia))];rfl
  · rw [if_neg h,if_neg (by simp;lia)];simp
 rw [e]
 by_cases h:(b % (t:Int)).toNat=i
 · rw [if_pos h,if_pos h,h]
 · rw [if_neg h,if_neg h,dz]
theorem sc_runs_of:FnScope ["parting","t","rounds","runs","bead"] ["parting","t","rounds"] (ag (top 8)):=⟨rfl,rfl,rfl,by decide +kernel,rfl,by decide +kernel,by decide +kernel⟩
def bz (K:PySem.W.Frag):Sp:=fun vs H Q _=>∃ (a:Addr) (ns:List Int) (t k:Nat),vs=[.ref a,.int t,.int k]/\Tu K H a ns (t*k)/\0<t/\t<=100/\t*k<=900/\∀ p rs H',H p=none->(∀ r∈rs,H r=none)->Same H H'->H' p=some (.lst (rs.map V.ref))->Lls H' rs (rns (bd ns (t*k)) t)->Q (.ref p) H'
theorem ju (F:Fun K "runs_of" "runs_of" (top 8) f fd) (m_range:mg "range" = none) (F_beads_of:FnA P w K mg base "beads_of" 1 ["parting","many"] (bE K)):FnOk P w K mg base CX0 2 f fd ["parting","t","rounds"] (bz K):=by
 refine F.okz sc_runs_of (fun vs H Q E h=>?_) (fun cdv A outer s H vs Q E hr h=>?_)
 · obtain ⟨a,ns,t,k,rfl,_⟩:=h;rfl
 obtain ⟨a,ns,t,k,rfl,ha,ht,ht1,hk9,q⟩:=h
 have hk:=ha.le
 have nd:=sc_runs_of.nd
 have hu:=hr.units
 refine ⟨_,(af (d7 (i:=3) ["rest"] [] rfl nd rfl (Or.inl rfl) ⟨rfl,by decide +kernel,by decide +kernel,rfl,rfl⟩ (bQ rfl m_range (aa (zn 1) ae)) aM (fun _ _ _ _=>aj (i:=0) (show List.Nodup (["rest"]:List Str) by decide +kernel) rfl (Or.inl rfl)) (fun _ _ _ _=>aH) (fun _ _ _ _=>(a0 ae)))
  (af (bo PassesOwn.never rfl (aP (aF F_beads_of hr (by decide) rfl (aa (zn 0) (aa (am aG (zn 1) (zn 2)) ae)))) (aj (i:=4) nd rfl (Or.inl rfl)) (ai (cO (bP (bh dL (zn 3) (am bf (zn 4) (zn 1)) (fun _ _=>rfl)) (aa (am bH (zn 4) (zn 1)) ae)))))
  (ai (aC (zn 3))))),?_⟩
 refine ⟨t,rfl,by lia,by lia,ma (fun i zs H'=>Same H H'/\∃ rs:List Addr,zs=rs.map V.ref/\rs.length=i/\rs.Nodup/\∀ r∈rs,H r=none/\H' r=some (.lst [])) ⟨Same.refl H,[],rfl,rfl,List.nodup_nil,by simp⟩ ?_ ?_⟩
 · rintro i zs H' hi ⟨y,rs,rfl,hl,hnd,hrs⟩
   refine ⟨by rw [zA0];exact aq (by lia),?_⟩
   refine ⟨zC6 _,fun d hd=>?_⟩
   have dr:d∉rs:=fun z=>by have:=(hrs d z).2;rw [hd] at this;cases this
   refine ⟨y.trans (Same.new hd _),rs++[d],by rw [zA2];rfl,by rw [zA5,hl];rfl,?_,fun r hr'=>?_⟩
   · rw [List.nodup_append]
     refine ⟨hnd,by simp,fun x hx z hz=>?_⟩
     have:z=d:=by simpa using hz
     subst this
     exact fun e=>dr (e▸hx)
   · rcases zC1.mp hr' with hr' | hr'
     · refine ⟨(hrs r hr').1,?_⟩
       rw [ao (show r≠d from fun z=>dr (by rw [← z];exact hr'))]
       exact (hrs r hr').2
     · have:r=d:=by simpa using hr'
       subst this
       refine ⟨?_,ad⟩
       cases e:H r with
       | none=>rfl
       | some o=>have:=y r o e;rw [hd] at this;cases this
 · rintro zs H' ⟨y,rs,rfl,hl,hnd,hrs⟩ L hL
   have eT:((t:Int)).toNat=t:=by lia
   rw [eT] at hl
   have yL:=Same.new hL (.lst (rs.map V.ref))
   have hLn:L∉rs:=fun z=>by have:=(hrs L z).2;rw [hL] at this;cases this
   have lls0:Lls (upd H' L (.lst (rs.map V.ref))) rs (rns [] t):=by
    refine ⟨by rw [hl,bT],fun i h1 h2=>?_,hnd⟩
    rw [dz]
    exact yL _ _ (hrs _ (zB1 h1)).2
   have hLL:upd H' L (.lst (rs.map V.ref)) L=some (.lst (rs.map V.ref)):=ad
   have y0:=y.trans yL
   generalize upd H' L (.lst (rs.map V.ref))=H1 at lls0 hLL y0
   refine ⟨IntMulOk.of_right (intBits_le_64 (by lia) ?_),?_⟩
   · have:k<=t*k:=Nat.le_mul_of_pos_left k ht
     lia
   refine ⟨a,ns,t*k,by rw [Int.natCast_mul],ha.same y0,hk9,fun B H2 hB y2 hBl=>?_⟩
   have lls2:=lls0.same y2
   have hL2:=y2 _ _ hLL
   have BL:B≠L:=fun z=>by rw [z,hLL] at hB;cases hB
   have Brs:B∉rs:=fun z=>by obtain ⟨xs,e⟩:=lls0.mem z;rw [hB] at e;cases e
   have bl:(bd ns (t*k)).length<=900:=by rw [aS];exact hk9
   generalize bd ns (t*k)=bs at hBl q bl
   have key:∀ r∈rs,H r=none:=fun r hr'=>(hrs r hr').1
   refine ⟨B,rfl,⟨_,SqL.of hBl⟩,bN (xs:=bs.map V.int) (fun i σ H'=>But rs H2 H'/\Lls H' rs (rns (bs.take i) t)/\∃ x4,σ=[some (.ref a),some (.int t),some (.int k),some (.ref L),x4]) ⟨fun _ _ _ e=>e,lls2,_,rfl⟩ ?_ ?_ ?_⟩
   · rintro i σ H' _ ⟨bt,_⟩
     exact SqL.of (bt _ _ Brs hBl)
   · rintro i x σ H' hx ⟨bt,ll,x4,rfl⟩
     have hi:i<bs.length:=by
      have:=(List.getElem?_eq_some_iff.mp hx).1
      rw [zA0] at this
      exact this
     have ex:x=.int bs[i]:=by rw [fz hi] at hx;exact (Option.some.inj hx).symm
     subst ex
     have h0:0<=bs[i] % (t:Int):=zF6 _ (by lia)
     have h1:bs[i] % (t:Int)<t:=zF0 _ (by lia)
     have hj:(bs[i] % (t:Int)).toNat<rs.length:=by lia
     have hj2:(bs[i] % (t:Int)).toNat<(rns (bs.take i) t).length:=by rw [bT];lia
     refine ⟨(show (0:Int)<t by lia),?_⟩
     refine ⟨_,.inl (SqL.of (bt _ _ hLn hL2)),.ref rs[(bs[i] % (t:Int)).toNat],cX (j:=(bs[i] % (t:Int)).toNat) (by lia) (by rw [List.getElem?_map,List.getElem?_eq_getElem hj];rfl),?_⟩
     have hcell:=ll.at_ _ hj hj2
     rw [dz] at hcell
     refine ⟨tyL hcell,⟨by lia,by lia⟩,?_⟩
     refine ⟨_,hcell,?_,?_⟩
     · rw [zA0]
       unfold rn
       rw [zA0]
       have:=List.length_filter_le (fun b=>decide (b % (t:Int)=((bs[i] % (t:Int)).toNat:Int))) (bs.take i)
       rw [zB7] at this
       exact aq (by lia)
     · refine ⟨bt.upd (zB1 hj),?_,_,rfl⟩
       have:=ll.set (ls:=rn (bs.take i) t (bs[i] % (t:Int)).toNat++[bs[i] / (t:Int)]) hj
       rw [zE1,List.getElem?_eq_getElem hi]
       show Lls _ rs (rns (bs.take i++[bs[i]]) t)
       rw [nB _ _ ht]
       rw [zA2] at this
       exact this
   · rintro σ H' ⟨bt,ll,x4,rfl⟩
     rw [zA0,zC2 (zA1 _)] at ll
     refine q L rs H' (aZ y hL) key (fun b o e=>?_) (bt _ _ hLn hL2) ll
     refine bt b o (fun z=>?_) (y2 _ _ (y0 _ _ e))
     have:=key b z
     rw [e] at this
     cases this
end
theorem po (ns:List Int) (k t r:Nat):(rn (bd ns k) t r).length=ct ns k t r:=by
 unfold rn ct
 rw [zA0,List.countP_eq_length_filter]
section
variable {P:Program} {w:World} {K:PySem.W.Frag} {mg:Str->Option Value} {base:Heap} {f:Addr} {fd:FuncData}
theorem sc_vector:FnScope ["parting","t","rounds"] ["parting","t"] (ag (top 10)):=⟨rfl,rfl,rfl,by decide +kernel,rfl,by decide +kernel,by decide +kernel⟩
def cy (K:PySem.W.Frag):Sp:=fun vs H Q _=>∃ (a:Addr) (ns:List Int) (t:Nat),vs=[.ref a,.int t]/\Tu K H a ns (t*rd ns t)/\ns.length<=400/\0<t/\t<=100/\∀ r H',Same H H'->H' r=some (.tup ((vec ns t).map V.int))->Q (.ref r) H'
def ja (ns:List Int) (t m:Nat):List Int:=(List.range m).map fun (r:Nat)=>(ct ns (t*rd ns t) t r:Int) - rd ns t
theorem i9 (ns:List Int) (t m:Nat):ja ns t (m+1)=ja ns t m++[(ct ns (t*rd ns t) t m:Int) - rd ns t]:=by unfold ja;rw [zB5,zA2];rfl
theorem j5 (ns:List Int) (t m:Nat):(ja ns t m).length=m:=by unfold ja;rw [zA0,zD2]
theorem lg (F:Fun K "vector" "vector" (top 10) f fd) (m_len:mg "len" = none) (m_tuple:mg "tuple" = none) (F_rounds_of:FnA P w K mg base "rounds_of" 1 ["parting","t"] (ba K)) (F_runs_of:FnA P w K mg base "runs_of" 2 ["parting","t","rounds"] (bz K)):FnOk P w K mg base CX0 3 f fd ["parting","t"] (cy K):=by
 refine F.okz sc_vector (fun vs H Q E h=>?_) (fun cdv A outer s H vs Q E hr h=>?_)
 · obtain ⟨a,ns,t,rfl,_⟩:=h;rfl
 obtain ⟨a,ns,t,rfl,ha,hl,ht,ht1,q⟩:=h
 have nd:=sc_vector.nd
 have hu:=hr.units
 have r1:=fM ns ht
 have r2:=qQ ns ht
 refine ⟨_,(af (ay (i:=2) nd rfl (Or.inr rfl) (aF F_rounds_of hr (by decide) rfl (aa (zn 0) (aa (zn 1) ae))))
  (ai (aC (bR rfl m_tuple (aa (aN ["run"] [("rounds",2)] rfl ⟨rfl,by decide +kernel,by decide +kernel,rfl,rfl⟩ (aP (aF F_runs_of hr (by decide) rfl (aa (zn 0) (aa (zn 1) (aa (zn 2) ae))))) aM (fun _ _ _ _=>aj (i:=0) (show List.Nodup (["run","rounds"]:List Str) by decide +kernel) rfl (Or.inl rfl)) (fun _ _ _ _=>aH) (fun _ _ _ _=>(am bG (eK rfl m_len (aa (zn 0) ae) rfl rfl rfl) (zn 1)))) ae) rfl rfl)))),?_⟩
 refine ⟨a,ns,t,rfl,ha.sq (Same.refl _),ht,ht1,?_⟩
 refine ⟨a,ns,t,rd ns t,rfl,ha,ht,ht1,by lia,fun p rs H1 _ _ y1 hp ll=>?_⟩
 have hl':rs.length=t:=by rw [ll.len,bT]
 refine ⟨p,rfl,⟨_,SqL.of hp⟩,bu (xs:=rs.map V.ref) (fun i zs H'=>H'=H1/\zs=(ja ns t i).map V.int) ⟨rfl,rfl⟩ ?_ ?_ ?_⟩
 · rintro i zs H' _ ⟨rfl,_⟩
   exact SqL.of hp
 · rintro i x zs H' hx ⟨rfl,rfl⟩
   have hi:i<rs.length:=by
    have:=(List.getElem?_eq_some_iff.mp hx).1
    rw [zA0] at this
    exact this
   have ex:x=.ref rs[i]:=by rw [List.getElem?_map,List.getElem?_eq_getElem hi] at hx;exact (Option.some.inj hx).symm
   subst ex
   have hc:=ll.at_ i hi (by rw [bT];lia)
   rw [dz] at hc
   refine ⟨by rw [zA0,j5];exact aq (by lia),?_⟩
   refine ⟨_,.inl (SqL.of hc),?_⟩
   refine ⟨rfl,?_⟩
   rw [zA0,po,i9,zA2]
   rfl
 · rintro zs H' ⟨rfl,rfl⟩ D hD
   rw [zA0,hl']
   refine ⟨_,.inl (SqL.of ad),fun r H2 y2 hr2=>?_⟩
   exact q r H2 ((y1.trans (Same.new hD _)).trans y2) hr2
end
def Bt (n:Int):Prop:=Builtin.Int.intBits n<=2 ^ 10
theorem bt_of {n:Int} (h1:-(10 ^ 61)<n) (h2:n<10 ^ 61):Bt n:=by
 refine zC8 (intBits_le_iff (m:=250).mpr ?_) (by decide)
 have h3:(10:Int) ^ 61<=((2 ^ 250:Nat):Int):=by decide
 lia
theorem Bt.m {a b:Int} (h1:Bt a) (h2:Bt b):IntMulOk a b:=IntMulOk.of_bits (zC8 h1 (by decide)) (zC8 h2 (by decide))
def nf (ns:List Int) (r:Nat):Int:=ns.getD r 0
theorem bJ {ns:List Int} {i:Nat} (h:i<ns.length):nf ns i=ns[i]:=by unfold nf;rw [zA3,List.getElem?_eq_getElem h];rfl
theorem bI (ns:List Int):(List.range ns.length).map (nf ns)=ns:=by
 refine zD9 (by simp) fun i h1 h2=>?_
 rw [zG2,zG0,bJ h2]
def sz (ns:List Int):Int:=((ns.length:Int)*sq ns.length (nf ns)) / 2+ro ns.length (nf ns)
section
variable {P:Program} {w:World} {K:PySem.W.Frag} {mg:Str->Option Value} {base:Heap} {f:Addr} {fd:FuncData}
theorem sc_sz:FnScope ["numbers","squares"] ["numbers"] (ag (top 14)):=⟨rfl,rfl,rfl,by decide +kernel,rfl,by decide +kernel,by decide +kernel⟩
def qA:Sp:=fun vs H Q _=>∃ (a:Addr) (ns:List Int),vs=[.ref a]/\H a=some (.tup (ns.map V.int))/\ns.length<=100/\(∀ n∈ns,Bt n)/\∀ H',Same H H'->Q (.int (sz ns)) H'
def sqTo (ns:List Int) (m:Nat):List Int:=(List.range m).map fun (r:Nat)=>nf ns r*nf ns r
def tE (ns:List Int) (m:Nat):List Int:=(List.range m).map fun (r:Nat)=>(r:Int)*nf ns r
theorem ok_sz (F:Fun K "size_of" "size_of" (top 14) f fd) (m_enumerate:mg "enumerate" = none) (m_len:mg "len" = none) (m_sum:mg "sum" = none):FnOk P w K mg base CX0 1 f fd ["numbers"] qA:=by
 refine F.okz sc_sz (fun vs H Q E h=>?_) (fun cdv A outer s H vs Q E hr h=>?_)
 · obtain ⟨a,ns,rfl,_⟩:=h;rfl
 obtain ⟨a,ns,rfl,ha,hl,hb,q⟩:=h
 have nd:=sc_sz.nd
 have hu:=hr.units
 refine ⟨_,(af (ay (i:=1) nd rfl (Or.inl rfl) (dk rfl rfl m_sum (aa (aN ["number"] [] rfl ⟨rfl,by decide +kernel,by decide +kernel,rfl,rfl⟩ (hU (zn 0)) aM (fun _ _ _ _=>aj (i:=0) (show List.Nodup (["number"]:List Str) by decide +kernel) rfl (Or.inl rfl)) (fun _ _ _ _=>aH) (fun _ _ _ _=>(am aG (zn 0) (zn 0)))) ae) rfl rfl))
  (ai (aC (am aE (am bH (am aG (bi rfl m_len (aa (zn 0) ae) rfl rfl) (zn 1)) ah) (dk rfl rfl m_sum (aa (aN ["rest","number"] [] rfl ⟨rfl,by decide +kernel,by decide +kernel,rfl,rfl⟩ (bD rfl m_enumerate (aa (zn 0) ae)) dJ (fun _ _ _ _=>ce rfl (aA (aj (i:=0) (show List.Nodup (["rest","number"]:List Str) by decide +kernel) rfl (Or.inl rfl)) (aA (aj (i:=1) (show List.Nodup (["rest","number"]:List Str) by decide +kernel) rfl (Or.inl rfl)) bx))) (fun _ _ _ _=>aH) (fun _ _ _ _=>(am aG (zn 0) (zn 1)))) ae) rfl rfl))))),?_⟩
 refine ⟨a,rfl,⟨_,SqT.of ha⟩,fq (xs:=ns.map V.int) (fun i zs H'=>H'=H/\zs=(sqTo ns i).map V.int) ⟨rfl,rfl⟩ ?_ ?_ ?_⟩
 · rintro i zs H' _ ⟨rfl,_⟩
   exact SqT.of ha
 · rintro i x zs H' hx ⟨rfl,rfl⟩
   have hi:i<ns.length:=by
    have:=(List.getElem?_eq_some_iff.mp hx).1
    rw [zA0] at this
    exact this
   have ex:x=.int ns[i]:=by rw [fz hi] at hx;exact (Option.some.inj hx).symm
   subst ex
   refine ⟨by rw [zA0];unfold sqTo;rw [zA0,zD2];exact aq (by lia),?_⟩
   refine ⟨(hb _ (zB1 hi)).m (hb _ (zB1 hi)),?_⟩
   refine ⟨rfl,?_⟩
   unfold sqTo
   rw [zB5,zA2,zA2]
   show _++[V.int (ns[i]*ns[i])]=_++[V.int (nf ns i*nf ns i)]
   rw [bJ hi]
 · rintro zs H' ⟨rfl,rfl⟩ D hD
   rw [zA0]
   have yD:=Same.new hD (.lst ((sqTo ns ns.length).map V.int))
   refine ⟨_,.inl (SqL.of ad),?_⟩
   have ha1:=yD _ _ ha
   generalize upd H' D (.lst ((sqTo ns ns.length).map V.int))=H1 at ha1 yD
   refine ⟨_,.inr ha1,?_⟩
   rw [zA0]
   refine ⟨lj (by lia) (by lia),⟨by decide,by decide⟩,?_⟩
   refine ⟨true,_,SqK.tup ha1,cJ (xs:=ns.map V.int) (fun i zs H'=>Same H1 H'/\zs=(tE ns i).map V.int) ⟨Same.refl _,rfl⟩ ?_ ?_ ?_ ?_⟩
   · rintro i zs H' _ ⟨y,_⟩
     exact SqK.tup (y _ _ ha1)
   · rintro i zs H' hi ⟨_,rfl⟩
     rw [zA0] at hi ⊢
     unfold tE
     rw [zA0,zD2]
     exact aq (by lia)
   · rintro i x zs H' p hx ⟨y,rfl⟩ hp
     have hi:i<ns.length:=by
      have:=(List.getElem?_eq_some_iff.mp hx).1
      rw [zA0] at this
      exact this
     have ex:x=.int ns[i]:=by rw [fz hi] at hx;exact (Option.some.inj hx).symm
     subst ex
     refine ⟨p,_,rfl,SqT.of ad,rfl,_,_,rfl,_,_,rfl,rfl,?_⟩
     refine ⟨lj (by lia) (by lia),?_⟩
     refine ⟨y.trans (Same.new hp _),?_⟩
     unfold tE
     rw [zB5,zA2,zA2]
     show _++[V.int ((i:Int)*ns[i])]=_++[V.int ((i:Int)*nf ns i)]
     rw [bJ hi]
   · rintro zs H2 ⟨y,rfl⟩ D2 hD2
     rw [zA0]
     refine ⟨_,.inl (SqL.of ad),?_⟩
     exact q _ ((yD.trans y).trans (Same.new hD2 _))
end
end K51
namespace M48
open M39 M43
def r5:List (List Int):=[[4],[2,2],[1,1,1,1],[2,1,1],[3,1]]
def r7:List (List Int):=[[5],[3,1,1],[1,1,1,1,1],[3,2],[2,1,1,1],[4,1],[2,2,1]]
def r11:List (List Int):=[[6],[2,2,2],[3,1,1,1],[4,2],[2,1,1,1,1],[3,2,1],[5,1],[2,2,1,1],[4,1,1],[3,3],[1,1,1,1,1,1]]
def RD:List (Int×List (List Int)):=[(5,r5),(7,r7),(11,r11)]
def rnd (t:Nat):List (List Int):=if t=5 then r5 else if t=7 then r7 else r11
def cw (t:Nat):Int:=if t=5 then 4 else if t=7 then 5 else 6
def T3 (t:Nat):Prop:=t=5\/t=7\/t=11
theorem kJ {t:Nat} (h:T3 t):RD.lookup (t:Int)=some (rnd t):=by rcases h with rfl | rfl | rfl <;> rfl
def vks (t:Nat):List (List Int):=(rnd t).map fun ns=>vec ns t
def vk (t k r:Nat):Int:=((vks t).getD k []).getD r 0
def dt (t:Nat) (f:Nat->Int) (i r:Nat):Int:=((List.range i).map fun (k:Nat)=>f k*vk t k r).sum
def vby (t:Nat) (f:Nat->Int):List Int:=(List.range t).map fun (r:Nat)=>dt t f t r
theorem sF (t:Nat) (f:Nat->Int) (i r:Nat):dt t f (i+1) r=dt t f i r+f i*vk t i r:=by unfold dt;rw [zB5,zA2,zC0];simp
theorem sE (t:Nat) (f:Nat->Int) (r:Nat):dt t f 0 r=0:=rfl
theorem eP (t:Nat) (f:Nat->Int):(vby t f).length=t:=by unfold vby;simp
theorem kH {t:Nat} (h:T3 t):(rnd t).length=t:=by rcases h with rfl | rfl | rfl <;> rfl
theorem eM {t:Nat} (h:T3 t):(vks t).length=t:=by unfold vks;rw [zA0,kH h]
theorem rnd_ok {t:Nat} (h:T3 t):∀ ns∈rnd t,0<ns.length/\ns.length<t:=by rcases h with rfl | rfl | rfl <;> decide
theorem o8 {t:Nat} (h:T3 t):∀ vs∈vks t,∀ x∈vs,-20<=x/\x<=20:=by rcases h with rfl | rfl | rfl <;> decide +kernel
def nb (t:Nat) (f:Nat->Int):Int:=((List.range t).map fun (k:Nat)=>f k*(f k - f ((k+t - 1) % t))).sum
def qs (t:Nat) (f:Nat->Int):Int:=(t:Int)*nb t f - t+cw t
theorem e5:vks 5=[[0,0,0,1,-1],[1,1,0,-1,-1],[1,-1,0,0,0],[0,1,-1,0,0],[0,0,1,-1,0]]:=by decide +kernel
theorem d5_0 (f:Nat->Int):dt 5 f 5 0=f 1+f 2:=by
 show f 0*vk 5 0 0+(f 1*vk 5 1 0+(f 2*vk 5 2 0+(f 3*vk 5 3 0+(f 4*vk 5 4 0+0))))=_
 rw [show vk 5 0 0=0 by unfold vk;rw [e5];rfl,show vk 5 1 0=1 by unfold vk;rw [e5];rfl,show vk 5 2 0=1 by unfold vk;rw [e5];rfl,show vk 5 3 0=0 by unfold vk;rw [e5];rfl,show vk 5 4 0=0 by unfold vk;rw [e5];rfl]
 lia
theorem d5_1 (f:Nat->Int):dt 5 f 5 1=f 1 + -(f 2)+f 3:=by
 show f 0*vk 5 0 1+(f 1*vk 5 1 1+(f 2*vk 5 2 1+(f 3*vk 5 3 1+(f 4*vk 5 4 1+0))))=_
 rw [show vk 5 0 1=0 by unfold vk;rw [e5];rfl,show vk 5 1 1=1 by unfold vk;rw [e5];rfl,show vk 5 2 1=-1 by unfold vk;rw [e5];rfl,show vk 5 3 1=1 by unfold vk;rw [e5];rfl,show vk 5 4 1=0 by unfold vk;rw [e5];rfl]
 lia
theorem d5_2 (f:Nat->Int):dt 5 f 5 2=-(f 3)+f 4:=by
 show f 0*vk 5 0 2+(f 1*vk 5 1 2+(f 2*vk 5 2 2+(f 3*vk 5 3 2+(f 4*vk 5 4 2+0))))=_
 rw [show vk 5 0 2=0 by unfold vk;rw [e5];rfl,show vk 5 1 2=0 by unfold vk;rw [e5];rfl,show vk 5 2 2=0 by unfold vk;rw [e5];rfl,show vk 5 3 2=-1 by unfold vk;rw [e5];rfl,show vk 5 4 2=1 by unfold vk;rw [e5];rfl]
 lia
theorem d5_3 (f:Nat->Int):dt 5 f 5 3=f 0 + -(f 1) + -(f 4):=by
 show f 0*vk 5 0 3+(f 1*vk 5 1 3+(f 2*vk 5 2 3+(f 3*vk 5 3 3+(f 4*vk 5 4 3+0))))=_
 rw [show vk 5 0 3=1 by unfold vk;rw [e5];rfl,show vk 5 1 3=-1 by unfold vk;rw [e5];rfl,show vk 5 2 3=0 by unfold vk;rw [e5];rfl,show vk 5 3 3=0 by unfold vk;rw [e5];rfl,show vk 5 4 3=-1 by unfold vk;rw [e5];rfl]
 lia
theorem d5_4 (f:Nat->Int):dt 5 f 5 4=-(f 0) + -(f 1):=by
 show f 0*vk 5 0 4+(f 1*vk 5 1 4+(f 2*vk 5 2 4+(f 3*vk 5 3 4+(f 4*vk 5 4 4+0))))=_
 rw [show vk 5 0 4=-1 by unfold vk;rw [e5];rfl,show vk 5 1 4=-1 by unfold vk;rw [e5];rfl,show vk 5 2 4=0 by unfold vk;rw [e5];rfl,show vk 5 3 4=0 by unfold vk;rw [e5];rfl,show vk 5 4 4=0 by unfold vk;rw [e5];rfl]
 lia
theorem size5 (f:Nat->Int) (h:f 0+f 1+f 2+f 3+f 4=1):(5:Int)*sq 5 (dt 5 f 5)+2*ro 5 (dt 5 f 5)=2*qs 5 f:=by
 have hl:f 4=1 - (f 0+f 1+f 2+f 3):=by lia
 have h1:sq 5 (dt 5 f 5)=dt 5 f 5 0*dt 5 f 5 0+(dt 5 f 5 1*dt 5 f 5 1+(dt 5 f 5 2*dt 5 f 5 2+(dt 5 f 5 3*dt 5 f 5 3+(dt 5 f 5 4*dt 5 f 5 4+0)))):=rfl
 have h2:ro 5 (dt 5 f 5)=0*dt 5 f 5 0+(1*dt 5 f 5 1+(2*dt 5 f 5 2+(3*dt 5 f 5 3+(4*dt 5 f 5 4+0)))):=rfl
 have h3:qs 5 f=5*(f 0*(f 0 - f 4)+(f 1*(f 1 - f 0)+(f 2*(f 2 - f 1)+(f 3*(f 3 - f 2)+(f 4*(f 4 - f 3)+0))))) - 5+4:=rfl
 rw [h1,h2,h3,d5_0,d5_1,d5_2,d5_3,d5_4,hl]
 generalize f 0=x0
 generalize f 1=x1
 generalize f 2=x2
 generalize f 3=x3
 grind
theorem e7:vks 7=[[0,0,0,0,1,0,-1],[0,0,1,0,-1,0,0],[1,0,-1,0,0,0,0],[1,0,1,0,0,-1,-1],[0,1,0,-1,0,0,0],[0,0,0,1,0,-1,0],[1,1,0,0,-1,0,-1]]:=by decide +kernel
theorem d7_0 (f:Nat->Int):dt 7 f 7 0=f 2+f 3+f 6:=by
 show f 0*vk 7 0 0+(f 1*vk 7 1 0+(f 2*vk 7 2 0+(f 3*vk 7 3 0+(f 4*vk 7 4 0+(f 5*vk 7 5 0+(f 6*vk 7 6 0+0))))))=_
 rw [show vk 7 0 0=0 by unfold vk;rw [e7];rfl,show vk 7 1 0=0 by unfold vk;rw [e7];rfl,show vk 7 2 0=1 by unfold vk;rw [e7];rfl,show vk 7 3 0=1 by unfold vk;rw [e7];rfl,show vk 7 4 0=0 by unfold vk;rw [e7];rfl,show vk 7 5 0=0 by unfold vk;rw [e7];rfl,show vk 7 6 0=1 by unfold vk;rw [e7];rfl]
 lia
theorem d7_1 (f:Nat->Int):dt 7 f 7 1=f 4+f 6:=by
 show f 0*vk 7 0 1+(f 1*vk 7 1 1+(f 2*vk 7 2 1+(f 3*vk 7 3 1+(f 4*vk 7 4 1+(f 5*vk 7 5 1+(f 6*vk 7 6 1+0))))))=_
 rw [show vk 7 0 1=0 by unfold vk;rw [e7];rfl,show vk 7 1 1=0 by unfold vk;rw [e7];rfl,show vk 7 2 1=0 by unfold vk;rw [e7];rfl,show vk 7 3 1=0 by unfold vk;rw [e7];rfl,show vk 7 4 1=1 by unfold vk;rw [e7];rfl,show vk 7 5 1=0 by unfold vk;rw [e7];rfl,show vk 7 6 1=1 by unfold vk;rw [e7];rfl]
 lia
theorem d7_2 (f:Nat->Int):dt 7 f 7 2=f 1 + -(f 2)+f 3:=by
 show f 0*vk 7 0 2+(f 1*vk 7 1 2+(f 2*vk 7 2 2+(f 3*vk 7 3 2+(f 4*vk 7 4 2+(f 5*vk 7 5 2+(f 6*vk 7 6 2+0))))))=_
 rw [show vk 7 0 2=0 by unfold vk;rw [e7];rfl,show vk 7 1 2=1 by unfold vk;rw [e7];rfl,show vk 7 2 2=-1 by unfold vk;rw [e7];rfl,show vk 7 3 2=1 by unfold vk;rw [e7];rfl,show vk 7 4 2=0 by unfold vk;rw [e7];rfl,show vk 7 5 2=0 by unfold vk;rw [e7];rfl,show vk 7 6 2=0 by unfold vk;rw [e7];rfl]
 lia
theorem d7_3 (f:Nat->Int):dt 7 f 7 3=-(f 4)+f 5:=by
 show f 0*vk 7 0 3+(f 1*vk 7 1 3+(f 2*vk 7 2 3+(f 3*vk 7 3 3+(f 4*vk 7 4 3+(f 5*vk 7 5 3+(f 6*vk 7 6 3+0))))))=_
 rw [show vk 7 0 3=0 by unfold vk;rw [e7];rfl,show vk 7 1 3=0 by unfold vk;rw [e7];rfl,show vk 7 2 3=0 by unfold vk;rw [e7];rfl,show vk 7 3 3=0 by unfold vk;rw [e7];rfl,show vk 7 4 3=-1 by unfold vk;rw [e7];rfl,show vk 7 5 3=1 by unfold vk;rw [e7];rfl,show vk 7 6 3=0 by unfold vk;rw [e7];rfl]
 lia
theorem d7_4 (f:Nat->Int):dt 7 f 7 4=f 0 + -(f 1) + -(f 6):=by
 show f 0*vk 7 0 4+(f 1*vk 7 1 4+(f 2*vk 7 2 4+(f 3*vk 7 3 4+(f 4*vk 7 4 4+(f 5*vk 7 5 4+(f 6*vk 7 6 4+0))))))=_
 rw [show vk 7 0 4=1 by unfold vk;rw [e7];rfl,show vk 7 1 4=-1 by unfold vk;rw [e7];rfl,show vk 7 2 4=0 by unfold vk;rw [e7];rfl,show vk 7 3 4=0 by unfold vk;rw [e7];rfl,show vk 7 4 4=0 by unfold vk;rw [e7];rfl,show vk 7 5 4=0 by unfold vk;rw [e7];rfl,show vk 7 6 4=-1 by unfold vk;rw [e7];rfl]
 lia
theorem d7_5 (f:Nat->Int):dt 7 f 7 5=-(f 3) + -(f 5):=by
 show f 0*vk 7 0 5+(f 1*vk 7 1 5+(f 2*vk 7 2 5+(f 3*vk 7 3 5+(f 4*vk 7 4 5+(f 5*vk 7 5 5+(f 6*vk 7 6 5+0))))))=_
 rw [show vk 7 0 5=0 by unfold vk;rw [e7];rfl,show vk 7 1 5=0 by unfold vk;rw [e7];rfl,show vk 7 2 5=0 by unfold vk;rw [e7];rfl,show vk 7 3 5=-1 by unfold vk;rw [e7];rfl,show vk 7 4 5=0 by unfold vk;rw [e7];rfl,show vk 7 5 5=-1 by unfold vk;rw [e7];rfl,show vk 7 6 5=0 by unfold vk;rw [e7];rfl]
 lia
theorem d7_6 (f:Nat->Int):dt 7 f 7 6=-(f 0) + -(f 3) + -(f 6):=by
 show f 0*vk 7 0 6+(f 1*vk 7 1 6+(f 2*vk 7 2 6+(f 3*vk 7 3 6+(f 4*vk 7 4 6+(f 5*vk 7 5 6+(f 6*vk 7 6 6+0))))))=_
 rw [show vk 7 0 6=-1 by unfold vk;rw [e7];rfl,show vk 7 1 6=0 by unfold vk;rw [e7];rfl,show vk 7 2 6=0 by unfold vk;rw [e7];rfl,show vk 7 3 6=-1 by unfold vk;rw [e7];rfl,show vk 7 4 6=0 by unfold vk;rw [e7];rfl,show vk 7 5 6=0 by unfold vk;rw [e7];rfl,show vk 7 6 6=-1 by unfold vk;rw [e7];rfl]
 lia
theorem size7 (f:Nat->Int) (h:f 0+f 1+f 2+f 3+f 4+f 5+f 6=1):(7:Int)*sq 7 (dt 7 f 7)+2*ro 7 (dt 7 f 7)=2*qs 7 f:=by
 have hl:f 6=1 - (f 0+f 1+f 2+f 3+f 4+f 5):=by lia
 have h1:sq 7 (dt 7 f 7)=dt 7 f 7 0*dt 7 f 7 0+(dt 7 f 7 1*dt 7 f 7 1+(dt 7 f 7 2*dt 7 f 7 2+(dt 7 f 7 3*dt 7 f 7 3+(dt 7 f 7 4*dt 7 f 7 4+(dt 7 f 7 5*dt 7 f 7 5+(dt 7 f 7 6*dt 7 f 7 6+0)))))):=rfl
 have h2:ro 7 (dt 7 f 7)=0*dt 7 f 7 0+(1*dt 7 f 7 1+(2*dt 7 f 7 2+(3*dt 7 f 7 3+(4*dt 7 f 7 4+(5*dt 7 f 7 5+(6*dt 7 f 7 6+0)))))):=rfl
 have h3:qs 7 f=7*(f 0*(f 0 - f 6)+(f 1*(f 1 - f 0)+(f 2*(f 2 - f 1)+(f 3*(f 3 - f 2)+(f 4*(f 4 - f 3)+(f 5*(f 5 - f 4)+(f 6*(f 6 - f 5)+0))))))) - 7+5:=rfl
 rw [h1,h2,h3,d7_0,d7_1,d7_2,d7_3,d7_4,d7_5,d7_6,hl]
 generalize f 0=x0
 generalize f 1=x1
 generalize f 2=x2
 generalize f 3=x3
 generalize f 4=x4
 generalize f 5=x5
 grind
theorem e11:vks 11=[[0,0,0,0,0,1,0,0,0,0,-1],[1,1,0,0,0,0,0,0,-1,-1,0],[0,0,1,0,0,0,0,-1,0,0,0],[1,0,0,1,0,0,0,0,0,-1,-1],[0,1,0,0,0,0,-1,0,0,0,0],[1,0,1,0,0,0,0,0,-1,0,-1],[0,0,0,0,1,0,0,0,0,-1,0],[1,1,0,0,0,0,0,-1,0,0,-1],[0,0,0,1,0,0,0,0,-1,0,0],[0,1,1,0,0,0,0,0,0,-1,-1],[1,0,0,0,0,-1,0,0,0,0,0]]:=by decide +kernel
theorem d11_0 (f:Nat->Int):dt 11 f 11 0=f 1+f 3+f 5+f 7+f 10:=by
 show f 0*vk 11 0 0+(f 1*vk 11 1 0+(f 2*vk 11 2 0+(f 3*vk 11 3 0+(f 4*vk 11 4 0+(f 5*vk 11 5 0+(f 6*vk 11 6 0+(f 7*vk 11 7 0+(f 8*vk 11 8 0+(f 9*vk 11 9 0+(f 10*vk 11 10 0+0))))))))))=_
 rw [show vk 11 0 0=0 by unfold vk;rw [e11];rfl,show vk 11 1 0=1 by unfold vk;rw [e11];rfl,show vk 11 2 0=0 by unfold vk;rw [e11];rfl,show vk 11 3 0=1 by unfold vk;rw [e11];rfl,show vk 11 4 0=0 by unfold vk;rw [e11];rfl,show vk 11 5 0=1 by unfold vk;rw [e11];rfl,show vk 11 6 0=0 by unfold vk;rw [e11];rfl,show vk 11 7 0=1 by unfold vk;rw [e11];rfl,show vk 11 8 0=0 by unfold vk;rw [e11];rfl,show vk 11 9 0=0 by unfold vk;rw [e11];rfl,show vk 11 10 0=1 by unfold vk;rw [e11];rfl]
 lia
theorem d11_1 (f:Nat->Int):dt 11 f 11 1=f 1+f 4+f 7+f 9:=by
 show f 0*vk 11 0 1+(f 1*vk 11 1 1+(f 2*vk 11 2 1+(f 3*vk 11 3 1+(f 4*vk 11 4 1+(f 5*vk 11 5 1+(f 6*vk 11 6 1+(f 7*vk 11 7 1+(f 8*vk 11 8 1+(f 9*vk 11 9 1+(f 10*vk 11 10 1+0))))))))))=_
 rw [show vk 11 0 1=0 by unfold vk;rw [e11];rfl,show vk 11 1 1=1 by unfold vk;rw [e11];rfl,show vk 11 2 1=0 by unfold vk;rw [e11];rfl,show vk 11 3 1=0 by unfold vk;rw [e11];rfl,show vk 11 4 1=1 by unfold vk;rw [e11];rfl,show vk 11 5 1=0 by unfold vk;rw [e11];rfl,show vk 11 6 1=0 by unfold vk;rw [e11];rfl,show vk 11 7 1=1 by unfold vk;rw [e11];rfl,show vk 11 8 1=0 by unfold vk;rw [e11];rfl,show vk 11 9 1=1 by unfold vk;rw [e11];rfl,show vk 11 10 1=0 by unfold vk;rw [e11];rfl]
 lia
theorem d11_2 (f:Nat->Int):dt 11 f 11 2=f 2+f 5+f 9:=by
 show f 0*vk 11 0 2+(f 1*vk 11 1 2+(f 2*vk 11 2 2+(f 3*vk 11 3 2+(f 4*vk 11 4 2+(f 5*vk 11 5 2+(f 6*vk 11 6 2+(f 7*vk 11 7 2+(f 8*vk 11 8 2+(f 9*vk 11 9 2+(f 10*vk 11 10 2+0))))))))))=_
 rw [show vk 11 0 2=0 by unfold vk;rw [e11];rfl,show vk 11 1 2=0 by unfold vk;rw [e11];rfl,show vk 11 2 2=1 by unfold vk;rw [e11];rfl,show vk 11 3 2=0 by unfold vk;rw [e11];rfl,show vk 11 4 2=0 by unfold vk;rw [e11];rfl,show vk 11 5 2=1 by unfold vk;rw [e11];rfl,show vk 11 6 2=0 by unfold vk;rw [e11];rfl,show vk 11 7 2=0 by unfold vk;rw [e11];rfl,show vk 11 8 2=0 by unfold vk;rw [e11];rfl,show vk 11 9 2=1 by unfold vk;rw [e11];rfl,show vk 11 10 2=0 by unfold vk;rw [e11];rfl]
 lia
theorem d11_3 (f:Nat->Int):dt 11 f 11 3=f 3+f 8:=by
 show f 0*vk 11 0 3+(f 1*vk 11 1 3+(f 2*vk 11 2 3+(f 3*vk 11 3 3+(f 4*vk 11 4 3+(f 5*vk 11 5 3+(f 6*vk 11 6 3+(f 7*vk 11 7 3+(f 8*vk 11 8 3+(f 9*vk 11 9 3+(f 10*vk 11 10 3+0))))))))))=_
 rw [show vk 11 0 3=0 by unfold vk;rw [e11];rfl,show vk 11 1 3=0 by unfold vk;rw [e11];rfl,show vk 11 2 3=0 by unfold vk;rw [e11];rfl,show vk 11 3 3=1 by unfold vk;rw [e11];rfl,show vk 11 4 3=0 by unfold vk;rw [e11];rfl,show vk 11 5 3=0 by unfold vk;rw [e11];rfl,show vk 11 6 3=0 by unfold vk;rw [e11];rfl,show vk 11 7 3=0 by unfold vk;rw [e11];rfl,show vk 11 8 3=1 by unfold vk;rw [e11];rfl,show vk 11 9 3=0 by unfold vk;rw [e11];rfl,show vk 11 10 3=0 by unfold vk;rw [e11];rfl]
 lia
theorem d11_4 (f:Nat->Int):dt 11 f 11 4=f 6:=by
 show f 0*vk 11 0 4+(f 1*vk 11 1 4+(f 2*vk 11 2 4+(f 3*vk 11 3 4+(f 4*vk 11 4 4+(f 5*vk 11 5 4+(f 6*vk 11 6 4+(f 7*vk 11 7 4+(f 8*vk 11 8 4+(f 9*vk 11 9 4+(f 10*vk 11 10 4+0))))))))))=_
 rw [show vk 11 0 4=0 by unfold vk;rw [e11];rfl,show vk 11 1 4=0 by unfold vk;rw [e11];rfl,show vk 11 2 4=0 by unfold vk;rw [e11];rfl,show vk 11 3 4=0 by unfold vk;rw [e11];rfl,show vk 11 4 4=0 by unfold vk;rw [e11];rfl,show vk 11 5 4=0 by unfold vk;rw [e11];rfl,show vk 11 6 4=1 by unfold vk;rw [e11];rfl,show vk 11 7 4=0 by unfold vk;rw [e11];rfl,show vk 11 8 4=0 by unfold vk;rw [e11];rfl,show vk 11 9 4=0 by unfold vk;rw [e11];rfl,show vk 11 10 4=0 by unfold vk;rw [e11];rfl]
 lia
theorem d11_5 (f:Nat->Int):dt 11 f 11 5=f 0 + -(f 10):=by
 show f 0*vk 11 0 5+(f 1*vk 11 1 5+(f 2*vk 11 2 5+(f 3*vk 11 3 5+(f 4*vk 11 4 5+(f 5*vk 11 5 5+(f 6*vk 11 6 5+(f 7*vk 11 7 5+(f 8*vk 11 8 5+(f 9*vk 11 9 5+(f 10*vk 11 10 5+0))))))))))=_
 rw [show vk 11 0 5=1 by unfold vk;rw [e11];rfl,show vk 11 1 5=0 by unfold vk;rw [e11];rfl,show vk 11 2 5=0 by unfold vk;rw [e11];rfl,show vk 11 3 5=0 by unfold vk;rw [e11];rfl,show vk 11 4 5=0 by unfold vk;rw [e11];rfl,show vk 11 5 5=0 by unfold vk;rw [e11];rfl,show vk 11 6 5=0 by unfold vk;rw [e11];rfl,show vk 11 7 5=0 by unfold vk;rw [e11];rfl,show vk 11 8 5=0 by unfold vk;rw [e11];rfl,show vk 11 9 5=0 by unfold vk;rw [e11];rfl,show vk 11 10 5=-1 by unfold vk;rw [e11];rfl]
 lia
theorem d11_6 (f:Nat->Int):dt 11 f 11 6=-(f 4):=by
 show f 0*vk 11 0 6+(f 1*vk 11 1 6+(f 2*vk 11 2 6+(f 3*vk 11 3 6+(f 4*vk 11 4 6+(f 5*vk 11 5 6+(f 6*vk 11 6 6+(f 7*vk 11 7 6+(f 8*vk 11 8 6+(f 9*vk 11 9 6+(f 10*vk 11 10 6+0))))))))))=_
 rw [show vk 11 0 6=0 by unfold vk;rw [e11];rfl,show vk 11 1 6=0 by unfold vk;rw [e11];rfl,show vk 11 2 6=0 by unfold vk;rw [e11];rfl,show vk 11 3 6=0 by unfold vk;rw [e11];rfl,show vk 11 4 6=-1 by unfold vk;rw [e11];rfl,show vk 11 5 6=0 by unfold vk;rw [e11];rfl,show vk 11 6 6=0 by unfold vk;rw [e11];rfl,show vk 11 7 6=0 by unfold vk;rw [e11];rfl,show vk 11 8 6=0 by unfold vk;rw [e11];rfl,show vk 11 9 6=0 by unfold vk;rw [e11];rfl,show vk 11 10 6=0 by unfold vk;rw [e11];rfl]
 lia
theorem d11_7 (f:Nat->Int):dt 11 f 11 7=-(f 2) + -(f 7):=by
 show f 0*vk 11 0 7+(f 1*vk 11 1 7+(f 2*vk 11 2 7+(f 3*vk 11 3 7+(f 4*vk 11 4 7+(f 5*vk 11 5 7+(f 6*vk 11 6 7+(f 7*vk 11 7 7+(f 8*vk 11 8 7+(f 9*vk 11 9 7+(f 10*vk 11 10 7+0))))))))))=_
 rw [show vk 11 0 7=0 by unfold vk;rw [e11];rfl,show vk 11 1 7=0 by unfold vk;rw [e11];rfl,show vk 11 2 7=-1 by unfold vk;rw [e11];rfl,show vk 11 3 7=0 by unfold vk;rw [e11];rfl,show vk 11 4 7=0 by unfold vk;rw [e11];rfl,show vk 11 5 7=0 by unfold vk;rw [e11];rfl,show vk 11 6 7=0 by unfold vk;rw [e11];rfl,show vk 11 7 7=-1 by unfold vk;rw [e11];rfl,show vk 11 8 7=0 by unfold vk;rw [e11];rfl,show vk 11 9 7=0 by unfold vk;rw [e11];rfl,show vk 11 10 7=0 by unfold vk;rw [e11];rfl]
 lia
theorem d11_8 (f:Nat->Int):dt 11 f 11 8=-(f 1) + -(f 5) + -(f 8):=by
 show f 0*vk 11 0 8+(f 1*vk 11 1 8+(f 2*vk 11 2 8+(f 3*vk 11 3 8+(f 4*vk 11 4 8+(f 5*vk 11 5 8+(f 6*vk 11 6 8+(f 7*vk 11 7 8+(f 8*vk 11 8 8+(f 9*vk 11 9 8+(f 10*vk 11 10 8+0))))))))))=_
 rw [show vk 11 0 8=0 by unfold vk;rw [e11];rfl,show vk 11 1 8=-1 by unfold vk;rw [e11];rfl,show vk 11 2 8=0 by unfold vk;rw [e11];rfl,show vk 11 3 8=0 by unfold vk;rw [e11];rfl,show vk 11 4 8=0 by unfold vk;rw [e11];rfl,show vk 11 5 8=-1 by unfold vk;rw [e11];rfl,show vk 11 6 8=0 by unfold vk;rw [e11];rfl,show vk 11 7 8=0 by unfold vk;rw [e11];rfl,show vk 11 8 8=-1 by unfold vk;rw [e11];rfl,show vk 11 9 8=0 by unfold vk;rw [e11];rfl,show vk 11 10 8=0 by unfold vk;rw [e11];rfl]
 lia
theorem d11_9 (f:Nat->Int):dt 11 f 11 9=-(f 1) + -(f 3) + -(f 6) + -(f 9):=by
 show f 0*vk 11 0 9+(f 1*vk 11 1 9+(f 2*vk 11 2 9+(f 3*vk 11 3 9+(f 4*vk 11 4 9+(f 5*vk 11 5 9+(f 6*vk 11 6 9+(f 7*vk 11 7 9+(f 8*vk 11 8 9+(f 9*vk 11 9 9+(f 10*vk 11 10 9+0))))))))))=_
 rw [show vk 11 0 9=0 by unfold vk;rw [e11];rfl,show vk 11 1 9=-1 by unfold vk;rw [e11];rfl,show vk 11 2 9=0 by unfold vk;rw [e11];rfl,show vk 11 3 9=-1 by unfold vk;rw [e11];rfl,show vk 11 4 9=0 by unfold vk;rw [e11];rfl,show vk 11 5 9=0 by unfold vk;rw [e11];rfl,show vk 11 6 9=-1 by unfold vk;rw [e11];rfl,show vk 11 7 9=0 by unfold vk;rw [e11];rfl,show vk 11 8 9=0 by unfold vk;rw [e11];rfl,show vk 11 9 9=-1 by unfold vk;rw [e11];rfl,show vk 11 10 9=0 by unfold vk;rw [e11];rfl]
 lia
theorem pS (f:Nat->Int):dt 11 f 11 10=-(f 0) + -(f 3) + -(f 5) + -(f 7) + -(f 9):=by
 show f 0*vk 11 0 10+(f 1*vk 11 1 10+(f 2*vk 11 2 10+(f 3*vk 11 3 10+(f 4*vk 11 4 10+(f 5*vk 11 5 10+(f 6*vk 11 6 10+(f 7*vk 11 7 10+(f 8*vk 11 8 10+(f 9*vk 11 9 10+(f 10*vk 11 10 10+0))))))))))=_
 rw [show vk 11 0 10=-1 by unfold vk;rw [e11];rfl,show vk 11 1 10=0 by unfold vk;rw [e11];rfl,show vk 11 2 10=0 by unfold vk;rw [e11];rfl,show vk 11 3 10=-1 by unfold vk;rw [e11];rfl,show vk 11 4 10=0 by unfold vk;rw [e11];rfl,show vk 11 5 10=-1 by unfold vk;rw [e11];rfl,show vk 11 6 10=0 by unfold vk;rw [e11];rfl,show vk 11 7 10=-1 by unfold vk;rw [e11];rfl,show vk 11 8 10=0 by unfold vk;rw [e11];rfl,show vk 11 9 10=-1 by unfold vk;rw [e11];rfl,show vk 11 10 10=0 by unfold vk;rw [e11];rfl]
 lia
theorem size11 (f:Nat->Int) (h:f 0+f 1+f 2+f 3+f 4+f 5+f 6+f 7+f 8+f 9+f 10=1):(11:Int)*sq 11 (dt 11 f 11)+2*ro 11 (dt 11 f 11)=2*qs 11 f:=by
 have hl:f 10=1 - (f 0+f 1+f 2+f 3+f 4+f 5+f 6+f 7+f 8+f 9):=by lia
 have h1:sq 11 (dt 11 f 11)=dt 11 f 11 0*dt 11 f 11 0+(dt 11 f 11 1*dt 11 f 11 1+(dt 11 f 11 2*dt 11 f 11 2+(dt 11 f 11 3*dt 11 f 11 3+(dt 11 f 11 4*dt 11 f 11 4+(dt 11 f 11 5*dt 11 f 11 5+(dt 11 f 11 6*dt 11 f 11 6+(dt 11 f 11 7*dt 11 f 11 7+(dt 11 f 11 8*dt 11 f 11 8+(dt 11 f 11 9*dt 11 f 11 9+(dt 11 f 11 10*dt 11 f 11 10+0)))))))))):=rfl
 have h2:ro 11 (dt 11 f 11)=0*dt 11 f 11 0+(1*dt 11 f 11 1+(2*dt 11 f 11 2+(3*dt 11 f 11 3+(4*dt 11 f 11 4+(5*dt 11 f 11 5+(6*dt 11 f 11 6+(7*dt 11 f 11 7+(8*dt 11 f 11 8+(9*dt 11 f 11 9+(10*dt 11 f 11 10+0)))))))))):=rfl
 have h3:qs 11 f=11*(f 0*(f 0 - f 10)+(f 1*(f 1 - f 0)+(f 2*(f 2 - f 1)+(f 3*(f 3 - f 2)+(f 4*(f 4 - f 3)+(f 5*(f 5 - f 4)+(f 6*(f 6 - f 5)+(f 7*(f 7 - f 6)+(f 8*(f 8 - f 7)+(f 9*(f 9 - f 8)+(f 10*(f 10 - f 9)+0))))))))))) - 11+6:=rfl
 rw [h1,h2,h3,d11_0,d11_1,d11_2,d11_3,d11_4,d11_5,d11_6,d11_7,d11_8,d11_9,pS,hl]
 generalize f 0=x0
 generalize f 1=x1
 generalize f 2=x2
 generalize f 3=x3
 generalize f 4=x4
 generalize f 5=x5
 generalize f 6=x6
 generalize f 7=x7
 generalize f 8=x8
 generalize f 9=x9
 grind
theorem vsum5 (f:Nat->Int):(vby 5 f).sum=0:=by
 show dt 5 f 5 0+(dt 5 f 5 1+(dt 5 f 5 2+(dt 5 f 5 3+(dt 5 f 5 4+0))))=0
 rw [d5_0,d5_1,d5_2,d5_3,d5_4]
 lia
theorem vsum7 (f:Nat->Int):(vby 7 f).sum=0:=by
 show dt 7 f 7 0+(dt 7 f 7 1+(dt 7 f 7 2+(dt 7 f 7 3+(dt 7 f 7 4+(dt 7 f 7 5+(dt 7 f 7 6+0))))))=0
 rw [d7_0,d7_1,d7_2,d7_3,d7_4,d7_5,d7_6]
 lia
theorem vsum11 (f:Nat->Int):(vby 11 f).sum=0:=by
 show dt 11 f 11 0+(dt 11 f 11 1+(dt 11 f 11 2+(dt 11 f 11 3+(dt 11 f 11 4+(dt 11 f 11 5+(dt 11 f 11 6+(dt 11 f 11 7+(dt 11 f 11 8+(dt 11 f 11 9+(dt 11 f 11 10+0))))))))))=0
 rw [d11_0,d11_1,d11_2,d11_3,d11_4,d11_5,d11_6,d11_7,d11_8,d11_9,pS]
 lia
theorem kz {t:Nat} (h3:T3 t) {f:Nat->Int} (h:((List.range t).map f).sum=1):(t:Int)*sq t (dt t f t)+2*ro t (dt t f t)=2*qs t f:=by
 rcases h3 with rfl | rfl | rfl
 · refine size5 f ?_
   have h2:f 0+(f 1+(f 2+(f 3+(f 4+0))))=1:=h
   lia
 · refine size7 f ?_
   have h2:f 0+(f 1+(f 2+(f 3+(f 4+(f 5+(f 6+0))))))=1:=h
   lia
 · refine size11 f ?_
   have h2:f 0+(f 1+(f 2+(f 3+(f 4+(f 5+(f 6+(f 7+(f 8+(f 9+(f 10+0))))))))))=1:=h
   lia
theorem qo {t:Nat} (h3:T3 t) (f:Nat->Int):(vby t f).sum=0:=by
 rcases h3 with rfl | rfl | rfl
 · exact vsum5 f
 · exact vsum7 f
 · exact vsum11 f
end M48
namespace K51
open PySem L2 M39 M40 M43 M48
structure Tl (H:Hp) (qs:List Addr) (lss:List (List Int)):Prop where
 len:qs.length=lss.length
 at_:∀ (i:Nat) (h1:i<qs.length) (h2:i<lss.length),H qs[i]=some (.tup (lss[i].map V.int))
theorem Tl.same {H H':Hp} {qs:List Addr} {lss:List (List Int)} (x:Tl H qs lss) (y:Same H H'):Tl H' qs lss:=⟨x.len,fun i h1 h2=>y _ _ (x.at_ i h1 h2)⟩
theorem Tl.snoc {H:Hp} {qs:List Addr} {lss:List (List Int)} {q:Addr} {ls:List Int} (x:Tl H qs lss) (e:H q=some (.tup (ls.map V.int))):Tl H (qs++[q]) (lss++[ls]):=by
 have hl:=x.len
 refine ⟨by rw [zA5,zA5,hl];rfl,fun i h1 h2=>?_⟩
 by_cases hi:i<qs.length
 · rw [zG3 hi,zG3 (by lia)]
   exact x.at_ i hi (by lia)
 · have h1':i<qs.length+1:=by simpa using h1
   have e':i=qs.length:=by lia
   subst e'
   rw [zF9 (zA1 _),zF9 (by lia)]
   simpa [hl] using e
theorem tb_set {n i:Nat} (f:Nat->Int) (x:Int) (h:i<n):(((List.range n).map f).map V.int).set i (.int x)=((List.range n).map fun r=>if r=i then x else f r).map V.int:=by
 rw [← List.map_set]
 congr 1
 refine zD9 (by simp) fun j h1 h2=>?_
 rw [List.getElem_set]
 simp only [zG2,zG0]
 by_cases e:i=j
 · rw [if_pos e,if_pos e.symm]
 · rw [if_neg e,if_neg (Ne.symm e)]
theorem tb_get {n i:Nat} (f:Nat->Int) (h:i<n):(((List.range n).map f).map V.int)[i]? = some (.int (f i)):=by
 rw [List.getElem?_map,List.getElem?_map,List.getElem?_range h]
 rfl
theorem qm {t k r:Nat} (h:k<(vks t).length) (h2:r<(vks t)[k].length):(vks t)[k][r]=vk t k r:=by
 unfold vk
 rw [zA3,zA3,List.getElem?_eq_getElem h,Option.getD_some,List.getElem?_eq_getElem h2,Option.getD_some]
theorem jZ {t k:Nat} (h:k<(vks t).length) (h2:k<(rnd t).length):(vks t)[k]=vec (rnd t)[k] t:=by simp [vks]
theorem eL {t k:Nat} (h:k<(vks t).length):(vks t)[k].length=t:=by
 rw [jZ h (by unfold vks at h;rwa [zA0] at h),eO]
section
variable {P:Program} {w:World} {K:PySem.W.Frag} {mg:Str->Option Value} {base:Heap} {f:Addr} {fd:FuncData}
theorem sc_vr:FnScope ["t"] ["t"] (ag (top 19)):=⟨rfl,rfl,rfl,by decide +kernel,rfl,by decide +kernel,by decide +kernel⟩
def nu:Sp:=fun vs H Q _=>∃ t:Nat,vs=[.int t]/\T3 t/\∀ p rs H',H p=none->Same H H'->H' p=some (.lst (rs.map V.ref))->Tl H' rs (vks t)->Q (.ref p) H'
theorem ok_vr (F:Fun K "vectors_of_round" "vectors_of_round" (top 19) f fd)  (g_ROUNDS:TabG K mg "ROUNDS" RD) (F_vector:FnA P w K mg base "vector" 3 ["parting","t"] (cy K)):FnOk P w K mg base CX0 4 f fd ["t"] nu:=by
 refine F.okz sc_vr (fun vs H Q E h=>?_) (fun cdv A outer s H vs Q E hr h=>?_)
 · obtain ⟨t,rfl,_⟩:=h;rfl
 obtain ⟨t,rfl,h3,q⟩:=h
 have nd:=sc_vr.nd
 have hu:=hr.units
 have tl:5<=t/\t<=11:=by rcases h3 with rfl | rfl | rfl <;> decide
 refine ⟨_,(ai (aC (aN ["parting"] [("t",0)] rfl ⟨rfl,by decide +kernel,by decide +kernel,rfl,rfl⟩ (hU (o6 rfl g_ROUNDS (zn 0) (fun _ _=>rfl))) aM (fun _ _ _ _=>aj (i:=0) (show List.Nodup (["parting","t"]:List Str) by decide +kernel) rfl (Or.inl rfl)) (fun _ _ _ _=>aH) (fun _ _ _ _=>(aF F_vector hr (by decide) rfl (aa (zn 0) (aa (zn 1) ae))))))),?_⟩
 refine ⟨(t:Int),rnd t,rfl,kJ h3,fun a hT=>?_⟩
 obtain ⟨as,ha,hlen,hrw⟩:=hT
 have rl:=kH h3
 refine ⟨a,rfl,⟨_,ha.sq _⟩,fq (xs:=as.map V.ref) (fun i zs H'=>Same H H'/\i<=t/\∃ rs:List Addr,zs=rs.map V.ref/\Tl H' rs ((vks t).take i)) ⟨Same.refl _,zC6 _,[],rfl,rfl,fun i h1=>absurd h1 (Nat.not_lt_zero _)⟩ ?_ ?_ ?_⟩
 · rintro i zs H' _ _
   exact ha.sq _
 · rintro i x zs H' hx ⟨y,_,rs,rfl,tls⟩
   have hi:i<as.length:=by
    have:=(List.getElem?_eq_some_iff.mp hx).1
    rw [zA0] at this
    exact this
   have ex:x=.ref as[i]:=by rw [List.getElem?_map,List.getElem?_eq_getElem hi] at hx;exact (Option.some.inj hx).symm
   subst ex
   have hi2:i<(rnd t).length:=by lia
   have ln:=rnd_ok h3 _ (zB1 hi2)
   have l1:=tls.len
   rw [zB7] at l1
   refine ⟨by rw [zA0];exact aq (by lia),?_⟩
   have r3:(rnd t)[i].length<t*rd (rnd t)[i] t:=by
    have:rd (rnd t)[i] t=1:=by unfold rd;exact Nat.div_eq_of_lt_le (by lia) (by lia)
    rw [this];lia
   refine ⟨as[i],(rnd t)[i],t,rfl,.inr ⟨hrw i hi hi2,ln.1,r3⟩,by lia,by lia,by lia,fun r H2 y2 hr2=>?_⟩
   refine ⟨y.trans y2,by lia,rs++[r],by rw [zA2];rfl,?_⟩
   have hi3:i<(vks t).length:=by rw [eM h3];lia
   have e:(vks t).take (i+1)=(vks t).take i++[vec (rnd t)[i] t]:=by
    rw [zE1,List.getElem?_eq_getElem hi3,jZ hi3 hi2]
    rfl
   rw [e]
   exact (tls.same y2).snoc hr2
 · rintro zs H' ⟨y,_,rs,rfl,tls⟩ D hD
   rw [zA0,hlen,rl,zC2 (by rw [eM h3];exact zA1 _)] at tls
   have yD:=Same.new hD (.lst (rs.map V.ref))
   refine q D rs _ ?_ (y.trans yD) ad (tls.same yD)
   cases e:H D with
   | none=>rfl
   | some o=>have:=y D o e;rw [hD] at this;cases this
theorem sc_vb:FnScope ["t","frame","told","often","numbers","rest"] ["t","frame"] (ag (top 20)):=⟨rfl,rfl,rfl,by decide +kernel,rfl,by decide +kernel,by decide +kernel⟩
def qy:Sp:=fun vs H Q _=>∃ (a:Addr) (ns:List Int) (t:Nat),vs=[.int t,.ref a]/\H a=some (.tup (ns.map V.int))/\T3 t/\ns.length=t/\∀ r H',Same H H'->H' r=some (.tup ((vby t (nf ns)).map V.int))->Q (.ref r) H'
theorem ok_vb (F:Fun K "vector_by" "vector_by" (top 20) f fd) (m_range:mg "range" = none) (m_tuple:mg "tuple" = none) (m_zip:mg "zip" = none) (F_vectors_of_round:FnA P w K mg base "vectors_of_round" 4 ["t"] nu):FnOk P w K mg base CX0 5 f fd ["t","frame"] qy:=by
 refine F.okz sc_vb (fun vs H Q E h=>?_) (fun cdv A outer s H vs Q E hr h=>?_)
 · obtain ⟨a,ns,t,rfl,_⟩:=h;rfl
 obtain ⟨a,ns,t,rfl,ha,h3,hl,q⟩:=h
 have nd:=sc_vb.nd
 have hu:=hr.units
 have tl:5<=t/\t<=11:=by rcases h3 with rfl | rfl | rfl <;> decide
 have vl:=eM h3
 refine ⟨_,(af (ay (i:=2) nd rfl (Or.inl rfl) (am aG (a0 (aa ah ae)) (zn 0)))
  (af (bo PassesOwn.never rfl (o5 rfl m_zip (aa (zn 1) (aa (aF F_vectors_of_round hr (by decide) rfl (aa (zn 0) ae)) ae))) (ce rfl (aA (aj (i:=3) nd rfl (Or.inl rfl)) (aA (aj (i:=4) nd rfl (Or.inl rfl)) bx))) (ai (bo PassesOwn.never rfl (bQ rfl m_range (aa (zn 0) ae)) (aj (i:=5) nd rfl (Or.inl rfl)) (ai (qc (zn 2) (zn 5) oK (am aG (zn 3) (bh dL (zn 4) (zn 5) (fun _ _=>rfl))) sy kB)))))
  (ai (aC (bR rfl m_tuple (aa (zn 2) ae) rfl rfl))))),?_⟩
 refine ⟨by show 1<=sizeLine;decide,fun d hd=>?_⟩
 have yd:=Same.new hd (.lst [V.int 0])
 refine ⟨⟨by lia,by lia⟩,.inl ⟨_,ad,cT (by show 1*(t:Int).toNat<=1000;lia),fun L hL=>?_⟩⟩
 have e0:(List.replicate (t:Int).toNat [V.int 0]).flatten=((List.range t).map (dt t (nf ns) 0)).map V.int:=by
  rw [dg,zF4]
  congr 1
  refine zD9 (by simp) fun j h1 h2=>?_
  rw [List.getElem_replicate,zG2,sE]
 rw [e0]
 have yL:=Same.new hL (.lst (((List.range t).map (dt t (nf ns) 0)).map V.int))
 have y0:=yd.trans yL
 have hHL:H L=none:=by
  cases e:H L with
  | none=>rfl
  | some o=>have:=yd L o e;rw [hL] at this;cases this
 have hLL:upd (upd H d (.lst [V.int 0])) L (.lst (((List.range t).map (dt t (nf ns) 0)).map V.int)) L=some (.lst (((List.range t).map (dt t (nf ns) 0)).map V.int)):=ad
 generalize upd (upd H d (.lst [V.int 0])) L (.lst (((List.range t).map (dt t (nf ns) 0)).map V.int))=H1 at y0 hLL
 refine ⟨t,rfl,h3,fun p rs H2 hp y2 hp2 tls=>?_⟩
 have pL:p≠L:=fun z=>by rw [z,hLL] at hp;cases hp
 have hL2:=y2 _ _ hLL
 have yy:=y0.trans y2
 have ha2:=yy _ _ ha
 have aL:a≠L:=fun z=>by rw [z,hHL] at ha;cases ha
 have rl:rs.length=t:=by rw [tls.len,vl]
 refine ⟨true,false,_,_,SqK.tup ha2,SqK.lst hp2,sC (xs:=ns.map V.int) (ys:=rs.map V.ref) (fun i σ H'=>(∀ b o,b≠L->H2 b=some o->H' b=some o)/\H' L=some (.lst (((List.range t).map (dt t (nf ns) i)).map V.int))/\∃ x3 x4 x5,σ=[some (.int t),some (.ref a),some (.ref L),x3,x4,x5]) ⟨fun b o _ e=>e,hL2,_,_,_,rfl⟩ ?_ ?_ ?_⟩
 · rintro i σ H' _ ⟨kp,_⟩
   exact ⟨SqK.tup (kp _ _ aL ha2),SqK.lst (kp _ _ pL hp2)⟩
 · rintro i x y σ H' pr hx hy ⟨kp,hL',x3,x4,x5,rfl⟩ hpr
   have hi:i<ns.length:=by
    have:=(List.getElem?_eq_some_iff.mp hx).1
    rwa [zA0] at this
   have ex:x=.int ns[i]:=by rw [fz hi] at hx;exact (Option.some.inj hx).symm
   subst ex
   have hi2:i<rs.length:=by lia
   have ey:y=.ref rs[i]:=by rw [List.getElem?_map,List.getElem?_eq_getElem hi2] at hy;exact (Option.some.inj hy).symm
   subst ey
   have hi3:i<(vks t).length:=by lia
   have hrow:=tls.at_ i hi2 hi3
   have rowL:rs[i]≠L:=fun z=>by rw [z,hL2] at hrow;cases hrow
   have rlen:=eL hi3
   have yr:=Same.new hpr (.tup [.int ns[i],.ref rs[i]])
   have prL:L≠pr:=fun z=>by rw [z,hpr] at hL';cases hL'
   refine ⟨pr,_,rfl,SqT.of ad,rfl,_,_,rfl,_,_,rfl,rfl,?_⟩
   refine ⟨(t:Int),rfl,by lia,by lia,dN (fun j σ H''=>(∀ b o,b≠L->H2 b=some o->H'' b=some o)/\H'' L=some (.lst (((List.range t).map fun r=>if r<j then dt t (nf ns) (i+1) r else dt t (nf ns) i r).map V.int))/\∃ x5,σ=[some (.int t),some (.ref a),some (.ref L),some (.int ns[i]),some (.ref rs[i]),x5]) ⟨fun b o nb e=>yr _ _ (kp b o nb e),?_,_,rfl⟩ ?_ ?_⟩
   · rw [yr _ _ hL']
     congr 4
   · rintro j σ H'' hj ⟨kp2,hL'',x5',rfl⟩
     have hj':j<t:=by rwa [zF4] at hj
     have e1:((0:Int)+(j:Int)).toNat=j:=by lia
     refine ⟨_,_,SqL.of hL'',by lia,by rw [e1];exact tb_get _ hj',?_⟩
     have hj2:j<(vks t)[i].length:=by lia
     refine ⟨_,.inr (kp2 _ _ rowL hrow),.int (vks t)[i][j],cX (j:=j) (by lia) (fz hj2),?_⟩
     have lim:=o8 h3 _ (zB1 hi3) _ (zB1 hj2)
     refine ⟨mulR (by lia) (by lia),?_⟩
     refine ⟨_,hL'',by lia,by rw [e1];simpa using hj',fun b o nb e=>by rw [ao nb];exact kp2 b o nb e,?_,_,rfl⟩
     rw [ad,e1,tb_set _ _ hj']
     congr 3
     refine zA4 fun r hr'=>?_
     rw [if_neg (zG8 _)]
     by_cases er:r=j
     · rw [if_pos er,if_pos (by lia),er,sF,qm hi3 hj2,bJ hi]
     · rw [if_neg er]
       by_cases rj:r<j
       · rw [if_pos rj,if_pos (by lia)]
       · rw [if_neg rj,if_neg (by lia)]
   · rintro σ H'' ⟨kp2,hL'',x5',rfl⟩
     refine ⟨kp2,?_,_,_,_,rfl⟩
     rw [hL'']
     congr 3
     refine zA4 fun r hr'=>?_
     rw [if_pos (by have:=zA6.mp hr';lia)]
 · rintro σ H' ⟨kp,hL',x3,x4,x5,rfl⟩
   have em:min (ns.map V.int).length (rs.map V.ref).length=t:=by rw [zA0,zA0];lia
   rw [em] at hL'
   refine ⟨_,.inl (SqL.of hL'),fun r H3 y3 hr3=>q r H3 (fun b o e=>?_) hr3⟩
   have bL:b≠L:=fun z=>by rw [z,hHL] at e;cases e
   exact y3 _ _ (kp b o bL (yy _ _ e))
end
end K51
namespace L2
open PySem PySem.Spec PyProof.Rows
theorem mK:bootBuiltins "any" = some (.builtin "any"):=by decide +kernel
def nS (K:PySem.W.Frag):List V->Hp->VK->Prop:=fun xs H Q=>match xs with
 | [.ref p]=>∃ bs:List Bool,SqL K H p (bs.map V.bl)/\Q (.bl (bs.any id)) H
 | _=>False
theorem mG {X:Cx} (hc:X.calm=true):CallR X (.builtin "any") (nS X.K):=by
 intro pins s σ H xs us Q I r h
 unfold nS at h
 split at h
 · rename_i p
   obtain ⟨bs,hq,q⟩:=h
   obtain ⟨u,rfl,rx⟩:=cg r
   cases rx
   obtain ⟨its,rv,pl,hz⟩:=I.list hq
   have hlen:its.length=bs.length:=by rw [← rv.length,zA0]
   have hlt:p<s.heap.objs.size:=by
    obtain ⟨_,e,_⟩:=pl.isList
    exact Heap.lt_size e
   refine call_any_walk (wpAny_pyIter_list pl.isList ?_)
   have W:Walks X.prog X.w X.A.in1 s.heap.objs.size [s.heap.objs.size,p] [s.heap.objs.size] its.toArray.size _ _:=Walks.list (show X.A.in1.handled=none from I.ok.hd hc) s.heap.objs.size p (zB8 hlt) its.toArray
   refine ⟨s.heap.objs.size,_,_,_,_,_,fun i=>bs.getD i false,rfl,W,⟨⟨_,Heap.get?_push_size _ rfl,rfl,rfl⟩,pl.isList.push _⟩,?_,fun h' tk hk=>?_⟩
   · intro i v s' Q' E' hP hQ
     have hP':its[i]? = some v:=by simpa using hP
     have hi:i<bs.length:=by rw [← hlen];exact (List.getElem?_eq_some_iff.mp hP').1
     obtain ⟨w',e1,e2⟩:=rv.get (i:=i) (x:=.bl bs[i]) (by rw [List.getElem?_map,List.getElem?_eq_getElem hi];rfl)
     rw [hP'] at e1
     cases e1
     cases e2
     refine wpAny_truthy_bool ?_
     have e:bs.getD i false=bs[i]:=by rw [zA3,List.getElem?_eq_getElem hi];rfl
     have hQ':Q' (bs.getD i false) s':=hQ
     rw [e] at hQ'
     exact hQ'
   · have I1:Inv X pins σ H { s with heap:=h',toks:=tk }:=I.kept fun b o e=>hk b o (by simpa using zB8 (Heap.lt_size e)) (Heap.get?_push_of_some _ e)
     refine ⟨.bl _,H,I1,rfl,?_⟩
     have e:(List.range its.toArray.size).any (fun i=>bs.getD i false)=bs.any id:=by
      rw [zA7,hlen,Bool.eq_iff_iff,List.any_eq_true,List.any_eq_true]
      constructor
      · rintro ⟨i,hi,h⟩
        have hi':=zA6.mp hi
        rw [zA3,List.getElem?_eq_getElem hi'] at h
        exact ⟨_,zB1 hi',h⟩
      · rintro ⟨x,hx,h⟩
        obtain ⟨i,hi,rfl⟩:=zE5.mp hx
        exact ⟨i,zA6.mpr hi,by rw [zA3,List.getElem?_eq_getElem hi];exact h⟩
     rw [e]
     exact q
 · exact h.elim
section
variable {X:Cx} {e:Expr} {es:List Expr} {t:TA} {p pos:Pos}
theorem rV (hc:X.calm=true) (hg:Gl X "any") (hm:X.mg "any" = none) (ha:PA X (e::es) t) (he:starEach (e::es) X.env=(false,eval e X.env)::starEach es X.env) (hpl:(backTo pos (starEach es X.env)).any (·.1)=false) :
 PE X (.Call (.Name "any" p) (e::es) [] pos) (tCB (nS X.K) t):=aW (mG hc) hg hm mK ha (by decide) (by decide) he hpl
theorem qi (hc:X.calm=true) (hg:Gl X "any") (hm:X.mg "any" = none) (ha:ZA X (e::es) t) (he:starEach (e::es) X.env=(false,eval e X.env)::starEach es X.env) (hpl:(backTo pos (starEach es X.env)).any (·.1)=false) :
 ZE X (.Call (.Name "any" p) (e::es) [] pos) (tCB (nS X.K) t):=by with_unfolding_all exact rV hc hg hm ha he hpl
end
end L2
namespace L2
open PySem PySem.Spec PyProof.Rows
section
variable {X:Cx} {e lo hi:Expr} {te tl tk:TE} {pos p2:Pos}
theorem ze_cmp {a b:Expr} {op:CmpOp} {t:TE} (h:ZC X op a b t) (h1:behindInMarks op b=false:=by first | exact nobehind _ (by decide) (by decide) | rfl):ZE X (.Compare a [op] [b] pos) t:=by with_unfolding_all exact pe_cmp h h1
end
end L2
namespace M47
open M39 M43 M48
def S (t:Nat) (g:Nat->Int):Int:=((List.range t).map g).sum
theorem i4 (g:Nat->Int):S 0 g=0:=rfl
theorem bX (t:Nat) (g:Nat->Int):S (t+1) g=S t g+g t:=by unfold S;rw [zB5,zA2,zC0];simp
theorem aK {t:Nat} {g k:Nat->Int} (h:∀ i,i<t->g i=k i):S t g=S t k:=by
 unfold S
 congr 1
 exact zA4 fun i hi=>h i (zA6.mp hi)
theorem dc (g k:Nat->Int):∀ t,S t (fun i=>g i+k i)=S t g+S t k
 | 0=>rfl
 | t+1=>by rw [bX,bX,bX,dc g k t];lia
theorem cu (c:Int) (g:Nat->Int):∀ t,S t (fun i=>c*g i)=c*S t g
 | 0=>by rw [i4,i4,Int.mul_zero]
 | t+1=>by rw [bX,bX,cu c g t,zI6]
theorem S_nil:∀ t,S t (fun _=>0)=0
 | 0=>rfl
 | t+1=>by rw [bX,S_nil t];rfl
theorem i5 (F:Nat->Nat->Int) (m:Nat):∀ t,S t (fun i=>S m fun j=>F i j)=S m fun j=>S t fun i=>F i j
 | 0=>by rw [i4,aK (g:=fun j=>S 0 fun i=>F i j) (k:=fun _=>0) (fun _ _=>rfl),S_nil]
 | t+1=>by
   rw [bX,i5 F m t,← dc]
   exact aK fun j _=>(bX t fun i=>F i j).symm
def del (a k:Nat):Int:=if k=a then 1 else 0
theorem gv (f:Nat->Int) (a:Nat):∀ t,S t (fun k=>f k*del a k)=if a<t then f a else 0
 | 0=>rfl
 | t+1=>by
   rw [bX,gv f a t]
   unfold del
   by_cases h:t=a
   · subst h
     rw [if_pos rfl,if_neg (zG8 _),if_pos (zG1 _)]
     lia
   · rw [if_neg h,Int.mul_zero,Int.add_zero]
     by_cases h2:a<t
     · rw [if_pos h2,if_pos (by lia)]
     · rw [if_neg h2,if_neg (by lia)]
theorem dt_S (t:Nat) (f:Nat->Int) (r:Nat):dt t f t r=S t fun k=>f k*vk t k r:=rfl
theorem pZ (t:Nat) (f:Nat->Int) (c:Nat->Int):S t (fun r=>c r*dt t f t r)=S t fun k=>f k*S t fun r=>c r*vk t k r:=by
 have e:∀ r,r<t->c r*dt t f t r=S t fun k=>f k*(c r*vk t k r):=fun r _=>by
  rw [dt_S,← cu]
  exact aK fun k _=>by rw [Int.mul_left_comm]
 rw [aK e,i5]
 exact aK fun k _=>cu (f k) (fun r=>c r*vk t k r) t
def pv (t:Nat) (n:Nat->Int) (i m:Nat):Int:=((List.range m).map fun (j:Nat)=>n j*vk t i j).sum
def pl (n:Nat->Int) (m:Nat):Int:=((List.range m).map fun (j:Nat)=>(j:Int)*n j).sum
def mX (t:Nat) (n:Nat->Int) (i:Nat):Int:=pv t n i t+(pl n t+pl (vk t i) t+2*((t:Int) - cw t)) / (t:Int)
def gq (t k i:Nat):Int:=(pl (vk t k) t+pl (vk t i) t+2*((t:Int) - cw t)) / (t:Int)
theorem tab_q {t:Nat} (h3:T3 t):∀ k,k<t->∀ i,i<t->pl (vk t k) t+pl (vk t i) t+2*((t:Int) - cw t)=(t:Int)*gq t k i:=by rcases h3 with rfl | rfl | rfl <;> decide +kernel
theorem tab_g {t:Nat} (h3:T3 t):∀ k,k<t->∀ i,i<t->(S t fun r=>vk t i r*vk t k r)+gq t k i=2*del i k - del ((i+t - 1) % t) k - del ((i+1) % t) k:=by rcases h3 with rfl | rfl | rfl <;> decide +kernel
theorem qY (t:Nat) (f:Nat->Int) (i:Nat):pv t (dt t f t) i t=S t fun k=>f k*S t fun r=>vk t i r*vk t k r:=by
 rw [← pZ]
 exact aK fun r _=>Int.mul_comm _ _
theorem rC (t:Nat) (f:Nat->Int):pl (dt t f t) t=S t fun k=>f k*pl (vk t k) t:=pZ t f fun r=>(r:Int)
theorem sU {t:Nat} (h3:T3 t) {f:Nat->Int} (h:((List.range t).map f).sum=1):∀ i,i<t->mX t (dt t f t) i=2*f i - f ((i+t - 1) % t) - f ((i+1) % t):=by
 intro i hi
 have h:S t f=1:=h
 have t0:0<t:=by lia
 have e1:pl (dt t f t) t+pl (vk t i) t+2*((t:Int) - cw t)=(t:Int)*S t fun k=>f k*gq t k i:=by
  have a:pl (vk t i) t+2*((t:Int) - cw t)=S t fun k=>(pl (vk t i) t+2*((t:Int) - cw t))*f k:=by rw [cu,h,Int.mul_one]
  rw [Int.add_assoc,a,rC,← dc,← cu]
  refine aK fun k hk=>?_
  have q:=tab_q h3 k hk i hi
  rw [Int.mul_left_comm,← q]
  grind
 unfold mX
 rw [e1,Int.mul_ediv_cancel_left _ (by lia),qY,← dc]
 have e2:∀ k,k<t->f k*(S t fun r=>vk t i r*vk t k r)+f k*gq t k i=2*(f k*del i k)+(-1*(f k*del ((i+t - 1) % t) k) + -1*(f k*del ((i+1) % t) k)):=fun k hk=>by
  rw [← zI6,tab_g h3 k hk i hi]
  grind
 rw [aK e2,dc,dc,cu,cu,cu,gv,gv,gv,if_pos hi,if_pos (Nat.mod_lt _ t0),if_pos (Nat.mod_lt _ t0)]
 lia
def pU (t k j:Nat):Int:=((if t=5 then ([[1,1,0,0,-1],[-1,-1,0,0,0],[-3,-4,1,2,3],[2,2,-1,-1,-1],[2,2,0,-1,-1]]:List (List Int)) else if t=7 then [[1,1,0,0,0,0,-1],[-1,-2,1,1,1,2,2],[-4,-6,1,2,3,4,5],[-3,-4,1,1,2,2,3],[3,4,-1,-2,-2,-3,-3],[3,4,-1,-1,-2,-3,-3],[2,3,-1,-1,-2,-2,-3]] else [[0,-1,0,0,0,1,1,1,1,1,1],[-1,-2,0,0,0,1,1,1,1,1,2],[-2,-4,1,1,1,2,2,2,3,3,4],[-4,-7,1,2,2,3,3,4,5,5,6],[0,0,0,0,0,0,-1,0,0,0,0],[-3,-5,1,1,2,2,2,3,3,4,4],[0,0,0,0,1,0,0,0,0,0,0],[2,4,-1,-1,-1,-2,-2,-3,-3,-3,-4],[4,7,-1,-1,-2,-3,-3,-4,-5,-5,-6],[5,9,-1,-2,-3,-4,-4,-5,-6,-7,-8],[0,-1,0,0,0,0,1,1,1,1,1]]).getD k []).getD j 0
def dm (t r j:Nat):Int:=if r=0 then (if j=0 then -cw t else if j=1 then -(t:Int) else (j:Int) - 1) else if r=1 then (if j=0 then cw t else if j=1 then (t:Int) else -(j:Int)) else del r j
theorem tab_s {t:Nat} (h3:T3 t):∀ j,j<t->(S t fun k=>pU t k j)=del 0 j:=by rcases h3 with rfl | rfl | rfl <;> decide +kernel
theorem tab_d {t:Nat} (h3:T3 t):∀ r,r<t->∀ j,j<t->(S t fun k=>vk t k r*pU t k j)=dm t r j:=by rcases h3 with rfl | rfl | rfl <;> decide +kernel
def par (n:Nat->Int) (k:Int) (j:Nat):Int:=if j=0 then 1 else if j=1 then k else n j
theorem oO {t:Nat} (h3:T3 t) {n:Nat->Int} (h0:((List.range t).map n).sum=0) (h1:ro t n % (t:Int)=cw t):∃ f:Nat->Int,((List.range t).map f).sum=1/\∀ r,r<t->dt t f t r=n r:=by
 have h0:S t n=0:=h0
 have t5:5<=t:=by rcases h3 with rfl | rfl | rfl <;> decide
 have hr:ro t n=S t fun j=>(j:Int)*n j:=rfl
 generalize hk:ro t n / (t:Int)=k
 have hro:ro t n=cw t+(t:Int)*k:=by
  have:=Int.mul_ediv_add_emod (ro t n) (t:Int)
  rw [hk,h1] at this
  lia
 refine ⟨fun i=>S t fun j=>pU t i j*par n k j,?_,fun r hrt=>?_⟩
 · show S t (fun i=>S t fun j=>pU t i j*par n k j)=1
   rw [i5]
   have e:∀ j,j<t->(S t fun i=>pU t i j*par n k j)=par n k j*del 0 j:=fun j hj=>by
    rw [← tab_s h3 j hj,← cu]
    exact aK fun i _=>Int.mul_comm _ _
   rw [aK e,gv,if_pos (by lia)]
   rfl
 · have e:dt t (fun i=>S t fun j=>pU t i j*par n k j) t r=S t fun j=>par n k j*dm t r j:=by
    rw [dt_S]
    have a:∀ i,i<t->(S t fun j=>pU t i j*par n k j)*vk t i r=S t fun j=>par n k j*(vk t i r*pU t i j):=fun i _=>by
     rw [Int.mul_comm,← cu]
     exact aK fun j _=>by grind
    rw [aK a,i5]
    refine aK fun j hj=>?_
    rw [cu,tab_d h3 r hrt j hj]
   rw [e]
   have d1:∀ g:Nat->Int,S t (fun j=>g j*del 1 j)=g 1:=fun g=>by rw [gv,if_pos (by lia)]
   have d0:∀ g:Nat->Int,S t (fun j=>g j*del 0 j)=g 0:=fun g=>by rw [gv,if_pos (by lia)]
   by_cases r0:r=0
   · subst r0
     have a:∀ j,j<t->par n k j*dm t 0 j=((j:Int)*n j + -1*n j)+(((-cw t+n 0)*del 0 j)+((-(t:Int)*k)*del 1 j)):=fun j _=>by
      unfold par dm del
      by_cases j0:j=0
      · subst j0;simp;lia
      · by_cases j1:j=1
        · subst j1;simp;grind
        · simp [j0,j1];grind
     rw [aK a,dc,dc,dc,cu,d0 fun _=>-cw t+n 0,d1 fun _=>-(t:Int)*k,← hr,h0,hro]
     grind
   · by_cases r1:r=1
     · subst r1
       have a:∀ j,j<t->par n k j*dm t 1 j=-1*((j:Int)*n j)+((cw t*del 0 j)+(((t:Int)*k+n 1)*del 1 j)):=fun j _=>by
        unfold par dm del
        by_cases j0:j=0
        · subst j0;simp
        · by_cases j1:j=1
          · subst j1;simp;grind
          · simp [j0,j1];grind
       rw [aK a,dc,dc,cu,d0 fun _=>cw t,d1 fun _=>(t:Int)*k+n 1,← hr,hro]
       lia
     · have a:∀ j,j<t->par n k j*dm t r j=n j*del r j:=fun j _=>by
        unfold dm
        rw [if_neg r0,if_neg r1]
        unfold par del
        by_cases jr:j=r
        · subst jr;simp [r0,r1]
        · simp [jr]
       rw [aK a,gv,if_pos hrt]
def ups (rs:List Int) (m:Nat):List Int:=(List.range m).map fun (j:Nat)=>(rs.take j).sum
def br (rs:List Int) (total:Int):List Int:=(ups rs (rs.length+1)).map fun x=>(total - (ups rs (rs.length+1)).sum) / ((rs.length+1:Nat):Int)+x
theorem ck (rs:List Int) (m:Nat):(ups rs m).length=m:=by unfold ups;simp
theorem ups_succ (rs:List Int) (m:Nat):ups rs (m+1)=ups rs m++[(rs.take m).sum]:=by unfold ups;rw [zB5,zA2];rfl
theorem qv {rs:List Int} {i:Nat} (h:i<rs.length):(rs.take (i+1)).sum=(rs.take i).sum+rs[i]:=by
 rw [zE1,List.getElem?_eq_getElem h,zC0]
 simp
theorem fo (d:Nat->Int):∀ m,((List.range m).map fun (j:Nat)=>d (j+1) - d j).sum=d m - d 0
 | 0=>by simp
 | m+1=>by
   rw [zB5,zA2,zC0,fo d m]
   simp only [zA9,zF1,zB3,zH3]
   lia
theorem ng (d:Nat->Int) (m:Nat):ups ((List.range m).map fun (j:Nat)=>d (j+1) - d j) (m+1)=(List.range (m+1)).map fun (j:Nat)=>d j - d 0:=by
 unfold ups
 refine zA4 fun j hj=>?_
 have hj:j<=m:=by have:=zA6.mp hj;lia
 rw [← List.map_take,List.take_range,Nat.min_eq_left hj,fo]
theorem iI (d:Nat->Int) (c:Int):∀ m:Nat,((List.range m).map fun (j:Nat)=>d j - c).sum=((List.range m).map d).sum - (m:Int)*c
 | 0=>by simp
 | m+1=>by
   rw [zB5,zA2,zC0,iI d c m,zA2,zC0]
   simp only [zA9,zF1,zB3,zH3]
   rw [Int.natCast_add,Int.add_mul]
   lia
theorem br_of (d:Nat->Int) (m:Nat) (total:Int) (h:total=((List.range (m+1)).map d).sum):br ((List.range m).map fun (j:Nat)=>d (j+1) - d j) total=(List.range (m+1)).map d:=by
 have hl:((List.range m).map fun (j:Nat)=>d (j+1) - d j).length=m:=by simp
 unfold br
 rw [hl,ng,iI,h,zE4]
 have e:((List.range (m+1)).map d).sum - (((List.range (m+1)).map d).sum - ((m+1:Nat):Int)*d 0)=((m+1:Nat):Int)*d 0:=by lia
 rw [e,Int.mul_ediv_cancel_left _ (by lia)]
 refine zA4 fun j _=>?_
 show d 0+(d j - d 0)=d j
 lia
def bds (t:Nat) (n:Nat->Int):List Int:=(List.range t).map (mX t n)
def rss (t:Nat) (n:Nat->Int):List Int:=br (((bds t n).drop 1).map fun b=>-b) 0
def frm (t:Nat) (n:Nat->Int):List Int:=br ((rss t n).take (t - 1)) 1
theorem jE (t:Nat) (g:Nat->Int):((List.range (t+1)).map g).drop 1=(List.range t).map fun (j:Nat)=>g (j+1):=by
 rw [List.range_succ_eq_map,zA9,List.drop_one,List.tail_cons,zE4]
 rfl
theorem sL (f:Nat->Int) (m:Nat):((List.range (m+1)).map fun (j:Nat)=>f ((j+1) % (m+1)) - f j).sum=0:=by
 have e:((List.range (m+1)).map fun (j:Nat)=>f ((j+1) % (m+1)) - f j)=((List.range m).map fun (j:Nat)=>f (j+1) - f j)++[f 0 - f m]:=by
  rw [zB5,zA2]
  congr 1
  · refine zA4 fun j hj=>?_
    have:=zA6.mp hj
    rw [zF3 (by lia)]
  · simp
 rw [e,zC0,fo]
 simp only [zB3,zH3]
 lia
theorem rss_is {t:Nat} (h3:T3 t) {f:Nat->Int} (h:((List.range t).map f).sum=1):rss t (dt t f t)=(List.range t).map fun (j:Nat)=>f ((j+1) % t) - f j:=by
 have t1:1<t:=by rcases h3 with rfl | rfl | rfl <;> decide
 obtain ⟨m,rfl⟩:∃ m,t=m+1:=⟨t - 1,by lia⟩
 unfold rss bds
 rw [jE,zE4]
 have e:((List.range m).map ((fun b=>-b) ∘ fun (j:Nat)=>mX (m+1) (dt (m+1) f (m+1)) (j+1)))=(List.range m).map fun (j:Nat)=>(fun (j:Nat)=>f ((j+1) % (m+1)) - f j) (j+1) - (fun (j:Nat)=>f ((j+1) % (m+1)) - f j) j:=by
  refine zA4 fun j hj=>?_
  have hj:=zA6.mp hj
  show -(mX (m+1) (dt (m+1) f (m+1)) (j+1))=f ((j+1+1) % (m+1)) - f (j+1) - (f ((j+1) % (m+1)) - f j)
  rw [sU h3 h (j+1) (by lia)]
  have e1:(j+1+(m+1) - 1) % (m+1)=j:=by
   rw [show j+1+(m+1) - 1=j+(m+1) by lia,Nat.add_mod_right]
   exact zF3 (by lia)
  have e2:(j+1) % (m+1)=j+1:=zF3 (by lia)
  rw [e1,e2]
  lia
 rw [e]
 exact br_of (fun (j:Nat)=>f ((j+1) % (m+1)) - f j) m 0 (sL f m).symm
theorem pO {t:Nat} (h3:T3 t) {f:Nat->Int} (h:((List.range t).map f).sum=1):frm t (dt t f t)=(List.range t).map f:=by
 have t1:1<t:=by rcases h3 with rfl | rfl | rfl <;> decide
 obtain ⟨m,rfl⟩:∃ m,t=m+1:=⟨t - 1,by lia⟩
 unfold frm
 rw [rss_is h3 h,← List.map_take,List.take_range,Nat.add_sub_cancel,Nat.min_eq_left (by lia)]
 have e:((List.range m).map fun (j:Nat)=>f ((j+1) % (m+1)) - f j)=(List.range m).map fun (j:Nat)=>f (j+1) - f j:=by
  refine zA4 fun j hj=>?_
  have:=zA6.mp hj
  rw [zF3 (by lia)]
 rw [e]
 exact br_of f m 1 h.symm
theorem kw (n:Nat->Int):∀ t:Nat,(sq t n - ((List.range t).map n).sum) % 2=0
 | 0=>rfl
 | t+1=>by
   have ih:=kw n t
   have e:sq (t+1) n=sq t n+n t*n t:=by unfold sq;rw [zB5,zA2,zC0];simp
   rw [e,zB5,zA2,zC0]
   simp only [zA9,zF1,zB3,zH3]
   have h2:(n t*n t - n t) % 2=0:=by
    have:n t*n t - n t=n t*(n t - 1):=by rw [Int.mul_sub,Int.mul_one]
    rw [this,Int.mul_emod]
    have hc:n t % 2=0\/n t % 2=1:=by lia
    rcases hc with hc | hc
    · rw [hc];simp
    · have:(n t - 1) % 2=0:=by lia
      rw [this];simp
   lia
theorem qI {t:Nat} {n:Nat->Int} (h0:((List.range t).map n).sum=0):((t:Int)*sq t n / 2+ro t n) % (t:Int)=ro t n % (t:Int):=by
 have h:=kw n t
 rw [h0] at h
 obtain ⟨k,hk⟩:∃ k,sq t n=2*k:=⟨sq t n / 2,by lia⟩
 rw [hk]
 have e:(t:Int)*(2*k) / 2=(t:Int)*k:=by
  rw [show (t:Int)*(2*k)=2*((t:Int)*k) by grind]
  exact Int.mul_ediv_cancel_left _ (by decide)
 rw [e,Int.add_comm,zI1]
end M47
namespace K51
open PySem L2 M39 M40 M43 M48 M47
def cc (as bs:List Int) (m:Nat):List Int:=(List.range m).map fun (j:Nat)=>nf as j*nf bs j
theorem jG (as bs:List Int) (m:Nat):cc as bs (m+1)=cc as bs m++[nf as m*nf bs m]:=by unfold cc;rw [zB5,zA2];rfl
theorem lS (as bs:List Int) (m:Nat):(cc as bs m).length=m:=by unfold cc;simp
def plc (t:Nat):List Int:=(List.range t).map fun (j:Nat)=>(j:Int)
theorem lh {t j:Nat} (h:j<t):nf (plc t) j=(j:Int):=by unfold nf plc;simp [h]
theorem cw_is {t:Nat} (h3:T3 t):((rnd t).getD 0 []).sum=cw t/\0<(rnd t).length:=by rcases h3 with rfl | rfl | rfl <;> exact ⟨by decide,by decide⟩
theorem cw_lim {t:Nat} (h3:T3 t):0<=cw t/\cw t<t:=by rcases h3 with rfl | rfl | rfl <;> decide
theorem nc (rs:List Int) (m:Nat):atI ((ups rs (m+1)).map V.int) (-1)=some (.int (rs.take m).sum):=by
 rw [ups_succ,zA2]
 exact oZ _ _
section
variable {P:Program} {w:World} {K:PySem.W.Frag} {mg:Str->Option Value} {base:Heap} {f:Addr} {fd:FuncData}
theorem sc_wr:FnScope ["t"] ["t"] (ag (top 18)):=⟨rfl,rfl,rfl,by decide +kernel,rfl,by decide +kernel,by decide +kernel⟩
def nt:Sp:=fun vs H Q _=>∃ t:Nat,vs=[.int t]/\T3 t/\Q (.int (cw t)) H
theorem ok_wr (F:Fun K "weight_of_round" "weight_of_round" (top 18) f fd) (m_sum:mg "sum" = none) (g_ROUNDS:TabG K mg "ROUNDS" RD):FnOk P w K mg base CX0 1 f fd ["t"] nt:=by
 refine F.okz sc_wr (fun vs H Q E h=>?_) (fun cdv A outer s H vs Q E hr h=>?_)
 · obtain ⟨t,rfl,_⟩:=h;rfl
 obtain ⟨t,rfl,h3,q⟩:=h
 have nd:=sc_wr.nd
 have hu:=hr.units
 refine ⟨_,(ai (aC (m7 rfl rfl m_sum (aa (bh ix_K (o6 rfl g_ROUNDS (zn 0) (fun _ _=>rfl)) ah (fun _ _=>rfl)) ae) rfl rfl))),?_⟩
 refine ⟨(t:Int),rnd t,rfl,kJ h3,fun a hT=>?_⟩
 obtain ⟨as,ha,hlen,hrw⟩:=hT
 obtain ⟨e1,e2⟩:=cw_is h3
 have h0:0<as.length:=by lia
 refine ⟨_,ha.sq _,.ref as[0],cX (j:=0) rfl (by rw [List.getElem?_map,List.getElem?_eq_getElem h0];rfl),?_⟩
 refine ⟨_,(hrw 0 h0 e2).sq _,?_⟩
 have:(rnd t)[0].sum=cw t:=by
  rw [← e1,zA3,List.getElem?_eq_getElem e2]
  rfl
 rw [this]
 exact q
theorem sc_sp:FnScope ["one","other"] ["one","other"] (ag (top 21)):=⟨rfl,rfl,rfl,by decide +kernel,rfl,by decide +kernel,by decide +kernel⟩
def qB:Sp:=fun vs H Q _=>∃ (c d:Bool) (a b:Addr) (as bs:List Int) (m:Nat),vs=[.ref a,.ref b]/\SqK H c a (as.map V.int)/\SqK H d b (bs.map V.int)/\as.length=m/\bs.length=m/\m<=100/\(∀ i,i<m->IntMulOk (nf as i) (nf bs i))/\∀ H',Same H H'->Q (.int (cc as bs m).sum) H'
theorem ok_sp (F:Fun K "sum_of_products" "sum_of_products" (top 21) f fd) (m_sum:mg "sum" = none) (m_zip:mg "zip" = none):FnOk P w K mg base CX0 1 f fd ["one","other"] qB:=by
 refine F.okz sc_sp (fun vs H Q E h=>?_) (fun cdv A outer s H vs Q E hr h=>?_)
 · obtain ⟨c,d,a,b,as,bs,m,rfl,_⟩:=h;rfl
 obtain ⟨c,d,a,b,as,bs,m,rfl,ha,hb,la,lb,hm,ok,q⟩:=h
 have nd:=sc_sp.nd
 have hu:=hr.units
 have em:min (as.map V.int).length (bs.map V.int).length=m:=by rw [zA0,zA0];lia
 refine ⟨_,(ai (aC (dk rfl rfl m_sum (aa (aN ["left","right"] [] rfl ⟨rfl,by decide +kernel,by decide +kernel,rfl,rfl⟩ (o5 rfl m_zip (aa (zn 0) (aa (zn 1) ae))) dJ (fun _ _ _ _=>ce rfl (aA (aj (i:=0) (show List.Nodup (["left","right"]:List Str) by decide +kernel) rfl (Or.inl rfl)) (aA (aj (i:=1) (show List.Nodup (["left","right"]:List Str) by decide +kernel) rfl (Or.inl rfl)) bx))) (fun _ _ _ _=>aH) (fun _ _ _ _=>(am aG (zn 0) (zn 1)))) ae) rfl rfl))),?_⟩
 refine ⟨c,d,_,_,ha,hb,sP (xs:=as.map V.int) (ys:=bs.map V.int) (fun i zs H'=>Same H H'/\zs=(cc as bs i).map V.int) ⟨Same.refl _,rfl⟩ ?_ ?_ ?_ ?_⟩
 · rintro i zs H' _ ⟨y,_⟩
   exact ⟨ha.same y,hb.same y⟩
 · rintro i zs H' hi ⟨_,rfl⟩
   rw [em] at hi
   rw [zA0,lS]
   exact aq (by lia)
 · rintro i x y zs H' p' hx hy ⟨yy,rfl⟩ hp'
   have hi:i<as.length:=by
    have:=(List.getElem?_eq_some_iff.mp hx).1
    rwa [zA0] at this
   have hi2:i<bs.length:=by lia
   have ex:x=.int as[i]:=by rw [fz hi] at hx;exact (Option.some.inj hx).symm
   subst ex
   have ey:y=.int bs[i]:=by rw [fz hi2] at hy;exact (Option.some.inj hy).symm
   subst ey
   refine ⟨p',_,rfl,SqT.of ad,rfl,_,_,rfl,_,_,rfl,rfl,?_⟩
   have o:=ok i (by lia)
   rw [bJ hi,bJ hi2] at o
   refine ⟨o,?_⟩
   refine ⟨yy.trans (Same.new hp' _),?_⟩
   rw [jG,zA2,bJ hi,bJ hi2]
   rfl
 · rintro zs H' ⟨yy,rfl⟩ D2 hD2
   rw [em]
   refine ⟨_,.inl (SqL.of ad),?_⟩
   exact q _ (yy.trans (Same.new hD2 _))
end
end K51
namespace MRow
def ra:Nat->(Nat->Int)->Nat->Nat->Int
 | 0,f,_,n=>f n
 | k+1,f,s,n=>f n+(if s<=n then ra k f s (n - s) else 0)
def put (f:Nat->Int) (s n:Nat):Int:=ra n f s n
theorem cA {f:Nat->Int} {s:Nat} (hs:0<s):∀ (k n:Nat),n<=k->ra k f s n=ra n f s n
 | 0,n,h=>by have:n=0:=by lia
             subst this;rfl
 | k+1,0,_=>by
   show f 0+(if s<=0 then _ else 0)=f 0
   rw [if_neg (by lia)];lia
 | k+1,n+1,h=>by
   show f (n+1)+(if s<=n+1 then ra k f s (n+1 - s) else 0)=f (n+1)+(if s<=n+1 then ra n f s (n+1 - s) else 0)
   by_cases hn:s<=n+1
   · rw [if_pos hn,if_pos hn,cA hs k _ (by lia),cA hs n _ (by lia)]
   · rw [if_neg hn,if_neg hn]
theorem pA (f:Nat->Int) {s:Nat} (hs:0<s) (n:Nat):put f s n=f n+(if s<=n then put f s (n - s) else 0):=by
 unfold put
 rw [← cA hs (n+1) n (by lia)]
 show f n+(if s<=n then ra n f s (n - s) else 0)=_
 by_cases hn:s<=n
 · rw [if_pos hn,if_pos hn,cA hs n _ (by lia)]
 · rw [if_neg hn,if_neg hn]
def dl:Nat->Int:=fun n=>if n=0 then 1 else 0
def tb (f:Nat->Int) (L:Nat):List Int:=(List.range L).map f
theorem tb_len (f:Nat->Int) (L:Nat):(tb f L).length=L:=by simp [tb]
theorem tb_at {f:Nat->Int} {L j:Nat} (h:j<(tb f L).length):(tb f L)[j]=f j:=by simp [tb]
theorem tb_get {f:Nat->Int} {L j:Nat} (h:j<L):(tb f L)[j]? = some (f j):=by
 rw [List.getElem?_eq_getElem (by rw [tb_len];exact h),tb_at]
end MRow
set_option exponentiation.threshold 3000
namespace M27
open PySem L2 MRow
theorem size_up {a b m:Int} (hm:1<=m):Builtin.Range.rangeSize a b m=if a<b then (b - a - 1) / m+1 else 0:=by
 unfold Builtin.Range.rangeSize
 rw [if_pos (by lia)]
theorem small_up {a b m:Int} (hm:1<=m) (hm':m<=1000000) (ha:0<=a) (ha':a<=1000000) (hb:0<=b) (hb':b<=1000000):Builtin.Range.small a b m=true:=by
 have e:=size_up (a:=a) (b:=b) hm
 unfold Builtin.Range.small
 rw [e]
 by_cases hab:a<b
 · rw [if_pos hab]
   have h0:0<=(b - a - 1) / m:=Int.ediv_nonneg (by lia) (by lia)
   have h1:(b - a - 1) / m<=b - a - 1:=Int.ediv_le_self _ (by lia)
   simp only [Builtin.Range.rangeFitsLong,zE9,Bool.or_eq_true,decide_eq_true_eq,beq_iff_eq,show m > 0 by lia,if_true]
   generalize (b - a - 1) / m=k at h0 h1
   lia
 · rw [if_neg hab]
   simp only [Builtin.Range.rangeFitsLong,zE9,Bool.or_eq_true,decide_eq_true_eq,beq_iff_eq,show m > 0 by lia,if_true]
   lia
end M27
namespace K51
open PySem L2 M39 M40 M43 M48 M47
def SmX (L:Addr) (H H':Hp):Prop:=∀ b o,b≠L->H b=some o->H' b=some o
theorem SmX.refl (L:Addr) (H:Hp):SmX L H H:=fun _ _ _ e=>e
theorem SmX.put {L:Addr} {H H':Hp} {o:HO} (x:SmX L H H'):SmX L H (upd H' L o):=fun b u nb e=>by rw [ao nb];exact x b u nb e
theorem SmX.then {L:Addr} {H H1 H2:Hp} (x:SmX L H H1) (y:Same H1 H2):SmX L H H2:=fun b u nb e=>y _ _ (x b u nb e)
theorem kG {t:Nat} (h:t<=1000):Builtin.Range.small 0 (t:Int) 1=true:=M27.small_up (by decide) (by decide) (by decide) (by decide) (by lia) (by lia)
theorem nY {t:Nat}:(((List.range (Builtin.Range.rangeSize 0 (t:Int) 1).toNat).map fun (k:Nat)=>(0:Int)+k*1).map V.int)=(plc t).map V.int:=by
 have es:(Builtin.Range.rangeSize 0 (t:Int) 1).toNat=t:=by
  rw [M27.size_up (by decide)]
  by_cases h:(0:Int)<(t:Int)
  · rw [if_pos h,Int.ediv_one];lia
  · rw [if_neg h];lia
 rw [es]
 congr 1
 unfold plc
 refine zA4 fun j _=>?_
 lia
theorem dot_pl {t:Nat} {ns:List Int}:(cc (plc t) ns t).sum=pl (nf ns) t:=by
 unfold cc pl
 congr 1
 refine zA4 fun j hj=>?_
 rw [lh (zA6.mp hj)]
theorem dot_pv {t i:Nat} {ns:List Int} (h:i<(vks t).length):(cc ns (vks t)[i] t).sum=M47.pv t (nf ns) i t:=by
 unfold cc M47.pv
 congr 1
 refine zA4 fun j hj=>?_
 have hj:=zA6.mp hj
 have hr:j<(vks t)[i].length:=by rw [eL h];exact hj
 rw [← qm h hr,bJ hr]
theorem sI {t i:Nat} (h:i<(vks t).length):(cc (plc t) (vks t)[i] t).sum=pl (vk t i) t:=by
 unfold cc pl
 congr 1
 refine zA4 fun j hj=>?_
 have hj:=zA6.mp hj
 have hr:j<(vks t)[i].length:=by rw [eL h];exact hj
 rw [lh hj,← qm h hr,bJ hr]
theorem oX {t i:Nat} (n:Nat->Int) (h:i<t):(bds t n).take (i+1)=(bds t n).take i++[mX t n i]:=by
 have hl:i<(bds t n).length:=by unfold bds;simpa using h
 rw [zE1,List.getElem?_eq_getElem hl]
 congr 1
 simp [bds]
section
variable {P:Program} {w:World} {K:PySem.W.Frag} {mg:Str->Option Value} {base:Heap} {f:Addr} {fd:FuncData}
theorem sc_bo:FnScope ["t","numbers","places","beyond","told","beside","sums"] ["t","numbers"] (ag (top 22)):=⟨rfl,rfl,rfl,by decide +kernel,rfl,by decide +kernel,by decide +kernel⟩
def qG:Sp:=fun vs H Q _=>∃ (a:Addr) (ns:List Int) (t:Nat),vs=[.int t,.ref a]/\H a=some (.tup (ns.map V.int))/\T3 t/\ns.length=t/\∀ p H',Same H H'->H' p=some (.lst ((bds t (nf ns)).map V.int))->Q (.ref p) H'
theorem ok_bo (F:Fun K "bends_of" "bends_of" (top 22) f fd) (m_list:mg "list" = none) (m_range:mg "range" = none) (F_sum_of_products:FnA P w K mg base "sum_of_products" 1 ["one","other"] qB) (F_vectors_of_round:FnA P w K mg base "vectors_of_round" 4 ["t"] nu) (F_weight_of_round:FnA P w K mg base "weight_of_round" 1 ["t"] nt):FnOk P w K mg base CX0 5 f fd ["t","numbers"] qG:=by
 refine F.okz sc_bo (fun vs H Q E h=>?_) (fun cdv A outer s H vs Q E hr h=>?_)
 · obtain ⟨a,ns,t,rfl,_⟩:=h;rfl
 obtain ⟨a,ns,t,rfl,ha,h3,hl,q⟩:=h
 have nd:=sc_bo.nd
 have hu:=hr.units
 have tl:5<=t/\t<=11:=by rcases h3 with rfl | rfl | rfl <;> decide
 have vl:=eM h3
 have cl:=cw_lim h3
 refine ⟨_,(af (ay (i:=2) nd rfl (Or.inl rfl) (i8 rfl rfl m_list (aa (i7 rfl m_range (aa (zn 0) ae) rfl rfl) ae) rfl rfl))
  (af (ay (i:=3) nd rfl (Or.inl rfl) (am aG ah (am bG (zn 0) (aF F_weight_of_round hr (by decide) rfl (aa (zn 0) ae)))))
  (af (ay (i:=4) nd rfl (Or.inl rfl) (a0 ae))
  (af (bo PassesOwn.never rfl (aP (aF F_vectors_of_round hr (by decide) rfl (aa (zn 0) ae))) (aj (i:=5) nd rfl (Or.inl rfl)) (af (ay (i:=6) nd rfl (Or.inl rfl) (am aE (aF F_sum_of_products hr (by decide) rfl (aa (zn 2) (aa (zn 1) ae))) (aF F_sum_of_products hr (by decide) rfl (aa (zn 2) (aa (zn 5) ae)))))
  (ai (cO (bP (zn 4) (aa (am aE (aF F_sum_of_products hr (by decide) rfl (aa (zn 1) (aa (zn 5) ae))) (am bH (am aE (zn 6) (zn 3)) (zn 0))) ae))))))
  (ai (aC (zn 4))))))),?_⟩
 refine fun r0 hr0=>?_
 have g0:=Same.new hr0 (tF r0 0 (t:Int) 1)
 refine ⟨0,(t:Int),1,ad,kG (by lia),by decide,by rw [M27.size_up (by decide)];split <;> lia,fun l hl0=>?_⟩
 rw [nY]
 have g1:=g0.trans (Same.new hl0 (.lst ((plc t).map V.int)))
 have hll:upd (upd H r0 (tF r0 0 (t:Int) 1)) l (.lst ((plc t).map V.int)) l=some (.lst ((plc t).map V.int)):=ad
 generalize upd (upd H r0 (tF r0 0 (t:Int) 1)) l (.lst ((plc t).map V.int))=H1 at g1 hll
 refine ⟨t,rfl,h3,?_⟩
 refine ⟨lj (by decide) (by decide),?_⟩
 refine ⟨by show 0<=sizeLine;decide,fun D hD=>?_⟩
 have g2:=Same.new hD (.lst [])
 have hDD:upd H1 D (.lst []) D=some (.lst []):=ad
 have ll:=g2 _ _ hll
 have g12:=g1.trans g2
 have hHD:H D=none:=aZ g1 hD
 generalize upd H1 D (.lst [])=H2 at g2 hDD ll g12
 refine ⟨t,rfl,h3,fun p rs H3 hp y3 hp3 tls=>?_⟩
 have pD:p≠D:=fun z=>by rw [z,hDD] at hp;cases hp
 have lD:l≠D:=fun z=>by rw [z] at hll;rw [hD] at hll;cases hll
 have aD:a≠D:=aB ha hHD
 have tl1:=tls.len
 have pl_len:(plc t).length=t:=by unfold plc;simp
 refine ⟨p,rfl,⟨_,SqL.of hp3⟩,bN (xs:=rs.map V.ref) (fun i σ H'=>SmX D H3 H'/\i<=t/\H' D=some (.lst (((bds t (nf ns)).take i).map V.int))/\∃ x5 x6,σ=[some (.int t),some (.ref a),some (.ref l),some (.int (2*((t:Int) - cw t))),some (.ref D),x5,x6]) ⟨SmX.refl _ _,zC6 _,y3 _ _ hDD,_,_,rfl⟩ ?_ ?_ ?_⟩
 · rintro i σ H' _ ⟨y,_⟩
   exact SqL.of (y _ _ pD hp3)
 · rintro i x σ H' hx ⟨y,_,hDi,x5,x6,rfl⟩
   have hi:i<rs.length:=by
    have:=(List.getElem?_eq_some_iff.mp hx).1
    rwa [zA0] at this
   have ex:x=.ref rs[i]:=by rw [List.getElem?_map,List.getElem?_eq_getElem hi] at hx;exact (Option.some.inj hx).symm
   subst ex
   have hi2:i<(vks t).length:=by lia
   have hr3:=tls.at_ i hi hi2
   have rD:rs[i]≠D:=fun z=>by
    rw [z,y3 _ _ hDD] at hr3;cases hr3
   have hv:=y _ _ rD hr3
   have hl4:=y _ _ lD (y3 _ _ ll)
   have ha4:=y _ _ aD (y3 _ _ (g12 _ _ ha))
   have rw1:=eL hi2
   have lim:=o8 h3 _ (zB1 hi2)
   have nfl:∀ j,j<t->-(2 ^ 64)<nf (plc t) j/\nf (plc t) j<2 ^ 64:=fun j hj=>by rw [lh hj];lia
   have nfv:∀ j,j<t->-(2 ^ 64)<nf (vks t)[i] j/\nf (vks t)[i] j<2 ^ 64:=fun j hj=>by
    have hj2:j<(vks t)[i].length:=by lia
    rw [bJ hj2]
    have:=lim _ (zB1 hj2)
    lia
   refine ⟨false,true,l,a,plc t,ns,t,rfl,SqK.lst hl4,SqK.tup ha4,pl_len,hl,by lia,fun j hj=>lj (nfl j hj).1 (nfl j hj).2,fun H5 y5=>?_⟩
   refine ⟨false,true,l,rs[i],plc t,(vks t)[i],t,rfl,SqK.lst (y5 _ _ hl4),SqK.tup (y5 _ _ hv),pl_len,rw1,by lia,fun j hj=>lj (nfl j hj).1 (nfl j hj).2,fun H6 y6=>?_⟩
   have z6:=y5.trans y6
   refine ⟨.inl ⟨rfl,_,SqL.of (z6 _ _ hDi)⟩,?_⟩
   refine ⟨true,true,a,rs[i],ns,(vks t)[i],t,rfl,SqK.tup (z6 _ _ ha4),SqK.tup (z6 _ _ hv),hl,rw1,by lia,fun j hj=>mulR (nfv j hj).1 (nfv j hj).2,fun H7 y7=>?_⟩
   have z7:=z6.trans y7
   refine ⟨⟨by lia,by lia⟩,?_⟩
   refine ⟨_,z7 _ _ hDi,by rw [zA0,zB7];exact aq (by lia),?_⟩
   refine ⟨(y.then z7).put,by lia,?_,_,_,rfl⟩
   rw [ad,oX _ (by lia),zA2]
   have e:(cc ns (vks t)[i] t).sum+((cc (plc t) ns t).sum+(cc (plc t) (vks t)[i] t).sum+2*((t:Int) - cw t)) / (t:Int)=mX t (nf ns) i:=by rw [dot_pl,dot_pv hi2,sI hi2];rfl
   rw [← e]
   rfl
 · rintro σ H' ⟨y,_,hDi,x5,x6,rfl⟩
   rw [zA0,tl1,vl,zC2 (by unfold bds;simp)] at hDi
   refine q D H' (fun b o e=>?_) hDi
   exact y b o (aB e hHD) (y3 _ _ (g12 _ _ e))
theorem sc_br:FnScope ["rises","total","told","rise","first"] ["rises","total"] (ag (top 23)):=⟨rfl,rfl,rfl,by decide +kernel,rfl,by decide +kernel,by decide +kernel⟩
def qF:Sp:=fun vs H Q _=>∃ (a:Addr) (rs:List Int) (c:Int),vs=[.ref a,.int c]/\H a=some (.lst (rs.map V.int))/\rs.length<=100/\∀ p H',H p=none->Same H H'->H' p=some (.lst ((br rs c).map V.int))->Q (.ref p) H'
theorem ok_br (F:Fun K "by_rises" "by_rises" (top 23) f fd) (m_len:mg "len" = none) (m_sum:mg "sum" = none):FnOk P w K mg base CX0 1 f fd ["rises","total"] qF:=by
 refine F.okz sc_br (fun vs H Q E h=>?_) (fun cdv A outer s H vs Q E hr h=>?_)
 · obtain ⟨a,rs,c,rfl,_⟩:=h;rfl
 obtain ⟨a,rs,c,rfl,ha,hl,q⟩:=h
 have nd:=sc_br.nd
 have hu:=hr.units
 refine ⟨_,(af (ay (i:=2) nd rfl (Or.inl rfl) (a0 (aa ah ae)))
  (af (bo PassesOwn.never rfl (aP (zn 0)) (aj (i:=3) nd rfl (Or.inl rfl)) (ai (cO (bP (zn 2) (aa (am aE (bh dL (zn 2) (gw du ah) (fun _ _=>rfl)) (zn 3)) ae)))))
  (af (ay (i:=4) nd rfl (Or.inr rfl) (am bH (am bG (zn 1) (dk rfl rfl m_sum (aa (zn 2) ae) rfl rfl)) (bi rfl m_len (aa (zn 2) ae) rfl rfl)))
  (ai (aC (aN ["number"] [("first",4)] rfl ⟨rfl,by decide +kernel,by decide +kernel,rfl,rfl⟩ (aP (zn 2)) aM (fun _ _ _ _=>aj (i:=0) (show List.Nodup (["number","first"]:List Str) by decide +kernel) rfl (Or.inl rfl)) (fun _ _ _ _=>aH) (fun _ _ _ _=>(am aE (zn 1) (zn 0))))))))),?_⟩
 refine ⟨by show 1<=sizeLine;decide,fun D hD=>?_⟩
 have g0:=Same.new hD (.lst [V.int 0])
 have hDD:upd H D (.lst [V.int 0]) D=some (.lst [V.int 0]):=ad
 have ha1:=g0 _ _ ha
 have aD:a≠D:=aB ha hD
 generalize upd H D (.lst [V.int 0])=H1 at g0 hDD ha1
 refine ⟨a,rfl,⟨_,SqL.of ha1⟩,bN (xs:=rs.map V.int) (fun i σ H'=>SmX D H1 H'/\i<=rs.length/\H' D=some (.lst ((ups rs (i+1)).map V.int))/\∃ x3,σ=[some (.ref a),some (.int c),some (.ref D),x3,none]) ⟨SmX.refl _ _,zC6 _,hDD,_,rfl⟩ ?_ ?_ ?_⟩
 · rintro i σ H' _ ⟨y,_⟩
   exact SqL.of (y _ _ aD ha1)
 · rintro i x σ H' hx ⟨y,_,hDi,x3,rfl⟩
   have hi:i<rs.length:=by
    have:=(List.getElem?_eq_some_iff.mp hx).1
    rwa [zA0] at this
   have ex:x=.int rs[i]:=by rw [fz hi] at hx;exact (Option.some.inj hx).symm
   subst ex
   refine ⟨.inl ⟨rfl,_,SqL.of hDi⟩,?_⟩
   refine ⟨1,rfl,_,.inl (SqL.of hDi),.int (rs.take i).sum,nc rs i,?_⟩
   refine ⟨_,hDi,by rw [zA0,ck];exact aq (by lia),?_⟩
   refine ⟨y.put,by lia,?_,_,rfl⟩
   rw [ad,ups_succ rs (i+1),zA2,qv hi]
   rfl
 · rintro σ H' ⟨y,_,hDi,x3,rfl⟩
   rw [zA0] at hDi
   refine ⟨_,.inl (SqL.of hDi),?_⟩
   refine ⟨_,.inl (SqL.of hDi),?_⟩
   rw [zA0,ck]
   refine ⟨⟨by lia,by lia⟩,?_⟩
   refine ⟨D,rfl,⟨_,SqL.of hDi⟩,bu (xs:=(ups rs (rs.length+1)).map V.int) (fun i zs H2=>H2=H'/\zs=((br rs c).take i).map V.int) ⟨rfl,rfl⟩ ?_ ?_ ?_⟩
   · rintro i zs H2 _ ⟨rfl,_⟩
     exact SqL.of hDi
   · rintro i x zs H2 hx ⟨rfl,rfl⟩
     have hi:i<(ups rs (rs.length+1)).length:=by
      have:=(List.getElem?_eq_some_iff.mp hx).1
      rwa [zA0] at this
     have ex:x=.int (ups rs (rs.length+1))[i]:=by rw [fz hi] at hx;exact (Option.some.inj hx).symm
     subst ex
     have hi2:=hi
     rw [ck] at hi2
     refine ⟨by rw [zA0,zB7];exact aq (by lia),?_⟩
     refine ⟨rfl,?_⟩
     have hb:i<(br rs c).length:=by unfold br;rw [zA0,ck];exact hi2
     rw [zE1,List.getElem?_eq_getElem hb,zA2]
     congr 1
     simp [br]
   · rintro zs H2 ⟨rfl,rfl⟩ L hL
     rw [zA0,ck,zC2 (by unfold br;rw [zA0,ck];exact zA1 _)]
     refine q L _ ?_ (fun b o e=>?_) ad
     · refine aZ (H':=H2) (fun b o e=>?_) hL
       exact y b o (aB e hD) (g0 _ _ e)
     · rw [ao (fun z=>by rw [z] at e;have:=y L o (aB e hD) (g0 _ _ e);rw [hL] at this;cases this)]
       exact y b o (aB e hD) (g0 _ _ e)
end
theorem oV (ws:List Int) (k:Nat):fA (ws.map V.int) (some (k:Int)) none=(ws.drop k).map V.int:=by
 unfold fA
 rw [HT.sIx_none,HT.sIx_nat,List.map_drop]
 by_cases h:k<=(ws.map V.int).length
 · rw [Nat.min_eq_left h,zC2 (by rw [zC7];exact zA1 _)]
 · rw [Nat.min_eq_right (by lia),List.drop_of_length_le (zA1 _),List.drop_of_length_le (by lia),List.take_nil]
theorem iW {ws:List Int} {m:Nat} (h:ws.length=m+1):fA (ws.map V.int) none (some (-1))=(ws.take m).map V.int:=by
 unfold fA
 have e:HT.sIx (ws.map V.int).length (ws.map V.int).length (some (-1))=m:=by
  rw [zA0,h]
  unfold HT.sIx
  dsimp only
  rw [if_pos (by decide)]
  lia
 rw [HT.sIx_none,e,List.drop_zero,Nat.sub_zero,List.map_take]
theorem br_len (rs:List Int) (c:Int):(br rs c).length=rs.length+1:=by unfold br;rw [zA0,ck]
theorem mM (t:Nat) (n:Nat->Int):(bds t n).length=t:=by unfold bds;simp
theorem qL {t:Nat} (n:Nat->Int) (h:0<t):(rss t n).length=t:=by unfold rss;rw [br_len,zA0,zC7,mM];lia
section
variable {P:Program} {w:World} {K:PySem.W.Frag} {mg:Str->Option Value} {base:Heap} {f:Addr} {fd:FuncData}
theorem sc_fo:FnScope ["t","numbers","rises"] ["t","numbers"] (ag (top 24)):=⟨rfl,rfl,rfl,by decide +kernel,rfl,by decide +kernel,by decide +kernel⟩
def qE:Sp:=fun vs H Q _=>∃ (a:Addr) (ns:List Int) (t:Nat),vs=[.int t,.ref a]/\H a=some (.tup (ns.map V.int))/\T3 t/\ns.length=t/\(∀ n∈ns,Bt n)/\sz ns % (t:Int)=cw t/\∀ r H',Same H H'->H' r=some (.tup ((frm t (nf ns)).map V.int))->Q (.ref r) H'
theorem ok_fo (F:Fun K "frame_of" "frame_of" (top 24) f fd) (m_tuple:mg "tuple" = none) (F_bends_of:FnA P w K mg base "bends_of" 5 ["t","numbers"] qG) (F_by_rises:FnA P w K mg base "by_rises" 1 ["rises","total"] qF) (F_size_of:FnA P w K mg base "size_of" 1 ["numbers"] qA) (F_weight_of_round:FnA P w K mg base "weight_of_round" 1 ["t"] nt):FnOk P w K mg base CX0 6 f fd ["t","numbers"] qE:=by
 refine F.okz sc_fo (fun vs H Q E h=>?_) (fun cdv A outer s H vs Q E hr h=>?_)
 · obtain ⟨a,ns,t,rfl,_⟩:=h;rfl
 obtain ⟨a,ns,t,rfl,ha,h3,hl,hb,hs,q⟩:=h
 have nd:=sc_fo.nd
 have hu:=hr.units
 have tl:5<=t/\t<=11:=by rcases h3 with rfl | rfl | rfl <;> decide
 refine ⟨_,(af (cY (aY (pB hu) (am bf (aF F_size_of hr (by decide) rfl (aa (zn 1) ae)) (zn 0)) (aF F_weight_of_round hr (by decide) rfl (aa (zn 0) ae)) (bn _)) (ai zs_no) bb)
  (af (ay (i:=2) nd rfl (Or.inl rfl) (aF F_by_rises hr (by decide) rfl (aa (aN ["bend"] [] rfl ⟨rfl,by decide +kernel,by decide +kernel,rfl,rfl⟩ (aP (bY tx (aF F_bends_of hr (by decide) rfl (aa (zn 0) (aa (zn 1) ae))) (cP ah) cQ)) aM (fun _ _ _ _=>aj (i:=0) (show List.Nodup (["bend"]:List Str) by decide +kernel) rfl (Or.inl rfl)) (fun _ _ _ _=>aH) (fun _ _ _ _=>(gw du (zn 0)))) (aa ah ae))))
  (ai (aC (bR rfl m_tuple (aa (aF F_by_rises hr (by decide) rfl (aa (bY tx (zn 2) cQ (cP (gw du ah))) (aa ah ae))) ae) rfl rfl))))),?_⟩
 refine ⟨a,ns,rfl,ha,by lia,hb,fun H1 y1=>?_⟩
 refine ⟨by lia,?_⟩
 refine ⟨t,rfl,h3,?_⟩
 refine iteB (fun c=>by simp [hs] at c) (fun _=>?_)
 refine ⟨a,ns,t,rfl,y1 _ _ ha,h3,hl,fun p H2 y2 hp=>?_⟩
 refine ⟨_,rfl,p,rfl,.inr ⟨_,SqL.of hp,fun c1 hc1=>?_⟩⟩
 have e1:=oV (bds t (nf ns)) 1
 have e1:fA ((bds t (nf ns)).map V.int) (some 1) none=((bds t (nf ns)).drop 1).map V.int:=e1
 rw [e1]
 have z2:=(y1.trans y2).trans (Same.new hc1 (.lst (((bds t (nf ns)).drop 1).map V.int)))
 have hc:upd H2 c1 (.lst (((bds t (nf ns)).drop 1).map V.int)) c1=some (.lst (((bds t (nf ns)).drop 1).map V.int)):=ad
 generalize upd H2 c1 (.lst (((bds t (nf ns)).drop 1).map V.int))=H3 at z2 hc
 have dl:((bds t (nf ns)).drop 1).length=t - 1:=by rw [zC7,mM]
 refine ⟨c1,rfl,⟨_,SqL.of hc⟩,bu (xs:=((bds t (nf ns)).drop 1).map V.int) (fun i zs H'=>H'=H3/\zs=((((bds t (nf ns)).drop 1).map fun b=>-b).take i).map V.int) ⟨rfl,rfl⟩ ?_ ?_ ?_⟩
 · rintro i zs H' _ ⟨rfl,_⟩
   exact SqL.of hc
 · rintro i x zs H' hx ⟨rfl,rfl⟩
   have hi:i<((bds t (nf ns)).drop 1).length:=by
    have:=(List.getElem?_eq_some_iff.mp hx).1
    rwa [zA0] at this
   have ex:x=.int ((bds t (nf ns)).drop 1)[i]:=by rw [fz hi] at hx;exact (Option.some.inj hx).symm
   subst ex
   refine ⟨by rw [zA0,zB7,zA0];exact aq (by lia),?_⟩
   refine ⟨_,rfl,?_⟩
   refine ⟨rfl,?_⟩
   rw [zE1,List.getElem?_map,List.getElem?_eq_getElem hi,zA2]
   rfl
 · rintro zs H' ⟨rfl,rfl⟩ D hD
   rw [zA0,zC2 (by rw [zA0];exact zA1 _)]
   have z4:=z2.trans (Same.new hD (.lst ((((bds t (nf ns)).drop 1).map fun b=>-b).map V.int)))
   have hDD:upd H' D (.lst ((((bds t (nf ns)).drop 1).map fun b=>-b).map V.int)) D=some (.lst ((((bds t (nf ns)).drop 1).map fun b=>-b).map V.int)):=ad
   generalize upd H' D (.lst ((((bds t (nf ns)).drop 1).map fun b=>-b).map V.int))=H4 at z4 hDD
   refine ⟨D,_,0,rfl,hDD,by rw [zA0];lia,fun p5 H5 _ y5 hp5=>?_⟩
   have hp5:H5 p5=some (.lst ((rss t (nf ns)).map V.int)):=hp5
   refine ⟨1,rfl,_,rfl,p5,rfl,.inr ⟨_,SqL.of hp5,fun c6 hc6=>?_⟩⟩
   rw [iW (m:=t - 1) (by rw [qL _ (by lia)];lia)]
   have z6:=(z4.trans y5).trans (Same.new hc6 (.lst (((rss t (nf ns)).take (t - 1)).map V.int)))
   refine ⟨c6,_,1,rfl,ad,by rw [zB7];lia,fun p7 H7 _ y7 hp7=>?_⟩
   refine ⟨_,.inl (SqL.of hp7),fun r H8 y8 hr8=>?_⟩
   exact q r H8 ((z6.trans y7).trans y8) hr8
end
theorem jN {t i:Nat} {n m:Nat->Int} (h:∀ r,r<t->n r=m r):mX t n i=mX t m i:=by
 have e1:M47.pv t n i t=M47.pv t m i t:=by
  unfold M47.pv
  congr 1
  refine zA4 fun j hj=>?_
  rw [h j (zA6.mp hj)]
 have e2:pl n t=pl m t:=by
  unfold pl
  congr 1
  refine zA4 fun j hj=>?_
  rw [h j (zA6.mp hj)]
 unfold mX
 rw [e1,e2]
theorem fY {t:Nat} {n m:Nat->Int} (h:∀ r,r<t->n r=m r):frm t n=frm t m:=by
 have:bds t n=bds t m:=by
  unfold bds
  exact zA4 fun j _=>jN h
 unfold frm rss
 rw [this]
theorem cv {t:Nat} {g k:Nat->Int} (h:∀ r,r<t->g r=k r):vby t g=vby t k:=by
 unfold vby dt
 refine zA4 fun r _=>?_
 congr 1
 refine zA4 fun j hj=>?_
 rw [h j (zA6.mp hj)]
theorem iF {t r:Nat} (g:Nat->Int) (h:r<t):nf ((List.range t).map g) r=g r:=by unfold nf;simp [h]
theorem frm_ok {t:Nat} {ns:List Int} (h3:T3 t) (hl:ns.length=t) (h0:ns.sum=0) (hs:sz ns % (t:Int)=cw t):(frm t (nf ns)).length=t/\(frm t (nf ns)).sum=1/\vby t (nf (frm t (nf ns)))=ns:=by
 have hn:((List.range t).map (nf ns)).sum=0:=by rw [← hl,bI];exact h0
 have hr:ro t (nf ns) % (t:Int)=cw t:=by
  rw [← hs]
  unfold sz
  rw [hl]
  exact (qI hn).symm
 obtain ⟨g,g1,g2⟩:=oO h3 hn hr
 have e:frm t (nf ns)=(List.range t).map g:=by
  rw [← pO h3 g1]
  exact fY fun r hr=>(g2 r hr).symm
 rw [e]
 refine ⟨by simp,g1,?_⟩
 rw [cv (fun r hr=>iF g hr)]
 rw [← bI ns,hl]
 unfold vby
 exact zA4 fun r hr=>g2 r (zA6.mp hr)
theorem oN {t:Nat} {fs:List Int} (h3:T3 t) (hl:fs.length=t) (h1:fs.sum=1):frm t (nf (vby t (nf fs)))=fs:=by
 have hs:((List.range t).map (nf fs)).sum=1:=by rw [← hl,bI];exact h1
 have e:=pO h3 hs
 have e2:(List.range t).map (nf fs)=fs:=by rw [← hl,bI]
 rw [e2] at e
 rw [← e]
 have:frm t (dt t (nf fs) t)=fs:=e
 rw [this]
 rw [← e]
 refine fY fun r hr=>?_
 rw [e]
 rw [bJ (show r<(vby t (nf fs)).length by rw [eP];exact hr)]
 simp [vby]
end K51
namespace K51H
open K51 PySem L2 M39 M40
theorem lE {K:PySem.W.Frag} {x y z:Str}:KpG2 [x,y,z] (gTup K 2 (jC (da 0) (jC (da 1) gNil))) (da 2):=fun fr v H Q h=>by
 obtain ⟨a,xs,e,hq,hl,v1,r1,e1,v2,r2,e2,e3,q⟩:=h
 refine ⟨a,xs,e,hq,hl,v1,r1,e1,v2,r2,e2,e3,⟨⟨by simp,fun i w e=>?_⟩,fun v3 H3 Q3 h3=>⟨⟨by simp,fun i w e=>?_⟩,h3⟩⟩,q⟩
 · match i,e with
   | 0,e=>cases e
   | 1,e=>cases e
   | i+2,e=>exact e
 · match i,e with
   | 0,e=>exact e
   | 1,e=>exact e
   | 2,e=>cases e
   | i+3,e=>exact e
theorem jI {nv:List Str} {ix:List (Str×Nat)} {σ:L2.St} {H:Hp} {g1 g2:TG} {ti1 ti2:TT} {wi2:TI} {te:TE} {Fin:List V->Hp->Prop} {c:Bool} {a:Addr} {xs:List V} (Pv:Nat->List V->Hp->Prop) (h0:Pv 0 [] H) (hl:∀ i zs H,i<=xs.length->Pv i zs H->SqK H c a xs)
 (hs:∀ i x zs H p,xs[i]? = some x->Pv i zs H->H p=none->g1 (.ref p) (st0 nv ix σ) (upd H p (.tup [.int i,x])) fun σ1 H2=>ti1 σ1 H2 fun b H3=>if b=true then wi2 σ1 H3 fun J2 H4=>CmpI g2 ti2 te σ1 J2 zs (Pv (i+1)) H4 else Pv (i+1) zs H3)
 (hd:∀ zs H,Pv xs.length zs H->Fin zs H):tm nv ix g1 ti1 wi2 g2 ti2 te σ (ItE c a) Fin H:=by
 refine ⟨fun i m zs H=>m=xs.length - i/\i<=xs.length/\Pv i zs H,⟨_,rfl,zC6 _,h0⟩,?_⟩
 rintro i m zs H ⟨rfl,hi,p⟩
 have q:=hl i zs H hi p
 by_cases hlt:i<xs.length
 · refine .inr ⟨⟨xs,xs[i],q,by simp [hlt]⟩,Pv (i+1),fun σ' H' p'=>⟨_,by lia,rfl,hlt,p'⟩,fun x H' y=>?_⟩
   obtain ⟨pp,hn',rfl,hy⟩:=y
   obtain ⟨z,hz,rfl⟩:=hy xs q
   exact hs i z zs H pp hz p hn'
 · have e:i=xs.length:=by lia
   subst e
   exact .inl ⟨⟨xs,q,rfl⟩,hd zs H p⟩
theorem jH {σ:L2.St} {H:Hp} {g:TG} {ti:TT} {te:TE} {ys:List V} {Fin:List V->Hp->Prop} {lo:Int} {n:Nat} (Pv:Nat->List V->Hp->Prop) (h0:Pv 0 ys H)
 (hs:∀ i zs H,i<n->Pv i zs H->zs.length<sizeLine/\g (.int (lo+i)) σ H fun σ2 H2=>ti σ2 H2 fun b H3=>if b=true then te σ2 H3 fun y H4=>Pv (i+1) (zs++[y]) H4 else Pv (i+1) zs H3)
 (hd:∀ zs H,Pv n zs H->Fin zs H):CmpI g ti te σ (Itr lo n) ys Fin H:=by
 refine ⟨fun i m zs H=>m=n - i/\i<=n/\Pv i zs H,⟨n,by simp,zC6 _,h0⟩,?_⟩
 rintro i m zs H ⟨rfl,hi,p⟩
 by_cases hlt:i<n
 · refine .inr ⟨hlt,(hs i zs H hlt p).1,Pv (i+1),fun σ' H' p'=>⟨n - (i+1),by lia,rfl,hlt,p'⟩,fun x H' y=>?_⟩
   obtain ⟨e',y⟩:=y
   subst e' y
   exact (hs i zs _ hlt p).2
 · have e:i=n:=by lia
   subst e
   exact .inl ⟨zA1 _,hd zs H p⟩
theorem ord_up {ns:List Int} (h:PyProof.Rows.Ordered false ns):ns.Pairwise (·<=·):=h
def oS (as:List Int) (m:Nat):List Int:=(List.range m).map fun (j:Nat)=>as.getD j 0 - j
theorem lT (as:List Int) (m:Nat):oS as (m+1)=oS as m++[as.getD m 0 - m]:=by unfold oS;rw [zB5,zA2];rfl
theorem oR (as:List Int) (m:Nat):(oS as m).length=m:=by unfold oS;simp
theorem lQ (l:List Int) (x:Int):(l++[x]).filter (fun x=>decide (0<x))=if 0<x then l.filter (fun x=>decide (0<x))++[x] else l.filter (fun x=>decide (0<x)):=by
 rw [zH4]
 by_cases h:0<x
 · rw [if_pos h,zH7 (by simpa using h)];rfl
 · rw [if_neg h,zH6 (by simpa using h)];simp
section
variable {P:Program} {w:World} {K:PySem.W.Frag} {mg:Str->Option Value} {base:Heap} {f:Addr} {fd:FuncData}
theorem sc_po:FnScope ["beads","parts"] ["beads"] (ag (top 6)):=⟨rfl,rfl,rfl,by decide +kernel,rfl,by decide +kernel,by decide +kernel⟩
def sp_po:Sp:=fun vs H Q _=>∃ (a:Addr) (bs:List Int),vs=[.ref a]/\H a=some (.lst (bs.map V.int))/\bs.length<=900/\∀ r H',Same H H'->H' r=some (.tup ((pt bs).map V.int))->Q (.ref r) H'
theorem ok_po (F:Fun K "parting_of" "parting_of" (top 6) f fd) (m_enumerate:mg "enumerate" = none) (m_reversed:mg "reversed" = none) (m_sorted:mg "sorted" = none) (m_tuple:mg "tuple" = none):FnOk P w K mg base CX0 1 f fd ["beads"] sp_po:=by
 refine F.okz sc_po (fun vs H Q E h=>?_) (fun cdv A outer s H vs Q E hr h=>?_)
 · obtain ⟨a,bs,rfl,_⟩:=h;rfl
 obtain ⟨a,bs,rfl,ha,hl,q⟩:=h
 have nd:=sc_po.nd
 have hu:=hr.units
 refine ⟨_,(af (d7 (i:=1) ["behind","bead"] [] rfl nd rfl (Or.inl rfl) ⟨rfl,by decide +kernel,by decide +kernel,rfl,rfl⟩ (bD rfl m_enumerate (aa (jV rfl m_sorted (aa (zn 0) ae) rfl rfl) ae)) dJ (fun _ _ _ _=>ce rfl (aA (aj (i:=0) (show List.Nodup (["behind","bead"]:List Str) by decide +kernel) rfl (Or.inl rfl)) (aA (aj (i:=1) (show List.Nodup (["behind","bead"]:List Str) by decide +kernel) rfl (Or.inl rfl)) bx))) (fun _ _ _ _=>aH) (fun _ _ _ _=>(am bG (zn 1) (zn 0))))
  (ai (aC (bR rfl m_tuple (aa (aN ["part"] [] rfl ⟨rfl,by decide +kernel,by decide +kernel,rfl,rfl⟩ (zi_rev rfl m_reversed (aa (zn 1) ae)) aM (fun _ _ _ _=>aj (i:=0) (show List.Nodup (["part"]:List Str) by decide +kernel) rfl (Or.inl rfl)) (fun _ _ _ _=>(qe (aY iB (zn 0) ah (bn _)))) (fun _ _ _ _=>(zn 0))) ae) rfl rfl)))),?_⟩
 refine ⟨bs,.inl (SqL.of ha),fun l as hl0 perm ord=>?_⟩
 have e:=asc_eq perm (ord_up ord)
 subst e
 have yl:=Same.new hl0 (.lst ((asc bs).map V.int))
 have hlen:=fv bs
 refine ⟨false,_,SqK.lst ad,cJ (xs:=(asc bs).map V.int) (fun i zs H'=>Same (upd H l (.lst ((asc bs).map V.int))) H'/\zs=(oS (asc bs) i).map V.int) ⟨Same.refl _,rfl⟩ ?_ ?_ ?_ ?_⟩
 · rintro i zs H' _ ⟨y,_⟩
   exact SqK.lst (y _ _ ad)
 · rintro i zs H' hi ⟨_,rfl⟩
   rw [zA0,oR]
   rw [zA0] at hi
   exact aq (by lia)
 · rintro i x zs H' p hx ⟨y,rfl⟩ hp
   have hi:i<(asc bs).length:=by
    have:=(List.getElem?_eq_some_iff.mp hx).1
    rw [zA0] at this
    exact this
   have ex:x=.int ((asc bs).getD i 0):=by
    rw [List.getElem?_map,List.getElem?_eq_getElem hi] at hx
    rw [zA3,List.getElem?_eq_getElem hi]
    exact (Option.some.inj hx).symm
   subst ex
   refine ⟨p,_,rfl,SqT.of ad,rfl,_,_,rfl,_,_,rfl,rfl,?_⟩
   refine ⟨y.trans (Same.new hp _),?_⟩
   rw [lT,zA2]
   rfl
 · rintro zs H1 ⟨y1,rfl⟩ D hD
   rw [zA0]
   have yD:=Same.new hD (.lst ((oS (asc bs) (asc bs).length).map V.int))
   have z1:=(yl.trans y1).trans yD
   have hD1:(upd H1 D (.lst ((oS (asc bs) (asc bs).length).map V.int))) D=some (.lst ((dl (asc bs)).map V.int)):=ad
   generalize upd H1 D (.lst ((oS (asc bs) (asc bs).length).map V.int))=H2 at z1 hD1
   have hn:(dl (asc bs)).length=(asc bs).length:=iU _
   refine ⟨_,SqL.of hD1,sQ (xs:=(dl (asc bs)).map V.int) (fun i zs H'=>H'=H2/\zs=(((dl (asc bs)).reverse.take i).filter fun x=>decide (0<x)).map V.int) ⟨rfl,by rw [List.take_zero];rfl⟩ ?_ ?_ ?_⟩
   · rintro i zs H' _ ⟨rfl,_⟩
     exact SqL.of hD1
   · rintro i x zs H' hi hx ⟨rfl,rfl⟩
     rw [zA0] at hi hx
     have hk:(dl (asc bs)).length - 1 - i<(dl (asc bs)).length:=by lia
     rw [List.getElem?_map,List.getElem?_eq_getElem hk] at hx
     have ex:=(Option.some.inj hx).symm
     subst ex
     have et:(dl (asc bs)).reverse.take (i+1)=(dl (asc bs)).reverse.take i++[(dl (asc bs))[(dl (asc bs)).length - 1 - i]]:=by
      rw [zE1,List.getElem?_reverse hi,List.getElem?_eq_getElem hk]
      rfl
     rw [et,lQ]
     refine ⟨?_,?_⟩
     · rw [zA0]
       refine aq (zC8 (List.length_filter_le _ _) ?_)
       rw [zB7]
       lia
     refine tG (fun c=>?_) (fun c=>?_)
     · rw [if_pos c,zA2]
       exact ⟨rfl,rfl⟩
     · rw [if_neg c]
       exact ⟨rfl,rfl⟩
   · rintro zs H' ⟨rfl,rfl⟩ D2 hD2
     rw [zA0,zC2 (by rw [List.length_reverse];exact zA1 _)]
     refine ⟨_,.inl (SqL.of ad),fun r H3 y3 hr3=>?_⟩
     exact q r H3 ((z1.trans (Same.new hD2 _)).trans y3) hr3
end
def pI (t:Nat) (c:Nat->Nat) (m:Nat):List Int:=(List.range m).flatMap fun (r:Nat)=>(List.range (c r)).map fun (i:Nat)=>((r+t*i:Nat):Int)
def pG (t r j:Nat):List Int:=(List.range j).map fun (i:Nat)=>((r+t*i:Nat):Int)
theorem fU (t:Nat) (c:Nat->Nat) (m:Nat):pI t c (m+1)=pI t c m++pG t m (c m):=by
 unfold pI pG
 rw [zB5,List.flatMap_append]
 simp
theorem lw (t r j:Nat):pG t r (j+1)=pG t r j++[((r+t*j:Nat):Int)]:=by unfold pG;rw [zB5,zA2];rfl
theorem iG (t r j:Nat):(pG t r j).length=j:=by unfold pG;simp
theorem iJ {t:Nat} {c:Nat->Nat}:∀ m:Nat,(∀ r,r<m->c r<=900)->(pI t c m).length<=m*900
 | 0,_=>zA1 _
 | m+1,h=>by
   rw [fU,zA5,iG,Nat.add_mul,Nat.one_mul]
   have:=iJ (t:=t) m fun r hr=>h r (by lia)
   have:=h m (by lia)
   lia
theorem mulS {a b:Int} (h1:-(2 ^ 64)<a) (h2:a<2 ^ 64):IntMulOk a b:=IntMulOk.of_left (intBits_le_64 h1 h2)
section
variable {P:Program} {w:World} {K:PySem.W.Frag} {mg:Str->Option Value} {base:Heap} {f:Addr} {fd:FuncData}
theorem sc_wl:FnScope ["numbers","t"] ["numbers"] (ag (top 9)):=⟨rfl,rfl,rfl,by decide +kernel,rfl,by decide +kernel,by decide +kernel⟩
def sp_wl:Sp:=fun vs H Q _=>∃ (a:Addr) (t:Nat) (c:Nat->Nat),vs=[.ref a]/\H a=some (.lst ((List.range t).map fun (r:Nat)=>V.int (c r)))/\t<=100/\(∀ r,r<t->c r<=900)/\(ax t c).length<=900/\∀ r H',Same H H'->H' r=some (.tup ((pt (ax t c)).map V.int))->Q (.ref r) H'
theorem ok_wl (F:Fun K "with_least_beads" "with_least_beads" (top 9) f fd) (m_enumerate:mg "enumerate" = none) (m_len:mg "len" = none) (m_range:mg "range" = none) (F_parting_of:FnA P w K mg base "parting_of" 1 ["beads"] sp_po):FnOk P w K mg base CX0 2 f fd ["numbers"] sp_wl:=by
 refine F.okz sc_wl (fun vs H Q E h=>?_) (fun cdv A outer s H vs Q E hr h=>?_)
 · obtain ⟨a,t,c,rfl,_⟩:=h;rfl
 obtain ⟨a,t,c,rfl,ha,ht,hc,hlen,q⟩:=h
 have nd:=sc_wl.nd
 have hu:=hr.units
 refine ⟨_,(af (ay (i:=1) nd rfl (Or.inr rfl) (bi rfl m_len (aa (zn 0) ae) rfl rfl))
  (ai (aC (aF F_parting_of hr (by decide) rfl (aa (ze_two ["rest","number","at"] [("t",1)] rfl ⟨rfl,by decide +kernel,by decide +kernel,rfl,rfl⟩ (bD rfl m_enumerate (aa (zn 0) ae)) lE (fun _ _ _ _=>ce rfl (aA (aj (i:=0) (show List.Nodup (["rest","number","at","t"]:List Str) by decide +kernel) rfl (Or.inl rfl)) (aA (aj (i:=1) (show List.Nodup (["rest","number","at","t"]:List Str) by decide +kernel) rfl (Or.inl rfl)) bx))) (fun _ _ _ _=>aH) (fun _ _ _ _=>(bQ rfl m_range (aa (zn 1) ae))) (fun _ _ _ _=>aj (i:=2) (show List.Nodup (["rest","number","at","t"]:List Str) by decide +kernel) rfl (Or.inl rfl)) (fun _ _ _ _=>aH) (fun _ _ _ _=>(am aE (zn 0) (am aG (zn 3) (zn 2))))) ae))))),?_⟩
 refine ⟨_,.inl (SqL.of ha),?_⟩
 rw [zA0,zD2]
 refine ⟨false,_,SqK.lst ha,jI (xs:=(List.range t).map fun (r:Nat)=>V.int (c r)) (fun i zs H'=>Same H H'/\zs=(pI t c i).map V.int) ⟨Same.refl _,rfl⟩ ?_ ?_ ?_⟩
 · rintro i zs H' _ ⟨y,_⟩
   exact SqK.lst (y _ _ ha)
 · rintro i x zs H' p hx ⟨y,rfl⟩ hp
   have hi:i<t:=by
    have:=(List.getElem?_eq_some_iff.mp hx).1
    rw [zA0,zD2] at this
    exact this
   have ex:x=.int (c i):=by
    rw [List.getElem?_map,List.getElem?_range hi] at hx
    exact (Option.some.inj hx).symm
   subst ex
   have yp:=Same.new hp (.tup [.int (i:Int),.int (c i)])
   refine ⟨p,_,rfl,SqT.of ad,rfl,_,_,rfl,_,_,rfl,rfl,?_⟩
   have hci:=hc i hi
   refine ⟨(c i:Int),rfl,by lia,by lia,?_⟩
   refine jH (fun j zs H''=>Same H H''/\zs=(pI t c i++pG t i j).map V.int) ⟨y.trans yp,by show _=(pI t c i++[]).map V.int;rw [zE3]⟩ ?_ ?_
   · rintro j zs H'' hj ⟨y',rfl⟩
     have hj':j<c i:=by lia
     have hlt:=iJ (t:=t) (c:=c) i fun r hr'=>hc r (by lia)
     refine ⟨?_,?_⟩
     · rw [zA0,zA5,iG,sizeLine_eq]
       have:i*900<=100*900:=Nat.mul_le_mul_right _ (by lia)
       lia
     refine ⟨mulS (by lia) (by lia),?_⟩
     refine ⟨y',?_⟩
     rw [lw,← zB6,zA2]
     have e:(i:Int)+(t:Int)*(0+(j:Int))=((i+t*j:Nat):Int):=by rw [Int.zero_add,Int.natCast_add,Int.natCast_mul]
     show _++[V.int ((i:Int)+(t:Int)*(0+(j:Int)))]=_
     rw [e]
     simp only [zA2,zA9,zF1]
   · rintro zs H'' ⟨y',rfl⟩
     refine ⟨y',?_⟩
     rw [fU,zF4]
 · rintro zs H1 ⟨y1,rfl⟩ D hD
   rw [zA0,zD2]
   have yD:=Same.new hD (.lst ((pI t c t).map V.int))
   refine ⟨D,ax t c,rfl,ad,hlen,fun r H2 y2 hr2=>?_⟩
   exact q r H2 ((y1.trans yD).trans y2) hr2
structure Tl (H:Hp) (qs:List Addr) (lss:List (List Int)):Prop where
 len:qs.length=lss.length
 at_:∀ (i:Nat) (h1:i<qs.length) (h2:i<lss.length),H qs[i]=some (.tup (lss[i].map V.int))
theorem Tl.same {H H':Hp} {qs:List Addr} {lss:List (List Int)} (x:Tl H qs lss) (y:Same H H'):Tl H' qs lss:=⟨x.len,fun i h1 h2=>y _ _ (x.at_ i h1 h2)⟩
theorem Tl.snoc {H:Hp} {qs:List Addr} {lss:List (List Int)} {q:Addr} {ls:List Int} (x:Tl H qs lss) (e:H q=some (.tup (ls.map V.int))):Tl H (qs++[q]) (lss++[ls]):=by
 have hl:=x.len
 refine ⟨by rw [zA5,zA5,hl];rfl,fun i h1 h2=>?_⟩
 by_cases hi:i<qs.length
 · rw [zG3 hi,zG3 (by lia)]
   exact x.at_ i hi (by lia)
 · have h1':i<qs.length+1:=by simpa using h1
   have e':i=qs.length:=by lia
   subst e'
   rw [zF9 (zA1 _),zF9 (by lia)]
   simpa [hl] using e
def quos (ns:List Int) (t:Nat):List (List Int):=(List.range t).map fun (r:Nat)=>pt (rq (bd ns (t*rd ns t)) t r)
def core (ns:List Int) (t:Nat):List Int:=pt (ax t fun r=>cnt (bd ns (t*rd ns t)) t r)
def Apt (H:Hp) (p:Addr) (ns:List Int) (t:Nat):Prop:=∃ c d qs,H p=some (.tup [.ref c,.ref d])/\H c=some (.tup ((core ns t).map V.int))/\H d=some (.tup (qs.map V.ref))/\Tl H qs (quos ns t)
theorem sc_apart:FnScope ["parting","t","runs","core"] ["parting","t"] (ag (top 11)):=⟨rfl,rfl,rfl,by decide +kernel,rfl,by decide +kernel,by decide +kernel⟩
def sp_apart:Sp:=fun vs H Q _=>∃ (a:Addr) (ns:List Int) (t:Nat),vs=[.ref a,.int t]/\H a=some (.tup (ns.map V.int))/\ns.length<=400/\0<t/\t<=20/\∀ p H',Same H H'->Apt H' p ns t->Q (.ref p) H'
theorem pi (bs:List Int) (t:Nat) {i:Nat} (h:i<(rns bs t).length):(rns bs t)[i]=rq bs t i:=dz bs h
theorem ok_apart (F:Fun K "apart" "apart" (top 11) f fd) (m_len:mg "len" = none) (m_tuple:mg "tuple" = none) (F_rounds_of:FnA P w K mg base "rounds_of" 1 ["parting","t"] (ba K)) (F_runs_of:FnA P w K mg base "runs_of" 2 ["parting","t","rounds"] (bz K)) (F_parting_of:FnA P w K mg base "parting_of" 1 ["beads"] sp_po) (F_with_least_beads:FnA P w K mg base "with_least_beads" 2 ["numbers"] sp_wl):FnOk P w K mg base CX0 3 f fd ["parting","t"] sp_apart:=by
 refine F.okz sc_apart (fun vs H Q E h=>?_) (fun cdv A outer s H vs Q E hr h=>?_)
 · obtain ⟨a,ns,t,rfl,_⟩:=h;rfl
 obtain ⟨a,ns,t,rfl,ha,hl,t0,t1,q⟩:=h
 have nd:=sc_apart.nd
 have hu:=hr.units
 have hge:=fM ns t0
 have hle:=qQ ns t0
 refine ⟨_,(af (ay (i:=2) nd rfl (Or.inl rfl) (aF F_runs_of hr (by decide) rfl (aa (zn 0) (aa (zn 1) (aa (aF F_rounds_of hr (by decide) rfl (aa (zn 0) (aa (zn 1) ae))) ae)))))
  (af (ay (i:=3) nd rfl (Or.inl rfl) (aF F_with_least_beads hr (by decide) rfl (aa (aN ["run"] [] rfl ⟨rfl,by decide +kernel,by decide +kernel,rfl,rfl⟩ (aP (zn 2)) aM (fun _ _ _ _=>aj (i:=0) (show List.Nodup (["run"]:List Str) by decide +kernel) rfl (Or.inl rfl)) (fun _ _ _ _=>aH) (fun _ _ _ _=>(eK rfl m_len (aa (zn 0) ae) rfl rfl rfl))) ae)))
  (ai (aC (ee (aa (zn 3) (aa (bR rfl m_tuple (aa (aN ["run"] [] rfl ⟨rfl,by decide +kernel,by decide +kernel,rfl,rfl⟩ (aP (zn 2)) aM (fun _ _ _ _=>aj (i:=0) (show List.Nodup (["run"]:List Str) by decide +kernel) rfl (Or.inl rfl)) (fun _ _ _ _=>aH) (fun _ _ _ _=>(aF F_parting_of hr (by decide) rfl (aa (zn 0) ae)))) ae) rfl rfl) ae))))))),?_⟩
 refine ⟨a,ns,t,rfl,SqT.of ha,t0,by lia,?_⟩
 refine ⟨a,ns,t,rd ns t,rfl,.inl ⟨ha,hge⟩,t0,by lia,by lia,fun p rs H1 _ _ y1 hp ls=>?_⟩
 have hrl:rs.length=t:=by rw [ls.len];unfold rns;simp
 have hlr:∀ r,r<t->cnt (bd ns (t*rd ns t)) t r<=900:=fun r _=>by
  have:cnt (bd ns (t*rd ns t)) t r<=(bd ns (t*rd ns t)).length:=List.countP_le_length
  rw [aS] at this
  lia
 refine ⟨p,rfl,⟨_,SqL.of hp⟩,bu (xs:=rs.map V.ref) (fun i zs H'=>H'=H1/\zs=(List.range i).map fun (r:Nat)=>V.int (cnt (bd ns (t*rd ns t)) t r)) ⟨rfl,rfl⟩ ?_ ?_ ?_⟩
 · rintro i zs H' _ ⟨rfl,_⟩
   exact SqL.of hp
 · rintro i x zs H' hx ⟨rfl,rfl⟩
   have hi:i<rs.length:=by
    have:=(List.getElem?_eq_some_iff.mp hx).1
    rw [zA0] at this
    exact this
   rw [List.getElem?_map,List.getElem?_eq_getElem hi] at hx
   have ex:=(Option.some.inj hx).symm
   subst ex
   have h2:i<(rns (bd ns (t*rd ns t)) t).length:=by rw [← ls.len];exact hi
   refine ⟨by rw [zA0,zD2];exact aq (by lia),?_⟩
   refine ⟨_,.inl (SqL.of (ls.at_ i hi h2)),?_⟩
   refine ⟨rfl,?_⟩
   rw [zB5,zA2,zA0,pi,fI]
   rfl
 · rintro zs H' ⟨rfl,rfl⟩ D hD
   rw [zA0,hrl]
   have yD:=Same.new hD (.lst ((List.range t).map fun (r:Nat)=>V.int (cnt (bd ns (t*rd ns t)) t r)))
   refine ⟨D,t,fun r=>cnt (bd ns (t*rd ns t)) t r,rfl,ad,by lia,hlr,by rw [iX t0];lia,fun c H2 y2 hc=>?_⟩
   have z2:=yD.trans y2
   have hp2:=z2 _ _ hp
   have ls2:=ls.same z2
   refine ⟨p,rfl,⟨_,SqL.of hp2⟩,bu (xs:=rs.map V.ref) (fun i zs H'=>Same H2 H'/\∃ qs,zs=qs.map V.ref/\Tl H' qs ((List.range i).map fun (r:Nat)=>pt (rq (bd ns (t*rd ns t)) t r))) ⟨Same.refl _,[],rfl,rfl,fun i h1 _=>by cases h1⟩ ?_ ?_ ?_⟩
   · rintro i zs H' _ ⟨y,_⟩
     exact SqL.of (y _ _ hp2)
   · rintro i x zs H' hx ⟨y,qs,rfl,tl⟩
     have hi:i<rs.length:=by
      have:=(List.getElem?_eq_some_iff.mp hx).1
      rw [zA0] at this
      exact this
     rw [List.getElem?_map,List.getElem?_eq_getElem hi] at hx
     have ex:=(Option.some.inj hx).symm
     subst ex
     have h2:i<(rns (bd ns (t*rd ns t)) t).length:=by rw [← ls.len];exact hi
     have hq:=y _ _ (ls2.at_ i hi h2)
     rw [pi] at hq
     have ql:=tl.len
     rw [zA0,zD2] at ql
     refine ⟨by rw [zA0];exact aq (by lia),?_⟩
     refine ⟨rs[i],_,rfl,hq,by rw [fI];exact hlr i (by lia),fun r H3 y3 hr3=>?_⟩
     refine ⟨y.trans y3,qs++[r],by rw [zA2];rfl,?_⟩
     rw [zB5,zA2]
     exact (tl.same y3).snoc hr3
   · rintro zs H' ⟨y,qs,rfl,tl⟩ D2 hD2
     rw [zA0,hrl] at tl
     have yD2:=Same.new hD2 (.lst (qs.map V.ref))
     refine ⟨_,.inl (SqL.of ad),fun r H3 y3 hr3=>?_⟩
     have z3:=yD2.trans y3
     refine ⟨by show 2<=sizeLine;decide,fun g hg=>?_⟩
     have yg:=Same.new hg (.tup [V.ref c,.ref r])
     exact q g _ ((((y1.trans z2).trans y).trans z3).trans yg) ⟨c,r,qs,ad,yg _ _ (z3 _ _ (y _ _ hc)),yg _ _ hr3,(tl.same z3).same yg⟩
end
end K51H
set_option exponentiation.threshold 1000
namespace M80
open MRow
def PL (g:Nat->Int) (ss:List Nat):Nat->Int:=ss.foldl put g
theorem PL_app (g:Nat->Int) (a b:List Nat):PL g (a++b)=PL (PL g a) b:=by unfold PL;rw [List.foldl_append]
def ups (n:Nat):List Nat:=(List.range n).map (· + 1)
theorem ups_succ (n:Nat):ups (n+1)=ups n++[n+1]:=by unfold ups;rw [zB5,zA2];rfl
end M80
namespace MP
def pb:Nat->Nat->Nat->List (List Int)
 | 0,_,_=>[[]]
 | f+1,n,m=>if n=0 then [[]] else (List.range (min n m)).flatMap fun i=>(pb f (n - (i+1)) (i+1)).map fun b=>((i+1:Nat):Int)::b
theorem rX (f m:Nat):pb f 0 m=[[]]:=by cases f <;> rfl
theorem flat_congr {α β:Type} {f g:α->List β}:∀ {l:List α},(∀ a∈l,f a=g a)->l.flatMap f=l.flatMap g
 | [],_=>rfl
 | a::l,h=>by rw [zD8,zD8,h a zA8,flat_congr fun b hb=>h b (zB4 _ hb)]
theorem gM:∀ (f n m:Nat),n<=f->pb f n m=pb n n m
 | 0,n,m,h=>by
   have:n=0:=by lia
   subst this;rfl
 | f+1,0,m,_=>by rw [rX];rfl
 | f+1,n+1,m,h=>by
   show (if n+1=0 then [[]] else (List.range (min (n+1) m)).flatMap fun i=>(pb f (n+1 - (i+1)) (i+1)).map fun b=>((i+1:Nat):Int)::b)=(if n+1=0 then [[]] else (List.range (min (n+1) m)).flatMap fun i=>(pb n (n+1 - (i+1)) (i+1)).map fun b=>((i+1:Nat):Int)::b)
   rw [if_neg (by lia),if_neg (by lia)]
   refine flat_congr fun i hi=>?_
   rw [gM f (n+1 - (i+1)) (i+1) (by lia),gM n (n+1 - (i+1)) (i+1) (by lia)]
def PB (n m:Nat):List (List Int):=pb n n m
def blk (n i:Nat):List (List Int):=(PB (n - (i+1)) (i+1)).map fun b=>((i+1:Nat):Int)::b
theorem hJ (m:Nat):PB 0 m=[[]]:=rfl
theorem tj {n:Nat} (h:n≠0) (m:Nat):PB n m=(List.range (min n m)).flatMap (blk n):=by
 cases n with
 | zero=>exact absurd rfl h
 | succ n=>
   show (if n+1=0 then [[]] else (List.range (min (n+1) m)).flatMap fun i=>(pb n (n+1 - (i+1)) (i+1)).map fun b=>((i+1:Nat):Int)::b)=_
   rw [if_neg (by lia)]
   refine flat_congr fun i hi=>?_
   unfold blk PB
   rw [gM n (n+1 - (i+1)) (i+1) (by lia)]
theorem PB_pos:∀ (N n m:Nat),n<=N->∀ b∈PB n m,(∀ x∈b,(1:Int)<=x/\x<=n)/\b.length<=n/\b.sum=n
 | 0,n,m,h,b,hb=>by
   have:n=0:=by lia
   subst this
   have:b=[]:=by simpa [PB,pb] using hb
   subst this
   exact ⟨(fun _ z=>nomatch z),zA1 _,rfl⟩
 | N+1,n,m,h,b,hb=>by
   by_cases h0:n=0
   · subst h0
     have:b=[]:=by simpa [PB,pb] using hb
     subst this
     exact ⟨(fun _ z=>nomatch z),zA1 _,rfl⟩
   · rw [tj h0] at hb
     obtain ⟨i,hi,hb⟩:=List.mem_flatMap.mp hb
     have hi':=zA6.mp hi
     obtain ⟨c,hc,rfl⟩:=zC5.mp hb
     obtain ⟨h1,h2,h3⟩:=PB_pos N (n - (i+1)) (i+1) (by lia) c hc
     refine ⟨fun x hx=>?_,?_,?_⟩
     · rcases zB2.mp hx with rfl | hx
       · lia
       · have:=h1 x hx;lia
     · rw [zB9];lia
     · rw [zB3,h3];lia
end MP
namespace M81
open M39 M40 MRow
theorem bd_at (ns:List Int) {k i:Nat} (h:i<k):(bd ns k)[i]? = some (ns.getD i 0+k - 1 - i):=by
 unfold bd
 rw [List.getElem?_map,List.getElem?_range h]
 rfl
theorem iP:∀ {a b:List Int},(∀ x∈a,(1:Int)<=x)->(∀ x∈b,(1:Int)<=x)->(∀ i,a.getD i 0=b.getD i 0)->a=b
 | [],[],_,_,_=>rfl
 | [],y::b,_,hb,h=>by
   have:=h 0
   have h1:=hb y zA8
   have h2:(0:Int)=y:=this
   lia
 | x::a,[],ha,_,h=>by
   have:=h 0
   have h1:=ha x zA8
   have h2:x=(0:Int):=this
   lia
 | x::a,y::b,ha,hb,h=>by
   have h0:x=y:=h 0
   rw [h0,iP (fun z hz=>ha z (zB4 _ hz)) (fun z hz=>hb z (zB4 _ hz)) fun i=>h (i+1)]
def Prt (ns:List Int):Prop:=(∀ n∈ns,(1:Int)<=n)/\ns.Pairwise (·>=·)
theorem Prt.nn {ns:List Int} (h:Prt ns):∀ n∈ns,(0:Int)<=n:=fun n hn=>by have:=h.1 n hn;lia
theorem bd_inj {a b:List Int} {k:Nat} (ha:∀ x∈a,(1:Int)<=x) (hb:∀ x∈b,(1:Int)<=x) (la:a.length<=k) (lb:b.length<=k) (h:bd a k=bd b k):a=b:=by
 refine iP ha hb fun i=>?_
 by_cases hi:i<k
 · have:=congrArg (fun l=>l[i]?) h
   simp only [bd_at _ hi] at this
   have:=Option.some.inj this
   lia
 · rw [zA3,zA3,List.getElem?_eq_none (by lia),List.getElem?_eq_none (by lia)]
theorem sW {l:List Int} (h:l.Pairwise (· > ·)):(asc l).reverse=l:=by
 have h2:l.reverse.Pairwise (·<=·):=List.pairwise_reverse.mpr (h.imp fun h=>by lia)
 have:=asc_eq (l:=l) (zG9 l) h2
 rw [← this,List.reverse_reverse]
theorem pt_bd {ns:List Int} {k:Nat} (h:Prt ns) (hk:ns.length<=k):pt (bd ns k)=ns:=by
 have nd:=cK (k:=k) h.2 h.nn
 have e:=jO nd (g6 h.nn)
 rw [aS,sW (mO h.2 h.nn)] at e
 have pk:=kP nd
 have pl:=dB (bd ns k)
 rw [aS] at pl
 exact bd_inj pk.1 h.1 pl hk e
def jb (t:Nat) (c:Nat->Nat) (q:Nat->List Int):List Int:=(List.range t).flatMap fun (r:Nat)=>(bd (q r) (c r)).map fun (b:Int)=>(r:Int)+(t:Int)*b
theorem flat_congr {α β:Type} {f g:α->List β}:∀ {l:List α},(∀ a∈l,f a=g a)->l.flatMap f=l.flatMap g
 | [],_=>rfl
 | a::l,h=>by rw [zD8,zD8,h a zA8,flat_congr fun b hb=>h b (zB4 _ hb)]
theorem gb {α β:Type} {f g:α->List β}:∀ {l:List α},(∀ a∈l,(f a).Perm (g a))->(l.flatMap f).Perm (l.flatMap g)
 | [],_=>.nil
 | a::l,h=>by
   rw [zD8,zD8]
   exact (h a zA8).append (gb fun b hb=>h b (zB4 _ hb))
theorem dj {t:Nat} {c d:Nat->Nat} {p q:Nat->List Int} (h:∀ r,r<t->c r=d r) (h2:∀ r,r<t->p r=q r):jb t c p=jb t d q:=
 flat_congr fun r hr=>by rw [h r (zA6.mp hr),h2 r (zA6.mp hr)]
theorem jb_nn {t:Nat} {c:Nat->Nat} {q:Nat->List Int} (h:∀ r,r<t->Prt (q r)):∀ b∈jb t c q,(0:Int)<=b:=fun b hb=>by
 obtain ⟨r,hr,hb⟩:=List.mem_flatMap.mp hb
 obtain ⟨x,hx,rfl⟩:=zC5.mp hb
 have:=g6 (h r (zA6.mp hr)).nn x hx
 have h2:0<=(t:Int)*x:=Int.mul_nonneg (by lia) this
 lia
theorem ga {α:Type} (f:Nat->α) (g:Nat->List α):∀ l:List Nat,(l.flatMap fun r=>g r++[f r]).Perm (l.map f++l.flatMap g)
 | []=>.nil
 | a::l=>by
   rw [zD8,zA9,zD8]
   have ih:=ga f g l
   have e1:((g a++[f a])++l.flatMap fun r=>g r++[f r]).Perm ((g a++[f a])++(l.map f++l.flatMap g)):=zE6 _ ih
   refine e1.trans ?_
   have e2:(g a++[f a]).Perm (f a::g a):=zH1 (l₁:=g a) (l₂:=[f a])
   refine (e2.append_right _).trans ?_
   rw [zH5,zH5]
   refine .cons _ ?_
   rw [← zB6,← zB6]
   exact List.perm_append_comm.append_right _
theorem sv {t:Nat} {c:Nat->Nat} {q:Nat->List Int} (h:∀ r,r<t->(q r).length<=c r):(jb t (fun r=>c r+1) q).Perm (((List.range t).map fun (i:Nat)=>(i:Int))++(jb t c q).map fun (b:Int)=>b+(t:Int)):=by
 have e:jb t (fun r=>c r+1) q=(List.range t).flatMap fun (r:Nat)=>((bd (q r) (c r)).map fun (b:Int)=>((r:Int)+(t:Int)*b)+(t:Int))++[(r:Int)]:=by
  refine flat_congr fun r hr=>?_
  rw [mN 1 (h r (zA6.mp hr)),zA2,zE4]
  congr 1
  · refine zA4 fun b _=>?_
    show (r:Int)+(t:Int)*(b+((1:Nat):Int))=_
    rw [zI6];lia
 rw [e]
 have e2:(jb t c q).map (fun (b:Int)=>b+(t:Int))=(List.range t).flatMap fun (r:Nat)=>(bd (q r) (c r)).map fun (b:Int)=>((r:Int)+(t:Int)*b)+(t:Int):=by
  unfold jb
  rw [List.map_flatMap]
  refine flat_congr fun r _=>?_
  rw [zE4];rfl
 rw [e2]
 exact ga _ _ _
theorem lK {t:Nat} {c:Nat->Nat} {q:Nat->List Int} (hq:∀ r,r<t->Prt (q r)) (h:∀ r,r<t->(q r).length<=c r):∀ m:Nat,pt (jb t (fun r=>c r+m) q)=pt (jb t c q)
 | 0=>rfl
 | m+1=>by
   rw [← lK hq h m]
   exact eZ t (jb_nn hq) (sv fun r hr=>zC8 (h r hr) (Nat.le_add_right _ _))
theorem gE {t:Nat} (ht:0<t) (bs:List Int) (h0:∀ b∈bs,(0:Int)<=b):((List.range t).flatMap fun (r:Nat)=>(rq bs t r).map fun (b:Int)=>(r:Int)+(t:Int)*b).Perm bs:=by
 induction bs with
 | nil=>
   have:((List.range t).flatMap fun (r:Nat)=>(rq [] t r).map fun (b:Int)=>(r:Int)+(t:Int)*b)=[]:=by
    rw [List.flatMap_eq_nil_iff]
    intro r _;rfl
   rw [this]
 | cons b bs ih=>
   have hb:=h0 b zA8
   have ih:=ih fun x hx=>h0 x (zB4 _ hx)
   obtain ⟨r0,er0,hr0⟩:∃ r0:Nat,b % (t:Int)=(r0:Int)/\r0<t:=by
    have h1:=zF6 b (show (t:Int)≠0 by lia)
    have h2:=zF0 b (show (0:Int)<(t:Int) by lia)
    exact ⟨(b % (t:Int)).toNat,by lia,by lia⟩
   have eb:(r0:Int)+(t:Int)*(b / (t:Int))=b:=by rw [← er0];exact Int.emod_add_mul_ediv b t
   have key:∀ l:List Nat,l.Nodup->(l.flatMap fun (r:Nat)=>(rq (b::bs) t r).map fun (x:Int)=>(r:Int)+(t:Int)*x).Perm ((if r0∈l then [b] else [])++l.flatMap fun (r:Nat)=>(rq bs t r).map fun (x:Int)=>(r:Int)+(t:Int)*x):=by
    intro l
    induction l with
    | nil=>intro _;exact .nil
    | cons r l ihl=>
      intro hn
      have hn2:=List.nodup_cons.mp hn
      rw [zD8,zD8]
      by_cases e:r0=r
      · subst e
        have e1:(rq (b::bs) t r0)=(b / (t:Int))::rq bs t r0:=by
         unfold rq
         rw [zH7 (by simpa using er0)];rfl
        rw [e1,zA9,eb,if_pos zA8]
        have:=ihl hn2.2
        rw [if_neg hn2.1,List.nil_append] at this
        exact .cons _ (zE6 _ this)
      · have e1:(rq (b::bs) t r)=rq bs t r:=by
         unfold rq
         rw [zH6 (by rw [er0];simp;lia)]
        rw [e1]
        have:=ihl hn2.2
        refine (zE6 _ this).trans ?_
        have e2:(r0∈r::l)↔r0∈l:=by simp [e]
        simp only [e2]
        rw [← zB6,← zB6]
        exact List.perm_append_comm.append_right _
   refine (key _ List.nodup_range).trans ?_
   rw [if_pos (zA6.mpr hr0)]
   exact .cons _ ih
theorem jb_all {ns:List Int} {t k:Nat} (ht:0<t) (h:Prt ns):(jb t (fun r=>cnt (bd ns k) t r) fun r=>pt (rq (bd ns k) t r)).Perm (bd ns k):=by
 refine List.Perm.trans ?_ (gE ht (bd ns k) (g6 h.nn))
 refine gb fun r hr=>?_
 have nd:=eW (r:=r) ht (cK (k:=k) h.2 h.nn)
 have e:=jO nd (qO (g6 h.nn))
 rw [fI] at e
 rw [e]
 exact ((zG9 _).trans (aO _)).map _
def quo (ns:List Int) (t r:Nat):List Int:=pt (rq (bd ns (t*rd ns t)) t r)
def cor (ns:List Int) (t:Nat):List Int:=pt (ax t fun r=>cnt (bd ns (t*rd ns t)) t r)
theorem dA {ns:List Int} {t r:Nat} (ht:0<t) (h:Prt ns):Prt (quo ns t r):=kP (eW ht (cK h.2 h.nn))
theorem fW {ns:List Int} {t M:Nat} (ht:0<t) (h:Prt ns) (hM:∀ r,r<t->(quo ns t r).length<=M) :
 pt (jb t (fun r=>ct (cor ns t) (t*(rd (cor ns t) t+M)) t r) fun r=>quo ns t r)=ns:=by
 have c1:∀ r,r<t->ct (cor ns t) (t*(rd (cor ns t) t+M)) t r=ct (cor ns t) (t*rd (cor ns t) t) t r+M:=fun r hr=>bO hr M
 have hv:vec (cor ns t) t=vec ns t:=ie ht
 have c2:∀ r,r<t->(ct (cor ns t) (t*rd (cor ns t) t) t r:Int) - rd (cor ns t) t=(ct ns (t*rd ns t) t r:Int) - rd ns t:=fun r hr=>by
  have:=congrArg (fun l=>l[r]?) hv
  unfold vec at this
  simp only [List.getElem?_map,List.getElem?_range hr] at this
  exact Option.some.inj this
 rw [dj (d:=fun r=>ct (cor ns t) (t*rd (cor ns t) t) t r+M) (q:=fun r=>quo ns t r) c1 fun _ _=>rfl]
 rw [← lK (t:=t) (c:=fun r=>ct (cor ns t) (t*rd (cor ns t) t) t r+M) (fun r _=>dA ht h) (fun r hr=>zC8 (hM r hr) (Nat.le_add_left _ _)) (rd ns t)]
 have e:jb t (fun r=>ct (cor ns t) (t*rd (cor ns t) t) t r+M+rd ns t) (fun r=>quo ns t r)=jb t (fun r=>cnt (bd ns (t*(rd ns t+(rd (cor ns t) t+M)))) t r) fun r=>pt (rq (bd ns (t*(rd ns t+(rd (cor ns t) t+M)))) t r):=by
  refine dj (fun r hr=>?_) fun r hr=>(eY h.nn hr _).symm
  have a:=c2 r hr
  have b:ct ns (t*(rd ns t+(rd (cor ns t) t+M))) t r=ct ns (t*rd ns t) t r+(rd (cor ns t) t+M):=bO hr _
  show _=ct ns (t*(rd ns t+(rd (cor ns t) t+M))) t r
  rw [b]
  lia
 rw [e,re (jb_all ht h)]
 refine pt_bd h ?_
 have:=fM ns ht
 rw [Nat.mul_add]
 lia
end M81
namespace M41
open M39 M40 M43 M81
theorem ph (a b:List Int) (t r:Nat):rq (a++b) t r=rq a t r++rq b t r:=by unfold rq;rw [zH4,zA2]
theorem kD {t r r':Nat} (ht:0<t) (hr':r' < t):∀ l:List Int,rq (l.map fun (b:Int)=>(r':Int)+(t:Int)*b) t r=if r'=r then l else []
 | []=>by unfold rq;simp
 | b::l=>by
   have ih:=kD (r:=r) ht hr' l
   have e1:((r':Int)+(t:Int)*b) % (t:Int)=(r':Int):=by
    rw [zI1]
    exact Int.emod_eq_of_lt (by lia) (by lia)
   have e2:((r':Int)+(t:Int)*b) / (t:Int)=b:=by
    rw [Int.add_mul_ediv_left _ _ (by lia)]
    rw [Int.ediv_eq_zero_of_lt (by lia) (by lia)]
    lia
   have sp:rq ((b::l).map fun (b:Int)=>(r':Int)+(t:Int)*b) t r=rq [(r':Int)+(t:Int)*b] t r++rq (l.map fun (b:Int)=>(r':Int)+(t:Int)*b) t r:=by
    rw [← ph]
    rfl
   rw [sp,ih]
   by_cases h:r'=r
   · subst h
     rw [if_pos rfl,if_pos rfl]
     unfold rq
     simp [e1,e2]
   · rw [if_neg h,if_neg h]
     unfold rq
     have:¬ ((r':Int)=(r:Int)):=by lia
     simp [e1,this]
theorem kE {t r:Nat} (ht:0<t) (f:Nat->List Int):∀ m,m<=t->rq ((List.range m).flatMap fun (r':Nat)=>(f r').map fun (b:Int)=>(r':Int)+(t:Int)*b) t r=if r<m then f r else []
 | 0,_=>by simp [rq]
 | m+1,h=>by
   rw [zB5,List.flatMap_append,ph,kE ht f m (by lia)]
   have e:rq ([m].flatMap fun (r':Nat)=>(f r').map fun (b:Int)=>(r':Int)+(t:Int)*b) t r=if m=r then f m else []:=by
    simp only [zD8,List.flatMap_nil,zE3]
    exact kD ht (by lia) (f m)
   rw [e]
   by_cases h1:r<m
   · rw [if_pos h1,if_neg (by lia),if_pos (by lia),zE3]
   · by_cases h2:m=r
     · subst h2
       rw [if_neg h1,if_pos rfl,if_pos (by lia),List.nil_append]
     · rw [if_neg h1,if_neg h2,if_neg (by lia),zE3]
theorem rq_jb {t r:Nat} (ht:0<t) (c:Nat->Nat) (q:Nat->List Int) (hr:r<t):rq (jb t c q) t r=bd (q r) (c r):=by
 unfold jb
 rw [kE ht (fun r=>bd (q r) (c r)) t (zA1 _),if_pos hr]
theorem cnt_jb {t r:Nat} (ht:0<t) (c:Nat->Nat) (q:Nat->List Int) (hr:r<t):cnt (jb t c q) t r=c r:=by
 rw [← fI,rq_jb ht c q hr,aS]
theorem jb_len (t:Nat) (c:Nat->Nat) (q:Nat->List Int):((jb t c q).length:Int)=((List.range t).map fun (r:Nat)=>(c r:Int)).sum:=by
 unfold jb
 rw [fj]
 congr 1
 refine zA4 fun r _=>?_
 rw [zA0,aS]
theorem oE {t:Nat} (ht:0<t) {c:Nat->Nat} {q:Nat->List Int} (hq:∀ r,r<t->Prt (q r)):(jb t c q).Nodup:=by
 unfold jb List.Nodup
 rw [List.pairwise_flatMap]
 refine ⟨fun r hr=>?_,?_⟩
 · have p:=hq r (zA6.mp hr)
   rw [zG6]
   refine (cK (k:=c r) p.2 p.nn).imp fun {x y} h z=>h ?_
   have z2:(t:Int)*x=(t:Int)*y:=by lia
   exact Int.eq_of_mul_eq_mul_left (by lia) z2
 · refine List.Pairwise.imp_of_mem (R:=fun a b=>a<b) ?_ List.pairwise_lt_range
   intro a b ha hb hab x hx y hy z
   have ha:=zA6.mp ha
   have hb:=zA6.mp hb
   obtain ⟨u,_,rfl⟩:=zC5.mp hx
   obtain ⟨v,_,rfl⟩:=zC5.mp hy
   have e1:((a:Int)+(t:Int)*u) % (t:Int)=(a:Int):=by
    rw [zI1]
    exact Int.emod_eq_of_lt (by lia) (by lia)
   have e2:((b:Int)+(t:Int)*v) % (t:Int)=(b:Int):=by
    rw [zI1]
    exact Int.emod_eq_of_lt (by lia) (by lia)
   rw [z,e2] at e1
   lia
theorem rd_mul {ns:List Int} {t R:Nat} (ht:0<t) (h:ns.length<=t*R):rd ns t<=R:=by
 unfold rd
 have h2:(ns.length+t - 1) / t<=(t*R+(t - 1)) / t:=Nat.div_le_div_right (by lia)
 have h3:(t*R+(t - 1)) / t=R:=by
  have h4:(t - 1) / t=0:=Nat.div_eq_of_lt (Nat.sub_lt ht (by decide))
  rw [Nat.mul_add_div ht,h4,zF5]
 lia
theorem qN {a b:List Int} (h:a.Perm b) (t r:Nat):(rq a t r).Perm (rq b t r):=(h.filter _).map _
theorem oF {t R:Nat} {c:Nat->Nat} {q:Nat->List Int} (ht:0<t) (hq:∀ r,r<t->Prt (q r)) (hl:∀ r,r<t->(q r).length<=c r) (hs:((List.range t).map fun (r:Nat)=>(c r:Int)).sum=((t*R:Nat):Int)) :
 Prt (pt (jb t c q))/\(pt (jb t c q)).length<=t*R/\cor (pt (jb t c q)) t=pt (ax t c)/\∀ r,r<t->quo (pt (jb t c q)) t r=q r:=by
 have nd:=oE ht (c:=c) hq
 have nn:=jb_nn (c:=c) hq
 have hlen:(jb t c q).length=t*R:=by
  have:=jb_len t c q
  rw [hs] at this
  lia
 have hb:=jO nd nn
 rw [hlen] at hb
 have hpm:(bd (pt (jb t c q)) (t*R)).Perm (jb t c q):=by
  rw [hb]
  exact (zG9 _).trans (aO _)
 have hP:=kP nd
 have hle:(pt (jb t c q)).length<=t*R:=by
  have:=dB (jb t c q)
  lia
 have hrd:=rd_mul ht hle
 obtain ⟨m,hm⟩:∃ m,R=rd (pt (jb t c q)) t+m:=⟨R - rd (pt (jb t c q)) t,by lia⟩
 refine ⟨hP,hle,?_,fun r hr=>?_⟩
 · unfold cor
   rw [← bC t _ m]
   congr 1
   refine bK fun r hr=>?_
   have h1:=bO (ns:=pt (jb t c q)) hr m
   rw [← hm] at h1
   have h2:ct (pt (jb t c q)) (t*R) t r=c r:=by
    unfold ct
    rw [hpm.countP_eq]
    exact cnt_jb ht c q hr
   rw [h2] at h1
   exact h1.symm
 · unfold quo
   rw [← eY (fun n hn=>by have:=hP.1 n hn;lia) hr m,← hm,re (qN hpm t r),rq_jb ht c q hr]
   exact pt_bd (hq r hr) (hl r hr)
def jn (cs:List Int) (t M:Nat) (q:Nat->List Int):List Int:=pt (jb t (fun r=>ct cs (t*(rd cs t+M)) t r) q)
theorem ct_all {ns:List Int} {t k:Nat} (ht:0<t):((List.range t).map fun (r:Nat)=>(ct ns k t r:Int)).sum=(k:Int):=by
 have h:=cR t ht (bd ns k)
 rw [aS] at h
 exact h
theorem oB {cs:List Int} {t M:Nat} (ht:0<t):pt (ax t fun r=>ct cs (t*(rd cs t+M)) t r)=cor cs t:=by
 unfold cor
 rw [← bC t (fun r=>cnt (bd cs (t*rd cs t)) t r) M]
 congr 1
 exact bK fun r hr=>bO hr M
theorem iK {cs:List Int} {t M:Nat} {q:Nat->List Int} (ht:0<t) (hq:∀ r,r<t->Prt (q r)) (hM:∀ r,r<t->(q r).length<=M) :
 Prt (jn cs t M q)/\(jn cs t M q).length<=t*(rd cs t+M)/\cor (jn cs t M q) t=cor cs t/\∀ r,r<t->quo (jn cs t M q) t r=q r:=by
 obtain ⟨a,b,c,d⟩:=oF (R:=rd cs t+M) (c:=fun r=>ct cs (t*(rd cs t+M)) t r) ht hq (fun r hr=>by rw [bO hr M];exact zC8 (hM r hr) (Nat.le_add_left _ _)) (ct_all ht)
 exact ⟨a,b,c.trans (oB ht),d⟩
theorem cM {ns:List Int} {t:Nat} (ht:0<t) (h:Prt ns):(cor ns t).sum+(t:Int)*((List.range t).map fun (r:Nat)=>(quo ns t r).sum).sum=ns.sum:=qk ht h.nn h.2 (fM ns ht)
theorem jn_sum {cs:List Int} {t M:Nat} {q:Nat->List Int} (ht:0<t) (hq:∀ r,r<t->Prt (q r)) (hM:∀ r,r<t->(q r).length<=M):(jn cs t M q).sum=(cor cs t).sum+(t:Int)*((List.range t).map fun (r:Nat)=>(q r).sum).sum:=by
 obtain ⟨a,b,c,d⟩:=iK (cs:=cs) ht hq hM
 rw [← cM ht a,c]
 congr 2
 congr 1
 refine zA4 fun r hr=>?_
 rw [d r (zA6.mp hr)]
theorem cp:∀ {ns:List Int},(∀ n∈ns,(1:Int)<=n)->(ns.length:Int)<=ns.sum
 | [],_=>by simp
 | n::ns,h=>by
   have h1:=h n zA8
   have h2:=cp (ns:=ns) fun m hm=>h m (zB4 _ hm)
   rw [zB9,zB3]
   lia
end M41
namespace K51H
open K51 PySem L2 M39 M40 M43 M81
theorem iT:∀ (as bs:List Int),PyData.eqvAll (as.map PyData.int) (bs.map PyData.int)=decide (as=bs)
 | [],[]=>by simp [PyData.eqvAll]
 | [],b::bs=>by simp [PyData.eqvAll]
 | a::as,[]=>by simp [PyData.eqvAll]
 | a::as,b::bs=>by
   have ih:=iT as bs
   simp only [zA9,PyData.eqvAll,ih,PyData.eqv]
   by_cases h:a=b
   · subst h
     simp
   · simp [h]
theorem eqv_tup (as bs:List Int):PyData.eqv (.tuple (as.map PyData.int)) (.tuple (bs.map PyData.int))=decide (as=bs):=by
 show PyData.eqvAll _ _=_
 exact iT as bs
theorem eq_dec {H:Hp} {a b:Addr} {as bs:List Int} {Q:VK} (ha:H a=some (.tup (as.map V.int))) (hb:H b=some (.tup (bs.map V.int))) (q:Q (.bl (decide (as=bs))) H):rEqD false (.ref a) (.ref b) H Q:=
 ⟨_,_,.ints ha,.ints hb,bm _,bm _,by rw [if_neg (by decide),eqv_tup];exact q⟩
def pJ (t:Nat) (c:Nat->Nat) (q:Nat->List Int) (m:Nat):List Int:=(List.range m).flatMap fun (r:Nat)=>(bd (q r) (c r)).map fun (b:Int)=>(r:Int)+(t:Int)*b
theorem cH (t:Nat) (c:Nat->Nat) (q:Nat->List Int) (m:Nat):pJ t c q (m+1)=pJ t c q m++(bd (q m) (c m)).map fun (b:Int)=>(m:Int)+(t:Int)*b:=by
 unfold pJ
 rw [zB5,List.flatMap_append]
 simp
theorem iL (t:Nat) (c:Nat->Nat) (q:Nat->List Int):∀ m,(pJ t c q m).length=((List.range m).map c).sum
 | 0=>rfl
 | m+1=>by
   rw [cH,zA5,zA0,aS,iL t c q m,zB5,zA2,zC0]
   simp
theorem iq (c:Nat->Nat):∀ (m d:Nat),((List.range m).map c).sum<=((List.range (m+d)).map c).sum
 | m,0=>zA1 _
 | m,d+1=>by
   rw [← zI5,zB5,zA2,zC0]
   exact zC8 (iq c m d) (Nat.le_add_right _ _)
theorem ct_sum {ns:List Int} {t k:Nat} (ht:0<t):((List.range t).map fun r=>ct ns k t r).sum=k:=by
 have h:=cR t ht (bd ns k)
 rw [aS] at h
 have:(((List.range t).map fun r=>ct ns k t r).sum:Int)=((List.range t).map fun (r:Nat)=>((ct ns k t r:Nat):Int)).sum:=by
  generalize List.range t=l
  induction l with
  | nil=>rfl
  | cons a l ih=>rw [zA9,zB3,zA9,zB3,Int.natCast_add,ih]
 have h2:(((List.range t).map fun r=>ct ns k t r).sum:Int)=(k:Int):=this.trans h
 lia
section
variable {P:Program} {w:World} {K:PySem.W.Frag} {mg:Str->Option Value} {base:Heap} {f:Addr} {fd:FuncData}
theorem sc_ic:FnScope ["parting","t"] ["parting","t"] (ag (top 12)):=⟨rfl,rfl,rfl,by decide +kernel,rfl,by decide +kernel,by decide +kernel⟩
def sp_ic:Sp:=fun vs H Q _=>∃ (a:Addr) (ns:List Int) (t:Nat),vs=[.ref a,.int t]/\H a=some (.tup (ns.map V.int))/\ns.length<=400/\0<t/\t<=20/\∀ H',Same H H'->Q (.bl (decide (cor ns t=ns))) H'
theorem ok_ic (F:Fun K "is_core" "is_core" (top 12) f fd)  (F_apart:FnA P w K mg base "apart" 3 ["parting","t"] sp_apart):FnOk P w K mg base CX0 4 f fd ["parting","t"] sp_ic:=by
 refine F.okz sc_ic (fun vs H Q E h=>?_) (fun cdv A outer s H vs Q E hr h=>?_)
 · obtain ⟨a,ns,t,rfl,_⟩:=h;rfl
 obtain ⟨a,ns,t,rfl,ha,hl,t0,t1,q⟩:=h
 have nd:=sc_ic.nd
 have hu:=hr.units
 refine ⟨_,(ai (aC (gx (eD hu) (bh dL (aF F_apart hr (by decide) rfl (aa (zn 0) (aa (zn 1) ae))) ah (fun _ _=>rfl)) (zn 0) (bn _)))),?_⟩
 refine ⟨a,ns,t,rfl,ha,hl,t0,t1,fun p H1 y1 ap=>?_⟩
 obtain ⟨c,d,qs,e1,e2,e3,e4⟩:=ap
 refine ⟨_,.inr e1,.ref c,rfl,?_⟩
 exact eq_dec e2 (y1 _ _ ha) (q H1 y1)
theorem sc_jn:FnScope ["core","quotients","t","rounds","beads","rest","run","bead"] ["core","quotients"] (ag (top 13)):=⟨rfl,rfl,rfl,by decide +kernel,rfl,by decide +kernel,by decide +kernel⟩
def sp_jn:Sp:=fun vs H Q _=>∃ (c d:Addr) (cs:List Int) (qs:List Addr) (lss:List (List Int)) (t B:Nat),vs=[.ref c,.ref d]/\H c=some (.tup (cs.map V.int))/\H d=some (.tup (qs.map V.ref))/\Tl H qs lss/\lss.length=t/\0<t/\t<=20/\cs.length<=400/\cor cs t=cs/\(∀ ls∈lss,ls.length<=B)/\t*(rd cs t+B)<=900 /\
 ∀ r H' M,Same H H'->(∀ ls∈lss,ls.length<=M)->M<=B->H' r=some (.tup ((pt (jb t (fun r=>ct cs (t*(rd cs t+M)) t r) fun r=>lss.getD r [])).map V.int))->Q (.ref r) H'
theorem ok_jn (F:Fun K "joined" "joined" (top 13) f fd) (m_enumerate:mg "enumerate" = none) (m_len:mg "len" = none) (m_max:mg "max" = none) (F_beads_of:FnA P w K mg base "beads_of" 1 ["parting","many"] (bE K)) (F_is_core:FnA P w K mg base "is_core" 4 ["parting","t"] sp_ic) (F_parting_of:FnA P w K mg base "parting_of" 1 ["beads"] sp_po) (F_rounds_of:FnA P w K mg base "rounds_of" 1 ["parting","t"] (ba K)) (F_runs_of:FnA P w K mg base "runs_of" 2 ["parting","t","rounds"] (bz K)):FnOk P w K mg base CX0 5 f fd ["core","quotients"] sp_jn:=by
 refine F.okz sc_jn (fun vs H Q E h=>?_) (fun cdv A outer s H vs Q E hr h=>?_)
 · obtain ⟨c,d,cs,qs,lss,t,B,rfl,_⟩:=h;rfl
 obtain ⟨c,d,cs,qs,lss,t,B,rfl,hc,hd,tl,et,t0,t1,cl,co,lB,room,q⟩:=h
 have nd:=sc_jn.nd
 have hu:=hr.units
 have lq:=tl.len
 refine ⟨_,(af (ay (i:=2) nd rfl (Or.inl rfl) (bi rfl m_len (aa (zn 1) ae) rfl rfl))
  (af (cY (zt_not (jS (aF F_is_core hr (by decide) rfl (aa (zn 0) (aa (zn 2) ae))))) (ai zs_no) bb)
  (af (ay (i:=3) nd rfl (Or.inl rfl) (am aE (aF F_rounds_of hr (by decide) rfl (aa (zn 0) (aa (zn 2) ae))) (qh rfl rfl m_max (aa (aN ["quotient"] [] rfl ⟨rfl,by decide +kernel,by decide +kernel,rfl,rfl⟩ (hU (zn 1)) aM (fun _ _ _ _=>aj (i:=0) (show List.Nodup (["quotient"]:List Str) by decide +kernel) rfl (Or.inl rfl)) (fun _ _ _ _=>aH) (fun _ _ _ _=>(eK rfl m_len (aa (zn 0) ae) rfl rfl rfl))) ae) rfl rfl)))
  (af (ay (i:=4) nd rfl (Or.inl rfl) (a0 ae))
  (af (bo PassesOwn.never rfl (bD rfl m_enumerate (aa (aF F_runs_of hr (by decide) rfl (aa (zn 0) (aa (zn 2) (aa (zn 3) ae)))) ae)) (ce rfl (aA (aj (i:=5) nd rfl (Or.inl rfl)) (aA (aj (i:=6) nd rfl (Or.inl rfl)) bx))) (ai (bo PassesOwn.never rfl (aP (aF F_beads_of hr (by decide) rfl (aa (bh dL (zn 1) (zn 5) (fun _ _=>rfl)) (aa (bi rfl m_len (aa (zn 6) ae) rfl rfl) ae)))) (aj (i:=7) nd rfl (Or.inl rfl)) (ai (cO (bP (zn 4) (aa (am aE (zn 5) (am aG (zn 2) (zn 7))) ae)))))))
  (ai (aC (aF F_parting_of hr (by decide) rfl (aa (zn 4) ae))))))))),?_⟩
 refine ⟨_,.inr hd,?_⟩
 have el:(((qs.map V.ref).length:Nat):Int)=(t:Int):=by rw [zA0,lq,et]
 refine ⟨c,cs,t,congrArg (fun z=>[V.ref c,V.int z]) el,hc,cl,t0,t1,fun H1 y1=>?_⟩
 rw [decide_eq_true co]
 refine ⟨c,cs,t,congrArg (fun z=>[V.ref c,V.int z]) el,SqT.of (y1 _ _ hc),t0,by lia,?_⟩
 have hd1:=y1 _ _ hd
 have tl1:=tl.same y1
 refine ⟨d,rfl,⟨_,SqT.of hd1⟩,fq (xs:=qs.map V.ref) (fun i zs H'=>H'=H1/\zs=((lss.take i).map fun ls=>(ls.length:Int)).map V.int) ⟨rfl,by rw [List.take_zero];rfl⟩ ?_ ?_ ?_⟩
 · rintro i zs H' _ ⟨rfl,_⟩
   exact SqT.of hd1
 · rintro i z zs H' hz ⟨rfl,rfl⟩
   have hi:i<qs.length:=by have:=(List.getElem?_eq_some_iff.mp hz).1;rw [zA0] at this;exact this
   have hi2:i<lss.length:=by lia
   have ez:z=.ref qs[i]:=by rw [List.getElem?_map,List.getElem?_eq_getElem hi] at hz;exact (Option.some.inj hz).symm
   subst ez
   refine ⟨by rw [zA0,zA0,zB7];exact aq (by lia),?_⟩
   refine ⟨_,.inr (tl1.at_ i hi hi2),rfl,?_⟩
   rw [zE1,List.getElem?_eq_getElem hi2,zA2,zA2,zA0]
   rfl
 · rintro zs H2 ⟨rfl,rfl⟩ D hD
   have yD:=Same.new hD (.lst (((lss.take (qs.map V.ref).length).map fun ls=>(ls.length:Int)).map V.int))
   have eN:(lss.take (qs.map V.ref).length)=lss:=zC2 (by rw [zA0,lq];exact zA1 _)
   have gD:upd H2 D (.lst (((lss.take (qs.map V.ref).length).map fun ls=>(ls.length:Int)).map V.int)) D=some (.lst ((lss.map fun ls=>(ls.length:Int)).map V.int)):=by rw [ad,eN]
   have hc2:=yD _ _ (y1 _ _ hc)
   have hd2:=yD _ _ hd1
   have tl2:=tl1.same yD
   have z2:=y1.trans yD
   generalize upd H2 D (.lst (((lss.take (qs.map V.ref).length).map fun ls=>(ls.length:Int)).map V.int))=H3 at yD gD hc2 hd2 tl2 z2
   refine ⟨_,.inl (SqL.of gD),(fun z=>by have:=congrArg List.length z;rw [zA0,et] at this;simp at this;lia),fun M0 hM0 allM=>?_⟩
   obtain ⟨lm,hlm,rfl⟩:=zC5.mp hM0
   have hMB:=lB lm hlm
   have allM':∀ ls∈lss,ls.length<=lm.length:=fun ls hls=>by
    have:=allM (ls.length:Int) (zC5.mpr ⟨ls,hls,rfl⟩)
    lia
   generalize lm.length=M at hMB allM'
   have eR:(rd cs t:Int)+(M:Int)=((rd cs t+M:Nat):Int):=by lia
   have rg:=fM cs t0
   have hroom:t*(rd cs t+M)<=900:=zC8 (Nat.mul_le_mul_left _ (by lia)) room
   refine ⟨by show 0<=sizeLine;decide,fun L hL=>?_⟩
   have yL:=Same.new hL (.lst [])
   have LH:H L=none:=aZ z2 hL
   have gL:upd H3 L (.lst []) L=some (.lst ((pJ t (fun r=>ct cs (t*(rd cs t+M)) t r) (fun r=>lss.getD r []) 0).map V.int)):=ad
   have hc3:=yL _ _ hc2
   have hd3:=yL _ _ hd2
   have tl3:=tl2.same yL
   have z3:=z2.trans yL
   generalize upd H3 L (.lst [])=H4 at yL gL hc3 hd3 tl3 z3
   refine ⟨c,cs,t,rd cs t+M,by rw [← eR,← el],(.inl ⟨hc3,by rw [Nat.mul_add];lia⟩),t0,by lia,hroom,fun p rs H5 fp frs y5 hp5 ll5=>?_⟩
   have lrs:=ll5.len
   rw [bT] at lrs
   have gL5:=y5 _ _ gL
   have Lp:p≠L:=fun z=>by rw [z,gL] at fp;cases fp
   have Lrs:∀ r∈rs,r≠L:=fun r hr' z=>by have:=frs r hr';rw [z,gL] at this;cases this
   have z5:=z3.trans y5
   have hd5:=y5 _ _ hd3
   have tl5:=tl3.same y5
   have csum:((List.range t).map fun r=>ct cs (t*(rd cs t+M)) t r).sum=t*(rd cs t+M):=ct_sum t0
   have lim:∀ m,m<=t->(pJ t (fun r=>ct cs (t*(rd cs t+M)) t r) (fun r=>lss.getD r []) m).length<=900:=fun m hm=>by
    rw [iL]
    obtain ⟨e,rfl⟩:∃ e,t=m+e:=⟨t - m,by lia⟩
    have:=iq (fun r=>ct cs ((m+e)*(rd cs (m+e)+M)) (m+e) r) m e
    lia
   -- the beads of all rests up to one,in the list
   refine ⟨false,_,SqK.lst hp5,fZ (xs:=rs.map V.ref) (fun i σ H'=>i<=t/\Same H H'/\(∀ b o,b≠L->H5 b=some o->H' b=some o)/\H' L=some (.lst ((pJ t (fun r=>ct cs (t*(rd cs t+M)) t r) (fun r=>lss.getD r []) i).map V.int))/\∃ x5 x6 x7,σ=[some (.ref c),some (.ref d),some (.int (((qs.map V.ref).length:Nat):Int)),some (.int ((rd cs t:Int)+(M:Int))),some (.ref L),x5,x6,x7]) ⟨zC6 _,z5,fun _ _ _ e=>e,gL5,_,_,_,rfl⟩ ?_ ?_ ?_⟩
   · rintro i σ H' _ ⟨_,_,k,_⟩
     exact SqK.lst (k _ _ Lp hp5)
   · rintro i x σ H6 pr hx ⟨_,y6,k6,hL6,x5,x6,x7,rfl⟩ hpr
     have hi:i<rs.length:=by have:=(List.getElem?_eq_some_iff.mp hx).1;rw [zA0] at this;exact this
     have hit:i<t:=by lia
     have ex:x=.ref rs[i]:=by rw [List.getElem?_map,List.getElem?_eq_getElem hi] at hx;exact (Option.some.inj hx).symm
     subst ex
     have yp:=Same.new hpr (.tup [.int i,.ref rs[i]])
     refine ⟨pr,_,rfl,SqT.of ad,rfl,_,_,rfl,_,_,rfl,rfl,?_⟩
     have y7:=y6.trans yp
     have k7:∀ b o,b≠L->H5 b=some o->upd H6 pr (.tup [.int i,.ref rs[i]]) b=some o:=fun b o nb e=>yp _ _ (k6 b o nb e)
     have hL7:=yp _ _ hL6
     generalize upd H6 pr (.tup [.int i,.ref rs[i]])=H7 at yp y7 k7 hL7
     have hiq:i<qs.length:=by lia
     have hil:i<lss.length:=by lia
     have hd7:=k7 _ _ (li hd5 gL5 (by intro z;cases z)) hd5
     have hq5:=tl5.at_ i hiq hil
     have hq7:=k7 _ _ (li hq5 gL5 (by intro z;cases z)) hq5
     refine ⟨_,.inr hd7,.ref qs[i],cX (j:=i) rfl (by rw [List.getElem?_map,List.getElem?_eq_getElem hiq];rfl),?_⟩
     have hcell:=ll5.at_ i hi (by rw [bT];exact hit)
     rw [dz] at hcell
     have hcell7:=k7 _ _ (Lrs _ (zB1 hi)) hcell
     refine ⟨_,.inl (SqL.of hcell7),?_⟩
     have elen:(((rn (bd cs (t*(rd cs t+M))) t i).map V.int).length:Int)=((ct cs (t*(rd cs t+M)) t i:Nat):Int):=by rw [zA0,po]
     have hlm:=allM' lss[i] (zB1 hil)
     have hctM:M<=ct cs (t*(rd cs t+M)) t i:=by rw [bO hit M];lia
     have hct9:ct cs (t*(rd cs t+M)) t i<=900:=by
      have:=lim (i+1) (by lia)
      rw [cH,zA5,zA0,aS] at this
      lia
     have eg:lss.getD i []=lss[i]:=by rw [zA3,List.getElem?_eq_getElem hil];rfl
     refine ⟨qs[i],lss[i],ct cs (t*(rd cs t+M)) t i,congrArg (fun z=>[V.ref qs[i],V.int z]) elen,(.inl ⟨hq7,by lia⟩),hct9,fun B8 H8 hB8 y8 gB8=>?_⟩
     have hL8:=y8 _ _ hL7
     have BL:B8≠L:=fun z=>by rw [z,hL7] at hB8;cases hB8
     refine ⟨B8,rfl,⟨_,SqL.of gB8⟩,bN (xs:=(bd lss[i] (ct cs (t*(rd cs t+M)) t i)).map V.int) (fun j σ H'=>Same H H'/\(∀ b o,b≠L->H8 b=some o->H' b=some o)/\H' L=some (.lst ((pJ t (fun r=>ct cs (t*(rd cs t+M)) t r) (fun r=>lss.getD r []) i++((bd lss[i] (ct cs (t*(rd cs t+M)) t i)).take j).map fun (b:Int)=>(i:Int)+(t:Int)*b).map V.int))/\∃ x7,σ=[some (.ref c),some (.ref d),some (.int (((qs.map V.ref).length:Nat):Int)),some (.int ((rd cs t:Int)+(M:Int))),some (.ref L),some (.int i),some (.ref rs[i]),x7]) ⟨y7.trans y8,fun _ _ _ e=>e,by rw [hL8,List.take_zero,zF1,zE3],_,rfl⟩ ?_ ?_ ?_⟩
     · rintro j σ H' _ ⟨_,k,_⟩
       exact SqL.of (k _ _ BL gB8)
     · rintro j z σ H9 hz ⟨y9,k9,hL9,x7,rfl⟩
       have hj:j<(bd lss[i] (ct cs (t*(rd cs t+M)) t i)).length:=by have:=(List.getElem?_eq_some_iff.mp hz).1;rw [zA0] at this;exact this
       have ez:z=.int (bd lss[i] (ct cs (t*(rd cs t+M)) t i))[j]:=by rw [fz hj] at hz;exact (Option.some.inj hz).symm
       subst ez
       refine ⟨tyL hL9,lj (by rw [zA0];lia) (by rw [zA0];lia),?_⟩
       have lim2:=lim (i+1) (by lia)
       rw [cH,zA5,zA0,aS] at lim2
       rw [aS] at hj
       refine ⟨_,hL9,?_,?_⟩
       · rw [zA0,zA5,zA0,zB7,aS]
         exact aq (by lia)
       · refine ⟨Same.updN y9 LH,fun b o nb e=>by rw [ao nb];exact k9 b o nb e,?_,_,rfl⟩
         have et2:(bd lss[i] (ct cs (t*(rd cs t+M)) t i)).take (j+1)=(bd lss[i] (ct cs (t*(rd cs t+M)) t i)).take j++[(bd lss[i] (ct cs (t*(rd cs t+M)) t i))[j]'(by rw [aS];exact hj)]:=by rw [zE1,List.getElem?_eq_getElem (by rw [aS];exact hj)];rfl
         rw [ad,et2,el]
         simp only [zA2,zA9,zF1,zB6]
     · rintro σ H9 ⟨y9,k9,hL9,x7,rfl⟩
       rw [zA0,zC2 (zA1 _)] at hL9
       refine ⟨by lia,y9,fun b o nb e=>k9 b o nb (y8 _ _ (k7 b o nb e)),?_,_,_,_,rfl⟩
       rw [cH,eg]
       exact hL9
   · rintro σ H6 ⟨_,y6,k6,hL6,x5,x6,x7,rfl⟩
     rw [zA0,lrs] at hL6
     have lim3:=lim t (zA1 _)
     refine ⟨L,_,rfl,hL6,lim3,fun r H7 y7 hr7=>?_⟩
     exact q r H7 M (y6.trans y7) allM' hMB hr7
end
section
variable {P:Program} {w:World} {K:PySem.W.Frag} {mg:Str->Option Value} {base:Heap} {f:Addr} {fd:FuncData}
theorem sc_co:FnScope ["numbers","rounds"] ["numbers"] (ag (top 15)):=⟨rfl,rfl,rfl,by decide +kernel,rfl,by decide +kernel,by decide +kernel⟩
structure Cor (ns cs:List Int):Prop where
 prt:(∀ n∈cs,(1:Int)<=n)/\cs.Pairwise (·>=·)
 len:cs.length<=400
 vec_:vec cs ns.length=ns
 fix_:core cs ns.length=cs
 sum_:cs.sum=sz ns
def sp_co:Sp:=fun vs H Q _=>∃ (a:Addr) (ns:List Int),vs=[.ref a]/\H a=some (.tup (ns.map V.int))/\0<ns.length/\ns.length<=12/\ns.sum=0/\(∀ n∈ns,-30<=n/\n<=30)/\∀ r H' cs,Same H H'->H' r=some (.tup (cs.map V.int))->Cor ns cs->Q (.ref r) H'
theorem cor_of {ns:List Int} {M:Int} (h0:0<ns.length) (h1:ns.length<=12) (hs:ns.sum=0) (hb:∀ n∈ns,-30<=n/\n<=30) (hM:M∈ns) (hle:∀ n∈ns,M<=n) :
 Cor ns (pt (ax ns.length fun r=>(-M+nf ns r).toNat))/\(∀ r,r<ns.length->((-M+nf ns r).toNat:Int)=-M+nf ns r/\(-M+nf ns r).toNat<=60)/\(ax ns.length fun r=>(-M+nf ns r).toNat).length<=900:=by
 have hM0:M<=0:=by
  by_cases h:M<=0
  · exact h
  · exfalso
    have:∀ {l:List Int},(∀ n∈l,(1:Int)<=n)->(l.length:Int)<=l.sum:=by
     intro l
     induction l with
     | nil=>intro _;exact zE7 _
     | cons x r ih=>
       intro hh
       have:=ih fun n hn=>hh n (zB4 _ hn)
       have:=hh x zA8
       rw [zB9,zB3]
       lia
    have:=this (l:=ns) fun n hn=>by have:=hle n hn;lia
    lia
 have hMb:=hb M hM
 have hnf:∀ r,r<ns.length->M<=nf ns r/\nf ns r<=30:=fun r hr=>by
  rw [bJ hr]
  exact ⟨hle _ (zB1 hr),(hb _ (zB1 hr)).2⟩
 have hc:∀ r,r<ns.length->((-M+nf ns r).toNat:Int)=((-M).toNat:Int)+nf ns r:=fun r hr=>by have:=hnf r hr;lia
 have hsum:((List.range ns.length).map (nf ns)).sum=0:=by rw [bI];exact hs
 have hct:((List.range ns.length).map fun (r:Nat)=>((-M+nf ns r).toNat:Int)).sum=((ns.length*(-M).toNat:Nat):Int):=by
  rw [zA4 (g:=fun (r:Nat)=>((-M).toNat:Int)+nf ns r) fun r hr=>hc r (zA6.mp hr)]
  have go:∀ m:Nat,((List.range m).map fun (r:Nat)=>((-M).toNat:Int)+nf ns r).sum=(m:Int)*((-M).toNat:Int)+((List.range m).map (nf ns)).sum:=by
   intro m
   induction m with
   | zero=>simp
   | succ m ih=>
     rw [zB5,zA2,zA2,zC0,zC0,ih]
     simp only [zA9,zF1,zB3,zH3]
     rw [show ((m+1:Nat):Int)=(m:Int)+1 by lia,Int.add_mul,Int.one_mul]
     lia
  rw [go,hsum,Int.natCast_mul]
  lia
 have hll:(ax ns.length fun r=>(-M+nf ns r).toNat).length=ns.length*(-M).toNat:=by
  have:=bB ns.length fun r=>(-M+nf ns r).toNat
  rw [hct] at this
  lia
 have hk:ns.length*(-M).toNat<=12*30:=Nat.mul_le_mul h1 (by lia)
 have hpo:=kP (aQ h0 fun r=>(-M+nf ns r).toNat)
 refine ⟨⟨hpo,?_,?_,?_,?_⟩,fun r hr=>?_,by lia⟩
 · have:=dB (ax ns.length fun r=>(-M+nf ns r).toNat)
   lia
 · rw [j4 h0 hct]
   refine Eq.trans (zA4 fun r hr=>?_) (bI ns)
   rw [hc r (zA6.mp hr)]
   lia
 · exact oW h0 hct
 · have h2:=ei (n:=nf ns) h0 hc hsum
   unfold sz
   lia
 · have:=hnf r hr
   lia
theorem ok_co (F:Fun K "core_of" "core_of" (top 15) f fd) (m_min:mg "min" = none) (F_with_least_beads:FnA P w K mg base "with_least_beads" 2 ["numbers"] sp_wl):FnOk P w K mg base CX0 3 f fd ["numbers"] sp_co:=by
 refine F.okz sc_co (fun vs H Q E h=>?_) (fun cdv A outer s H vs Q E hr h=>?_)
 · obtain ⟨a,ns,rfl,_⟩:=h;rfl
 obtain ⟨a,ns,rfl,ha,h0,h1,hs,hb,q⟩:=h
 have nd:=sc_co.nd
 have hu:=hr.units
 have hne:ns≠[]:=fun z=>by rw [z] at h0;cases h0
 refine ⟨_,(af (ay (i:=1) nd rfl (Or.inr rfl) (gw du (m8 rfl rfl m_min (aa (zn 0) ae) rfl rfl)))
  (ai (aC (aF F_with_least_beads hr (by decide) rfl (aa (aN ["number"] [("rounds",1)] rfl ⟨rfl,by decide +kernel,by decide +kernel,rfl,rfl⟩ (hU (zn 0)) aM (fun _ _ _ _=>aj (i:=0) (show List.Nodup (["number","rounds"]:List Str) by decide +kernel) rfl (Or.inl rfl)) (fun _ _ _ _=>aH) (fun _ _ _ _=>(am aE (zn 1) (zn 0)))) ae))))),?_⟩
 refine ⟨ns,ha,hne,fun M hM hle=>?_⟩
 obtain ⟨cor,hc,hl9⟩:=cor_of h0 h1 hs hb hM hle
 refine ⟨M,rfl,?_⟩
 refine ⟨a,rfl,⟨_,SqT.of ha⟩,fq (xs:=ns.map V.int) (fun i zs H'=>H'=H/\zs=(List.range i).map fun (r:Nat)=>V.int ((-M+nf ns r).toNat)) ⟨rfl,rfl⟩ ?_ ?_ ?_⟩
 · rintro i zs H' _ ⟨rfl,_⟩
   exact SqT.of ha
 · rintro i x zs H' hx ⟨rfl,rfl⟩
   have hi:i<ns.length:=by
    have:=(List.getElem?_eq_some_iff.mp hx).1
    rw [zA0] at this
    exact this
   have ex:x=.int ns[i]:=by rw [fz hi] at hx;exact (Option.some.inj hx).symm
   subst ex
   refine ⟨by rw [zA0,zD2];exact aq (by lia),?_⟩
   refine ⟨rfl,?_⟩
   rw [zB5,zA2]
   show _++[V.int (-M+ns[i])]=_++[V.int ((-M+nf ns i).toNat)]
   rw [(hc i hi).1,bJ hi]
 · rintro zs H' ⟨rfl,rfl⟩ D hD
   rw [zA0]
   have yD:=Same.new hD (.lst ((List.range ns.length).map fun (r:Nat)=>V.int ((-M+nf ns r).toNat)))
   refine ⟨D,ns.length,fun r=>(-M+nf ns r).toNat,rfl,ad,by lia,fun r hr'=>by have:=(hc r hr').2;show (-M+nf ns r).toNat<=900;lia,hl9,fun r H2 y2 hr2=>?_⟩
   exact q r H2 _ (yD.trans y2) hr2 cor
end
end K51H
namespace K51
open PySem L2 M39 M40 M43 M48 M47 M81 M41
theorem cyc {t:Nat} (h3:T3 t) (h:Nat->Int):S t (fun i=>h ((i+t - 1) % t))=S t h:=by
 rcases h3 with rfl | rfl | rfl
 · show h 4+(h 0+(h 1+(h 2+(h 3+0))))=h 0+(h 1+(h 2+(h 3+(h 4+0))))
   lia
 · show h 6+(h 0+(h 1+(h 2+(h 3+(h 4+(h 5+0))))))=h 0+(h 1+(h 2+(h 3+(h 4+(h 5+(h 6+0))))))
   lia
 · show h 10+(h 0+(h 1+(h 2+(h 3+(h 4+(h 5+(h 6+(h 7+(h 8+(h 9+0))))))))))=h 0+(h 1+(h 2+(h 3+(h 4+(h 5+(h 6+(h 7+(h 8+(h 9+(h 10+0))))))))))
   lia
def mv (t:Nat) (f:Nat->Int) (i:Nat):Int:=f ((i+t - 1) % t)
theorem nb_mv {t:Nat} (h3:T3 t) (f:Nat->Int):nb t (mv t f)=nb t f:=cyc h3 fun k=>f k*(f k - f ((k+t - 1) % t))
theorem qs_mv {t:Nat} (h3:T3 t) (f:Nat->Int):qs t (mv t f)=qs t f:=by unfold qs;rw [nb_mv h3]
theorem sum_mv {t:Nat} (h3:T3 t) (f:Nat->Int):((List.range t).map (mv t f)).sum=((List.range t).map f).sum:=cyc h3 f
def shf (t:Nat) (f:Nat->Int):Int:=(S t fun i=>(i:Int)*f i) % (t:Int)
theorem shf_mv {t:Nat} (h3:T3 t) {f:Nat->Int} (h1:((List.range t).map f).sum=1):shf t (mv t f)=(shf t f+1) % (t:Int):=by
 rcases h3 with rfl | rfl | rfl
 · have h1:f 0+(f 1+(f 2+(f 3+(f 4+0))))=1:=h1
   show (0*f 4+(1*f 0+(2*f 1+(3*f 2+(4*f 3+0))))) % 5=((0*f 0+(1*f 1+(2*f 2+(3*f 3+(4*f 4+0))))) % 5+1) % 5
   lia
 · have h1:f 0+(f 1+(f 2+(f 3+(f 4+(f 5+(f 6+0))))))=1:=h1
   show (0*f 6+(1*f 0+(2*f 1+(3*f 2+(4*f 3+(5*f 4+(6*f 5+0))))))) % 7=((0*f 0+(1*f 1+(2*f 2+(3*f 3+(4*f 4+(5*f 5+(6*f 6+0))))))) % 7+1) % 7
   lia
 · have h1:f 0+(f 1+(f 2+(f 3+(f 4+(f 5+(f 6+(f 7+(f 8+(f 9+(f 10+0))))))))))=1:=h1
   show (0*f 10+(1*f 0+(2*f 1+(3*f 2+(4*f 3+(5*f 4+(6*f 5+(7*f 6+(8*f 7+(9*f 8+(10*f 9+0))))))))))) % 11=((0*f 0+(1*f 1+(2*f 2+(3*f 3+(4*f 4+(5*f 5+(6*f 6+(7*f 7+(8*f 8+(9*f 9+(10*f 10+0))))))))))) % 11+1) % 11
   lia
theorem kA {t:Nat} {f g:Nat->Int} (h:∀ i,i<t->f i=g i):shf t f=shf t g:=by
 unfold shf
 rw [aK fun i hi=>by rw [h i hi]]
theorem qJ {t:Nat} (h3:T3 t) (f:Nat->Int):0<=shf t f/\shf t f<t:=by
 have:(0:Int)<t:=by rcases h3 with rfl | rfl | rfl <;> decide
 exact ⟨zF6 _ (by lia),zF0 _ this⟩
theorem eU (ns:List Int) {t:Nat} (ht:0<t):sz (vec ns t)=(cor ns t).sum:=by
 have hl:=eO ns t
 have h:=ei (t:=t) (R:=rd ns t) (c:=fun r=>cnt (bd ns (t*rd ns t)) t r) (n:=nf (vec ns t)) ht (fun r hr=>by
  rw [bJ (show r<(vec ns t).length by rw [hl];exact hr)]
  simp only [vec,zG2,zG0]
  show (cnt (bd ns (t*rd ns t)) t r:Int)=(rd ns t:Int)+((cnt (bd ns (t*rd ns t)) t r:Int) - (rd ns t:Int))
  lia) (by
  have:=bI (vec ns t)
  rw [hl] at this
  rw [this]
  exact j3 ns ht)
 unfold sz
 rw [hl]
 have h2:2*(cor ns t).sum=(t:Int)*sq t (nf (vec ns t))+2*ro t (nf (vec ns t)):=h
 lia
theorem pF {t r:Nat} (f:Nat->Int) (hr:r<t):nf (vby t f) r=dt t f t r:=by
 rw [bJ (show r<(vby t f).length by rw [eP];exact hr)]
 simp [vby]
theorem nr {t:Nat} {n m:Nat->Int} (h:∀ r,r<t->n r=m r):sq t n=sq t m:=by
 unfold sq
 congr 1
 refine zA4 fun r hr=>?_
 rw [h r (zA6.mp hr)]
theorem nA {t:Nat} {n m:Nat->Int} (h:∀ r,r<t->n r=m r):ro t n=ro t m:=by
 unfold ro
 congr 1
 refine zA4 fun r hr=>?_
 rw [h r (zA6.mp hr)]
theorem ki {t:Nat} {f:Nat->Int} (h3:T3 t) (h1:((List.range t).map f).sum=1):sz (vby t f)=qs t f:=by
 have h:=kz h3 h1
 unfold sz
 have e1:sq t (nf (vby t f))=sq t (dt t f t):=nr fun r hr=>pF f hr
 have e2:ro t (nf (vby t f))=ro t (dt t f t):=nA fun r hr=>pF f hr
 rw [eP,e1,e2]
 lia
theorem S_low {e:Nat->Int}:∀ t:Nat,(∀ i,i<t->-9<=e i)->-(9*(t:Int))<=S t e
 | 0,_=>by rw [i4];lia
 | t+1,h=>by
   have:=S_low t fun i hi=>h i (by lia)
   have:=h t (by lia)
   rw [bX]
   lia
theorem S_one {e:Nat->Int}:∀ (t j:Nat),(∀ i,i<t->-9<=e i)->j<t->e j - 9*((t:Int) - 1)<=S t e
 | 0,j,_,hj=>by lia
 | t+1,j,h,hj=>by
   rw [bX]
   by_cases c:j=t
   · subst c
     have:=S_low j fun i hi=>h i (by lia)
     lia
   · have:=S_one t j (fun i hi=>h i (by lia)) (by lia)
     have:=h t (by lia)
     lia
theorem term {t r:Nat} (h3:T3 t) (hr:r<t) (a:Int):-9<=(t:Int)*(a*a)+2*((r:Int)*a)/\((a < -30\/30<a)->4000<=(t:Int)*(a*a)+2*((r:Int)*a)):=by
 by_cases c:0<=a
 · have h1:0<=(r:Int)*a:=Int.mul_nonneg (by lia) c
   have h2:0<=a*a:=Int.mul_nonneg c c
   refine ⟨by rcases h3 with rfl | rfl | rfl <;> lia,fun h=>?_⟩
   have h4:31*a<=a*a:=zI4 (by lia) c
   rcases h3 with rfl | rfl | rfl <;> lia
 · obtain ⟨b,rfl⟩:∃ b:Int,a=-b:=⟨-a,by lia⟩
   have hb:1<=b:=by lia
   have e1:-b * -b=b*b:=by rw [Int.neg_mul_neg]
   have e2:(r:Int) * -b=-((r:Int)*b):=by rw [Int.mul_neg]
   rw [e1,e2]
   have h1:(r:Int)*b<=((t:Int) - 1)*b:=zI4 (by lia) (by lia)
   have h2:b=1\/2*b<=b*b:=by
    by_cases d:b=1
    · exact .inl d
    · exact .inr (zI4 (by lia) (by lia))
   refine ⟨?_,fun h=>?_⟩
   · rcases h2 with rfl | h2
     · rcases h3 with rfl | rfl | rfl <;> lia
     · rcases h3 with rfl | rfl | rfl <;> lia
   · have h4:31*b<=b*b:=zI4 (by lia) (by lia)
     rcases h3 with rfl | rfl | rfl <;> lia
theorem lim30 {t:Nat} {n:Nat->Int} (h3:T3 t) (h:(t:Int)*sq t n+2*ro t n<=600):∀ r,r<t->-30<=n r/\n r<=30:=by
 intro r hr
 have e:(t:Int)*sq t n+2*ro t n=S t fun r=>(t:Int)*(n r*n r)+2*((r:Int)*n r):=by
  rw [dc,cu,cu];rfl
 rw [e] at h
 have h1:=S_one (e:=fun r=>(t:Int)*(n r*n r)+2*((r:Int)*n r)) t r (fun i hi=>(term h3 hi (n i)).1) hr
 have h2:=(term h3 hr (n r)).2
 have ht:(t:Int)<=11:=by rcases h3 with rfl | rfl | rfl <;> decide
 have h1:(t:Int)*(n r*n r)+2*((r:Int)*n r) - 9*((t:Int) - 1)<=S t (fun r=>(t:Int)*(n r*n r)+2*((r:Int)*n r)):=h1
 by_cases c:n r < -30\/30<n r
 · have:=h2 c
   lia
 · lia
structure Fit (t:Nat) (ns:List Int):Prop where
 prt:M81.Prt ns
 w:ns.sum<=300
 c:ns.sum % (t:Int)=cw t
def fr (ns:List Int) (t:Nat):List Int:=frm t (nf (vec ns t))
theorem bp {t:Nat} (h3:T3 t):0<t:=by rcases h3 with rfl | rfl | rfl <;> decide
theorem kL {ns:List Int} {t:Nat} (ht:0<t) (h:M81.Prt ns):0<=((List.range t).map fun (r:Nat)=>(quo ns t r).sum).sum:=by
 have:∀ l:List Nat,0<=(l.map fun (r:Nat)=>(quo ns t r).sum).sum:=by
  intro l
  induction l with
  | nil=>exact zE7 _
  | cons r l ih=>
    have:=cp (dA (r:=r) ht h).1
    rw [zA9,zB3]
    lia
 exact this _
theorem Fit.size {t:Nat} {ns:List Int} (h3:T3 t) (h:Fit t ns):sz (vec ns t) % (t:Int)=cw t/\0<=(cor ns t).sum/\(cor ns t).sum<=300:=by
 have ht:=bp h3
 have e:=cM ht h.prt
 have q:=kL ht h.prt
 have q2:0<=(t:Int)*((List.range t).map fun (r:Nat)=>(quo ns t r).sum).sum:=Int.mul_nonneg (by lia) q
 have hw:=h.w
 refine ⟨?_,?_,by lia⟩
 · rw [eU ns ht,← h.c,← e,zI1]
 · have:=kP (aQ ht fun r=>cnt (bd ns (t*rd ns t)) t r)
   have:=cp this.1
   have e:cor ns t=pt (ax t fun r=>cnt (bd ns (t*rd ns t)) t r):=rfl
   rw [e]
   lia
theorem Fit.frame {t:Nat} {ns:List Int} (h3:T3 t) (h:Fit t ns):(fr ns t).length=t/\(fr ns t).sum=1/\vby t (nf (fr ns t))=vec ns t:=
 frm_ok h3 (eO ns t) (j3 ns (bp h3)) (h.size h3).1
theorem Fit.fsum {t:Nat} {ns:List Int} (h3:T3 t) (h:Fit t ns):((List.range t).map (nf (fr ns t))).sum=1:=by
 obtain ⟨a,b,_⟩:=h.frame h3
 have:=bI (fr ns t)
 rw [a] at this
 rw [this,b]
def mvl (t:Nat) (fs:List Int):List Int:=(List.range t).map (mv t (nf fs))
theorem fP {t i:Nat} (fs:List Int) (h:i<t):nf (mvl t fs) i=mv t (nf fs) i:=by unfold mvl;exact iF _ h
theorem dE (t:Nat) (fs:List Int):(mvl t fs).length=t:=by unfold mvl;simp
theorem nV {t:Nat} (h3:T3 t) {f g:Nat->Int} (h:∀ i,i<t->f i=g i):qs t f=qs t g:=by
 have:nb t f=nb t g:=by
  unfold nb
  congr 1
  refine zA4 fun k hk=>?_
  rw [h k (zA6.mp hk),h _ (Nat.mod_lt _ (bp h3))]
 unfold qs
 rw [this]
theorem ku {t:Nat} {f g:Nat->Int} (h:∀ i,i<t->f i=g i):((List.range t).map f).sum=((List.range t).map g).sum:=aK h
theorem Fit.moved {t:Nat} {ns:List Int} (h3:T3 t) (h:Fit t ns):(vby t (nf (mvl t (fr ns t)))).length=t/\(vby t (nf (mvl t (fr ns t)))).sum=0/\sz (vby t (nf (mvl t (fr ns t))))=(cor ns t).sum/\(∀ n∈vby t (nf (mvl t (fr ns t))),-30<=n/\n<=30)/\(mvl t (fr ns t)).sum=1:=by
 have f1:=h.fsum h3
 have g0:((List.range t).map (nf (mvl t (fr ns t)))).sum=1:=by rw [ku fun i hi=>fP _ hi,sum_mv h3,f1]
 have e1:qs t (nf (mvl t (fr ns t)))=qs t (nf (fr ns t)):=by rw [nV h3 fun i hi=>fP _ hi,qs_mv h3]
 have e2:sz (vec ns t)=qs t (nf (fr ns t)):=by rw [← (h.frame h3).2.2,ki h3 f1]
 have e3:qs t (nf (mvl t (fr ns t)))=(cor ns t).sum:=by rw [e1,← e2,eU ns (bp h3)]
 refine ⟨eP _ _,qo h3 _,by rw [ki h3 g0,e3],fun n hn=>?_,?_⟩
 · obtain ⟨r,hr,rfl⟩:=zC5.mp hn
   have hr:=zA6.mp hr
   refine lim30 h3 (n:=dt t (nf (mvl t (fr ns t))) t) ?_ r hr
   have:=kz h3 g0
   have:=(h.size h3).2.2
   lia
 · have:=bI (mvl t (fr ns t))
   rw [dE] at this
   rw [← this,g0]
structure Trn (t:Nat) (ns ms:List Int):Prop where
 fit:Fit t ms
 sum_:ms.sum=ns.sum
 quo_:∀ r,r<t->quo ms t r=quo ns t r
 frm_:fr ms t=mvl t (fr ns t)
theorem o9 {t M:Nat} {ns cs:List Int} (h3:T3 t) (h:Fit t ns) (hv:vec cs t=vby t (nf (mvl t (fr ns t)))) (hf:cor cs t=cs) (hs:cs.sum=sz (vby t (nf (mvl t (fr ns t))))) (hM:∀ r,r<t->(quo ns t r).length<=M):Trn t ns (jn cs t M (quo ns t)):=by
 have ht:=bp h3
 have hq:∀ r,r<t->M81.Prt (quo ns t r):=fun r _=>dA ht h.prt
 obtain ⟨m1,m2,m3,m4,m5⟩:=h.moved h3
 obtain ⟨p1,p2,p3,p4⟩:=iK (cs:=cs) ht hq hM
 have es:(jn cs t M (quo ns t)).sum=ns.sum:=by
  rw [jn_sum ht hq hM,hf,hs,m3,cM ht h.prt]
 refine ⟨⟨p1,by rw [es];exact h.w,by rw [es];exact h.c⟩,es,p4,?_⟩
 have ev:vec (jn cs t M (quo ns t)) t=vby t (nf (mvl t (fr ns t))):=by
  have e0:vec (cor (jn cs t M (quo ns t)) t) t=vec (jn cs t M (quo ns t)) t:=ie ht
  rw [← e0,p3,hf,hv]
 have e:fr (jn cs t M (quo ns t)) t=frm t (nf (vec (jn cs t M (quo ns t)) t)):=rfl
 rw [e,ev]
 exact oN h3 (dE _ _) m5
def shr (ns:List Int) (t:Nat):Int:=shf t (nf (fr ns t))
theorem Trn.shr_ {t:Nat} {ns ms:List Int} (h3:T3 t) (h:Fit t ns) (x:Trn t ns ms):shr ms t=(shr ns t+1) % (t:Int):=by
 unfold shr
 rw [x.frm_,kA fun i hi=>fP _ hi]
 exact shf_mv h3 (h.fsum h3)
theorem sN {a b:List Int} {t:Nat} (h:vec a t=vec b t):cor a t=cor b t:=by
 have e:∀ r,r<t->cnt (bd a (t*rd a t)) t r+rd b t=cnt (bd b (t*rd b t)) t r+rd a t:=fun r hr=>by
  have:=congrArg (fun l=>nf l r) h
  simp only [vec] at this
  rw [iF _ hr,iF _ hr] at this
  have h2:(cnt (bd a (t*rd a t)) t r:Int) - (rd a t:Int)=(cnt (bd b (t*rd b t)) t r:Int) - (rd b t:Int):=this
  lia
 unfold cor
 rw [← bC t (fun r=>cnt (bd a (t*rd a t)) t r) (rd b t),← bC t (fun r=>cnt (bd b (t*rd b t)) t r) (rd a t)]
 congr 1
 exact bK e
theorem kM (ns:List Int) (t r:Nat):(quo ns t r).length<=t*rd ns t:=by
 unfold quo
 refine zC8 (dB _) ?_
 unfold rq
 rw [zA0]
 exact zC8 (List.length_filter_le _ _) (by rw [aS];exact zA1 _)
theorem home {a b:List Int} {t:Nat} (ht:0<t) (ha:M81.Prt a) (hb:M81.Prt b) (hv:vec a t=vec b t) (hq:∀ r,r<t->quo a t r=quo b t r):a=b:=by
 have hM:∀ r,r<t->(quo b t r).length<=t*rd b t:=fun r _=>kM b t r
 have hM2:∀ r,r<t->(quo a t r).length<=t*rd b t:=fun r hr=>by rw [hq r hr];exact hM r hr
 have ec:=sN hv
 exact (fW ht ha hM2).symm.trans ((congrArg pt (dj (fun r _=>by rw [ec]) hq)).trans (fW ht hb hM))
structure Went (t k:Nat) (ns ms:List Int):Prop where
 fit:Fit t ms
 sum_:ms.sum=ns.sum
 quo_:∀ r,r<t->quo ms t r=quo ns t r
 frm_:∀ i,i<t->nf (fr ms t) i=nf (fr ns t) ((i+k*(t - 1)) % t)
 shr_:shr ms t=(shr ns t+k) % (t:Int)
theorem eV {t:Nat} (h3:T3 t) (ns:List Int):0<=shr ns t/\shr ns t<t:=qJ h3 _
theorem Went.none_ {t:Nat} {ns:List Int} (h3:T3 t) (h:Fit t ns):Went t 0 ns ns:=
 ⟨h,rfl,fun _ _=>rfl,fun i hi=>by rw [Nat.zero_mul,zF5,zF3 hi],by
  have:=eV h3 ns
  rw [Int.emod_eq_of_lt (by lia) (by lia)];lia⟩
theorem Went.step {t k:Nat} {ns ms os:List Int} (h3:T3 t) (x:Went t k ns ms) (y:Trn t ms os):Went t (k+1) ns os:=by
 have ht:=bp h3
 refine ⟨y.fit,y.sum_.trans x.sum_,fun r hr=>(y.quo_ r hr).trans (x.quo_ r hr),fun i hi=>?_,?_⟩
 · rw [y.frm_,fP _ hi]
   unfold mv
   rw [x.frm_ _ (Nat.mod_lt _ ht),Nat.mod_add_mod]
   congr 2
   rw [Nat.add_mul]
   lia
 · rw [y.shr_ h3 x.fit,x.shr_,Int.emod_add_emod]
   congr 1
   lia
theorem Went.home {t:Nat} {ns ms:List Int} (h3:T3 t) (h:Fit t ns) (x:Went t t ns ms):ms=ns:=by
 have ht:=bp h3
 refine K51.home ht x.fit.prt h.prt ?_ x.quo_
 rw [← (x.fit.frame h3).2.2,← (h.frame h3).2.2]
 refine cv fun i hi=>?_
 rw [x.frm_ i hi,Nat.add_mul_mod_self_left,zF3 hi]
theorem gy {t j k:Nat} {ns a b:List Int} (h3:T3 t) (x:Went t j ns a) (y:Went t k ns b) (h:j<k) (hk:k<t):a≠b:=by
 rintro rfl
 have h1:=x.shr_
 have h2:=y.shr_
 rw [h1] at h2
 rcases h3 with rfl | rfl | rfl <;> lia
theorem Fit.vlim {t:Nat} {ns:List Int} (h3:T3 t) (h:Fit t ns):∀ n∈vec ns t,-30<=n/\n<=30:=by
 have f1:=h.fsum h3
 have f3:=(h.frame h3).2.2
 intro n hn
 rw [← f3] at hn
 obtain ⟨r,hr,rfl⟩:=zC5.mp hn
 refine lim30 h3 (n:=dt t (nf (fr ns t)) t) ?_ r (zA6.mp hr)
 have e1:=kz h3 f1
 have e2:sz (vec ns t)=qs t (nf (fr ns t)):=by rw [← f3,ki h3 f1]
 rw [eU ns (bp h3)] at e2
 have:=(h.size h3).2.2
 lia
theorem Fit.len {t:Nat} {ns:List Int} (h:Fit t ns):ns.length<=300:=by
 have:=cp h.prt.1
 have:=h.w
 lia
theorem oU {ws:List Int} {m:Nat} (h:ws.length=m+1):fA (ws.map V.int) (some (-1)) none=(ws.drop m).map V.int:=by
 unfold fA
 have e1:HT.sIx (ws.map V.int).length 0 (some (-1))=m:=by
  rw [zA0,h]
  simp only [HT.sIx]
  rw [if_pos (by decide)]
  lia
 rw [e1,HT.sIx_none,List.map_drop,zC2 (by rw [zC7];lia)]
theorem mvl_is {t m:Nat} {fs:List Int} (hl:fs.length=t) (ht:t=m+1):fs.drop m++fs.take m=mvl t fs:=by
 refine zD9 (by rw [dE,zA5,zC7,zB7];lia) fun i h1 h2=>?_
 rw [dE] at h2
 simp only [mvl,zG2,zG0,mv]
 by_cases c:i=0
 · subst c
   rw [zG3 (by rw [zC7];lia),List.getElem_drop,bJ (by rw [hl];exact Nat.mod_lt _ (by lia))]
   congr 1
   rw [zF3 (by lia)]
   lia
 · rw [zF9 (by rw [zC7];lia),zF7,bJ (by rw [hl];exact Nat.mod_lt _ (by lia))]
   congr 1
   rw [zC7,show i+t - 1=(i - 1)+t by lia,Nat.add_mod_right,zF3 (by lia)]
   lia
theorem qV {ns:List Int} {t r:Nat} (h:r<t):(K51H.quos ns t).getD r []=quo ns t r:=by
 unfold K51H.quos quo
 simp [h]
theorem qW {t:Nat} {ns:List Int} (h3:T3 t) (h:Fit t ns):∃ B:Nat,(∀ r,r<t->(quo ns t r).length<=B)/\t*B<=300:=by
 have ht:=bp h3
 have e:=cM ht h.prt
 have hq:=kL ht h.prt
 have hs:=(h.size h3).2
 have hw:=h.w
 refine ⟨((List.range t).map fun (r:Nat)=>(quo ns t r).sum).sum.toNat,fun r hr=>?_,?_⟩
 · have h1:=cp (dA (r:=r) ht h.prt).1
   have h2:∀ l:List Nat,0<=(l.map fun (r:Nat)=>(quo ns t r).sum).sum/\(r∈l->(quo ns t r).sum<=(l.map fun (r:Nat)=>(quo ns t r).sum).sum):=by
    intro l
    induction l with
    | nil=>exact ⟨zE7 _,fun h=>by simp at h⟩
    | cons a l ih=>
      have h1:=cp (dA (r:=a) ht h.prt).1
      rw [zA9,zB3]
      refine ⟨by lia,fun hm=>?_⟩
      rcases zB2.mp hm with rfl | hm
      · lia
      · have:=ih.2 hm
        lia
   have:=(h2 (List.range t)).2 (zA6.mpr hr)
   lia
 · have h1:((t*((List.range t).map fun (r:Nat)=>(quo ns t r).sum).sum.toNat:Nat):Int)=(t:Int)*((List.range t).map fun (r:Nat)=>(quo ns t r).sum).sum:=by
    rw [Int.natCast_mul,Int.toNat_of_nonneg hq]
   lia
section
variable {P:Program} {w:World} {K:PySem.W.Frag} {mg:Str->Option Value} {base:Heap} {f:Addr} {fd:FuncData}
theorem sc_cf:FnScope ["t","parting"] ["t","parting"] (ag (top 26)):=⟨rfl,rfl,rfl,by decide +kernel,rfl,by decide +kernel,by decide +kernel⟩
def nw:Sp:=fun vs H Q _=>∃ (a:Addr) (ns:List Int) (t:Nat),vs=[.int t,.ref a]/\H a=some (.tup (ns.map V.int))/\T3 t/\Fit t ns/\∀ r H',Same H H'->H' r=some (.tup ((fr ns t).map V.int))->Q (.ref r) H'
theorem ok_cf (F:Fun K "core_frame" "core_frame" (top 26) f fd)  (F_frame_of:FnA P w K mg base "frame_of" 6 ["t","numbers"] qE) (F_vector:FnA P w K mg base "vector" 3 ["parting","t"] (cy K)):FnOk P w K mg base CX0 7 f fd ["t","parting"] nw:=by
 refine F.okz sc_cf (fun vs H Q E h=>?_) (fun cdv A outer s H vs Q E hr h=>?_)
 · obtain ⟨a,ns,t,rfl,_⟩:=h;rfl
 obtain ⟨a,ns,t,rfl,ha,h3,hf,q⟩:=h
 have nd:=sc_cf.nd
 have hu:=hr.units
 have tl:5<=t/\t<=11:=by rcases h3 with rfl | rfl | rfl <;> decide
 have hl:=hf.len
 refine ⟨_,(ai (aC (aF F_frame_of hr (by decide) rfl (aa (zn 0) (aa (aF F_vector hr (by decide) rfl (aa (zn 1) (aa (zn 0) ae))) ae))))),?_⟩
 refine ⟨a,ns,t,rfl,.inl ⟨ha,fM ns (by lia)⟩,by lia,by lia,by lia,fun r1 H1 y1 hr1=>?_⟩
 refine ⟨r1,vec ns t,t,rfl,hr1,h3,eO ns t,fun n hn=>?_,(hf.size h3).1,fun r2 H2 y2 hr2=>?_⟩
 · have:=hf.vlim h3 n hn
   exact bt_of (by lia) (by lia)
 · exact q r2 H2 (y1.trans y2) hr2
theorem sc_tu:FnScope ["t","parting","frame","moved","quotients"] ["t","parting"] (ag (top 27)):=⟨rfl,rfl,rfl,by decide +kernel,rfl,by decide +kernel,by decide +kernel⟩
def qz:Sp:=fun vs H Q _=>∃ (a:Addr) (ns:List Int) (t:Nat),vs=[.int t,.ref a]/\H a=some (.tup (ns.map V.int))/\T3 t/\Fit t ns/\∀ r H' ms,Same H H'->H' r=some (.tup (ms.map V.int))->Trn t ns ms->Q (.ref r) H'
theorem ok_tu (F:Fun K "turned_on" "turned_on" (top 27) f fd)  (F_apart:FnA P w K mg base "apart" 3 ["parting","t"] K51H.sp_apart) (F_core_frame:FnA P w K mg base "core_frame" 7 ["t","parting"] nw) (F_core_of:FnA P w K mg base "core_of" 3 ["numbers"] K51H.sp_co) (F_joined:FnA P w K mg base "joined" 5 ["core","quotients"] K51H.sp_jn) (F_vector_by:FnA P w K mg base "vector_by" 5 ["t","frame"] qy):FnOk P w K mg base CX0 8 f fd ["t","parting"] qz:=by
 refine F.okz sc_tu (fun vs H Q E h=>?_) (fun cdv A outer s H vs Q E hr h=>?_)
 · obtain ⟨a,ns,t,rfl,_⟩:=h;rfl
 obtain ⟨a,ns,t,rfl,ha,h3,hf,q⟩:=h
 have nd:=sc_tu.nd
 have hu:=hr.units
 have tl:5<=t/\t<=11:=by rcases h3 with rfl | rfl | rfl <;> decide
 have hl:=hf.len
 obtain ⟨f1,f2,f3⟩:=hf.frame h3
 obtain ⟨m,hm⟩:∃ m,t=m+1:=⟨t - 1,by lia⟩
 refine ⟨_,(af (ay (i:=2) nd rfl (Or.inl rfl) (aF F_core_frame hr (by decide) rfl (aa (zn 0) (aa (zn 1) ae))))
  (af (ay (i:=3) nd rfl (Or.inl rfl) (am aE (bY tx (zn 2) (cP (gw du ah)) cQ) (bY tx (zn 2) cQ (cP (gw du ah)))))
  (af (ay (i:=4) nd rfl (Or.inl rfl) (bh dL (aF F_apart hr (by decide) rfl (aa (zn 1) (aa (zn 0) ae))) ah (fun _ _=>rfl)))
  (ai (aC (aF F_joined hr (by decide) rfl (aa (aF F_core_of hr (by decide) rfl (aa (aF F_vector_by hr (by decide) rfl (aa (zn 0) (aa (zn 3) ae))) ae)) (aa (zn 4) ae)))))))),?_⟩
 refine ⟨a,ns,t,rfl,ha,h3,hf,fun r1 H1 y1 hr1=>?_⟩
 refine ⟨1,rfl,_,rfl,r1,rfl,.inl ⟨_,hr1,fun r2 H2 y2 hr2=>?_⟩⟩
 have hr2:H2 r2=some (.tup (((fr ns t).drop m).map V.int)):=by rw [← oU (m:=m) (by lia)];exact hr2
 refine ⟨1,rfl,_,rfl,r1,rfl,.inl ⟨_,y2 _ _ hr1,fun r3 H3 y3 hr3=>?_⟩⟩
 have hr3:H3 r3=some (.tup (((fr ns t).take m).map V.int)):=by rw [← iW (m:=m) (by lia)];exact hr3
 refine .inr ⟨_,_,y3 _ _ hr2,hr3,cT (by rw [zA0,zA0,zC7,zB7];lia),fun r4 H4 y4 hr4=>?_⟩
 have e4:((fr ns t).drop m).map V.int++((fr ns t).take m).map V.int=(mvl t (fr ns t)).map V.int:=by rw [← zA2,mvl_is f1 hm]
 rw [e4] at hr4
 have z4:=((y1.trans y2).trans y3).trans y4
 refine ⟨a,ns,t,rfl,z4 _ _ ha,by lia,by lia,by lia,fun p H5 y5 ap=>?_⟩
 obtain ⟨c,d,qs,e1,e2,e3,e4⟩:=ap
 refine ⟨_,.inr e1,.ref d,rfl,?_⟩
 refine ⟨r4,mvl t (fr ns t),t,rfl,y5 _ _ hr4,h3,dE _ _,fun r6 H6 y6 hr6=>?_⟩
 obtain ⟨m1,m2,m3,m4,m5⟩:=hf.moved h3
 refine ⟨r6,_,rfl,hr6,by rw [m1];lia,by rw [m1];lia,m2,m4,fun r7 H7 cs y7 hr7 hc=>?_⟩
 obtain ⟨B,hB,tB⟩:=qW h3 hf
 have hv:vec cs t=vby t (nf (mvl t (fr ns t))):=by have:=hc.vec_;rw [m1] at this;exact this
 have hx:cor cs t=cs:=by have:=hc.fix_;rw [m1] at this;exact this
 have hs:=hc.sum_
 have hc4:cs.length<=300:=by
  have:=cp hc.prt.1
  have:=(hf.size h3).2.2
  lia
 have ql:(K51H.quos ns t).length=t:=by unfold K51H.quos;simp
 have qb:∀ ls∈K51H.quos ns t,∃ r,r<t/\ls=quo ns t r:=fun ls h=>by
  obtain ⟨r,hr,rfl⟩:=zC5.mp h
  exact ⟨r,zA6.mp hr,rfl⟩
 refine ⟨r7,d,cs,qs,K51H.quos ns t,t,B,rfl,hr7,(y6.trans y7) _ _ e3,(e4.same y6).same y7,ql,by lia,by lia,by lia,hx,fun ls h=>?_,?_,fun r8 H8 M y8 hM hMB hr8=>?_⟩
 · obtain ⟨r,hr,rfl⟩:=qb ls h
   exact hB r hr
 · have:=qQ cs (t:=t) (by lia)
   rw [Nat.mul_add]
   lia
 · have ej:(pt (jb t (fun r=>ct cs (t*(rd cs t+M)) t r) fun r=>(K51H.quos ns t).getD r []))=jn cs t M (quo ns t):=by
    unfold jn
    rw [dj (fun _ _=>rfl) fun r hr=>qV hr]
   rw [ej] at hr8
   refine q r8 H8 _ ((((z4.trans y5).trans y6).trans y7).trans y8) hr8 (o9 h3 hf hv hx hs fun r hr=>?_)
   exact hM _ (zC5.mpr ⟨r,zA6.mpr hr,rfl⟩)
theorem sc_sh:FnScope ["t","parting"] ["t","parting"] (ag (top 28)):=⟨rfl,rfl,rfl,by decide +kernel,rfl,by decide +kernel,by decide +kernel⟩
def qC:Sp:=fun vs H Q _=>∃ (a:Addr) (ns:List Int) (t:Nat),vs=[.int t,.ref a]/\H a=some (.tup (ns.map V.int))/\T3 t/\Fit t ns/\∀ H',Same H H'->Q (.int (shr ns t)) H'
theorem ok_sh (F:Fun K "share" "share" (top 28) f fd) (m_enumerate:mg "enumerate" = none) (m_sum:mg "sum" = none) (F_core_frame:FnA P w K mg base "core_frame" 7 ["t","parting"] nw):FnOk P w K mg base CX0 8 f fd ["t","parting"] qC:=by
 refine F.okz sc_sh (fun vs H Q E h=>?_) (fun cdv A outer s H vs Q E hr h=>?_)
 · obtain ⟨a,ns,t,rfl,_⟩:=h;rfl
 obtain ⟨a,ns,t,rfl,ha,h3,hf,q⟩:=h
 have nd:=sc_sh.nd
 have hu:=hr.units
 have tl:5<=t/\t<=11:=by rcases h3 with rfl | rfl | rfl <;> decide
 obtain ⟨f1,f2,f3⟩:=hf.frame h3
 refine ⟨_,(ai (aC (am bf (dk rfl rfl m_sum (aa (aN ["place","number"] [] rfl ⟨rfl,by decide +kernel,by decide +kernel,rfl,rfl⟩ (bD rfl m_enumerate (aa (aF F_core_frame hr (by decide) rfl (aa (zn 0) (aa (zn 1) ae))) ae)) dJ (fun _ _ _ _=>ce rfl (aA (aj (i:=0) (show List.Nodup (["place","number"]:List Str) by decide +kernel) rfl (Or.inl rfl)) (aA (aj (i:=1) (show List.Nodup (["place","number"]:List Str) by decide +kernel) rfl (Or.inl rfl)) bx))) (fun _ _ _ _=>aH) (fun _ _ _ _=>(am aG (zn 0) (zn 1)))) ae) rfl rfl) (zn 0)))),?_⟩
 refine ⟨a,ns,t,rfl,ha,h3,hf,fun r1 H1 y1 hr1=>?_⟩
 refine ⟨true,_,SqK.tup hr1,cJ (xs:=(fr ns t).map V.int) (fun i zs H'=>Same H1 H'/\zs=(tE (fr ns t) i).map V.int) ⟨Same.refl _,rfl⟩ ?_ ?_ ?_ ?_⟩
 · rintro i zs H' _ ⟨y,_⟩
   exact SqK.tup (y _ _ hr1)
 · rintro i zs H' hi ⟨_,rfl⟩
   rw [zA0] at hi ⊢
   unfold tE
   rw [zA0,zD2]
   exact aq (by lia)
 · rintro i x zs H' p hx ⟨y,rfl⟩ hp
   have hi:i<(fr ns t).length:=by
    have:=(List.getElem?_eq_some_iff.mp hx).1
    rw [zA0] at this
    exact this
   have ex:x=.int (fr ns t)[i]:=by rw [fz hi] at hx;exact (Option.some.inj hx).symm
   subst ex
   refine ⟨p,_,rfl,SqT.of ad,rfl,_,_,rfl,_,_,rfl,rfl,?_⟩
   refine ⟨lj (by lia) (by lia),?_⟩
   refine ⟨y.trans (Same.new hp _),?_⟩
   unfold tE
   rw [zB5,zA2,zA2]
   show _++[V.int ((i:Int)*(fr ns t)[i])]=_++[V.int ((i:Int)*nf (fr ns t) i)]
   rw [bJ hi]
 · rintro zs H2 ⟨y,rfl⟩ D2 hD2
   rw [zA0,f1]
   refine ⟨_,.inl (SqL.of ad),?_⟩
   refine ⟨by lia,?_⟩
   exact q _ ((y1.trans y).trans (Same.new hD2 _))
end
end K51
namespace L2
open PySem PySem.Spec PyProof.Rows
theorem sx {n j:Nat} (h:j<n):ixN n (j:Int)=some j:=by
 unfold ixN
 rw [if_pos (by lia),if_pos (by lia),zF4]
theorem gH {n:Nat} (h:n<=6000):n<sizeLine:=by rw [sizeLine_eq];lia
theorem line6k {n:Nat} (h:n<=6000):n<=sizeLine:=zJ0 (gH h)
def tD (ls:List Int):PyData:=.tuple (ls.map PyData.int)
theorem Tps.all {H:Hp}:∀ {us lss},Tps H us lss->DatAll H us (lss.map tD)
 | _,_,.nil=>.nil
 | _,_,.cons h r=>.cons (.ints h) (Tps.all r)
theorem mh:∀ lss:List (List Int),PyData.canLayAll0 (lss.map tD)=true/\PyData.depthAll (lss.map tD)<=2
 | []=>⟨by simp [PyData.canLayAll0],by simp [PyData.depthAll]⟩
 | ls::r=>by
   obtain ⟨h1,h2⟩:=mh r
   obtain ⟨g1,g2⟩:=ft ls
   refine ⟨by simp only [zA9,PyData.canLayAll0,tD,PyData.canLay0,g1,Bool.true_and];exact h1,?_⟩
   simp only [zA9,PyData.depthAll,tD,PyData.depth]
   exact Nat.max_le.mpr ⟨by lia,h2⟩
end L2
namespace M17
open MRow M80
def blk (s:Nat):Nat->List Int->List Int->List Int
 | 0,_,_=>[]
 | f+1,prev,l=>match l with
   | []=>[]
   | _=>List.zipWith (· + ·) (l.take s) prev++blk s f (List.zipWith (· + ·) (l.take s) prev) (l.drop s)
def putL (L s:Nat) (l:List Int):List Int:=blk s (L / s+1) (List.replicate s 0) l
def tbf (g:Nat->Int) (p L:Nat):List Int:=(List.range L).map fun j=>g (p+j)
theorem cm (g:Nat->Int) (p L:Nat):(tbf g p L).length=L:=by unfold tbf;simp
theorem cW {g:Nat->Int} {p L i:Nat} (h:i<(tbf g p L).length):(tbf g p L)[i]=g (p+i):=by simp [tbf]
theorem nl (g:Nat->Int) (p L s:Nat):(tbf g p L).take s=tbf g p (min s L):=by
 unfold tbf;rw [← List.map_take,List.take_range]
theorem np (g:Nat->Int) (p L s:Nat):(tbf g p L).drop s=tbf g (p+s) (L - s):=by
 refine zD9 (by simp [tbf]) fun i h1 h2=>?_
 rw [List.getElem_drop,cW,cW,zI5]
theorem qu (g:Nat->Int) (p a b:Nat):tbf g p a++tbf g (p+a) b=tbf g p (a+b):=by
 refine zD9 (by simp [tbf]) fun i h1 h2=>?_
 rw [List.getElem_append]
 split
 · rw [cW,cW]
 · rename_i c
   have c':¬ i<a:=by rw [cm] at c;exact c
   rw [cW,cW]
   congr 1
   rw [cm]
   lia
theorem zip_is {g:Nat->Int} {s p k:Nat} {prev:List Int} (hs:0<s) (hk:k<=s) (hl:prev.length=s) (hp:∀ j,j<k->prev.getD j 0=if s<=p+j then put g s (p+j - s) else 0) :
 List.zipWith (· + ·) (tbf g p k) prev=tbf (put g s) p k:=by
 refine zD9 (by rw [List.length_zipWith,cm,cm];lia) fun i h1 h2=>?_
 have hi:i<k:=by rw [cm] at h2;exact h2
 rw [List.getElem_zipWith]
 have e:=hp i hi
 rw [zA3,List.getElem?_eq_getElem (by lia)] at e
 have e:prev[i]=if s<=p+i then put g s (p+i - s) else 0:=e
 rw [e,cW,cW,pA g hs (p+i)]
theorem pX {g:Nat->Int} {s:Nat} (hs:0<s):∀ (f p L:Nat) (prev:List Int),L<f*s->prev.length=s->(∀ j,j<min s L->prev.getD j 0=if s<=p+j then put g s (p+j - s) else 0)->blk s f prev (tbf g p L)=tbf (put g s) p L
 | 0,p,L,prev,h,_,_=>by lia
 | f+1,p,0,prev,_,_,_=>rfl
 | f+1,p,L+1,prev,h,hl,hp=>by
   have e0:∃ x r,tbf g p (L+1)=x::r:=by
    cases e:tbf g p (L+1) with
    | nil=>have:=cm g p (L+1);rw [e] at this;cases this
    | cons x r=>exact ⟨x,r,rfl⟩
   obtain ⟨x,r,e0⟩:=e0
   have e1:blk s (f+1) prev (tbf g p (L+1))=List.zipWith (· + ·) ((tbf g p (L+1)).take s) prev++blk s f (List.zipWith (· + ·) ((tbf g p (L+1)).take s) prev) ((tbf g p (L+1)).drop s):=by rw [e0];rfl
   rw [e1,nl,np,zip_is hs (Nat.min_le_left _ _) hl hp]
   by_cases c:L+1<=s
   · have z:L+1 - s=0:=by lia
     rw [z,Nat.min_eq_right c]
     have:blk s f (tbf (put g s) p (L+1)) (tbf g (p+s) 0)=[]:=by cases f <;> rfl
     rw [this,zE3]
   · rw [Nat.min_eq_left (by lia),pX hs f (p+s) (L+1 - s) (tbf (put g s) p s) (by rw [Nat.succ_mul] at h;lia) (cm _ _ _) fun j hj=>?_,qu,show s+(L+1 - s)=L+1 by lia]
     have hj':j<s:=by lia
     unfold tbf
     rw [zA3,List.getElem?_map,List.getElem?_range hj',if_pos (by lia),show p+s+j - s=p+j by lia]
     rfl
theorem pc (g:Nat->Int) (L:Nat):tb g L=tbf g 0 L:=by unfold tb tbf;exact zA4 fun j _=>by rw [zJ1]
theorem rb (g:Nat->Int) {s:Nat} (hs:0<s) (L:Nat):putL L s (tb g L)=tb (put g s) L:=by
 unfold putL
 rw [pc,pc]
 refine pX hs _ 0 L _ ?_ (zH0 ..) fun j hj=>?_
 · have:=Nat.lt_mul_div_succ L hs
   rw [Nat.mul_comm]
   exact this
 · rw [if_neg (by lia),zA3,List.getElem?_replicate,if_pos (by lia)]
   rfl
def PLL (L:Nat) (l:List Int) (ss:List Nat):List Int:=ss.foldl (fun l s=>putL L s l) l
theorem p0 (L:Nat):∀ (ss:List Nat) (g:Nat->Int),(∀ x∈ss,0<x)->PLL L (tb g L) ss=tb (PL g ss) L
 | [],_,_=>rfl
 | s::ss,g,h=>by
   show PLL L (putL L s (tb g L)) ss=_
   rw [rb g (h s zA8),p0 L ss _ fun x hx=>h x (zB4 s hx)]
   rfl
end M17
namespace M12
open MRow M80 M17
def fl (p:Nat->Bool) (n:Nat):List Nat:=(ups n).filter p
theorem sD (p:Nat->Bool) (n:Nat):fl p (n+1)=fl p n++if p (n+1)=true then [n+1] else []:=by
 unfold fl
 rw [ups_succ,zH4]
 congr 1
 by_cases h:p (n+1)=true
 · rw [if_pos h,zH7 h];rfl
 · rw [if_neg h,zH6 h];rfl
theorem fl_all (n:Nat):fl (fun _=>true) n=ups n:=by
 unfold fl
 exact List.filter_eq_self.mpr fun _ _=>rfl
end M12
namespace M11
open MRow M80 M17 M12
def lsN (prev:Nat->List (List Nat)) (s:Nat):Nat->Nat->List (List Nat)
 | 0,n=>prev n
 | f+1,n=>(if s<=n then (lsN prev s f (n - s)).map (s::·) else [])++prev n
def Lst:Nat->Nat->List (List Nat)
 | 0=>fun n=>if n=0 then [[]] else []
 | m+1=>fun n=>lsN (Lst m) (m+1) n n
theorem di {f:Nat->List (List Nat)} {s:Nat} (hs:0<s):∀ (k n:Nat),n<=k->lsN f s k n=lsN f s n n
 | 0,n,h=>by have:n=0:=by lia
             subst this;rfl
 | k+1,0,_=>by
   show (if s<=0 then _ else [])++f 0=f 0
   rw [if_neg (by lia)];rfl
 | k+1,n+1,h=>by
   show (if s<=n+1 then (lsN f s k (n+1 - s)).map (s::·) else [])++f (n+1)=(if s<=n+1 then (lsN f s n (n+1 - s)).map (s::·) else [])++f (n+1)
   by_cases hn:s<=n+1
   · rw [if_pos hn,if_pos hn,di hs k _ (by lia),di hs n _ (by lia)]
   · rw [if_neg hn,if_neg hn]
theorem ls_eq (m n:Nat):Lst (m+1) n=(if m+1<=n then (Lst (m+1) (n - (m+1))).map ((m+1)::·) else [])++Lst m n:=by
 show lsN (Lst m) (m+1) n n=(if m+1<=n then (lsN (Lst m) (m+1) (n - (m+1)) (n - (m+1))).map ((m+1)::·) else [])++Lst m n
 rw [← di (by lia) (n+1) n (by lia)]
 show (if m+1<=n then (lsN (Lst m) (m+1) n (n - (m+1))).map ((m+1)::·) else [])++Lst m n=_
 by_cases hn:m+1<=n
 · rw [if_pos hn,if_pos hn,di (by lia) n _ (by lia)]
 · rw [if_neg hn,if_neg hn]
def cn (m n:Nat) (p:List Nat->Bool):Int:=((Lst m n).countP p:Nat)
theorem cn_zero (n:Nat) (p:List Nat->Bool):cn 0 n p=if p []=true then dl n else 0:=by
 unfold cn
 show ((List.countP p (if n=0 then [[]] else []):Nat):Int)=_
 unfold dl
 by_cases h:n=0
 · rw [if_pos h,if_pos h]
   cases hp:p [] with
   | true=>rw [List.countP_cons_of_pos hp];rfl
   | false=>rw [List.countP_cons_of_neg (by rw [hp];decide)];rfl
 · rw [if_neg h,if_neg h]
   cases p [] <;> rfl
theorem gX (m n:Nat) (p:List Nat->Bool):cn (m+1) n p=(if m+1<=n then cn (m+1) (n - (m+1)) (fun l=>p ((m+1)::l)) else 0)+cn m n p:=by
 unfold cn
 rw [ls_eq,List.countP_append,Int.natCast_add]
 congr 1
 by_cases h:m+1<=n
 · rw [if_pos h,if_pos h,List.countP_map]
   rfl
 · rw [if_neg h,if_neg h]
   rfl
theorem iZ {m n:Nat} {p q:List Nat->Bool} (h:∀ l∈Lst m n,p l=q l):cn m n p=cn m n q:=by
 unfold cn
 rw [List.countP_congr fun l hl=>by rw [h l hl]]
theorem sO {m n:Nat} {p:List Nat->Bool} (h:∀ l∈Lst m n,p l=false):cn m n p=0:=by
 rw [iZ (q:=fun _=>false) h]
 unfold cn
 rw [List.countP_false]
 rfl
theorem ls_mem:∀ m n l,l∈Lst m n->(∀ x∈l,1<=x/\x<=m)/\l.sum=n:=by
 intro m
 induction m with
 | zero=>
   intro n l h
   have h:l∈(if n=0 then [[]] else []):=h
   by_cases e:n=0
   · rw [if_pos e] at h
     rw [zD4.mp h]
     exact ⟨fun x hx=>(nomatch hx),e.symm⟩
   · rw [if_neg e] at h;cases h
 | succ m ih=>
   intro n
   induction n using Nat.strongRecOn with
   | _ n ihn=>
     intro l h
     rw [ls_eq] at h
     rcases zC1.mp h with h | h
     · by_cases e:m+1<=n
       · rw [if_pos e] at h
         obtain ⟨y,hy,rfl⟩:=zC5.mp h
         obtain ⟨a,b⟩:=ihn (n - (m+1)) (by lia) y hy
         refine ⟨fun x hx=>?_,by rw [zB3,b];lia⟩
         rcases zB2.mp hx with e | e
         · lia
         · exact a x e
       · rw [if_neg e] at h;cases h
     · obtain ⟨a,b⟩:=ih n l h
       exact ⟨fun x hx=>by have:=a x hx;lia,b⟩
theorem cn_all (p:Nat->Bool):∀ m n,cn m n (fun l=>l.all p)=PL dl (fl p m) n:=by
 intro m
 induction m with
 | zero=>intro n;rw [cn_zero];rfl
 | succ m ih=>
   intro n
   rw [sD]
   cases hp:p (m+1) with
   | false=>
     rw [if_neg (by decide),zE3,← ih n,gX]
     rw [show (if m+1<=n then cn (m+1) (n - (m+1)) (fun l=>((m+1)::l).all p) else 0)=0 from ?_]
     · lia
     · split
       · exact sO fun l _=>by rw [List.all_cons,hp];rfl
       · rfl
   | true=>
     rw [if_pos rfl,PL_app]
     show _=put (PL dl (fl p m)) (m+1) n
     induction n using Nat.strongRecOn with
     | _ n ihn=>
       rw [gX,pA _ (by lia),ih n]
       by_cases h:m+1<=n
       · rw [if_pos h,if_pos h,← ihn (n - (m+1)) (by lia)]
         have:cn (m+1) (n - (m+1)) (fun l=>((m+1)::l).all p)=cn (m+1) (n - (m+1)) (fun l=>l.all p):=iZ fun l _=>by rw [List.all_cons,hp];rfl
         rw [this]
         lia
       · rw [if_neg h,if_neg h];lia
end M11
namespace M66
open MRow M80 M17 M12 M11
theorem cn_pos (m n:Nat) (p:List Nat->Bool):0<=cn m n p:=by unfold cn;lia
theorem cn_up (m n:Nat) (p:List Nat->Bool):cn m n p<=cn (m+1) n p:=by
 rw [gX]
 have:0<=(if m+1<=n then cn (m+1) (n - (m+1)) (fun l=>p ((m+1)::l)) else 0):=by
  split
  · exact cn_pos _ _ _
  · decide
 lia
theorem pW {m:Nat} (n:Nat) (p:List Nat->Bool):∀ e,cn m n p<=cn (m+e) n p
 | 0=>zE7 _
 | e+1=>zD6 (pW n p e) (cn_up (m+e) n p)
theorem cn_le {a b:Nat} (n:Nat) (p:List Nat->Bool) (h:a<=b):cn a n p<=cn b n p:=by
 have:=pW (m:=a) n p (b - a)
 rw [show a+(b - a)=b by lia] at this
 exact this
def Fl:List Nat->Prop
 | []=>True
 | [a]=>1<=a
 | a::b::r=>b<=a/\Fl (b::r)
theorem Fl.tail {a:Nat} {r:List Nat} (h:Fl (a::r)):Fl r:=by
 cases r with
 | nil=>trivial
 | cons b r=>exact h.2
theorem Fl.pos:∀ {x:List Nat},Fl x->∀ a∈x,1<=a
 | [],_,_,h=>nomatch h
 | [b],h,a,ha=>by rw [zD4.mp ha];exact h
 | b::c::r,h,a,ha=>by
   rcases zB2.mp ha with e | e
   · have:=Fl.pos h.2 c zA8
     have:=h.1
     lia
   · exact Fl.pos h.2 a e
theorem Fl.head {b:Nat}:∀ {r:List Nat},Fl (b::r)->∀ a∈b::r,a<=b
 | [],_,a,ha=>by rw [zD4.mp ha];exact zA1 _
 | c::r,h,a,ha=>by
   rcases zB2.mp ha with e | e
   · lia
   · have:=Fl.head h.2 a e
     have:=h.1
     lia
end M66
namespace SRV
open PySem PySem.W PySem.Calls
open PyProof.Rows hiding K SortedTo K_bubble K_mirror K_congr K_mirror_equal
def lexb:List Int->List Int->Bool
 | [],[]=>false
 | [],_::_=>true
 | _::_,[]=>false
 | a::as,b::bs=>if a=b then lexb as bs else decide (a<b)
end SRV
namespace M63
open M11 M66 SRV
def toI (x:List Nat):List Int:=x.map fun (k:Nat)=>(k:Int)
def Asc (m n:Nat):List (List Nat):=(Lst m n).reverse
theorem cL (n:Nat):Asc 0 n=if n=0 then [[]] else []:=by
 unfold Asc
 show (if n=0 then [[]] else []:List (List Nat)).reverse=_
 split <;> rfl
theorem asc_eq (m n:Nat):Asc (m+1) n=Asc m n++(if m+1<=n then (Asc (m+1) (n - (m+1))).map ((m+1)::·) else []):=by
 unfold Asc
 rw [ls_eq,List.reverse_append]
 congr 1
 split
 · rw [List.map_reverse]
 · rfl
theorem asc_mem {m n:Nat} {x:List Nat}:x∈Asc m n↔x∈Lst m n:=List.mem_reverse
theorem fu {m n:Nat} (h:n<=m):Asc m n=Asc n n:=by
 obtain ⟨e,rfl⟩:∃ e,m=n+e:=⟨m - n,by lia⟩
 induction e with
 | zero=>rfl
 | succ e ih=>rw [show n+(e+1)=(n+e)+1 by lia,asc_eq,if_neg (by lia),zE3];exact ih (by lia)
theorem ls_fl:∀ (m n:Nat) (x:List Nat),x∈Asc m n->Fl x:=by
 intro m
 induction m with
 | zero=>
   intro n x hx
   rw [cL] at hx
   split at hx
   · rw [zD4.mp hx];trivial
   · cases hx
 | succ m ih=>
   intro n
   induction n using Nat.strongRecOn with
   | ind n ihn=>
     intro x hx
     rw [asc_eq] at hx
     rcases zC1.mp hx with hx | hx
     · exact ih n x hx
     · split at hx
       · rename_i hn
         obtain ⟨y,hy,rfl⟩:=zC5.mp hx
         have fy:=ihn _ (by lia) y hy
         have by':=(ls_mem _ _ y (asc_mem.mp hy)).1
         cases y with
         | nil=>show 1<=m+1;lia
         | cons b r=>exact ⟨(by' b zA8).2,fy⟩
       · cases hx
theorem asc_up:∀ (m n:Nat),(Asc m n).Pairwise (fun a b=>lexb (toI a) (toI b)=true):=by
 intro m
 induction m with
 | zero=>
   intro n
   rw [cL]
   split
   · exact List.pairwise_singleton _ _
   · exact .nil
 | succ m ih=>
   intro n
   induction n using Nat.strongRecOn with
   | ind n ihn=>
     rw [asc_eq]
     refine zD1.mpr ⟨ih n,?_,fun a ha b hb=>?_⟩
     · split
       · rename_i hn
         rw [zG6]
         refine (ihn _ (by lia)).imp fun {a b} h=>?_
         show lexb (((m+1:Nat):Int)::toI a) (((m+1:Nat):Int)::toI b)=true
         rw [lexb,if_pos rfl]
         exact h
       · exact .nil
     · split at hb
       · obtain ⟨y,hy,rfl⟩:=zC5.mp hb
         show lexb (toI a) (((m+1:Nat):Int)::toI y)=true
         cases a with
         | nil=>rfl
         | cons c r=>
           have:=((ls_mem _ _ _ (asc_mem.mp ha)).1 c zA8).2
           show lexb ((c:Int)::toI r) (((m+1:Nat):Int)::toI y)=true
           rw [lexb,if_neg (by lia)]
           exact decide_eq_true (by lia)
       · cases hb
end M63
namespace M05
open MRow M80 M17 M12 M11 M66 M63 MP
theorem eJ {n:Nat} (h:n≠0):∀ m,Asc m n=(List.range m).flatMap fun i=>if i+1<=n then (Asc (i+1) (n - (i+1))).map ((i+1)::·) else []
 | 0=>by rw [cL,if_neg h];rfl
 | m+1=>by
   rw [asc_eq,eJ h m,zB5,List.flatMap_append]
   simp
theorem PB_asc:∀ (N n m:Nat),n<=N->PB n m=(Asc m n).map toI:=by
 intro N
 induction N with
 | zero=>
   intro n m h
   have:n=0:=by lia
   subst this
   rw [hJ]
   rw [fu (zC6 m),cL]
   rfl
 | succ N ih=>
   intro n m h
   by_cases h0:n=0
   · subst h0
     rw [hJ,fu (zC6 m),cL]
     rfl
   · have e:Asc m n=Asc (min n m) n:=by
      by_cases hm:n<=m
      · rw [Nat.min_eq_left hm,fu hm]
      · rw [Nat.min_eq_right (by lia)]
     rw [tj h0,e,eJ h0,List.map_flatMap]
     refine flat_congr fun i hi=>?_
     have hi:=zA6.mp hi
     rw [if_pos (by lia),zE4]
     unfold MP.blk
     rw [ih (n - (i+1)) (i+1) (by lia),zE4]
     rfl
theorem row30:PLL 31 (tb dl 31) (ups 30)=[1,1,2,3,5,7,11,15,22,30,42,56,77,101,135,176,231,297,385,490,627,792,1002,1255,1575,1958,2436,3010,3718,4565,5604]:=by decide +kernel
theorem sr {n:Nat} (h:n<=30):((Lst 30 n).length:Int)=([1,1,2,3,5,7,11,15,22,30,42,56,77,101,135,176,231,297,385,490,627,792,1002,1255,1575,1958,2436,3010,3718,4565,5604]:List Int).getD n 0:=by
 have e1:cn 30 n (fun l=>l.all fun _=>true)=PL dl (fl (fun _=>true) 30) n:=cn_all _ 30 n
 rw [fl_all] at e1
 have e2:PLL 31 (tb dl 31) (ups 30)=tb (PL dl (ups 30)) 31:=p0 31 _ dl (by decide)
 rw [row30] at e2
 have e3:cn 30 n (fun l=>l.all fun _=>true)=((Lst 30 n).length:Int):=by
  unfold cn
  congr 1
  rw [List.countP_eq_length]
  exact fun x _=>List.all_eq_true.mpr fun _ _=>rfl
 rw [← e3,e1,e2,zA3,tb_get (by lia)]
 rfl
theorem len30 {n:Nat} (h:n<=30):(Lst 30 n).length<=6000:=by
 have e:=sr h
 have key:((List.range 31).all fun n=>decide (([1,1,2,3,5,7,11,15,22,30,42,56,77,101,135,176,231,297,385,490,627,792,1002,1255,1575,1958,2436,3010,3718,4565,5604]:List Int).getD n 0<=6000))=true:=by decide +kernel
 have:=of_decide_eq_true (List.all_eq_true.mp key n (zA6.mpr (by lia)))
 lia
theorem mS {m n:Nat} (hn:n<=30):(Asc m n).length<=6000:=by
 have key:∀ m,m<=30->(Asc m n).length<=6000:=fun m hm=>by
  unfold Asc
  rw [List.length_reverse]
  have h30:=len30 hn
  have le:=cn_le n (fun _=>true) hm
  unfold cn at le
  rw [List.countP_true] at le
  lia
 by_cases hm:m<=30
 · exact key m hm
 · rw [fu (by lia)]
   exact key n hn
theorem PB_len30 {n m:Nat} (hn:n<=30):(PB n m).length<=6000:=by rw [PB_asc n n m (zA1 n),zA0];exact mS hn
end M05
namespace M10
open M66 M63
theorem iM:∀ (m n:Nat) (x:List Nat),Fl x->(∀ a∈x,a<=m)->x.sum=n->x∈M11.Lst m n
 | 0,n,x,f,h,s=>by
   cases x with
   | nil=>rw [← s];exact zD4.mpr rfl
   | cons a r=>have:=h a zA8;have:=Fl.pos f a zA8;lia
 | m+1,n,[],f,h,s=>by
   rw [M11.ls_eq]
   exact zB0 _ (iM m n [] f (fun a ha=>nomatch ha) s)
 | m+1,n,a::r,f,h,s=>by
   rw [M11.ls_eq]
   have ha:=h a zA8
   rw [zB3] at s
   by_cases e:a=m+1
   · subst e
     refine zF8 _ ?_
     rw [if_pos (by lia)]
     exact zC5.mpr ⟨r,iM (m+1) (n - (m+1)) r f.tail (fun b hb=>h b (zB4 _ hb)) (by lia),rfl⟩
   · refine zB0 _ (iM m n (a::r) f (fun b hb=>?_) (by rw [zB3];exact s))
     have:=Fl.head f b hb
     lia
 termination_by m n x=>(m,x.length)
theorem pH:∀ {x:List Nat} {a:Nat},a∈x->a<=x.sum
 | [],_,h=>nomatch h
 | b::r,a,h=>by
   rw [zB3]
   rcases zB2.mp h with e | e
   · lia
   · have:=pH e;lia
theorem asc_iff {n:Nat} {x:List Nat}:x∈Asc n n↔Fl x/\x.sum=n:=by
 refine ⟨fun h=>⟨ls_fl _ _ _ h,(M11.ls_mem _ _ _ (asc_mem.mp h)).2⟩,fun ⟨f,s⟩=>asc_mem.mpr (iM n n x f (fun a ha=>?_) s)⟩
 have:=pH ha
 lia
theorem Fl.of:∀ {x:List Nat},(∀ a∈x,1<=a)->x.Pairwise (·>=·)->Fl x
 | [],_,_=>trivial
 | [a],h,_=>h a zA8
 | a::b::r,h,p=>⟨(List.pairwise_cons.mp p).1 b zA8,Fl.of (fun c hc=>h c (zB4 _ hc)) (List.pairwise_cons.mp p).2⟩
theorem Fl.pwI:∀ {x:List Nat},Fl x->(toI x).Pairwise (·>=·)
 | [],_=>.nil
 | a::r,f=>.cons (fun b hb=>by
     obtain ⟨c,hc,rfl⟩:=zC5.mp hb
     have:=Fl.head f c (zB4 _ hc)
     show (c:Int)<=(a:Int)
     lia) (Fl.pwI f.tail)
theorem Fl.oneI {x:List Nat} (f:Fl x):∀ n∈toI x,(1:Int)<=n:=fun n hn=>by
 obtain ⟨a,ha,rfl⟩:=zC5.mp hn
 have:=Fl.pos f a ha
 lia
theorem qt {x y:List Nat} (h:toI x=toI y):x=y:=by
 have:=congrArg (List.map Int.toNat) h
 unfold toI at this
 rw [zE4,zE4] at this
 have id':∀ z:List Nat,z.map (Int.toNat ∘ fun (k:Nat)=>(k:Int))=z:=fun z=>by
  conv=>rhs;rw [← List.map_id z]
  exact zA4 fun a _=>zF4 a
 rwa [id',id'] at this
theorem ko (x:List Nat):(toI x).sum=(x.sum:Int):=by
 unfold toI
 induction x with
 | nil=>rfl
 | cons a r ih=>rw [zA9,zB3,zB3,ih];lia
end M10
namespace M55
open MRow M80 M12 M11 M66 M63 M10 MP
theorem pb_nd (n:Nat):(PB n n).Nodup:=by
 rw [M05.PB_asc n n n (zA1 n)]
 have nd:(Asc n n).Nodup:=(asc_up n n).imp fun {a b} h e=>by
  subst e
  have irr:∀ l:List Int,SRV.lexb l l=false:=by
   intro l
   induction l with
   | nil=>rfl
   | cons a r ih=>rw [SRV.lexb,if_pos rfl];exact ih
  rw [irr] at h
  cases h
 unfold List.Nodup
 rw [zG6]
 exact nd.imp fun {a b} h e=>h (qt e)
theorem toI_of {p:List Int} (h:∀ x∈p,(1:Int)<=x):toI (p.map Int.toNat)=p:=by
 unfold toI
 rw [zE4]
 conv=>rhs;rw [← List.map_id p]
 refine zA4 fun z hz=>?_
 have:=h z hz
 show ((z.toNat:Nat):Int)=z
 lia
theorem pb_iff {n:Nat} {p:List Int}:p∈PB n n↔(∀ x∈p,(1:Int)<=x)/\p.Pairwise (·>=·)/\p.sum=(n:Int):=by
 rw [M05.PB_asc n n n (zA1 n),zC5]
 constructor
 · rintro ⟨x,hx,rfl⟩
   obtain ⟨f,s⟩:=asc_iff.mp hx
   exact ⟨Fl.oneI f,Fl.pwI f,by rw [ko,s]⟩
 · rintro ⟨h1,h2,h3⟩
   have e:=toI_of h1
   refine ⟨p.map Int.toNat,asc_iff.mpr ⟨Fl.of (fun a ha=>?_) ?_,?_⟩,e⟩
   · obtain ⟨z,hz,rfl⟩:=zC5.mp ha
     have:=h1 z hz
     lia
   · rw [zG6]
     exact h2.imp fun {a b} h=>by show b.toNat<=a.toNat;have h':b<=a:=h;lia
   · have:=ko (p.map Int.toNat)
     rw [e,h3] at this
     lia
end M55
namespace M51
open MP M55
def al:Nat->Nat->Nat->List (List Int)
 | _,0,_=>[[]]
 | 0,_+1,_=>[]
 | f+1,n+1,m=>(List.range (min (n+1) m)).flatMap fun i=>(al f (n+1 - (min (n+1) m - i)) (min (n+1) m - i)).map fun b=>((min (n+1) m - i:Nat):Int)::b
theorem mU (f m:Nat):al f 0 m=[[]]:=by cases f <;> rfl
theorem g9:∀ (f n m:Nat),n<=f->al f n m=al n n m
 | f,0,m,_=>by rw [mU,mU]
 | 0,n+1,m,h=>by lia
 | f+1,n+1,m,h=>by
   show (List.range (min (n+1) m)).flatMap _=(List.range (min (n+1) m)).flatMap _
   refine flat_congr fun i hi=>?_
   have hi:=zA6.mp hi
   have h1:n+1 - (min (n+1) m - i)<=n:=by lia
   rw [g9 f _ _ (by lia),g9 n _ _ h1]
def AL (n m:Nat):List (List Int):=al n n m
def ab (n p:Nat):List (List Int):=(AL (n - p) p).map fun b=>(p:Int)::b
def as (n k i:Nat):List (List Int):=(List.range i).flatMap fun j=>ab n (k - j)
theorem AL_zero (m:Nat):AL 0 m=[[]]:=rfl
theorem AL_eq {n:Nat} (h:n≠0) (m:Nat):AL n m=as n (min n m) (min n m):=by
 cases n with
 | zero=>exact absurd rfl h
 | succ n=>
   show (List.range (min (n+1) m)).flatMap _=(List.range (min (n+1) m)).flatMap _
   refine flat_congr fun i hi=>?_
   have hi:=zA6.mp hi
   show (al n _ _).map _=(al _ _ _).map _
   rw [g9 n _ _ (by lia)]
theorem as_succ (n k i:Nat):as n k (i+1)=as n k i++ab n (k - i):=by unfold as;rw [zB5,List.flatMap_append];simp
theorem eF {α β:Type} {f g:α->List β}:∀ {l:List α},(∀ a∈l,(f a).Perm (g a))->(l.flatMap f).Perm (l.flatMap g)
 | [],_=>.nil
 | a::l,h=>by
   rw [zD8,zD8]
   exact (h a zA8).append (eF fun b hb=>h b (zB4 _ hb))
theorem qP (k:Nat):(List.range k).map (fun j=>k - 1 - j)=(List.range k).reverse:=by
 refine zD9 (by simp) fun i h1 h2=>?_
 simp
theorem al_perm:∀ (N n m:Nat),n<=N->(AL n m).Perm (PB n m)
 | N,0,m,_=>by rw [AL_zero,hJ]
 | 0,n+1,m,h=>by lia
 | N+1,n+1,m,h=>by
   rw [AL_eq (by lia),tj (by lia)]
   unfold as
   have e:(List.range (min (n+1) m)).flatMap (fun j=>ab (n+1) (min (n+1) m - j))=((List.range (min (n+1) m)).map fun j=>min (n+1) m - 1 - j).flatMap (fun i=>ab (n+1) (i+1)):=by
    rw [List.flatMap_map]
    refine flat_congr fun j hj=>?_
    have hj:=zA6.mp hj
    rw [show min (n+1) m - 1 - j+1=min (n+1) m - j by lia]
   rw [e,qP]
   refine ((zG9 _).flatMap_right _).trans (eF fun i hi=>?_)
   have hi:=zA6.mp hi
   unfold ab blk
   exact (al_perm N _ _ (by lia)).map _
theorem al_iff {n:Nat} {p:List Int}:p∈AL n n↔(∀ x∈p,(1:Int)<=x)/\p.Pairwise (·>=·)/\p.sum=(n:Int):=(al_perm n n n (zA1 _)).mem_iff.trans pb_iff
theorem al_nd (n:Nat):(AL n n).Nodup:=(al_perm n n n (zA1 _)).nodup_iff.mpr (pb_nd n)
theorem al_len (n m:Nat):(AL n m).length=(PB n m).length:=(al_perm n n m (zA1 _)).length_eq
def cs {α:Type} (l:List α) (s:α->Nat) (j:Nat):Nat:=(l.filter fun x=>decide (s x=j)).length
theorem sub_len {α:Type} [DecidableEq α]:∀ {l m:List α},l.Nodup->(∀ x∈l,x∈m)->l.length<=m.length
 | [],m,_,_=>zC6 _
 | a::l,m,h,hs=>by
   have ha:=hs a zA8
   have h2:=List.nodup_cons.mp h
   have:=sub_len (l:=l) (m:=m.erase a) h2.2 fun x hx=>(List.mem_erase_of_ne fun z=>h2.1 (by rw [← z];exact hx)).mpr (hs x (zB4 _ hx))
   have hm:m.length=(m.erase a).length+1:=by
    have:=List.length_erase_of_mem ha
    have:0<m.length:=List.length_pos_of_mem ha
    lia
   rw [zB9]
   lia
theorem cs_up {α:Type} [DecidableEq α] {l:List α} {s:α->Nat} {f:α->α} {t:Nat} (nd:l.Nodup) (hf:∀ x∈l,f x∈l) (inj:∀ x∈l,∀ y∈l,f x=f y->x=y) (hs:∀ x∈l,s (f x)=(s x+1) % t) (j:Nat) (hj:j<t):cs l s j<=cs l s ((j+1) % t):=by
 unfold cs
 have h1:((l.filter fun x=>decide (s x=j)).map f).length<=(l.filter fun x=>decide (s x=(j+1) % t)).length:=by
  refine sub_len ?_ fun y hy=>?_
  · refine List.Pairwise.map _ (R:=fun a b=>a∈l/\b∈l/\a≠b) (fun a b hab z=>hab.2.2 (inj a hab.1 b hab.2.1 z)) ?_
    refine List.Pairwise.imp_of_mem (fun {a b} ha hb hab=>⟨(zH2.mp ha).1,(zH2.mp hb).1,hab⟩) (nd.filter _)
  · obtain ⟨x,hx,rfl⟩:=zC5.mp hy
    obtain ⟨x1,x2⟩:=zH2.mp hx
    have x2:=of_decide_eq_true x2
    refine zH2.mpr ⟨hf x x1,decide_eq_true ?_⟩
    rw [hs x x1,x2]
 rwa [zA0] at h1
theorem pV {α:Type} {s:α->Nat} {t:Nat}:∀ (l:List α),(∀ x∈l,s x<t)->((List.range t).map (cs l s)).sum=l.length
 | [],_=>by
   have:(List.range t).map (cs ([]:List α) s)=List.replicate t 0:=by
    refine zD9 (by simp) fun i h1 h2=>?_
    simp [cs]
   rw [this]
   simp
 | x::l,h=>by
   have ih:=pV l fun y hy=>h y (zB4 _ hy)
   have hx:=h x zA8
   have e:∀ j,cs (x::l) s j=cs l s j+if s x=j then 1 else 0:=fun j=>by
    unfold cs
    rw [List.filter_cons]
    by_cases c:s x=j
    · rw [if_pos (decide_eq_true c),if_pos c,zB9]
    · rw [if_neg (by simpa using c),if_neg c,zF5]
   have g:∀ r:List Nat,(r.map (cs (x::l) s)).sum=(r.map (cs l s)).sum+r.countP fun j=>decide (s x=j):=fun r=>by
    induction r with
    | nil=>rfl
    | cons a r ihr=>
      rw [zA9,zB3,zA9,zB3,List.countP_cons,ihr,e]
      by_cases c:s x=a
      · simp [c];lia
      · simp [c];lia
   rw [g,ih,zB9]
   have:(List.range t).countP (fun j=>decide (s x=j))=1:=by
    have hc:=M39.cnt_one t (s x)
    rw [if_pos hx] at hc
    rw [← hc]
    refine List.countP_congr fun j _=>?_
    simp [eq_comm]
   lia
theorem up_all {g:Nat->Nat} {t:Nat} (h:∀ j,j<t->g j<=g ((j+1) % t)):∀ j,j<t->g j=g 0:=by
 have a:∀ j,j<t->g 0<=g j:=by
  intro j
  induction j with
  | zero=>intro _;exact zA1 _
  | succ j ih=>
    intro hj
    have:=h j (by lia)
    rw [zF3 hj] at this
    exact zC8 (ih (by lia)) this
 have b:∀ d j,j+d+1=t->g j<=g 0:=by
  intro d
  induction d with
  | zero=>
    intro j hj
    have:=h j (by lia)
    rw [show j+1=t by lia,Nat.mod_self] at this
    exact this
  | succ d ih=>
    intro j hj
    have:=h j (by lia)
    rw [zF3 (by lia)] at this
    exact zC8 this (ih (j+1) (by lia))
 intro j hj
 have:=a j hj
 have:=b (t - 1 - j) j (by lia)
 lia
theorem even {α:Type} [DecidableEq α] {l:List α} {s:α->Nat} {f:α->α} {t:Nat} (ht:0<t) (nd:l.Nodup) (hf:∀ x∈l,f x∈l) (inj:∀ x∈l,∀ y∈l,f x=f y->x=y) (hs:∀ x∈l,s (f x)=(s x+1) % t) (hl:∀ x∈l,s x<t):(∀ j,j<t->cs l s j=l.length / t)/\l.length % t=0:=by
 have u:=up_all (g:=cs l s) fun j hj=>cs_up nd hf inj hs j hj
 have e:=pV l hl
 have c:(List.range t).map (cs l s)=List.replicate t (cs l s 0):=by
  refine zD9 (by simp) fun i h1 h2=>?_
  rw [zG2,zG0,List.getElem_replicate]
  exact u i (by simpa using h1)
 rw [c,List.sum_replicate_nat] at e
 refine ⟨fun j hj=>?_,by rw [← e];exact Nat.mul_mod_right _ _⟩
 rw [u j hj,← e,Nat.mul_div_cancel_left _ ht]
end M51
namespace K51
open PySem L2 M39 M40 M43 M48 M47 M81 M41
theorem jF:∀ k:Nat,k<31->(Builtin.Range.rangeSize (k:Int) 0 (-1)).toNat=k/\Builtin.Range.small (k:Int) 0 (-1)=true:=by decide +kernel
theorem fw {n m:Nat} (h:n<=30):(M51.AL n m).length<=6000:=by rw [M51.al_len];exact M05.PB_len30 h
theorem o0 {n k i:Nat} (h:n<=30) (hk:k<=n) (h0:n≠0) (hi:i<=k):(M51.as n k i).length<=6000:=by
 have e:=fw (m:=k) h
 rw [M51.AL_eq h0,Nat.min_eq_right hk] at e
 obtain ⟨d,rfl⟩:∃ d,k=i+d:=⟨k - i,by lia⟩
 have mono:∀ d,(M51.as n (i+d) i).length<=(M51.as n (i+d) (i+d)).length:=fun d=>by
  have:∀ e,(M51.as n (i+d) i).length<=(M51.as n (i+d) (i+e)).length:=fun e=>by
   induction e with
   | zero=>exact zA1 _
   | succ e ih=>rw [← zI5,M51.as_succ,zA5];lia
  exact this d
 exact zC8 (mono d) e
theorem ke {H:Hp} {bs:List (List Int)} {ws:List V} (h:Tps H ws bs):∀ {us:List V} {as:List (List Int)},Tps H us as->Tps H (us++ws) (as++bs)
 | _,_,.nil=>h
 | _,_,.cons e r=>.cons e (ke h r)
section
variable {P:Program} {w:World} {K:PySem.W.Frag} {mg:Str->Option Value} {base:Heap} {f:Addr} {fd:FuncData}
def kx:Nat->Sp
 | 0=>fun _ _ _ _=>False
 | N+1=>fun vs H Q _=>∃ n m:Nat,vs=[.int n,.int m]/\n<=N/\n<=30/\∀ F us H',H F=none->Same H H'->H' F=some (.lst us)->Tps H' us (M51.AL n m)->Q (.ref F) H'
theorem sc_al:FnScope ["_law_n","_law_top","_law_found","_law_part"] ["_law_n","_law_top"] (ag (top 32)):=⟨rfl,rfl,rfl,by decide +kernel,rfl,by decide +kernel,by decide +kernel⟩
theorem al_ok (F:Fun K "_law_all" "_law_all" (top 32) f fd) (m_min:mg "min" = none) (m_range:mg "range" = none) (b:Binds K fd ["_law_n","_law_top"] []) (kp:PySem.W.keepIn K (.ref f)=true) (m:mg "_law_all" = some (.ref f)):∀ N,FnOk P w K mg base CX0 N f fd ["_law_n","_law_top"] (kx N)
 | 0=>⟨fun _ _ _ _ h=>h.elim,fun _ _ _ _ _ _ _ _ _ _ _ _ _ h=>h.elim⟩
 | N+1=>by
   have F_law_all:FnA P w K mg base "_law_all" N ["_law_n","_law_top"] (kx N):=⟨⟨f,fd,al_ok F m_min m_range b kp m N,b,kp,m⟩⟩
   refine F.okz sc_al (fun vs H Q E h=>?_) (fun cdv A outer s H vs Q E hr h=>?_)
   · obtain ⟨n,m,rfl,_⟩:=h;rfl
   obtain ⟨n,m,rfl,hN,hn,q⟩:=h
   have nd:=sc_al.nd
   have hu:=hr.units
   refine ⟨_,(af (cY (aY (eD hu) (zn 0) ah (bn _)) (ai (aC (a0 (aa (ee ae) ae)))) bb)
    (af (ay (i:=2) nd rfl (Or.inl rfl) (a0 ae))
    (af (bo PassesOwn.never rfl (jU rfl m_range (aa (qg rfl rfl m_min (aa (zn 0) (aa (zn 1) ae)) rfl rfl) (aa ah (aa (gw du ah) ae)))) (aj (i:=3) nd rfl (Or.inr rfl)) (ai (cO (jT (zn 2) (aa (aN ["_law_rest"] [("_law_part",3)] rfl ⟨rfl,by decide +kernel,by decide +kernel,rfl,rfl⟩ (aP (aF F_law_all hr (zA1 _) rfl (aa (am bG (zn 0) (zn 3)) (aa (zn 3) ae)))) aM (fun _ _ _ _=>aj (i:=0) (show List.Nodup (["_law_rest","_law_part"]:List Str) by decide +kernel) rfl (Or.inl rfl)) (fun _ _ _ _=>aH) (fun _ _ _ _=>(am aE (ee (aa (zn 1) ae)) (zn 0)))) ae)))))
    (ai (aC (zn 2)))))),?_⟩
   refine tG (fun c=>?_) (fun c=>?_)
   · have e0:n=0:=by have:=V.int.inj c;lia
     subst e0
     refine ⟨by show 0<=sizeLine;decide,fun t ht=>?_⟩
     have y1:=Same.new ht (.tup [])
     refine ⟨by show 1<=sizeLine;decide,fun L hL=>?_⟩
     refine q L [.ref t] _ (aZ y1 hL) (y1.trans (Same.new hL _)) ad ?_
     rw [M51.AL_zero]
     exact .cons (ls:=[]) (Same.new hL _ _ _ ad) .nil
   · have e0:n≠0:=fun z=>c (by show V.int (n:Int)=V.int 0;rw [z];rfl)
     obtain ⟨N',rfl⟩:∃ N',N=N' + 1:=⟨N - 1,by lia⟩
     refine ⟨by show 0<=sizeLine;decide,fun L hL=>?_⟩
     have yL:=Same.new hL (.lst [])
     have gL:upd H L (.lst []) L=some (.lst []):=ad
     generalize upd H L (.lst [])=H1 at yL gL
     have em:(if (m:Int)<(n:Int) then (m:Int) else (n:Int))=((min n m:Nat):Int):=by split <;> lia
     have hl2:6000<sizeLine:=gH (zA1 _)
     generalize hk:min n m=k at em
     have kn:k<=n:=by lia
     obtain ⟨r1,r2⟩:=jF k (by lia)
     refine ⟨1,rfl,(k:Int),0,-1,by rw [← em],⟨by decide,⟨by decide,by decide⟩,r2⟩,?_⟩
     rw [r1]
     refine jD (fun i σ H'=>i<=k/\Same H H'/\∃ us x3,H' L=some (.lst us)/\Tps H' us (M51.as n k i)/\σ=[some (.int n),some (.int m),some (.ref L),x3]) ⟨zC6 _,yL,[],none,gL,.nil,rfl⟩ ?_ ?_
     · rintro i σ H2 hi ⟨_,y2,us,x3,hL2,tp2,rfl⟩
       have e2:(k:Int)+(i:Int) * -1=((k - i:Nat):Int):=by lia
       have e1:(n:Int) - ((k - i:Nat):Int)=((n - (k - i):Nat):Int):=by lia
       rw [e2]
       refine ⟨tyL hL2,?_⟩
       refine ⟨n - (k - i),k - i,by dsimp only;rw [e1],by lia,by lia,fun B vs H3 hB y3 hB3 tpB=>?_⟩
       have BL:B≠L:=fun z=>by rw [z,hL2] at hB;cases hB
       have hL3:=y3 _ _ hL2
       have tp3:=tp2.same y3
       have z3:=y2.trans y3
       have lvs:=tpB.length
       have lall:=fw (n:=n - (k - i)) (m:=k - i) (by lia)
       refine ⟨B,rfl,⟨_,SqL.of hB3⟩,bu (xs:=vs) (fun j zs H'=>Same H3 H'/\Tps H' zs ((M51.ab n (k - i)).take j)) ⟨Same.refl _,.nil⟩ ?_ ?_ ?_⟩
       · rintro j zs H' _ ⟨y,_⟩
         exact SqL.of (y _ _ hB3)
       · rintro j z zs H4 hz ⟨y4,tp4⟩
         have hj:j<vs.length:=(List.getElem?_eq_some_iff.mp hz).1
         obtain ⟨ls,b',hls,rfl,hb'⟩:=tpB.get hz
         have l4:=tp4.length
         rw [zB7] at l4
         refine ⟨by lia,?_⟩
         refine ⟨by show 1<=sizeLine;decide,fun d hd=>?_⟩
         have yd:=Same.new hd (.tup [V.int ((k - i:Nat):Int)])
         have hb5:=yd _ _ (y4 _ _ hb')
         have lls:ls.length<=30:=by
          have:=(MP.PB_pos _ _ _ (zA1 _) ls ((M51.al_perm _ _ _ (zA1 _)).mem_iff.mp (zG7 hls))).2.1
          lia
         refine .inr ⟨_,_,ad,hb5,zC8 (show 1+(ls.map V.int).length<=1000 by rw [zA0];lia) (by rw [sizeLine_eq];lia),fun r H6 y6 hr6=>?_⟩
         have hr7:H6 r=some (.tup ((((k - i:Nat):Int)::ls).map V.int)):=hr6
         refine ⟨(y4.trans yd).trans y6,?_⟩
         have eb:(M51.ab n (k - i))[j]? = some (((k - i:Nat):Int)::ls):=by unfold M51.ab;rw [List.getElem?_map,hls];rfl
         rw [zE1,eb]
         exact Tps.snoc hr7 ((tp4.same yd).same y6)
       · rintro zs H4 ⟨y4,tp4⟩ D hD
         have eb:(M51.ab n (k - i)).length=vs.length:=by unfold M51.ab;rw [zA0,lvs]
         rw [zC2 (by rw [eb];exact zA1 _)] at tp4
         have yD:=Same.new hD (.lst zs)
         have hL5:=yD _ _ (y4 _ _ hL3)
         have tz:=tp4.same yD
         have tu:=(tp3.same y4).same yD
         have z5:=(z3.trans y4).trans yD
         have gD:upd H4 D (.lst zs) D=some (.lst zs):=ad
         generalize upd H4 D (.lst zs)=H5 at hL5 tz tu z5 gD
         have la:=o0 (n:=n) (k:=k) (i:=i+1) hn kn e0 (by lia)
         rw [M51.as_succ,zA5] at la
         have lu:=tu.length
         have lz:=tz.length
         refine ⟨us,zs,hL5,gD,by lia,?_⟩
         refine ⟨by lia,Same.updN z5 hL,us++zs,_,ad,?_,rfl⟩
         rw [M51.as_succ]
         exact (ke tz tu).updL hL5
     · rintro σ H2 ⟨_,y2,us,x3,hL2,tp2,rfl⟩
       refine q L us H2 hL y2 hL2 ?_
       rw [M51.AL_eq e0,hk]
       exact tp2
theorem ok_al (N:Nat) (F:Fun K "_law_all" "_law_all" (top 32) f fd) (m_min:mg "min" = none) (m_range:mg "range" = none) (b:Binds K fd ["_law_n","_law_top"] []) (kp:PySem.W.keepIn K (.ref f)=true) (m:mg "_law_all" = some (.ref f)):FnOk P w K mg base CX0 N f fd ["_law_n","_law_top"] (kx N):=al_ok F m_min m_range b kp m N
end
end K51
namespace L2
open PySem PySem.Spec PyProof.Rows
section
variable {X:Cx}
def rInL:R2:=fun x y H Q=>∃ (ds:List PyData) (d:PyData),DatV H y (.list ds)/\DatV H x d/\PyData.canLayAll0 ds=true/\d.canLay0=true/\min (PyData.depthAll ds) d.depth<=30/\Q (.bl (ds.any fun z=>PyData.eqv z d)) H
theorem op_inL (hu:X.A.units+64<cLine):OpR X (compareOp .In) rInL:=by
 intro pins s σ H x y v u Q I rx ry h
 obtain ⟨ds,d,h1,h2,h3,h4,h5,q⟩:=h
 obtain ⟨as,r1⟩:=h1.reads I ry
 obtain ⟨bs,r2⟩:=h2.reads I rx
 exact SeqAt.in_list_reads r1 r2 h3 h4 (by lia) ⟨.bl _,H,I,rfl,q⟩
end
end L2
namespace K51
open PySem L2 M39 M40 M43 M48 M47 M81 M41
def ky (v:List Int):List Key:=v.map Sum.inl
theorem su (v:List Int):(ky v).map kV=v.map V.int:=by unfold ky;rw [zE4];rfl
theorem ky_inj {v w:List Int} (h:ky v=ky w):v=w:=by
 have:=congrArg (List.map kV) h
 rw [su,su] at this
 exact gU this
theorem can_t (ls:List Int):(tD ls).canLay0=true/\(tD ls).depth<=2:=by
 have h:=mh [ls]
 simp only [zA9,zF1,PyData.canLayAll0,PyData.depthAll,Bool.and_true] at h
 exact ⟨h.1,by lia⟩
theorem sX (mss:List (List Int)) (ms:List Int):((mss.map tD).any fun z=>PyData.eqv z (tD ms))=decide (ms∈mss):=by
 induction mss with
 | nil=>rfl
 | cons a r ih=>
   rw [zA9,List.any_cons,ih]
   show (PyData.eqv (.tuple (a.map PyData.int)) (.tuple (ms.map PyData.int))||_)=_
   rw [K51H.eqv_tup]
   by_cases h:a=ms
   · subst h;simp
   · have h':¬ ms=a:=fun e=>h e.symm
     simp [h,h']
def Keys (kvs:List (List Key×V)) (n:Int):Prop:=∀ p,M81.Prt p->p.sum=n->(ci kvs (ky p)).isSome=true
def Orb (t:Nat) (ns:List Int) (mss:List (List Int)):Prop:=∀ i (h:i<mss.length),Went t i ns mss[i]
section
variable {P:Program} {w:World} {K:PySem.W.Frag} {mg:Str->Option Value} {base:Heap} {f:Addr} {fd:FuncData}
theorem sc_ro:FnScope ["_law_t","_law_parting","_law_there","_law_here","_law_met","_law_step"] ["_law_t","_law_parting","_law_there"] (ag (top 33)):=⟨rfl,rfl,rfl,by decide +kernel,rfl,by decide +kernel,by decide +kernel⟩
def qD:Sp:=fun vs H Q _=>∃ (a th:Addr) (ns:List Int) (t:Nat) (kvs:List (List Key×V)),vs=[.int t,.ref a,.ref th]/\H a=some (.tup (ns.map V.int))/\H th=some (.dT kvs)/\T3 t/\Fit t ns/\Keys kvs ns.sum/\∀ L us mss H',H L=none->Same H H'->H' L=some (.lst us)->Tps H' us mss->mss.length=t->Orb t ns mss->Q (.ref L) H'
theorem ok_ro (F:Fun K "_law_round_of" "_law_round_of" (top 33) f fd) (m_range:mg "range" = none) (F_turned_on:FnA P w K mg base "turned_on" 8 ["t","parting"] qz):FnOk P w K mg base CX0 9 f fd ["_law_t","_law_parting","_law_there"] qD:=by
 refine F.okz sc_ro (fun vs H Q E h=>?_) (fun cdv A outer s H vs Q E hr h=>?_)
 · obtain ⟨a,th,ns,t,kvs,rfl,_⟩:=h;rfl
 obtain ⟨a,th,ns,t,kvs,rfl,ha,hth,h3,hf,hK,q⟩:=h
 have nd:=sc_ro.nd
 have hu:=hr.units
 have hu1:=hu_of hr
 have tl:5<=t/\t<=11:=by rcases h3 with rfl | rfl | rfl <;> decide
 refine ⟨_,(af (o4 (i:=3) (j:=4) rfl nd rfl rfl (by decide) rfl rfl (aa (zn 1) (aa (a0 ae) ae)) rfl)
  (af (bo PassesOwn.never rfl (bQ rfl m_range (aa (zn 0) ae)) (aj (i:=5) nd rfl (Or.inl rfl)) (af (cY (ZW.zt (zw_or (o3 (fC hu1 (zn 3) (zn 2)) (by with_unfolding_all rfl)) (o1 (aY (op_inL hu) (zn 3) (zn 4) (by with_unfolding_all rfl))))) (ai (aC hV)) bb)
  (af (cO (bP (zn 4) (aa (zn 3) ae)))
  (ai (ay (i:=3) nd rfl (Or.inl rfl) (aF F_turned_on hr (by decide) rfl (aa (zn 0) (aa (zn 3) ae))))))))
  (ai (aC (mZ (aY (eD hu) (zn 3) (zn 1) (bn _)) (zn 4) hV))))),?_⟩
 refine ⟨by show 0<=sizeLine;decide,fun L hL=>?_⟩
 have yL:=Same.new hL (.lst [])
 have gL:upd H L (.lst []) L=some (.lst []):=ad
 have ha1:=yL _ _ ha
 generalize upd H L (.lst [])=H1 at yL gL ha1
 refine ⟨_,_,rfl,?_⟩
 refine ⟨(t:Int),rfl,by lia,by lia,dN (fun i σ H'=>i<=t/\Same H H'/\∃ (us:List V) (mss:List (List Int)) (hd:Addr) (ms:List Int) (x5:Option V),H' L=some (.lst us)/\Tps H' us mss/\mss.length=i/\Orb t ns mss/\H' hd=some (.tup (ms.map V.int))/\Went t i ns ms/\σ=[some (.int t),some (.ref a),some (.ref th),some (.ref hd),some (.ref L),x5]) ⟨zC6 _,yL,[],[],a,ns,_,gL,.nil,rfl,fun i h=>absurd h (Nat.not_lt_zero _),ha1,Went.none_ h3 hf,rfl⟩ ?_ ?_⟩
 · rintro i σ H2 hi ⟨_,y2,us,mss,hd,ms,x5,hL2,tp,ml,orb,hhd,we,rfl⟩
   have hit:i<t:=by rwa [zF4] at hi
   have hth2:=y2 _ _ hth
   obtain ⟨vv,hvv⟩:=Option.isSome_iff_exists.mp (hK ms we.fit.prt we.sum_)
   refine ⟨th,some vv,rfl,.inr ⟨kvs,ky ms,hd,.inl hth2,rfl,by rw [su];exact hhd,hvv.symm⟩,?_⟩
   refine ⟨false,rfl,?_⟩
   have no:ms∉mss:=fun h=>by
    obtain ⟨j,hj,e⟩:=List.getElem_of_mem h
    have:=gy h3 (orb j hj) we (by lia) hit
    exact this e
   refine ⟨mss.map tD,tD ms,.lst hL2 (Tps.all tp),.ints hhd,(mh mss).1,(can_t ms).1,by have:=(can_t ms).2;lia,?_⟩
   rw [sX,decide_eq_false no]
   refine ⟨tyL hL2,_,hL2,aq (by rw [tp.length];lia),?_⟩
   have LH:=hL
   have hdL:hd≠L:=fun z=>by rw [z,hL2] at hhd;cases hhd
   have tp3:Tps (upd H2 L (.lst (us++[.ref hd]))) (us++[.ref hd]) (mss++[ms]):=(Tps.snoc hhd tp).updL hL2
   have hL3:upd H2 L (.lst (us++[.ref hd])) L=some (.lst (us++[.ref hd])):=ad
   have hh3:upd H2 L (.lst (us++[.ref hd])) hd=some (.tup (ms.map V.int)):=by rw [ao hdL];exact hhd
   have y3:Same H (upd H2 L (.lst (us++[.ref hd]))):=Same.updN y2 hL
   generalize upd H2 L (.lst (us++[.ref hd]))=H3 at tp3 hL3 hh3 y3
   refine ⟨hd,ms,t,rfl,hh3,h3,we.fit,fun r H4 os y4 hr4 tr=>?_⟩
   refine ⟨hit,y3.trans y4,us++[.ref hd],mss++[ms],r,os,_,y4 _ _ hL3,tp3.same y4,by rw [zA5,ml];rfl,fun j hj=>?_,hr4,we.step h3 tr,rfl⟩
   rw [zA5] at hj
   by_cases c:j<mss.length
   · rw [zG3 c]
     exact orb j c
   · have ej:j=i:=by have:[ms].length=1:=rfl;lia
     subst ej
     rw [zF9 (by lia)]
     simp only [ml,Nat.sub_self,List.getElem_cons_zero]
     exact we
 · rintro σ H2 ⟨_,y2,us,mss,hd,ms,x5,hL2,tp,ml,orb,hhd,we,rfl⟩
   rw [zF4] at we ml
   have e:=we.home h3 hf
   subst e
   refine ⟨_,_,.ints hhd,.ints (y2 _ _ ha),bm _,bm _,?_⟩
   rw [if_neg (by decide),iS (bm _)]
   exact q L us mss H2 hL y2 hL2 tp ml orb
end
theorem pP:∀ {l:List Int},l≠[]->∃ M∈l,∀ n∈l,M<=n
 | [],h=>absurd rfl h
 | [a],_=>⟨a,zA8,fun n hn=>by rw [zD4.mp hn];exact zE7 _⟩
 | a::b::l,_=>by
   obtain ⟨M,hM,h⟩:=pP (l:=b::l) (by simp)
   by_cases c:a<=M
   · refine ⟨a,zA8,fun n hn=>?_⟩
     rcases zB2.mp hn with rfl | hn
     · exact zE7 _
     · exact zD6 c (h n hn)
   · refine ⟨M,zB4 _ hM,fun n hn=>?_⟩
     rcases zB2.mp hn with rfl | hn
     · lia
     · exact h n hn
theorem Fit.turn {t:Nat} {ns:List Int} (h3:T3 t) (h:Fit t ns):∃ ms,Trn t ns ms:=by
 have tl:5<=t/\t<=11:=by rcases h3 with rfl | rfl | rfl <;> decide
 obtain ⟨m1,m2,m3,m4,m5⟩:=h.moved h3
 obtain ⟨M,hM,hle⟩:=pP (l:=vby t (nf (mvl t (fr ns t)))) (fun z=>by rw [z] at m1;simp at m1;lia)
 obtain ⟨hc,_,_⟩:=K51H.cor_of (by rw [m1];lia) (by rw [m1];lia) m2 m4 hM hle
 have hv:=hc.vec_
 have hx:=hc.fix_
 rw [m1] at hv hx
 exact ⟨_,o9 h3 h (cs:=pt (ax t fun r=>(-M+nf (vby t (nf (mvl t (fr ns t)))) r).toNat)) hv hx (by have:=hc.sum_;rw [m1] at this;exact this) fun r _=>kM ns t r⟩
theorem Trn.inj {t:Nat} {x y z:List Int} (h3:T3 t) (hx:Fit t x) (hy:Fit t y) (a:Trn t x z) (b:Trn t y z):x=y:=by
 refine home (bp h3) hx.prt hy.prt ?_ fun r hr=>(a.quo_ r hr).symm.trans (b.quo_ r hr)
 rw [← (hx.frame h3).2.2,← (hy.frame h3).2.2]
 refine cv fun j hj=>?_
 have e:=congrArg (fun l=>nf l ((j+1) % t)) (a.frm_.symm.trans b.frm_)
 have hm:(j+1) % t<t:=Nat.mod_lt _ (bp h3)
 simp only [fP _ hm,mv] at e
 have ej:((j+1) % t+t - 1) % t=j:=by rcases h3 with rfl | rfl | rfl <;> lia
 rwa [ej] at e
theorem Went.uniq {t k:Nat} {ns a b:List Int} (h3:T3 t) (x:Went t k ns a) (y:Went t k ns b):a=b:=by
 refine K51.home (bp h3) x.fit.prt y.fit.prt ?_ fun r hr=>(x.quo_ r hr).trans (y.quo_ r hr).symm
 rw [← (x.fit.frame h3).2.2,← (y.fit.frame h3).2.2]
 exact cv fun i hi=>(x.frm_ i hi).trans (y.frm_ i hi).symm
def tn (t:Nat) (ns:List Int):List Int:=open Classical in if h:∃ ms,Trn t ns ms then h.choose else ns
theorem nj {t:Nat} {ns:List Int} (h3:T3 t) (h:Fit t ns):Trn t ns (tn t ns):=by
 unfold tn
 rw [dif_pos (h.turn h3)]
 exact (h.turn h3).choose_spec
theorem cN {t n:Nat} (hn:n<=300) (hc:(n:Int) % (t:Int)=cw t) {p:List Int} (h:p∈M51.AL n n):Fit t p:=by
 obtain ⟨h1,h2,e⟩:=M51.al_iff.mp h
 exact ⟨⟨h1,h2⟩,by rw [e];lia,by rw [e];exact hc⟩
theorem sZ {n:Nat} {p:List Int} (h:M81.Prt p) (e:p.sum=(n:Int)):p∈M51.AL n n:=M51.al_iff.mpr ⟨h.1,h.2,e⟩
theorem i3 {n:Nat} {p:List Int} (h:p∈M51.AL n n):p.sum=(n:Int):=(M51.al_iff.mp h).2.2
def shn (t:Nat) (x:List Int):Nat:=(shr x t).toNat
theorem pf {t:Nat} (h3:T3 t) (x:List Int):shn t x<t:=by
 have:=eV h3 x
 unfold shn
 lia
theorem evenly {t n:Nat} (h3:T3 t) (hn:n<=300) (hc:(n:Int) % (t:Int)=cw t):(∀ j,j<t->M51.cs (M51.AL n n) (shn t) j=(M51.AL n n).length / t)/\(M51.AL n n).length % t=0:=by
 refine M51.even (f:=tn t) (bp h3) (M51.al_nd n) (fun x hx=>?_) (fun x hx y hy e=>?_) (fun x hx=>?_) fun x _=>pf h3 x
 · have tr:=nj h3 (cN hn hc hx)
   exact sZ tr.fit.prt (tr.sum_.trans (i3 hx))
 · have a:=nj h3 (cN hn hc hx)
   have b:=nj h3 (cN hn hc hy)
   rw [← e] at b
   exact Trn.inj h3 (cN hn hc hx) (cN hn hc hy) a b
 · have tr:=nj h3 (cN hn hc hx)
   have e:=tr.shr_ h3 (cN hn hc hx)
   have l1:=eV h3 x
   unfold shn
   rw [e]
   rcases h3 with rfl | rfl | rfl <;> lia
structure Gone (t n:Nat) (G:List (List Int)):Prop where
 nd:G.Nodup
 all:∀ p∈G,p∈M51.AL n n
 on:∀ p∈G,∀ q,Trn t p q->q∈G
theorem Gone.nil {t n:Nat}:Gone t n []:=⟨.nil,fun _ h=>(nomatch h),fun _ h=>(nomatch h)⟩
theorem Orb.next {t:Nat} {ns:List Int} {mss:List (List Int)} (h3:T3 t) (h:Orb t ns mss) {i:Nat} (hi:i<mss.length) {q:List Int} (tr:Trn t mss[i] q) (hj:i+1<mss.length):q=mss[i+1]:=
 ((h i hi).step h3 tr).uniq h3 (h (i+1) hj)
theorem Orb.last {t:Nat} {ns:List Int} {mss:List (List Int)} (h3:T3 t) (hf:Fit t ns) (h:Orb t ns mss) (hl:mss.length=t) {i:Nat} (hi:i<mss.length) {q:List Int} (tr:Trn t mss[i] q) (hj:i+1=mss.length):q=ns:=by
 have:=(h i hi).step h3 tr
 rw [hj,hl] at this
 exact this.home h3 hf
theorem Orb.first {t:Nat} {ns:List Int} {mss:List (List Int)} (h3:T3 t) (hf:Fit t ns) (h:Orb t ns mss) (h0:0<mss.length):mss[0]=ns:=(h 0 h0).uniq h3 (Went.none_ h3 hf)
theorem Orb.nd {t:Nat} {ns:List Int} {mss:List (List Int)} (h3:T3 t) (h:Orb t ns mss) (hl:mss.length=t):mss.Nodup:=by
 refine zE8.mpr fun i j hi hj hij=>?_
 exact gy h3 (h i hi) (h j hj) hij (by lia)
theorem Gone.off {t n:Nat} {G:List (List Int)} {ns:List Int} {mss:List (List Int)} (h3:T3 t) (g:Gone t n G) (hf:Fit t ns) (no:ns∉G) (h:Orb t ns mss) (hl:mss.length=t):∀ p∈mss,p∉G:=by
 have up:∀ d i (hi:i<mss.length),i+d+1=mss.length->mss[i]∈G->ns∈G:=by
  intro d
  induction d with
  | zero=>
    intro i hi e hm
    obtain ⟨q,tr⟩:=(h i hi).fit.turn h3
    have:=h.last h3 hf hl hi tr (by lia)
    rw [← this]
    exact g.on _ hm _ tr
  | succ d ih=>
    intro i hi e hm
    obtain ⟨q,tr⟩:=(h i hi).fit.turn h3
    have:=h.next h3 hi tr (by lia)
    refine ih (i+1) (by lia) (by lia) ?_
    rw [← this]
    exact g.on _ hm _ tr
 intro p hp hG
 obtain ⟨i,hi,rfl⟩:=List.getElem_of_mem hp
 exact no (up (mss.length - 1 - i) i hi (by lia) hG)
theorem Gone.more {t n:Nat} {G:List (List Int)} {ns:List Int} {mss:List (List Int)} (h3:T3 t) (g:Gone t n G) (hf:Fit t ns) (hn:ns∈M51.AL n n) (no:ns∉G) (h:Orb t ns mss) (hl:mss.length=t):Gone t n (G++mss):=by
 have off:=g.off h3 hf no h hl
 have ht:=bp h3
 refine ⟨List.nodup_append.mpr ⟨g.nd,h.nd h3 hl,fun a ha b hb z=>off b hb (by rw [← z];exact ha)⟩,fun p hp=>?_,fun p hp q tr=>?_⟩
 · rcases zC1.mp hp with hp | hp
   · exact g.all p hp
   · obtain ⟨i,hi,rfl⟩:=List.getElem_of_mem hp
     exact sZ (h i hi).fit.prt ((h i hi).sum_.trans (i3 hn))
 · rcases zC1.mp hp with hp | hp
   · exact zF8 _ (g.on p hp q tr)
   · refine zB0 _ ?_
     obtain ⟨i,hi,rfl⟩:=List.getElem_of_mem hp
     by_cases c:i+1<mss.length
     · rw [h.next h3 hi tr c]
       exact zB1 _
     · rw [h.last h3 hf hl hi tr (by lia),← h.first h3 hf (by lia)]
       exact zB1 _
theorem Gone.len {t n:Nat} {G:List (List Int)} (g:Gone t n G) (h:∀ p∈M51.AL n n,p∈G):G.length=(M51.AL n n).length:=
 Nat.le_antisymm (M51.sub_len g.nd g.all) (M51.sub_len (M51.al_nd n) h)
end K51
namespace PySem
open PySem.Calls PyProof.Rows PySem.Spec
section
variable {prog:Program} {w:World} {A:Around} {E:Value->Shared->Prop} {K:Type} [DecidableEq K] {knd:HeapKind prog w K}
def RobH (knd:HeapKind prog w K) (h0:Heap) (it d:Addr) (k:K) (key:Addr):Prop:=∀ h',(∀ b o,b≠d->b≠it->h0.get? b=some o->h'.get? b=some o)->knd.is h' k key
def dF (kvs more:List (K×Addr×Value)):List (K×Addr×Value):=more.foldl (fun acc x=>storedH acc x.1 x.2.1 x.2.2) kvs
theorem jh (kvs:List (K×Addr×Value)) (k:K) (a:Addr) (v:Value):(storedH kvs k a v).length<=kvs.length+1:=by
 unfold storedH
 split
 · rw [zA0];lia
 · rw [zA5];exact zA1 _
theorem gB {kvs:List (K×Addr×Value)} {k:K} {a:Addr} {v:Value} {x:K×Addr×Value} (h:x∈storedH kvs k a v):(∃ y∈kvs,y.1=x.1/\y.2.1=x.2.1)\/(x.1=k/\x.2.1=a):=by
 unfold storedH at h
 split at h
 · obtain ⟨y,hy,rfl⟩:=zC5.mp h
   refine .inl ⟨y,hy,?_⟩
   unfold putAt
   split <;> exact ⟨rfl,rfl⟩
 · rcases zC1.mp h with h | h
   · exact .inl ⟨x,h,rfl,rfl⟩
   · rw [zD4.mp h];exact .inr ⟨rfl,rfl⟩
theorem DictOfH.move {h h':Heap} {d:Addr} {kvs:List (K×Addr×Value)} (hd:h.DictOfH knd d kvs) (e:∀ o,h.get? d=some o->h'.get? d=some o) (r:∀ x∈kvs,knd.is h' x.1 x.2.1):h'.DictOfH knd d kvs:=by
 obtain ⟨o,es,ep,h1,h2,h3,h4,_,h6⟩:=hd
 exact ⟨o,es,ep,e o h1,h2,h3,h4,r,h6⟩
theorem j6 {R:Result->Shared->Prop} {h0:Heap} {it l d:Addr} {items:Array Value} {ps:List (K×Addr×Value)} (hr:knd.room A.in1) (hh:A.handled=none) (hsize:items.size=ps.length) (hdi:d≠it) (hli:l≠it) (hld:l≠d)
 (hp:∀ j,j<ps.length->∃ p o n k key v,items[j]? = some (.ref p)/\h0.get? p=some o/\o.cls=.type "tuple"/\o.data=.seq #[.ref key,v] n/\ps[j]? = some (k,key,v)/\RobH knd h0 it d k key/\p≠it/\p≠d) :
 ∀ (m i:Nat) (s:Shared) (kvs:List (K×Addr×Value)),ps.length - i=m->i<=ps.length->s.heap.IsListIter it l i->s.heap.IsList l items->s.heap.DictOfH knd d kvs->kvs.length+m<=sizeLine ->
 (∀ b o,b≠d->b≠it->h0.get? b=some o->s.heap.get? b=some o)->(∀ x∈kvs,RobH knd h0 it d x.1 x.2.1) ->
 (∀ h' tk,(∀ b o,b≠d->b≠it->h0.get? b=some o->h'.get? b=some o)->h'.DictOfH knd d (dF kvs (ps.drop i))->R (.ok (.ret .none)) { s with heap:=h',toks:=tk }) ->
 codeAny (model prog w) A (.builtin "dict.update.loop" ⟨[.ref d,.ref it,rawInt i,.none],[]⟩) R s:=by
 intro m
 induction m with
 | zero=>
   intro i s kvs hm hi st hl hd hz kp0 rob hR
   have hin:i=ps.length:=by lia
   subst hin
   refine codeAny_builtin gf ?_
   rw [Around.under_plainId cB _]
   unfold Builtin.«dict.update.loop»
   show wpAny _ A.in1 (pyNext (.ref it) >>= _) _ _ s
   refine wpAny_bind (wpAny_pyNext_list_end hh st hl (by rw [Array.getElem?_eq_none];lia) fun h' he=>?_)
   show wpAny _ A.in1 (Builtin.Dict.addKeywords d [] >>= _) _ _ _
   refine wpAny_bind (wpAny_pure (wpAny_pure ?_))
   have kp:∀ b o,b≠d->b≠it->h0.get? b=some o->h'.get? b=some o:=fun b o hb1 hb2 e=>he b o hb2 (kp0 b o hb1 hb2 e)
   refine hR h' s.toks kp ?_
   rw [List.drop_length]
   exact DictOfH.move hd (fun o e=>he d o hdi e) fun x hx=>rob x hx h' kp
 | succ m ih=>
   intro i s kvs hm hi st hl hd hz kp0 rob hR
   have hlt:i<ps.length:=by lia
   obtain ⟨p,o,n,k,key,v,e1,e2,e3,e4,e5,e6,hpi,hpd⟩:=hp i hlt
   refine codeAny_builtin gf ?_
   rw [Around.under_plainId cB _]
   unfold Builtin.«dict.update.loop»
   show wpAny _ A.in1 (pyNext (.ref it) >>= _) _ _ s
   refine wpAny_bind (wpAny_pyNext_list_item st hl e1 fun h1 st1 sb1=>?_)
   have kp1:∀ b o,b≠d->b≠it->h0.get? b=some o->h1.get? b=some o:=fun b o hb1 hb2 e=>(sb1.2 b hb2).trans (kp0 b o hb1 hb2 e)
   have g2:h1.get? p=some o:=kp1 p o hpd hpi e2
   refine wpAny_bind (wpAny_holding ?_)
   refine wpAny_bind (wpAny_tryCatch ?_)
   show wpAny _ A.in1 (Builtin.Dict.pairItems (.ref p)) _ _ _
   unfold Builtin.Dict.pairItems
   refine wpAny_bind (wpAny_typeOf (T:="tuple") ⟨o,g2,e3⟩ ?_)
   refine wpAny_ite_split (fun _=>?_) (fun hab=>absurd (by decide) hab)
   show wpAny _ A.in1 (seqItems? (.ref p) >>= fun z=>pure (z.getD #[]).toList) _ _ _
   unfold seqItems?
   refine wpAny_bind (wpAny_bind (wpAny_load g2 ?_))
   rw [e4]
   refine wpAny_pure (wpAny_pure ?_)
   show wpAny _ A.in1 (holding [.ref key,v] (dictSet d (.ref key) v)) _ _ _
   refine wpAny_holding (wpAny_dictSet_heap (hsz:=by lia) hr (e6 h1 kp1) (DictOfH.move hd (h':=h1) (fun o e=>(sb1.2 d hdi).trans e) fun x hx=>rob x hx h1 kp1) fun h2 hd2 sb2=>?_)
   have keep:∀ b o,b≠d->b≠it->h0.get? b=some o->h2.get? b=some o:=fun b o hb1 hb2 e=>(sb2.2 b hb1).trans (kp1 b o hb1 hb2 e)
   have hit2:h2.IsListIter it l (i+1):=st1.at fun o e=>(sb2.2 it (Ne.symm hdi)).trans e
   have hl2:h2.IsList l items:=hl.at fun o e=>(sb2.2 l hld).trans ((sb1.2 l hli).trans e)
   refine wpAny_pure ⟨plainId_quiet cB _,?_⟩
   refine ih (i+1) { s with heap:=h2,toks:=s.toks+knd.draws k } (storedH kvs k key v) (by lia) hlt hit2 hl2 hd2 (by have:=jh kvs k key v;lia) keep (fun x hx=>?_) fun h' tk kp hd'=>?_
   · rcases gB hx with ⟨y,hy,q1,q2⟩ | ⟨q1,q2⟩
     · rw [← q1,← q2];exact rob y hy
     · rw [q1,q2];exact e6
   · refine hR h' tk kp ?_
     have ed:ps.drop i=(k,key,v)::ps.drop (i+1):=by
      rw [zD3 hlt]
      congr 1
      rw [List.getElem?_eq_getElem hlt] at e5
      exact Option.some.inj e5
     rw [ed]
     exact hd'
theorem db {s:Shared} {l:Addr} {items:Array Value} {n:Nat} {sl:Array (Option Value)} {ps:List (K×Addr×Value)} {Q:Value->Shared->Prop} (hr:∀ B:Around,B.units<=A.units+8->knd.room B) (hh:A.handled=none) (hl:s.heap.get? l=some { cls:=.type "list",dict:=none,data:=.seq items n,slots:=sl }) (hsize:items.size=ps.length) (hz:ps.length<=sizeLine)
 (hp:∀ j,j<ps.length->∃ p o n k key v,items[j]? = some (.ref p)/\s.heap.get? p=some o/\o.cls=.type "tuple"/\o.data=.seq #[.ref key,v] n/\ps[j]? = some (k,key,v)/\∀ h',(∀ b o,s.heap.get? b=some o->h'.get? b=some o)->knd.is h' k key)
 (h:∀ h' tk,(∀ b o,s.heap.get? b=some o->h'.get? b=some o)->h'.DictOfH knd s.heap.objs.size (dF [] ps)->Q (.ref s.heap.objs.size) { s with heap:=h',toks:=tk }) :
 wpAny (model prog w) A (call (.type "dict") [.ref l]) Q E s:=by
 refine callType_codes (Q₁:=fun obj s₁=>obj=.ref s.heap.objs.size/\s₁={ s with heap:=s.heap.push { cls:=.type "dict",data:=.dict #[] } }) F.kt_called_dict (F.kt_typeCall_dict_1 _) F.entry_dict_init (kt_code_dict_new _ ⟨rfl,rfl⟩) ?_
 rintro obj s₁ ⟨rfl,rfl⟩
 have hnew:(s.heap.push { cls:=.type "dict",data:=.dict #[] }).DictOfH knd s.heap.objs.size []:=Heap.DictOfH.new s.heap
 have keep0:∀ b o,s.heap.get? b=some o->(s.heap.push { cls:=.type "dict",data:=.dict #[] }).get? b=some o:=fun b o e=>Heap.get?_push_of_some _ e
 have lt:∀ b o,s.heap.get? b=some o->b≠s.heap.objs.size:=fun b o e=>zB8 (Heap.lt_size e)
 have ty0:({ s with heap:=s.heap.push { cls:=.type "dict",data:=.dict #[] } }:Shared).TypeIs (.ref s.heap.objs.size) "dict":=Heap.DictOfH.typeIs (knd:=knd) (xs:=[]) hnew
 refine ⟨ty0,F.args_dict_init_2 _ _,?_⟩
 unfold Builtin.«dict.__init__»
 refine wpAny_bind ?_
 unfold Builtin.Dict.selfAndRest
 refine wpAny_bind (wpAny_notOrdered_dict ty0 ?_)
 show wpAny _ _ (pure (s.heap.objs.size,[Value.ref l])) _ _ _
 refine wpAny_pure ?_
 show wpAny _ _ (Builtin.Dict.updateFrom "dict.__init__" s.heap.objs.size (.ref l) [] .none) _ _ _
 unfold Builtin.Dict.updateFrom
 refine wpAny_bind (wpAny_typeOf (T:="list") ⟨_,keep0 _ _ hl,rfl⟩ ?_)
 refine wpAny_ite_split (fun _=>?_) (fun hab=>absurd (by decide) hab)
 refine wpAny_bind (lF (keep0 _ _ hl) hh fun h1 tk1 keep1=>?_)
 refine wpAny_ite_split (fun _=>?_) (fun hab=>absurd (by rfl) hab)
 refine wpAny_bind (wpAny_rule ?_)
 have hl1:h1.IsList l items:=⟨_,keep1 _ _ (keep0 _ _ hl),rfl,n,rfl⟩
 refine wpAny_bind (wpAny_pyIter_list hl1 ?_)
 have sz1:s.heap.objs.size<h1.objs.size:=Heap.lt_size (keep1 _ _ (show (s.heap.push { cls:=.type "dict",data:=.dict #[] }).get? s.heap.objs.size=some _ from Heap.get?_push_size _ rfl))
 have keep2:∀ b o,h1.get? b=some o->(h1.push { cls:=.type "list_iterator",data:=.fields #[.ref l,.int 0 0] }).get? b=some o:=fun b o e=>Heap.get?_push_of_some _ e
 have hd2:(h1.push { cls:=.type "list_iterator",data:=.fields #[.ref l,.int 0 0] }).DictOfH knd s.heap.objs.size []:=DictOfH.move hnew (fun o e=>keep2 _ _ (keep1 _ _ e)) fun x hx=>nomatch hx
 have hlt1:∀ b o,h1.get? b=some o->b≠h1.objs.size:=fun b o e=>zB8 (Heap.lt_size e)
 refine wpAny_pure ⟨plainId_quiet cB _,?_⟩
 refine j6 (A:=A.in1) (h0:=s.heap) (it:=h1.objs.size) (l:=l) (d:=s.heap.objs.size) (ps:=ps) (hr _ ?hu) hh hsize (zB8 sz1) (hlt1 _ _ (keep1 _ _ (keep0 _ _ hl))) (lt _ _ hl) (fun j hj=>?_) ps.length 0 { s with heap:=h1.push { cls:=.type "list_iterator",data:=.fields #[.ref l,.int 0 0] },toks:=tk1 } [] rfl (zC6 _)
  ⟨_,Heap.get?_push_size _ rfl,rfl,rfl⟩ (hl1.push _) hd2 (by show 0+ps.length<=_;lia) (fun b o _ _ e=>keep2 _ _ (keep1 _ _ (keep0 _ _ e))) (fun x hx=>nomatch hx) fun h' tk kp hd'=>?_
 case hu=>show _+1+1<=_ ;lia
 · obtain ⟨p,o,n',k,key,v,a1,a2,a3,a4,a5,a6⟩:=hp j hj
   have b2:=keep1 _ _ (keep0 _ _ a2)
   refine ⟨p,o,n',k,key,v,a1,a2,a3,a4,a5,fun h' kp=>a6 h' fun b o e=>?_,hlt1 _ _ b2,lt _ _ a2⟩
   exact kp b o (lt _ _ e) (hlt1 _ _ (keep1 _ _ (keep0 _ _ e))) e
 · refine ⟨rfl,h h' tk (fun b o e=>?_) hd'⟩
   exact kp b o (lt _ _ e) (hlt1 _ _ (keep1 _ _ (keep0 _ _ e))) e
end
end PySem
namespace L2
open PySem PySem.Spec PyProof.Rows
section
variable {X:Cx}
def cE (kvs more:List (List Key×V)):List (List Key×V):=more.foldl (fun acc kv=>dU acc kv.1 kv.2) kvs
def kK:List V->Hp->VK->Prop:=fun xs H Q=>match xs with
 | [.ref l]=>∃ (ps:List (List Key×V)) (ks cs:List Addr),H l=some (.lst (cs.map V.ref))/\cs.length=ps.length/\ks.length=ps.length/\ps.length<=sizeLine/\(∀ (j:Nat) c kv b,cs[j]? = some c->ps[j]? = some kv->ks[j]? = some b->H c=some (.tup [.ref b,kv.2])/\H b=some (.tup (kv.1.map kV)))/\∀ p,H p=none->Q (.ref p) (upd H p (.dT (cE [] ps)))
 | _=>False
theorem KT.merge {H:Hp}:∀ (ps:List (List Key×V)) (ks:List Addr) (vs:List Value) (kvs:List (List Key×V)) (xs:List (List Key×Addr×Value)),ks.length=ps.length->vs.length=ps.length->KT H kvs xs->(∀ (j:Nat) kv b v,ps[j]? = some kv->ks[j]? = some b->vs[j]? = some v->H b=some (.tup (kv.1.map kV))/\RelV kv.2 v) ->
 KT H (cE kvs ps) (dF xs (List.zipWith (fun kv (bv:Addr×Value)=>(kv.1,bv.1,bv.2)) ps (ks.zip vs)))
 | [],ks,vs,kvs,xs,_,_,r,_=>by
   show KT H kvs (dF xs (List.zipWith _ [] _))
   rw [List.zipWith_nil_left]
   exact r
 | kv::ps,[],vs,kvs,xs,h,_,_,_=>nomatch h
 | kv::ps,b::ks,[],kvs,xs,_,h,_,_=>nomatch h
 | kv::ps,b::ks,v::vs,kvs,xs,h1,h2,r,g=>by
   obtain ⟨g1,g2⟩:=g 0 kv b v rfl rfl rfl
   exact KT.merge ps ks vs (dU kvs kv.1 kv.2) (storedH xs kv.1 b v) (Nat.succ.inj h1) (Nat.succ.inj h2) (r.put kv.1 g1 g2) fun j kv' b' v' e1 e2 e3=>g (j+1) kv' b' v' e1 e2 e3
theorem fg (ps:List (List Key×V)):∀ kvs:List (List Key×V),(cE kvs ps).length<=kvs.length+ps.length:=by
 induction ps with
 | nil=>intro kvs;exact zA1 _
 | cons kv ps ih=>
   intro kvs
   have h1:=ih (dU kvs kv.1 kv.2)
   have h2:=cq kvs kv.1 kv.2
   show (cE (dU kvs kv.1 kv.2) ps).length<=_
   rw [zB9]
   lia
theorem eC {P:Program} {w:World} {H:Hp} {h:Heap} (ok:HOk P w H h):∀ (ps:List (List Key×V)) (ks cs:List Addr),cs.length=ps.length->ks.length=ps.length->(∀ (j:Nat) c kv b,cs[j]? = some c->ps[j]? = some kv->ks[j]? = some b->H c=some (.tup [.ref b,kv.2])/\H b=some (.tup (kv.1.map kV))) ->
 ∃ vs:List Value,vs.length=ps.length/\∀ (j:Nat) c kv b,cs[j]? = some c->ps[j]? = some kv->ks[j]? = some b->∃ o n v,h.get? c=some o/\o.cls=.type "tuple"/\o.data=.seq #[.ref b,v] n/\vs[j]? = some v/\RelV kv.2 v
 | [],_,_,_,_,_=>⟨[],rfl,fun j c kv b _ e _=>by cases e⟩
 | _::_,[],_,_,hk,_=>by cases hk
 | _::_,_::_,[],hl,_,_=>by cases hl
 | kv::ps,b::ks,c::cs,hl,hk,g=>by
   obtain ⟨vs,h1,h2⟩:=eC ok ps ks cs (Nat.succ.inj hl) (Nat.succ.inj hk) fun j c' kv' b' e1 e2 e3=>g (j+1) c' kv' b' e1 e2 e3
   obtain ⟨_,its,r,pT⟩:=ok c _ (g 0 c kv b rfl rfl rfl).1
   obtain ⟨o,g1,g2,n,g3⟩:=pT.tup
   cases r with
   | cons r1 r2=>
     cases r2 with
     | cons r3 r4=>
       cases r4
       rename_i key v
       have r1:key=.ref b:=r1
       subst r1
       refine ⟨v::vs,by rw [zB9,zB9,h1],fun j c' kv' b' e1 e2 e3=>?_⟩
       cases j with
       | zero=>cases e1;cases e2;cases e3;exact ⟨o,n,v,g1,g2,g3,rfl,r3⟩
       | succ j=>exact h2 j c' kv' b' e1 e2 e3
theorem jL (hc:X.calm=true) (hu:X.A.units+64<cLine):CallR X (.type "dict") kK:=by
 intro pins s σ H xs us Q I r h
 unfold kK at h
 split at h
 · rename_i l
   obtain ⟨ps,ks,cs,e,hl,hk,hz,hp,q⟩:=h
   obtain ⟨u,rfl,rx⟩:=cg r
   cases rx
   obtain ⟨_,its,n,rv,hO⟩:=I.hok l _ e
   obtain ⟨vs,lv,hv⟩:=eC I.hok ps ks cs hl hk hp
   have refs:its=cs.map Value.ref:=kI cs its rv
   have ln:its.length=cs.length:=by rw [refs,zA0]
   have lz:(List.zipWith (fun kv (bv:Addr×Value)=>(kv.1,bv.1,bv.2)) ps (ks.zip vs)).length=ps.length:=by
    rw [List.length_zipWith,List.length_zip,hk,lv];simp
   refine db (knd:=tupleKind (aX X.prog X.w)) (ps:=List.zipWith (fun kv (bv:Addr×Value)=>(kv.1,bv.1,bv.2)) ps (ks.zip vs)) (fun B hB=>?_) (I.ok.hd hc) hO (by rw [zA7,ln,hl,lz]) (by rw [lz];exact hz) (fun j hj=>?_) fun h' tk keep hd=>?_
   · show B.units<cLine
     lia
   · rw [lz] at hj
     obtain ⟨cj,jc⟩:∃ cj,cs[j]? = some cj:=⟨_,List.getElem?_eq_getElem (by lia)⟩
     obtain ⟨pj,jp⟩:∃ pj,ps[j]? = some pj:=⟨_,List.getElem?_eq_getElem hj⟩
     obtain ⟨kj,jk⟩:∃ kj,ks[j]? = some kj:=⟨_,List.getElem?_eq_getElem (by lia)⟩
     obtain ⟨o,n',v,a1,a2,a3,a4,a5⟩:=hv j _ _ _ jc jp jk
     refine ⟨cj,o,n',pj.1,kj,v,?_,a1,a2,a3,?_,fun h' kp=>?_⟩
     · rw [refs,List.getElem?_toArray,List.getElem?_map,jc];rfl
     · rw [List.getElem?_zipWith,jp,List.getElem?_zip_eq_some (z:=(kj,v)) |>.mpr ⟨jk,a4⟩]
     · obtain ⟨o2,i2,n2,b1,b2⟩:=fV I.hok (hp j _ _ _ jc jp jk).2
       exact ⟨o2,i2,n2,kp _ _ b1,b2⟩
   · have big:(s.heap.objs.size == sysModules)=false:=beq_eq_false_iff_ne.mpr (Ne.symm (zB8 I.big))
     obtain ⟨q0,es,ep,hq,h2,h3,h4,_,h5⟩:=hd
     have kt:KT H (cE [] ps) (dF [] (List.zipWith (fun kv (bv:Addr×Value)=>(kv.1,bv.1,bv.2)) ps (ks.zip vs))):=KT.merge ps ks vs [] [] hk lv .nil fun j kv b v e1 e2 e3=>by
      have hj:=(List.getElem?_eq_some_iff.mp e1).1
      have jc:cs[j]? = some (cs[j]'(by lia)):=List.getElem?_eq_getElem _
      obtain ⟨o,n',v',a1,a2,a3,a4,a5⟩:=hv j _ _ _ jc e1 e2
      rw [e3] at a4
      cases a4
      exact ⟨(hp j _ _ _ jc e1 e2).2,a5⟩
     have fr:H s.heap.objs.size=none:=I.hok.fresh (zA1 _)
     refine ⟨.ref s.heap.objs.size,_,I.laid (t':=tk) (a:=s.heap.objs.size) (o:=.dT (cE [] ps)) keep (zA1 _) ⟨?_,big,_,kt.keeps fun b ys eb=>?_,q0,es,ep,hq,h2,h3,h4,h5⟩,rfl,q _ fr⟩
     · have:=fg ps []
       have:([]:List (List Key×V)).length=0:=rfl
       lia
     · rw [ao (aB eb fr)];exact eb
 · exact h.elim
variable {e:Expr} {es:List Expr} {t:TA} {p pos:Pos}
theorem jW (hu:X.A.units+64<cLine) (hc:X.calm=true) (hg:Gl X "dict") (hm:X.mg "dict" = none) (ha:ZA X (e::es) t) (he:starEach (e::es) X.env=(false,eval e X.env)::starEach es X.env) (hpl:(backTo pos (starEach es X.env)).any (·.1)=false) :
 ZE X (.Call (.Name "dict" p) (e::es) [] pos) (tCB kK t):=by with_unfolding_all exact cC (jL hc hu) hg hm jM ha (by decide) (by decide) he hpl
end
end L2
namespace K51
open PySem L2 M39 M40 M43 M48 M47 M81 M41
theorem kN (kvs:List (List Key×V)) (k k':List Key) (v:V) (h:(ci kvs k').isSome=true):(ci (dU kvs k v) k').isSome=true:=by
 rw [ig]
 split
 · rfl
 · exact h
theorem qZ (kvs:List (List Key×V)) (k:List Key) (v:V):(ci (dU kvs k v) k).isSome=true:=by
 rw [ig,if_pos rfl]
 rfl
theorem fQ:∀ (ps kvs:List (List Key×V)) (k:List Key),((ci kvs k).isSome=true\/∃ v,(k,v)∈ps)->(ci (cE kvs ps) k).isSome=true
 | [],kvs,k,h=>by
   rcases h with h | ⟨v,h⟩
   · exact h
   · cases h
 | kv::ps,kvs,k,h=>by
   refine fQ ps (dU kvs kv.1 kv.2) k ?_
   rcases h with h | ⟨v,h⟩
   · exact .inl (kN _ _ _ _ h)
   · rcases zB2.mp h with h | h
     · rw [← h];exact .inl (qZ _ _ _)
     · exact .inr ⟨v,h⟩
theorem ik {H:Hp}:∀ {us:List V} {lss:List (List Int)},Tps H us lss->∃ ks:List Addr,us=ks.map V.ref/\ks.length=lss.length/\∀ (j:Nat) b ls,ks[j]? = some b->lss[j]? = some ls->H b=some (.tup (ls.map V.int))
 | _,_,.nil=>⟨[],rfl,rfl,fun j b ls e=>(nomatch e)⟩
 | _,_,.cons (b:=b) h r=>by
   obtain ⟨ks,rfl,e2,e3⟩:=ik r
   refine ⟨b::ks,rfl,by rw [zB9,zB9,e2],fun j c ls h1 h2=>?_⟩
   cases j with
   | zero=>cases h1;cases h2;exact h
   | succ j=>exact e3 j c ls h1 h2
theorem pickW {w:Int} (h0:0<=w) (h1:w<3):∃ t:Nat,atI [V.int 5,.int 7,.int 11] w=some (.int t)/\T3 t/\(∀ d1 d2 d3:Addr,∃ (dw:Addr) (ws:List Int),atI [V.ref d1,.ref d2,.ref d3] w=some (.ref dw)/\((dw=d1/\ws=[4,9,14,19])\/(dw=d2/\ws=[5,12,19])\/(dw=d3/\ws=[6,17]))/\∀ x∈ws,0<=x/\x<=30/\x % (t:Int)=cw t)/\∃ n:Nat,atI [V.int 24,.int 26,.int 28] w=some (.int n)/\n<=30/\(n:Int) % (t:Int)=cw t:=by
 have:w=0\/w=1\/w=2:=by lia
 rcases this with rfl | rfl | rfl
 · exact ⟨5,rfl,.inl rfl,fun d1 d2 d3=>⟨d1,_,rfl,.inl ⟨rfl,rfl⟩,by decide⟩,24,rfl,by decide,by decide⟩
 · exact ⟨7,rfl,.inr (.inl rfl),fun d1 d2 d3=>⟨d2,_,rfl,.inr (.inl ⟨rfl,rfl⟩),by decide⟩,26,rfl,by decide,by decide⟩
 · exact ⟨11,rfl,.inr (.inr rfl),fun d1 d2 d3=>⟨d3,_,rfl,.inr (.inr ⟨rfl,rfl⟩),by decide⟩,28,rfl,by decide,by decide⟩
def thk (n:Nat):List (List Key×V):=cE [] ((M51.AL n n).map fun x=>(ky x,V.bl true))
theorem im (n:Nat):Keys (thk n) (n:Int):=fun p hp e=>fQ _ _ _ (.inr ⟨V.bl true,zC5.mpr ⟨p,sZ hp e,rfl⟩⟩)
def oft (t:Nat) (l:List (List Int)):List Int:=(List.range t).map fun (j:Nat)=>(M51.cs l (shn t) j:Int)
theorem sg (t:Nat):oft t []=List.replicate t 0:=by
 refine zD9 (by simp [oft]) fun i h1 h2=>?_
 simp [oft,M51.cs]
theorem gQ (t:Nat) (l:List (List Int)):(oft t l).length=t:=by simp [oft]
theorem iC {t j:Nat} (l:List (List Int)) (h:j<(oft t l).length):(oft t l)[j]=(M51.cs l (shn t) j:Int):=by simp [oft]
theorem ox {t:Nat} (l:List (List Int)) (x:List Int) (h:shn t x<(oft t l).length):(oft t l).set (shn t x) ((oft t l)[shn t x]+1)=oft t (l++[x]):=by
 rw [iC l h]
 refine zD9 (by rw [List.length_set,gQ,gQ]) fun i h1 h2=>?_
 have e:M51.cs (l++[x]) (shn t) i=M51.cs l (shn t) i+if shn t x=i then 1 else 0:=by
  unfold M51.cs
  rw [zH4,zA5]
  by_cases c:shn t x=i
  · simp [c]
  · simp [c]
 rw [List.getElem_set,iC (l++[x]),e]
 by_cases c:shn t x=i
 · subst c
   rw [if_pos rfl,if_pos rfl]
   lia
 · rw [if_neg c,if_neg c,iC]
   lia
def gk (G:List (List Int)):List (List Key×V):=G.map fun x=>(ky x,V.bl true)
theorem iN (G:List (List Int)) (x:List Int):(ci (gk G) (ky x)).isSome=decide (x∈G):=by
 rw [← bZ,Bool.eq_iff_iff,List.any_eq_true,decide_eq_true_eq]
 constructor
 · rintro ⟨kv,hk,e⟩
   obtain ⟨y,hy,rfl⟩:=zC5.mp hk
   rw [← ky_inj (of_decide_eq_true e)]
   exact hy
 · exact fun h=>⟨(ky x,V.bl true),zC5.mpr ⟨x,h,rfl⟩,decide_eq_true rfl⟩
end K51
namespace L2
open PySem PySem.Calls PyProof.Rows
section
variable {prog:Program} {w:World} {A:Around} {E:Value->Shared->Prop} {s:Shared} {d:Addr} {o:Obj} {es:Array DictEntry} {ep:Nat}
theorem jv (hd:(d == sysModules)=false) (n:Nat) :
 MeetsIn prog w (Builtin.«dict.__len__» ⟨[.ref d],[]⟩) (fun _ R s=>∃ o es ep,s.heap.get? d=some o/\o.data=.dict es ep/\es.size=n/\R (.ok (.ret (.int n s.toks))) { s with toks:=s.toks+1 }):=
 .of_wp fun A R s ⟨o,es,ep,ho,hdat,e,h⟩=>by
  show wpAny _ _ (dictSize d >>= _) _ _ s
  unfold dictSize
  refine wpAny_bind (wpAny_bind (wpAny_dictEntries ho hdat (wpAny_pure ?_)))
  show wpAny _ _ (Builtin.Dict.pendingCount d >>= _) _ _ s
  refine wpAny_bind (wpAny_pendingCount_other hd ?_)
  refine wpAny_ret_mkInt ?_
  rw [zF5,e];exact h
theorem lA {Q:Value->Shared->Prop} (hd:(d == sysModules)=false) (ty:s.TypeIs (.ref d) "dict") (ho:s.heap.get? d=some o) (hdat:o.data=.dict es ep) (hfit:(es.size:Int)<2 ^ 63)
 (h:Q (.int es.size (s.toks+1)) { s with toks:=s.toks+1+1 }):wpAny (model prog w) A (Builtin.«len» ⟨[.ref d],[]⟩) (fun fin s'=>∃ r,fin=.done (.ret r)/\Q r s') E s:=by
 unfold Builtin.«len»
 refine wpAny_bind (m:=oneArg "len" _) (wpAny_pure ?_)
 refine wpAny_bind (m:=callSpecial? (.ref d) (Str.ofString "__len__")) (wpAny_callSpecial?_slot (name:=Str.ofString "__len__") ty F.slot_dict_len
  (call_meetsIn F.slot_dict_len ty F.entry_dict_len (F.args_dict_len_1 _) (jv hd es.size) ⟨o,es,ep,ho,hdat,rfl,?_⟩))
 show wpAny _ _ _ _ _ { s with toks:=s.toks+1 }
 refine wpAny_bind (wpAny_holding (wpAny_pure ?_))
 refine wpAny_bind (wpAny_letGo ?_)
 show wpAny _ _ (if ((es.size:Nat):Int)<0 then _ else _) _ _ _
 rw [if_neg (by lia)]
 show wpAny _ _ (if ((es.size:Nat):Int)>=2 ^ 63 then _ else _) _ _ _
 rw [if_neg (by lia)]
 exact wpAny_bind (wpAny_mkInt (wpAny_pure ⟨_,rfl,h⟩))
end
section
variable {X:Cx}
def nP:List V->Hp->VK->Prop:=fun vs H Q=>match vs with
 | [.ref p]=>∃ kvs,H p=some (.dT kvs)/\Q (.int kvs.length) H
 | _=>False
theorem mF:CallR X (.builtin "len") nP:=by
 intro pins s σ H xs us Q I r h
 unfold nP at h
 split at h
 · rename_i p
   obtain ⟨kvs,hp,q⟩:=h
   obtain ⟨u,rfl,rx⟩:=cg r
   cases rx
   obtain ⟨z,hd,ys,kt,dd⟩:=dt_of I.hok hp
   have ty:=dd.typeIs
   obtain ⟨o,es,ep,ho,hex,hdat,he,_⟩:=dd
   have el:es.size=kvs.length:=by rw [size_of_entries he];exact kt.length.symm
   rw [sizeLine_eq] at z
   refine Calls.call_function_entry kind_len plain_len entry_len (args_len1 _) (lA hd ty ho hdat (by lia) ?_)
   rw [el]
   exact ⟨.int _,H,I.tok _,⟨_,rfl⟩,q⟩
 · exact h.elim
variable {e:Expr} {es:List Expr} {t:TA} {p pos:Pos}
theorem ol (hg:Gl X "len") (hm:X.mg "len" = none) (ha:PA X (e::es) t) (he:starEach (e::es) X.env=(false,eval e X.env)::starEach es X.env) (hpl:(backTo pos (starEach es X.env)).any (·.1)=false) :
 PE X (.Call (.Name "len" p) (e::es) [] pos) (tCB nP t):=aW mF hg hm PySem.boot_len ha (by decide) (by decide) he hpl
theorem m9 (hg:Gl X "len") (hm:X.mg "len" = none) (ha:ZA X (e::es) t) (he:starEach (e::es) X.env=(false,eval e X.env)::starEach es X.env) (hpl:(backTo pos (starEach es X.env)).any (·.1)=false) :
 ZE X (.Call (.Name "len" p) (e::es) [] pos) (tCB nP t):=by with_unfolding_all exact ol hg hm ha he hpl
end
end L2
namespace K51
open PySem L2 M39 M40 M43 M48 M47 M81 M41
theorem iy:∀ n:Nat,(List.replicate n (1:Int)).sum=n
 | 0=>rfl
 | n+1=>by rw [zG4,zB3,iy n];lia
theorem al_pos (n:Nat):0<(M51.AL n n).length:=List.length_pos_of_mem (a:=List.replicate n (1:Int)) (M51.al_iff.mpr ⟨fun x hx=>by rw [List.eq_of_mem_replicate hx];decide,List.pairwise_replicate.mpr (.inr (zE7 _)),iy n⟩)
theorem si {t n:Nat} (h:∀ j,j<t->M51.cs (M51.AL n n) (shn t) j=(M51.AL n n).length / t):oft t (M51.AL n n)=List.replicate t (((M51.AL n n).length / t:Nat):Int):=by
 refine zD9 (by simp [oft]) fun i h1 h2=>?_
 rw [iC,List.getElem_replicate,h i (by simpa [oft] using h1)]
theorem sA (G:List (List Int)) (x:List Int):gk (G++[x])=gk G++[(ky x,V.bl true)]:=by unfold gk;rw [zA2];rfl
theorem pN (G:List (List Int)):(gk G).length=G.length:=by unfold gk;simp
theorem any_no (n:Nat):(List.replicate n false).any id=false:=by
 rw [List.any_eq_false]
 intro x hx
 rw [List.eq_of_mem_replicate hx]
 decide
section
variable {P:Program} {w:World} {K:PySem.W.Frag} {mg:Str->Option Value} {base:Heap} {f:Addr} {fd:FuncData}
theorem sc_law:FnScope ["_law_script","_law_state","_law_where","_law_seldom","_law_t","_law_weights","_law_n","_law_some","_law_there","_law_turn","_law_often","_law_gone","_law_parting","_law_met","_law_one"] ["_law_script"] (ag (top 34)):=⟨rfl,rfl,rfl,by decide +kernel,rfl,by decide +kernel,by decide +kernel⟩
def ir (K:PySem.W.Frag):Sp:=fun vs H Q _=>∃ (a:Addr) (ns:List Int),vs=[.ref a]/\SqL K H a (ns.map V.int)/\ns.length<=63/\∀ H',Q (.bl true) H'
theorem ok_law (F:Fun K "law" "law" (top 34) f fd) (m_any:mg "any" = none) (m_dict:mg "dict" = none) (m_len:mg "len" = none) (m_range:mg "range" = none) (F_law_all:FnA P w K mg base "_law_all" 31 ["_law_n","_law_top"] (kx 31)) (F_law_hand:FnA P w K mg base "_law_hand" 1 ["_law_script"] (gG K)) (F_law_round_of:FnA P w K mg base "_law_round_of" 9 ["_law_t","_law_parting","_law_there"] qD) (F_law_take:FnA P w K mg base "_law_take" 1 ["_law_state","_law_many"] gF) (F_share:FnA P w K mg base "share" 8 ["t","parting"] qC):FnOk P w K mg base CX0 32 f fd ["_law_script"] (ir K):=by
 refine F.okz sc_law (fun vs H Q E h=>?_) (fun cdv A outer s H vs Q E hr h=>?_)
 · obtain ⟨a,ns,rfl,_⟩:=h;rfl
 obtain ⟨a,ns,rfl,hS,hl,q⟩:=h
 have nd:=sc_law.nd
 have hu:=hr.units
 have hu1:=hu_of hr
 have tail:∃ tr,ZSs (oT CX0 P w K mg base ["_law_script","_law_state","_law_where","_law_seldom","_law_t","_law_weights","_law_n","_law_some","_law_there","_law_turn","_law_often","_law_gone","_law_parting","_law_met","_law_one"] "law" (ag (top 34)) f cdv A outer s H E).nox ((au (top 34)).drop 6) tr /\
  ∀ (H1:Hp) (t n k:Nat) (p:Addr) (x0 x2 x3 x5 x7 x8 x9 x10 x11 x12 x13 x14:Option V),T3 t->n<=30->(n:Int) % (t:Int)=cw t->Hand H1 p k->k<900000000->tr { nx:=fun _ H'=>Q .non H',rt:=Q } [x0,some (.ref p),x2,x3,some (.int t),x5,some (.int n),x7,x8,x9,x10,x11,x12,x13,x14] H1:=by
  refine ⟨_,(af (ay (i:=7) nd rfl (Or.inl rfl) (aF F_law_all hr (by decide) rfl (aa (zn 6) (aa (zn 6) ae))))
   (af (ay (i:=8) nd rfl (Or.inl rfl) (jW hu rfl rfl m_dict (aa (aN ["_law_parting"] [] rfl ⟨rfl,by decide +kernel,by decide +kernel,rfl,rfl⟩ (aP (zn 7)) aM (fun _ _ _ _=>aj (i:=0) (show List.Nodup (["_law_parting"]:List Str) by decide +kernel) rfl (Or.inl rfl)) (fun _ _ _ _=>aH) (fun _ _ _ _=>(ee (aa (zn 0) (aa i6 ae))))) ae) rfl rfl))
   (af (cY (aY (pB hu) (am bf (bi rfl m_len (aa (zn 7) ae) rfl rfl) (zn 4)) ah (bn _)) (ai (aC i6)) bb)
   (af (cY (aY iB (zn 6) ah (bn _)) (af (bo PassesOwn.never rfl (bQ rfl m_range (aa (am bH ah (zn 4)) ae)) (aj (i:=9) nd rfl (Or.inl rfl)) (ai (cY (aY pC (aF F_law_round_of hr (by decide) rfl (aa (zn 4) (aa (bh dL (zn 7) (aF F_law_take hr (by decide) rfl (aa (zn 1) (aa (bi rfl m_len (aa (zn 7) ae) rfl rfl) ae))) (fun _ _=>rfl)) (aa (zn 8) ae)))) hV (bn _)) (ai (aC i6)) bb)))
   (ai (aC i6))) bb)
   (af (d8 (ee (aa (am aG (a0 (aa ah ae)) (zn 4)) (aa m6 ae))) (ce rfl (aA (aj (i:=10) nd rfl (Or.inl rfl)) (aA (aj (i:=11) nd rfl (Or.inr rfl)) bx))))
   (af (bo PassesOwn.never rfl (aP (zn 7)) (aj (i:=12) nd rfl (Or.inl rfl)) (af (d8 (am aE (bh dL (zn 10) (aF F_share hr (by decide) rfl (aa (zn 4) (aa (zn 12) ae))) (fun _ _=>rfl)) ah) (fB (zn 10) (aF F_share hr (by decide) rfl (aa (zn 4) (aa (zn 12) ae))) ca))
   (ai (cY (o3 (fC hu1 (zn 12) (zn 11)) (by with_unfolding_all rfl)) (af (ay (i:=13) nd rfl (Or.inl rfl) (aF F_law_round_of hr (by decide) rfl (aa (zn 4) (aa (zn 12) (aa (zn 8) ae)))))
   (af (cY (ZW.zt (zw_or (aY pC (zn 13) hV (bn _)) (o1 (jS (qi rfl rfl m_any (aa (aN ["_law_one"] [("_law_gone",11)] rfl ⟨rfl,by decide +kernel,by decide +kernel,rfl,rfl⟩ (aP (zn 13)) aM (fun _ _ _ _=>aj (i:=0) (show List.Nodup (["_law_one","_law_gone"]:List Str) by decide +kernel) rfl (Or.inl rfl)) (fun _ _ _ _=>aH) (fun _ _ _ _=>(ze_cmp (zc_din hu1 (zn 0) (zn 1)) (by with_unfolding_all rfl)))) ae) rfl rfl))))) (ai (aC i6)) bb)
   (ai (bo PassesOwn.never rfl (aP (zn 13)) (aj (i:=14) nd rfl (Or.inl rfl)) (ai (qa hu1 (zn 11) (zn 14) i6 rfl)))))) bb))))
   (ai (aC (qf (gx (eD hu) (zn 10) (am aG (a0 (aa (am bH (bi rfl m_len (aa (zn 7) ae) rfl rfl) (zn 4)) ae)) (zn 4)) (bn _)) (ze_one (gx (eD hu) (m9 rfl m_len (aa (zn 11) ae) rfl rfl) (bi rfl m_len (aa (zn 7) ae) rfl rfl) (bn _)))))))))))),?_⟩
  intro H1 t n k p x0 x2 x3 x5 x7 x8 x9 x10 x11 x12 x13 x14 h3 hn hc hh hk
  have tl:5<=t/\t<=11:=by rcases h3 with rfl | rfl | rfl <;> decide
  obtain ⟨ev1,ev2⟩:=evenly h3 (show n<=300 by lia) hc
  have l6:=fw (m:=n) hn
  refine ⟨n,n,rfl,by lia,hn,fun S us H2 hS y2 hS2 tp=>?_⟩
  obtain ⟨ks,rfl,kl,hks⟩:=ik tp
  have hh2:=hh.same y2
  refine ⟨S,rfl,⟨_,SqL.of hS2⟩,bu (xs:=ks.map V.ref) (fun m ys Hc=>m<=ks.length/\Same H2 Hc/\∃ bs:List Addr,ys=bs.map V.ref/\bs.length=m/\∀ (j:Nat) b a,bs[j]? = some b->ks[j]? = some a->Hc b=some (.tup [.ref a,.bl true])) ⟨zC6 _,Same.refl _,[],rfl,rfl,fun j b a e1 _=>nomatch e1⟩ ?_ ?_ ?_⟩
  · rintro m ys Hc _ ⟨_,y,_⟩
    exact SqL.of (y _ _ hS2)
  · rintro m v ys Hc hv ⟨_,y,bs,rfl,lb,hb⟩
    rw [List.getElem?_map] at hv
    cases ea:ks[m]? with
    | none=>rw [ea] at hv;cases hv
    | some a=>
      rw [ea] at hv
      cases hv
      have hm:=(List.getElem?_eq_some_iff.mp ea).1
      refine ⟨by rw [zA0];exact gH (by lia),?_⟩
      refine ⟨by show 2<=sizeLine;decide,fun t ht=>?_⟩
      have yt:=Same.new ht (.tup [V.ref a,.bl true])
      refine ⟨hm,y.trans yt,bs++[t],by rw [zA2];rfl,by rw [zA5,lb];rfl,fun j b a' e1 e2=>?_⟩
      by_cases hj:j<bs.length
      · rw [List.getElem?_append_left hj] at e1
        exact yt _ _ (hb j b a' e1 e2)
      · rw [List.getElem?_append_right (by lia)] at e1
        have j0:j=m:=by
         have:=(List.getElem?_eq_some_iff.mp e1).1
         rw [List.length_singleton] at this
         lia
        subst j0
        rw [show j - bs.length=0 by lia] at e1
        cases e1
        rw [ea] at e2
        cases e2
        exact ad
  rintro ys Hc ⟨_,y,bs,rfl,lb,hb⟩ D hD
  rw [zA0] at lb
  have yD:=Same.new hD (.lst (bs.map V.ref))
  have gD:upd Hc D (.lst (bs.map V.ref)) D=some (.lst (bs.map V.ref)):=ad
  have hb':∀ (j:Nat) b a,bs[j]? = some b->ks[j]? = some a->upd Hc D (.lst (bs.map V.ref)) b=some (.tup [.ref a,.bl true]):=fun j b a e1 e2=>yD _ _ (hb j b a e1 e2)
  have z2:=y.trans yD
  generalize upd Hc D (.lst (bs.map V.ref))=H3 at gD hb' z2
  refine ⟨(M51.AL n n).map fun x=>(ky x,V.bl true),ks,bs,gD,by rw [zA0];lia,by rw [zA0];lia,by rw [zA0];exact line6k l6,fun j cj' kv b e1 e2 e3=>?_,fun th hth=>?_⟩
  · rw [List.getElem?_map] at e2
    cases ex:(M51.AL n n)[j]? with
    | none=>rw [ex] at e2;cases e2
    | some x=>
      rw [ex] at e2
      cases e2
      exact ⟨hb' j _ _ e1 e3,by rw [su];exact z2 _ _ (hks j _ _ e3 ex)⟩
  have yt:=z2.trans (Same.new hth (.dT (thk n)))
  have gth:upd H3 th (.dT (thk n)) th=some (.dT (thk n)):=ad
  have hh4:=hh2.same yt
  have tp4:=tp.same yt
  have hS4:=yt _ _ hS2
  have eG:upd H3 th (.dT (cE [] ((M51.AL n n).map fun x=>(ky x,V.bl true))))=upd H3 th (.dT (thk n)):=rfl
  rw [eG]
  have thp:th≠p:=(hh2.same z2).ne hth
  have Sp':S≠p:=hh.ne hS
  generalize upd H3 th (.dT (thk n))=H4 at gth hh4 tp4 hS4 yt
  have ul:(ks.map V.ref).length=(M51.AL n n).length:=by rw [zA0,kl]
  refine ⟨_,.inl (SqL.of hS4),?_⟩
  refine ⟨(show (0:Int)<t by lia),?_⟩
  have em:(((ks.map V.ref).length:Nat):Int) % (t:Int)=0:=by rw [ul];lia
  have em':((ks.length:Nat):Int) % (t:Int)=0:=by rw [kl];lia
  refine iteB (fun c=>by simp [em'] at c) (fun _=>?_)
  refine tG (fun c20=>?_) (fun c20=>?_)
  · refine ⟨⟨by lia,by lia⟩,?_⟩
    have e60:(60:Int) / (t:Int)<=12/\0<=(60:Int) / (t:Int):=by rcases h3 with rfl | rfl | rfl <;> decide
    refine ⟨(60:Int) / (t:Int),rfl,by lia,by lia,dN (fun i σ H'=>i<=12/\Step p (k+i) H4 H'/\∃ x9,σ=[x0,some (.ref p),x2,x3,some (.int t),x5,some (.int n),some (.ref S),some (.ref th),x9,x10,x11,x12,x13,x14]) ⟨by decide,Step.refl hh4,_,rfl⟩ ?_ ?_⟩
    · rintro i σ H5 hi ⟨_,st,x9,rfl⟩
      have hi12:i+1<=12:=by lia
      have hS5:=st.1 _ _ Sp' hS4
      refine ⟨_,.inl (SqL.of hS5),?_⟩
      have pos:=al_pos n
      refine ⟨p,(((ks.map V.ref).length:Nat):Int),_,rfl,st.2,by lia,by rw [ul];lia,by rw [ul];lia,fun r H6 r0 r1 st6=>?_⟩
      rw [ul] at r1
      have hr:r.toNat<ks.length:=by lia
      have hr2:r.toNat<(M51.AL n n).length:=by lia
      refine ⟨_,.inl (SqL.of (st6.1 _ _ Sp' hS5)),.ref ks[r.toNat],cX (j:=r.toNat) (by lia) (by rw [List.getElem?_map,List.getElem?_eq_getElem hr];rfl),?_⟩
      have hx:=zB1 hr2
      have st46:=st.trans st6
      have hb4:H4 ks[r.toNat]=some (.tup ((M51.AL n n)[r.toNat].map V.int)):=yt _ _ (hks r.toNat _ _ (List.getElem?_eq_getElem hr) (List.getElem?_eq_getElem hr2))
      refine ⟨ks[r.toNat],th,(M51.AL n n)[r.toNat],t,thk n,rfl,Step.tup hh4 st46 hb4,st46.1 _ _ thp gth,h3,cN (by lia) hc hx,by rw [i3 hx];exact im n,fun L us mss H7 hL y7 hL7 tp7 ml orb=>?_⟩
      exact ⟨hi12,(st46.same y7).mono (by lia),_,rfl⟩
    · rintro σ H5 ⟨_,_,x9,rfl⟩
      exact q _
  · refine ⟨by show 1<=sizeLine;decide,fun d0 hd0=>?_⟩
    have y0:=Same.new hd0 (.lst [V.int 0])
    refine ⟨⟨by lia,by lia⟩,.inl ⟨_,ad,cT (by show 1*(t:Int).toNat<=1000;lia),fun O hO=>?_⟩⟩
    rw [dg,zF4,← sg]
    have yO:=y0.trans (Same.new hO (.lst ((oft t []).map V.int)))
    have gO:upd (upd H4 d0 (.lst [V.int 0])) O (.lst ((oft t []).map V.int)) O=some (.lst ((oft t []).map V.int)):=ad
    have O4:=aZ y0 hO
    generalize upd (upd H4 d0 (.lst [V.int 0])) O (.lst ((oft t []).map V.int))=H5 at yO gO
    refine fun g hg=>?_
    have yg:=Same.new hg (.dT [])
    have gg:upd H5 g (.dT []) g=some (.dT (gk [])):=ad
    have gO6:=yg _ _ gO
    have y6:=yO.trans yg
    have g4:=aZ yO hg
    have gO':g≠O:=fun z=>by rw [z,gO] at hg;cases hg
    generalize upd H5 g (.dT [])=H6 at gg gO6 y6
    refine ⟨by show 2<=sizeLine;decide,fun tt htt=>?_⟩
    have ytt:=Same.new htt (.tup [V.ref O,.ref g])
    refine ⟨tt,_,rfl,SqT.of ad,rfl,_,_,rfl,_,_,rfl,rfl,?_⟩
    have gg7:=ytt _ _ gg
    have gO7:=ytt _ _ gO6
    have y7:=y6.trans ytt
    generalize upd H6 tt (.tup [V.ref O,.ref g])=H7 at gg7 gO7 y7
    refine ⟨S,rfl,⟨_,SqL.of (y7 _ _ hS4)⟩,bN (xs:=ks.map V.ref) (fun i σ H'=>i<=ks.length/\Same H4 H'/\H' O=some (.lst ((oft t ((M51.AL n n).take i)).map V.int))/\(∃ G:List (List Int),H' g=some (.dT (gk G))/\Gone t n G/\∀ x∈(M51.AL n n).take i,x∈G)/\∃ x12 x13 x14,σ=[x0,some (.ref p),x2,x3,some (.int t),x5,some (.int n),some (.ref S),some (.ref th),x9,some (.ref O),some (.ref g),x12,x13,x14]) ⟨zC6 _,y7,gO7,⟨[],gg7,Gone.nil,fun x h=>(nomatch h)⟩,_,_,_,rfl⟩ ?_ ?_ ?_⟩
    · rintro i σ H' _ ⟨_,y,_⟩
      exact SqL.of (y _ _ hS4)
    · rintro i v σ H8 hv ⟨_,y8,hO8,⟨G,hG8,go,gm⟩,x12,x13,x14,rfl⟩
      rw [List.getElem?_map] at hv
      cases ea:ks[i]? with
      | none=>rw [ea] at hv;cases hv
      | some a=>
      rw [ea] at hv
      cases hv
      have hi:=(List.getElem?_eq_some_iff.mp ea).1
      have hi2:i<(M51.AL n n).length:=by lia
      have hx:=zB1 hi2
      have hb8:H8 a=some (.tup ((M51.AL n n)[i].map V.int)):=y8 _ _ (yt _ _ (hks i _ _ ea (List.getElem?_eq_getElem hi2)))
      have et:(M51.AL n n).take (i+1)=(M51.AL n n).take i++[(M51.AL n n)[i]]:=by rw [zE1,List.getElem?_eq_getElem hi2];rfl
      have fit:=cN (t:=t) (show n<=300 by lia) hc hx
      have xs:=i3 hx
      generalize (M51.AL n n)[i]=x at hx hb8 et fit xs
      rw [et]
      have sl:=eV h3 x
      have es:shr x t=((shn t x:Nat):Int):=by unfold shn;lia
      have so:=pf h3 x
      have soL:shn t x<(oft t ((M51.AL n n).take i)).length:=by rw [gQ];exact so
      refine ⟨a,x,t,rfl,hb8,h3,fit,fun H9 y9=>?_⟩
      rw [es]
      have hO9:=y9 _ _ hO8
      refine ⟨_,.inl (SqL.of hO9),.int (oft t ((M51.AL n n).take i))[shn t x],cX (j:=shn t x) rfl (fz soL),?_⟩
      refine ⟨a,x,t,rfl,y9 _ _ hb8,h3,fit,fun H10 y10=>?_⟩
      rw [es]
      have hO10:=y10 _ _ hO9
      refine ⟨O,_,_,shn t x,rfl,rfl,hO10,sx (by rw [zA0];exact soL),?_⟩
      have hgO:g≠O:=fun z=>by rw [z,hO8] at hG8;cases hG8
      have y810:=y9.trans y10
      have gO11:upd H10 O (.lst (((oft t ((M51.AL n n).take i)).map V.int).set (shn t x) (.int ((oft t ((M51.AL n n).take i))[shn t x]+1)))) O=some (.lst ((oft t ((M51.AL n n).take i++[x])).map V.int)):=by rw [ad,← ox _ x soL,List.map_set]
      have y11:Same H4 (upd H10 O (.lst (((oft t ((M51.AL n n).take i)).map V.int).set (shn t x) (.int ((oft t ((M51.AL n n).take i))[shn t x]+1))))):=Same.updN (y8.trans y810) O4
      have gG11:upd H10 O (.lst (((oft t ((M51.AL n n).take i)).map V.int).set (shn t x) (.int ((oft t ((M51.AL n n).take i))[shn t x]+1)))) g=some (.dT (gk G)):=by rw [ao hgO];exact y810 _ _ hG8
      have ha11:upd H10 O (.lst (((oft t ((M51.AL n n).take i)).map V.int).set (shn t x) (.int ((oft t ((M51.AL n n).take i))[shn t x]+1)))) a=some (.tup (x.map V.int)):=by rw [ao (fun z=>by rw [z,hO8] at hb8;cases hb8)];exact y810 _ _ hb8
      generalize upd H10 O (.lst (((oft t ((M51.AL n n).take i)).map V.int).set (shn t x) (.int ((oft t ((M51.AL n n).take i))[shn t x]+1))))=H11 at gO11 y11 gG11 ha11
      refine ⟨g,ci (gk G) (ky x),rfl,.inr ⟨gk G,ky x,a,.inl gG11,rfl,by rw [su];exact ha11,rfl⟩,?_⟩
      by_cases hin:x∈G
      · refine ⟨false,by rw [iN,decide_eq_true hin];rfl,?_⟩
        refine ⟨hi,y11,gO11,⟨G,gG11,go,fun z hz=>?_⟩,_,_,_,rfl⟩
        rcases zC1.mp hz with hz | hz
        · exact gm z hz
        · rw [zD4.mp hz];exact hin
      · refine ⟨true,by rw [iN,decide_eq_false hin];rfl,?_⟩
        refine ⟨a,th,x,t,thk n,rfl,ha11,y11 _ _ gth,h3,fit,by rw [xs];exact im n,fun L us mss H12 hL y12 hL12 tp12 ml orb=>?_⟩
        have off:=go.off h3 fit hin orb ml
        have gG12:=y12 _ _ gG11
        refine ⟨L,rfl,⟨_,SqL.of hL12⟩,bu (xs:=us) (fun j zs H'=>H'=H12/\zs=(List.replicate j false).map V.bl) ⟨rfl,rfl⟩ ?_ ?_ ?_⟩
        · rintro j zs H' _ ⟨rfl,_⟩
          exact SqL.of hL12
        · rintro j v zs H' hv ⟨rfl,rfl⟩
          obtain ⟨ls,b,els,rfl,hb⟩:=tp12.get hv
          have lu:=tp12.length
          have hj:=(List.getElem?_eq_some_iff.mp hv).1
          refine ⟨by rw [zA0,zH0];exact aq (by lia),?_⟩
          refine ⟨g,ci (gk G) (ky ls),rfl,.inr ⟨gk G,ky ls,b,.inl gG12,rfl,by rw [su];exact hb,rfl⟩,?_⟩
          refine ⟨rfl,?_⟩
          rw [iN,decide_eq_false (off ls (zG7 els)),List.replicate_succ',zA2]
          rfl
        · rintro zs H' ⟨rfl,rfl⟩ D13 hD13
          have y13:=Same.new hD13 (.lst ((List.replicate us.length false).map V.bl))
          refine ⟨_,SqL.of ad,?_⟩
          rw [any_no]
          have gG13:=y13 _ _ gG12
          have gO13:=y13 _ _ (y12 _ _ gO11)
          have hL13:=y13 _ _ hL12
          have tp13:=tp12.same y13
          have z13:=(y11.trans y12).trans y13
          generalize upd H' D13 (.lst ((List.replicate us.length false).map V.bl))=H13 at gG13 gO13 hL13 tp13 z13
          have lu:=tp13.length
          have nd2:=orb.nd h3 ml
          refine ⟨L,rfl,⟨_,SqL.of hL13⟩,bN (xs:=us) (fun j σ H'=>j<=us.length/\(∀ b o,b≠g->H13 b=some o->H' b=some o)/\H' g=some (.dT (gk (G++mss.take j)))/\∃ x14,σ=[x0,some (.ref p),x2,x3,some (.int t),x5,some (.int n),some (.ref S),some (.ref th),x9,some (.ref O),some (.ref g),some (.ref a),some (.ref L),x14]) ⟨zC6 _,fun b o _ e=>e,by rw [List.take_zero,zE3];exact gG13,_,rfl⟩ ?_ ?_ ?_⟩
          · rintro j σ H' _ ⟨_,kp,_⟩
            exact SqL.of (kp _ _ (fun z=>by rw [z,gG13] at hL13;cases hL13) hL13)
          · rintro j v σ H14 hv ⟨_,kp,hg14,x14',rfl⟩
            obtain ⟨ls,b,els,rfl,hb⟩:=tp13.get hv
            have hj:=(List.getElem?_eq_some_iff.mp hv).1
            have hj2:j<mss.length:=by lia
            have bg:b≠g:=fun z=>by rw [z,gG13] at hb;cases hb
            have hb14:=kp _ _ bg hb
            have els':ls=mss[j]:=by rw [List.getElem?_eq_getElem hj2] at els;exact (Option.some.inj els).symm
            have no:ls∉G++mss.take j:=fun h=>by
             rcases zC1.mp h with h | h
             · exact off ls (zG7 els) h
             · obtain ⟨i',hi',e⟩:=List.getElem_of_mem h
               rw [zB7] at hi'
               rw [zF7] at e
               exact gy h3 (orb i' (by lia)) (orb j hj2) (by lia) (by lia) (e.trans els')
            have hno:ci (gk (G++mss.take j)) (ky ls)=none:=by
             have:=iN (G++mss.take j) ls
             rw [decide_eq_false no] at this
             cases e:ci (gk (G++mss.take j)) (ky ls) with
             | none=>rfl
             | some z=>rw [e] at this;cases this
            have gl:(gk (G++mss.take j)).length<sizeLine:=by
             rw [pN,zA5,zB7]
             have:=M51.sub_len go.nd go.all
             rw [sizeLine_eq]
             lia
            refine ⟨g,_,rfl,DPut.t hg14 (by rw [su];exact hb14) gl,?_⟩
            rw [nW _ hno,← sA,zB6]
            have e14:mss.take j++[ls]=mss.take (j+1):=by rw [zE1,els];rfl
            rw [e14]
            exact ⟨hj,fun b o nb e=>by rw [ao nb];exact kp b o nb e,ad,_,rfl⟩
          · rintro σ H14 ⟨_,kp,hg14,x14',rfl⟩
            rw [zC2 (by lia)] at hg14
            refine ⟨hi,fun b o e=>kp b o (fun z=>by rw [z,g4] at e;cases e) (z13 _ _ e),kp _ _ (fun z=>hgO z.symm) gO13,⟨G++mss,hg14,go.more h3 fit hx hin orb ml,fun z hz=>?_⟩,_,_,_,rfl⟩
            rcases zC1.mp hz with hz | hz
            · exact zF8 _ (gm z hz)
            · rw [zD4.mp hz,← orb.first h3 fit (by lia)]
              exact zB0 _ (zB1 _)
    · rintro σ H8 ⟨_,y8,hO8,⟨G,hG8,go,gm⟩,x12,x13,x14,rfl⟩
      rw [zC2 (by rw [zA0];lia)] at hO8 gm
      have hS8:=y8 _ _ hS4
      rw [si ev1] at hO8
      refine ⟨_,.inl (SqL.of hS8),?_⟩
      refine ⟨⟨by lia,by lia⟩,?_⟩
      refine ⟨by show 1<=sizeLine;decide,fun d9 hd9=>?_⟩
      refine ⟨⟨by lia,by lia⟩,.inl ⟨_,ad,cT (by show 1*(t:Int).toNat<=1000;lia),fun O2 hO2=>?_⟩⟩
      have eR:(List.replicate ((t:Int).toNat) [V.int ((((ks.map V.ref).length:Nat):Int) / (t:Int))]).flatten=(List.replicate t (((M51.AL n n).length / t:Nat):Int)).map V.int:=by rw [dg,zF4,ul,Int.natCast_ediv]
      have y9:=Same.new hd9 (.lst [V.int ((((ks.map V.ref).length:Nat):Int) / (t:Int))])
      have y10:=Same.new hO2 (.lst (List.replicate ((t:Int).toNat) [V.int ((((ks.map V.ref).length:Nat):Int) / (t:Int))]).flatten)
      refine ⟨_,_,.lst (y10 _ _ (y9 _ _ hO8)) (DatAll.ints _),.lst (xs:=(List.replicate t (((M51.AL n n).length / t:Nat):Int)).map V.int) (by rw [ad];exact congrArg (fun l=>some (HO.lst l)) eR) (DatAll.ints _),be _,be _,?_⟩
      rw [if_neg (by decide),iS (be _)]
      refine ⟨gk G,y10 _ _ (y9 _ _ hG8),?_⟩
      refine ⟨_,.inl (SqL.of (y10 _ _ (y9 _ _ hS8))),?_⟩
      have el:((gk G).length:Int)=(((ks.map V.ref).length:Nat):Int):=by rw [pN,go.len gm,ul]
      show Q (.bl (decide (V.int ((gk G).length:Int)=V.int (((ks.map V.ref).length:Nat):Int)))) _
      rw [decide_eq_true (congrArg V.int el)]
      exact q _
 obtain ⟨t2,ht2,tail⟩:=tail
 refine ⟨_,(af (ay (i:=1) nd rfl (Or.inl rfl) (aF F_law_hand hr (by decide) rfl (aa (zn 0) ae)))
  (af (o4 (i:=2) (j:=3) rfl nd rfl rfl (by decide) rfl rfl (aa (aF F_law_take hr (by decide) rfl (aa (zn 1) (aa ah ae))) (aa (aF F_law_take hr (by decide) rfl (aa (zn 1) (aa ah ae))) ae)) rfl)
  (af (ay (i:=4) nd rfl (Or.inl rfl) (bh dL (a0 (aa ah (aa ah (aa ah ae)))) (zn 2) (fun _ _=>rfl)))
  (af (ay (i:=5) nd rfl (Or.inl rfl) (bh dL (a0 (aa (a0 (aa ah (aa ah (aa ah (aa ah ae))))) (aa (a0 (aa ah (aa ah (aa ah ae)))) (aa (a0 (aa ah (aa ah ae))) ae)))) (zn 2) (fun _ _=>rfl)))
  (af (ay (i:=6) nd rfl (Or.inl rfl) (bh dL (zn 5) (aF F_law_take hr (by decide) rfl (aa (zn 1) (aa (bi rfl m_len (aa (zn 5) ae) rfl rfl) ae))) (fun _ _=>rfl)))
  (af (cY (aY (eD hu) (zn 3) ah (bn _)) (ai (ay (i:=6) nd rfl (Or.inl rfl) (bh dL (a0 (aa ah (aa ah (aa ah ae)))) (zn 2) (fun _ _=>rfl)))) bb)
  ht2)))))),?_⟩
 refine ⟨a,ns,rfl,hS,hl,fun p H1 hp y1 hh=>?_⟩
 refine ⟨p,3,0,rfl,hh,by decide,by decide,by decide,fun w H2 w0 w1 st2=>?_⟩
 refine ⟨p,16,_,rfl,st2.2,by lia,by decide,by decide,fun sd H3 _ _ st3=>?_⟩
 refine ⟨_,_,rfl,?_⟩
 obtain ⟨t,et,h3,hW,n3,en3,n31,n32⟩:=pickW w0 w1
 refine ⟨by show 3<=sizeLine;decide,fun d0 hd0=>?_⟩
 have y4:=Same.new hd0 (.lst [V.int 5,.int 7,.int 11])
 refine ⟨_,.inl (SqL.of ad),.int t,et,?_⟩
 have hh4:=st3.2.same y4
 generalize upd H3 d0 (.lst [V.int 5,.int 7,.int 11])=H4 at hh4
 refine ⟨by show 4<=sizeLine;decide,fun d1 hd1=>?_⟩
 have y5:=Same.new hd1 (.lst [V.int 4,.int 9,.int 14,.int 19])
 refine ⟨by show 3<=sizeLine;decide,fun d2 hd2=>?_⟩
 have y6:=Same.new hd2 (.lst [V.int 5,.int 12,.int 19])
 refine ⟨by show 2<=sizeLine;decide,fun d3 hd3=>?_⟩
 have y7:=Same.new hd3 (.lst [V.int 6,.int 17])
 refine ⟨by show 3<=sizeLine;decide,fun d4 hd4=>?_⟩
 have y8:=Same.new hd4 (.lst [V.ref d1,.ref d2,.ref d3])
 obtain ⟨dw,ws,ew,hws,hok⟩:=hW d1 d2 d3
 refine ⟨_,.inl (SqL.of ad),.ref dw,ew,?_⟩
 have e1:=y8 _ _ (y7 _ _ (y6 _ _ (ad (H:=H4) (a:=d1) (o:=.lst [V.int 4,.int 9,.int 14,.int 19]))))
 have e2:=y8 _ _ (y7 _ _ (ad (H:=upd H4 d1 (.lst [V.int 4,.int 9,.int 14,.int 19])) (a:=d2) (o:=.lst [V.int 5,.int 12,.int 19])))
 have e3:=y8 _ _ (ad (H:=upd (upd H4 d1 (.lst [V.int 4,.int 9,.int 14,.int 19])) d2 (.lst [V.int 5,.int 12,.int 19])) (a:=d3) (o:=.lst [V.int 6,.int 17]))
 have hh8:=(((hh4.same y5).same y6).same y7).same y8
 generalize upd (upd (upd (upd H4 d1 (.lst [V.int 4,.int 9,.int 14,.int 19])) d2 (.lst [V.int 5,.int 12,.int 19])) d3 (.lst [V.int 6,.int 17])) d4 (.lst [V.ref d1,.ref d2,.ref d3])=H8 at e1 e2 e3 hh8
 have hw:H8 dw=some (.lst (ws.map V.int))/\0<ws.length/\ws.length<=4:=by
  rcases hws with ⟨rfl,rfl⟩ | ⟨rfl,rfl⟩ | ⟨rfl,rfl⟩
  · exact ⟨e1,by decide,by decide⟩
  · exact ⟨e2,by decide,by decide⟩
  · exact ⟨e3,by decide,by decide⟩
 obtain ⟨hw,wl0,wl1⟩:=hw
 have dwp:dw≠p:=by
  rcases hws with ⟨rfl,_⟩ | ⟨rfl,_⟩ | ⟨rfl,_⟩
  · exact hh4.ne hd1
  · exact (hh4.same y5).ne hd2
  · exact ((hh4.same y5).same y6).ne hd3
 refine ⟨_,.inl (SqL.of hw),?_⟩
 refine ⟨p,(((ws.map V.int).length:Nat):Int),_,rfl,hh8,by lia,by rw [zA0];lia,by rw [zA0];lia,fun r H9 r0 r1 st9=>?_⟩
 rw [zA0] at r1
 have rl:r.toNat<ws.length:=by lia
 refine ⟨_,.inl (SqL.of (st9.1 _ _ dwp hw)),.int ws[r.toNat],cX (j:=r.toNat) (by lia) (fz rl),?_⟩
 obtain ⟨n0,n1,n2⟩:=hok _ (zB1 rl)
 obtain ⟨n,en⟩:∃ n:Nat,(n:Int)=ws[r.toNat]:=⟨ws[r.toNat].toNat,by lia⟩
 rw [← en] at n1 n2 ⊢
 refine iteB (fun _=>?_) (fun _=>?_)
 · refine ⟨by show 3<=sizeLine;decide,fun d10 hd10=>?_⟩
   have y10:=Same.new hd10 (.lst [V.int 24,.int 26,.int 28])
   refine ⟨_,.inl (SqL.of ad),.int n3,en3,?_⟩
   exact tail _ t n3 _ p _ _ _ _ _ _ _ _ _ _ _ _ h3 n31 n32 (st9.2.same y10) (by lia)
 · exact tail _ t n _ p _ _ _ _ _ _ _ _ _ _ _ _ h3 (by lia) n2 st9.2 (by lia)
end
end K51
namespace K51
open PySem L2
theorem fnA {P:Program} {w:World} {K:PySem.W.Frag} {mg:Str->Option Value} {base:Heap} {x:Str} {k:Nat} {ps:List Str} {sp:Sp} {f:Addr} {fd:FuncData} (F:FnOk P w K mg base CX0 k f fd ps sp) (b:Binds K fd ps []) (kp:PySem.W.keepIn K (.ref f)=true) (m:mg x=some (.ref f)):FnA P w K mg base x k ps sp:=⟨⟨f,fd,F,b,kp,m⟩⟩
theorem us1 {α:Type} {p:List α->Prop} (h:∀ a,p [a]):∀ us:List α,us.length=1->p us
 | [a],_=>h a
theorem us2 {α:Type} {p:List α->Prop} (h:∀ a b,p [a,b]):∀ us:List α,us.length=2->p us
 | [a,b],_=>h a b
theorem us3 {α:Type} {p:List α->Prop} (h:∀ a b c,p [a,b,c]):∀ us:List α,us.length=3->p us
 | [a,b,c],_=>h a b c
theorem all_mk {l:PySem.W.OpenLaw} {w:World} {K:PySem.W.Frag} {h:Heap} {mg:Str->Option Value} {fa f1 f2 f3 f4 f5 f6 f7 f8 f9 f10 f11 f12 f13 f14 f15 f16 f17 f18 f19 f20 f21 f22 f23 f24 f25 f26:Addr} (X:K.In h) (G:h.Ns mainGlobals mg) (hfa:mg "law" = some (.ref fa))
 {od1 an1 od2 an2 od3 an3 od4 an4 od5 an5 od6 an6 od7 an7 od8 an8 od9 an9 od10 an10 od11 an11 od12 an12 od13 an13 od14 an14 od15 an15 od16 an16 od17 an17 od18 an18 od19 an19 od20 an20 od21 an21 od22 an22 od23 an23 od24 an24 od25 an25 od26 an26:Option Addr} {sl1 sl2 sl3 sl4 sl5 sl6 sl7 sl8 sl9 sl10 sl11 sl12 sl13 sl14 sl15 sl16 sl17 sl18 sl19 sl20 sl21 sl22 sl23 sl24 sl25 sl26:Array (Option Value)} {oc1 kV1 dc1 pm1 cd1 ct1 oc2 kV2 dc2 pm2 cd2 ct2 oc3 kV3 dc3 pm3 cd3 ct3 oc4 kV4 dc4 pm4 cd4 ct4 oc5 kV5 dc5 pm5 cd5 ct5 oc6 kV6 dc6 pm6 cd6 ct6 oc7 kV7 dc7 pm7 cd7 ct7 oc8 kV8 dc8 pm8 cd8 ct8 oc9 kV9 dc9 pm9 cd9 ct9 oc10 kV10 dc10 pm10 cd10 ct10 oc11 kV11 dc11 pm11 cd11 ct11 oc12 kV12 dc12 pm12 cd12 ct12 oc13 kV13 dc13 pm13 cd13 ct13 oc14 kV14 dc14 pm14 cd14 ct14 oc15 kV15 dc15 pm15 cd15 ct15 oc16 kV16 dc16 pm16 cd16 ct16 oc17 kV17 dc17 pm17 cd17 ct17 oc18 kV18 dc18 pm18 cd18 ct18 oc19 kV19 dc19 pm19 cd19 ct19 oc20 kV20 dc20 pm20 cd20 ct20 oc21 kV21 dc21 pm21 cd21 ct21 oc22 kV22 dc22 pm22 cd22 ct22 oc23 kV23 dc23 pm23 cd23 ct23 oc24 kV24 dc24 pm24 cd24 ct24 oc25 kV25 dc25 pm25 cd25 ct25 oc26 kV26 dc26 pm26 cd26 ct26:Value}
 (a1:PySem.W.nsIn K mainGlobals "beads_of" = some (some (.ref f1))) (l1:K.lookup f1=some ⟨oc1,od1,.func (PySem.W.fnOf "beads_of" "beads_of" (av (top 5)) (au (top 5)) (ag (top 5)) .none kV1 dc1 pm1 an1 cd1 ct1),sl1⟩) (c1:PySem.W.codeIn K cd1 "beads_of" = true) (k1:PySem.W.keepIn K (.ref f1)=true)
 (a2:PySem.W.nsIn K mainGlobals "parting_of" = some (some (.ref f2))) (l2:K.lookup f2=some ⟨oc2,od2,.func (PySem.W.fnOf "parting_of" "parting_of" (av (top 6)) (au (top 6)) (ag (top 6)) .none kV2 dc2 pm2 an2 cd2 ct2),sl2⟩) (c2:PySem.W.codeIn K cd2 "parting_of" = true) (k2:PySem.W.keepIn K (.ref f2)=true)
 (a3:PySem.W.nsIn K mainGlobals "rounds_of" = some (some (.ref f3))) (l3:K.lookup f3=some ⟨oc3,od3,.func (PySem.W.fnOf "rounds_of" "rounds_of" (av (top 7)) (au (top 7)) (ag (top 7)) .none kV3 dc3 pm3 an3 cd3 ct3),sl3⟩) (c3:PySem.W.codeIn K cd3 "rounds_of" = true) (k3:PySem.W.keepIn K (.ref f3)=true)
 (a4:PySem.W.nsIn K mainGlobals "runs_of" = some (some (.ref f4))) (l4:K.lookup f4=some ⟨oc4,od4,.func (PySem.W.fnOf "runs_of" "runs_of" (av (top 8)) (au (top 8)) (ag (top 8)) .none kV4 dc4 pm4 an4 cd4 ct4),sl4⟩) (c4:PySem.W.codeIn K cd4 "runs_of" = true) (k4:PySem.W.keepIn K (.ref f4)=true)
 (a5:PySem.W.nsIn K mainGlobals "with_least_beads" = some (some (.ref f5))) (l5:K.lookup f5=some ⟨oc5,od5,.func (PySem.W.fnOf "with_least_beads" "with_least_beads" (av (top 9)) (au (top 9)) (ag (top 9)) .none kV5 dc5 pm5 an5 cd5 ct5),sl5⟩) (c5:PySem.W.codeIn K cd5 "with_least_beads" = true) (k5:PySem.W.keepIn K (.ref f5)=true)
 (a6:PySem.W.nsIn K mainGlobals "vector" = some (some (.ref f6))) (l6:K.lookup f6=some ⟨oc6,od6,.func (PySem.W.fnOf "vector" "vector" (av (top 10)) (au (top 10)) (ag (top 10)) .none kV6 dc6 pm6 an6 cd6 ct6),sl6⟩) (c6:PySem.W.codeIn K cd6 "vector" = true) (k6:PySem.W.keepIn K (.ref f6)=true)
 (a7:PySem.W.nsIn K mainGlobals "apart" = some (some (.ref f7))) (l7:K.lookup f7=some ⟨oc7,od7,.func (PySem.W.fnOf "apart" "apart" (av (top 11)) (au (top 11)) (ag (top 11)) .none kV7 dc7 pm7 an7 cd7 ct7),sl7⟩) (c7:PySem.W.codeIn K cd7 "apart" = true) (k7:PySem.W.keepIn K (.ref f7)=true)
 (a8:PySem.W.nsIn K mainGlobals "is_core" = some (some (.ref f8))) (l8:K.lookup f8=some ⟨oc8,od8,.func (PySem.W.fnOf "is_core" "is_core" (av (top 12)) (au (top 12)) (ag (top 12)) .none kV8 dc8 pm8 an8 cd8 ct8),sl8⟩) (c8:PySem.W.codeIn K cd8 "is_core" = true) (k8:PySem.W.keepIn K (.ref f8)=true)
 (a9:PySem.W.nsIn K mainGlobals "joined" = some (some (.ref f9))) (l9:K.lookup f9=some ⟨oc9,od9,.func (PySem.W.fnOf "joined" "joined" (av (top 13)) (au (top 13)) (ag (top 13)) .none kV9 dc9 pm9 an9 cd9 ct9),sl9⟩) (c9:PySem.W.codeIn K cd9 "joined" = true) (k9:PySem.W.keepIn K (.ref f9)=true)
 (a10:PySem.W.nsIn K mainGlobals "size_of" = some (some (.ref f10))) (l10:K.lookup f10=some ⟨oc10,od10,.func (PySem.W.fnOf "size_of" "size_of" (av (top 14)) (au (top 14)) (ag (top 14)) .none kV10 dc10 pm10 an10 cd10 ct10),sl10⟩) (c10:PySem.W.codeIn K cd10 "size_of" = true) (k10:PySem.W.keepIn K (.ref f10)=true)
 (a11:PySem.W.nsIn K mainGlobals "core_of" = some (some (.ref f11))) (l11:K.lookup f11=some ⟨oc11,od11,.func (PySem.W.fnOf "core_of" "core_of" (av (top 15)) (au (top 15)) (ag (top 15)) .none kV11 dc11 pm11 an11 cd11 ct11),sl11⟩) (c11:PySem.W.codeIn K cd11 "core_of" = true) (k11:PySem.W.keepIn K (.ref f11)=true)
 (a12:PySem.W.nsIn K mainGlobals "weight_of_round" = some (some (.ref f12))) (l12:K.lookup f12=some ⟨oc12,od12,.func (PySem.W.fnOf "weight_of_round" "weight_of_round" (av (top 18)) (au (top 18)) (ag (top 18)) .none kV12 dc12 pm12 an12 cd12 ct12),sl12⟩) (c12:PySem.W.codeIn K cd12 "weight_of_round" = true) (k12:PySem.W.keepIn K (.ref f12)=true)
 (a13:PySem.W.nsIn K mainGlobals "vectors_of_round" = some (some (.ref f13))) (l13:K.lookup f13=some ⟨oc13,od13,.func (PySem.W.fnOf "vectors_of_round" "vectors_of_round" (av (top 19)) (au (top 19)) (ag (top 19)) .none kV13 dc13 pm13 an13 cd13 ct13),sl13⟩) (c13:PySem.W.codeIn K cd13 "vectors_of_round" = true) (k13:PySem.W.keepIn K (.ref f13)=true)
 (a14:PySem.W.nsIn K mainGlobals "vector_by" = some (some (.ref f14))) (l14:K.lookup f14=some ⟨oc14,od14,.func (PySem.W.fnOf "vector_by" "vector_by" (av (top 20)) (au (top 20)) (ag (top 20)) .none kV14 dc14 pm14 an14 cd14 ct14),sl14⟩) (c14:PySem.W.codeIn K cd14 "vector_by" = true) (k14:PySem.W.keepIn K (.ref f14)=true)
 (a15:PySem.W.nsIn K mainGlobals "sum_of_products" = some (some (.ref f15))) (l15:K.lookup f15=some ⟨oc15,od15,.func (PySem.W.fnOf "sum_of_products" "sum_of_products" (av (top 21)) (au (top 21)) (ag (top 21)) .none kV15 dc15 pm15 an15 cd15 ct15),sl15⟩) (c15:PySem.W.codeIn K cd15 "sum_of_products" = true) (k15:PySem.W.keepIn K (.ref f15)=true)
 (a16:PySem.W.nsIn K mainGlobals "bends_of" = some (some (.ref f16))) (l16:K.lookup f16=some ⟨oc16,od16,.func (PySem.W.fnOf "bends_of" "bends_of" (av (top 22)) (au (top 22)) (ag (top 22)) .none kV16 dc16 pm16 an16 cd16 ct16),sl16⟩) (c16:PySem.W.codeIn K cd16 "bends_of" = true) (k16:PySem.W.keepIn K (.ref f16)=true)
 (a17:PySem.W.nsIn K mainGlobals "by_rises" = some (some (.ref f17))) (l17:K.lookup f17=some ⟨oc17,od17,.func (PySem.W.fnOf "by_rises" "by_rises" (av (top 23)) (au (top 23)) (ag (top 23)) .none kV17 dc17 pm17 an17 cd17 ct17),sl17⟩) (c17:PySem.W.codeIn K cd17 "by_rises" = true) (k17:PySem.W.keepIn K (.ref f17)=true)
 (a18:PySem.W.nsIn K mainGlobals "frame_of" = some (some (.ref f18))) (l18:K.lookup f18=some ⟨oc18,od18,.func (PySem.W.fnOf "frame_of" "frame_of" (av (top 24)) (au (top 24)) (ag (top 24)) .none kV18 dc18 pm18 an18 cd18 ct18),sl18⟩) (c18:PySem.W.codeIn K cd18 "frame_of" = true) (k18:PySem.W.keepIn K (.ref f18)=true)
 (a19:PySem.W.nsIn K mainGlobals "core_frame" = some (some (.ref f19))) (l19:K.lookup f19=some ⟨oc19,od19,.func (PySem.W.fnOf "core_frame" "core_frame" (av (top 26)) (au (top 26)) (ag (top 26)) .none kV19 dc19 pm19 an19 cd19 ct19),sl19⟩) (c19:PySem.W.codeIn K cd19 "core_frame" = true) (k19:PySem.W.keepIn K (.ref f19)=true)
 (a20:PySem.W.nsIn K mainGlobals "turned_on" = some (some (.ref f20))) (l20:K.lookup f20=some ⟨oc20,od20,.func (PySem.W.fnOf "turned_on" "turned_on" (av (top 27)) (au (top 27)) (ag (top 27)) .none kV20 dc20 pm20 an20 cd20 ct20),sl20⟩) (c20:PySem.W.codeIn K cd20 "turned_on" = true) (k20:PySem.W.keepIn K (.ref f20)=true)
 (a21:PySem.W.nsIn K mainGlobals "share" = some (some (.ref f21))) (l21:K.lookup f21=some ⟨oc21,od21,.func (PySem.W.fnOf "share" "share" (av (top 28)) (au (top 28)) (ag (top 28)) .none kV21 dc21 pm21 an21 cd21 ct21),sl21⟩) (c21:PySem.W.codeIn K cd21 "share" = true) (k21:PySem.W.keepIn K (.ref f21)=true)
 (a22:PySem.W.nsIn K mainGlobals "_law_hand" = some (some (.ref f22))) (l22:K.lookup f22=some ⟨oc22,od22,.func (PySem.W.fnOf "_law_hand" "_law_hand" (av (top 30)) (au (top 30)) (ag (top 30)) .none kV22 dc22 pm22 an22 cd22 ct22),sl22⟩) (c22:PySem.W.codeIn K cd22 "_law_hand" = true) (k22:PySem.W.keepIn K (.ref f22)=true)
 (a23:PySem.W.nsIn K mainGlobals "_law_take" = some (some (.ref f23))) (l23:K.lookup f23=some ⟨oc23,od23,.func (PySem.W.fnOf "_law_take" "_law_take" (av (top 31)) (au (top 31)) (ag (top 31)) .none kV23 dc23 pm23 an23 cd23 ct23),sl23⟩) (c23:PySem.W.codeIn K cd23 "_law_take" = true) (k23:PySem.W.keepIn K (.ref f23)=true)
 (a24:PySem.W.nsIn K mainGlobals "_law_all" = some (some (.ref f24))) (l24:K.lookup f24=some ⟨oc24,od24,.func (PySem.W.fnOf "_law_all" "_law_all" (av (top 32)) (au (top 32)) (ag (top 32)) .none kV24 dc24 pm24 an24 cd24 ct24),sl24⟩) (c24:PySem.W.codeIn K cd24 "_law_all" = true) (k24:PySem.W.keepIn K (.ref f24)=true)
 (a25:PySem.W.nsIn K mainGlobals "_law_round_of" = some (some (.ref f25))) (l25:K.lookup f25=some ⟨oc25,od25,.func (PySem.W.fnOf "_law_round_of" "_law_round_of" (av (top 33)) (au (top 33)) (ag (top 33)) .none kV25 dc25 pm25 an25 cd25 ct25),sl25⟩) (c25:PySem.W.codeIn K cd25 "_law_round_of" = true) (k25:PySem.W.keepIn K (.ref f25)=true)
 (a26:PySem.W.nsIn K mainGlobals "law" = some (some (.ref f26))) (l26:K.lookup f26=some ⟨oc26,od26,.func (PySem.W.fnOf "law" "law" (av (top 34)) (au (top 34)) (ag (top 34)) .none kV26 dc26 pm26 an26 cd26 ct26),sl26⟩) (c26:PySem.W.codeIn K cd26 "law" = true) (k26:PySem.W.keepIn K (.ref f26)=true)
 {ra1:Addr} (y1:PySem.W.nsIn K mainGlobals "ROUNDS" = some (some (.ref ra1))) (yt1:tabL K ra1 M48.RD=true)
 (z1:PySem.W.nsIn K mainGlobals "enumerate" = some none) (z2:PySem.W.nsIn K mainGlobals "len" = some none) (z3:PySem.W.nsIn K mainGlobals "reversed" = some none) (z4:PySem.W.nsIn K mainGlobals "sorted" = some none) (z5:PySem.W.nsIn K mainGlobals "tuple" = some none) (z6:PySem.W.nsIn K mainGlobals "range" = some none) (z7:PySem.W.nsIn K mainGlobals "max" = some none) (z8:PySem.W.nsIn K mainGlobals "sum" = some none) (z9:PySem.W.nsIn K mainGlobals "min" = some none) (z10:PySem.W.nsIn K mainGlobals "zip" = some none) (z11:PySem.W.nsIn K mainGlobals "list" = some none) (z12:PySem.W.nsIn K mainGlobals "abs" = some none) (z13:PySem.W.nsIn K mainGlobals "any" = some none) (z14:PySem.W.nsIn K mainGlobals "dict" = some none) :
 ∃ fd:FuncData,(∀ (s:Shared) (v:Value),BindsTo s fd ⟨[v],[]⟩ [("_law_script",v)])/\∀ base:Heap,K.In base->base.Ns mainGlobals mg->FnOk l.prog w K mg base CX0 32 fa fd ["_law_script"] (ir K):=by
 have e:=hfa.symm.trans (PySem.W.mg_of X G a26)
 cases e
 have F1:=aI (st:=top 5) l1 c1 k1
 have b1:=F1.binds (ps:=["parting","many"]) fun _ _ _ _ _ _=>us2 fun _ _=>rfl
 have F2:=aI (st:=top 6) l2 c2 k2
 have b2:=F2.binds (ps:=["beads"]) fun _ _ _ _ _ _=>us1 fun _=>rfl
 have F3:=aI (st:=top 7) l3 c3 k3
 have b3:=F3.binds (ps:=["parting","t"]) fun _ _ _ _ _ _=>us2 fun _ _=>rfl
 have F4:=aI (st:=top 8) l4 c4 k4
 have b4:=F4.binds (ps:=["parting","t","rounds"]) fun _ _ _ _ _ _=>us3 fun _ _ _=>rfl
 have F5:=aI (st:=top 9) l5 c5 k5
 have b5:=F5.binds (ps:=["numbers"]) fun _ _ _ _ _ _=>us1 fun _=>rfl
 have F6:=aI (st:=top 10) l6 c6 k6
 have b6:=F6.binds (ps:=["parting","t"]) fun _ _ _ _ _ _=>us2 fun _ _=>rfl
 have F7:=aI (st:=top 11) l7 c7 k7
 have b7:=F7.binds (ps:=["parting","t"]) fun _ _ _ _ _ _=>us2 fun _ _=>rfl
 have F8:=aI (st:=top 12) l8 c8 k8
 have b8:=F8.binds (ps:=["parting","t"]) fun _ _ _ _ _ _=>us2 fun _ _=>rfl
 have F9:=aI (st:=top 13) l9 c9 k9
 have b9:=F9.binds (ps:=["core","quotients"]) fun _ _ _ _ _ _=>us2 fun _ _=>rfl
 have F10:=aI (st:=top 14) l10 c10 k10
 have b10:=F10.binds (ps:=["numbers"]) fun _ _ _ _ _ _=>us1 fun _=>rfl
 have F11:=aI (st:=top 15) l11 c11 k11
 have b11:=F11.binds (ps:=["numbers"]) fun _ _ _ _ _ _=>us1 fun _=>rfl
 have F12:=aI (st:=top 18) l12 c12 k12
 have b12:=F12.binds (ps:=["t"]) fun _ _ _ _ _ _=>us1 fun _=>rfl
 have F13:=aI (st:=top 19) l13 c13 k13
 have b13:=F13.binds (ps:=["t"]) fun _ _ _ _ _ _=>us1 fun _=>rfl
 have F14:=aI (st:=top 20) l14 c14 k14
 have b14:=F14.binds (ps:=["t","frame"]) fun _ _ _ _ _ _=>us2 fun _ _=>rfl
 have F15:=aI (st:=top 21) l15 c15 k15
 have b15:=F15.binds (ps:=["one","other"]) fun _ _ _ _ _ _=>us2 fun _ _=>rfl
 have F16:=aI (st:=top 22) l16 c16 k16
 have b16:=F16.binds (ps:=["t","numbers"]) fun _ _ _ _ _ _=>us2 fun _ _=>rfl
 have F17:=aI (st:=top 23) l17 c17 k17
 have b17:=F17.binds (ps:=["rises","total"]) fun _ _ _ _ _ _=>us2 fun _ _=>rfl
 have F18:=aI (st:=top 24) l18 c18 k18
 have b18:=F18.binds (ps:=["t","numbers"]) fun _ _ _ _ _ _=>us2 fun _ _=>rfl
 have F19:=aI (st:=top 26) l19 c19 k19
 have b19:=F19.binds (ps:=["t","parting"]) fun _ _ _ _ _ _=>us2 fun _ _=>rfl
 have F20:=aI (st:=top 27) l20 c20 k20
 have b20:=F20.binds (ps:=["t","parting"]) fun _ _ _ _ _ _=>us2 fun _ _=>rfl
 have F21:=aI (st:=top 28) l21 c21 k21
 have b21:=F21.binds (ps:=["t","parting"]) fun _ _ _ _ _ _=>us2 fun _ _=>rfl
 have F22:=aI (st:=top 30) l22 c22 k22
 have b22:=F22.binds (ps:=["_law_script"]) fun _ _ _ _ _ _=>us1 fun _=>rfl
 have F23:=aI (st:=top 31) l23 c23 k23
 have b23:=F23.binds (ps:=["_law_state","_law_many"]) fun _ _ _ _ _ _=>us2 fun _ _=>rfl
 have F24:=aI (st:=top 32) l24 c24 k24
 have b24:=F24.binds (ps:=["_law_n","_law_top"]) fun _ _ _ _ _ _=>us2 fun _ _=>rfl
 have F25:=aI (st:=top 33) l25 c25 k25
 have b25:=F25.binds (ps:=["_law_t","_law_parting","_law_there"]) fun _ _ _ _ _ _=>us3 fun _ _ _=>rfl
 have F26:=aI (st:=top 34) l26 c26 k26
 have m_enumerate:=PySem.W.mg_none_of X G z1
 have m_len:=PySem.W.mg_none_of X G z2
 have m_reversed:=PySem.W.mg_none_of X G z3
 have m_sorted:=PySem.W.mg_none_of X G z4
 have m_tuple:=PySem.W.mg_none_of X G z5
 have m_range:=PySem.W.mg_none_of X G z6
 have m_max:=PySem.W.mg_none_of X G z7
 have m_sum:=PySem.W.mg_none_of X G z8
 have m_min:=PySem.W.mg_none_of X G z9
 have m_zip:=PySem.W.mg_none_of X G z10
 have m_list:=PySem.W.mg_none_of X G z11
 have m_abs:=PySem.W.mg_none_of X G z12
 have m_any:=PySem.W.mg_none_of X G z13
 have m_dict:=PySem.W.mg_none_of X G z14
 have g_ROUNDS:TabG K mg "ROUNDS" M48.RD:=⟨⟨_,PySem.W.mg_of X G y1,yt1⟩⟩
 refine ⟨PySem.W.fnOf "law" "law" (av (top 34)) (au (top 34)) (ag (top 34)) .none kV26 dc26 pm26 an26 cd26 ct26,fun s v=>.of_eq rfl,fun base _ _=>?_⟩
 have A1:FnA l.prog w K mg base "beads_of" 1 ["parting","many"] (bE K):=fnA (gP F1 m_enumerate m_len) b1 k1 (PySem.W.mg_of X G a1)
 have A2:FnA l.prog w K mg base "parting_of" 1 ["beads"] K51H.sp_po:=fnA (K51H.ok_po F2 m_enumerate m_reversed m_sorted m_tuple) b2 k2 (PySem.W.mg_of X G a2)
 have A3:FnA l.prog w K mg base "rounds_of" 1 ["parting","t"] (ba K):=fnA (fO F3 m_len) b3 k3 (PySem.W.mg_of X G a3)
 have A4:FnA l.prog w K mg base "runs_of" 2 ["parting","t","rounds"] (bz K):=fnA (ju F4 m_range A1) b4 k4 (PySem.W.mg_of X G a4)
 have A5:FnA l.prog w K mg base "with_least_beads" 2 ["numbers"] K51H.sp_wl:=fnA (K51H.ok_wl F5 m_enumerate m_len m_range A2) b5 k5 (PySem.W.mg_of X G a5)
 have A6:FnA l.prog w K mg base "vector" 3 ["parting","t"] (cy K):=fnA (lg F6 m_len m_tuple A3 A4) b6 k6 (PySem.W.mg_of X G a6)
 have A7:FnA l.prog w K mg base "apart" 3 ["parting","t"] K51H.sp_apart:=fnA (K51H.ok_apart F7 m_len m_tuple A3 A4 A2 A5) b7 k7 (PySem.W.mg_of X G a7)
 have A8:FnA l.prog w K mg base "is_core" 4 ["parting","t"] K51H.sp_ic:=fnA (K51H.ok_ic F8 A7) b8 k8 (PySem.W.mg_of X G a8)
 have A9:FnA l.prog w K mg base "joined" 5 ["core","quotients"] K51H.sp_jn:=fnA (K51H.ok_jn F9 m_enumerate m_len m_max A1 A8 A2 A3 A4) b9 k9 (PySem.W.mg_of X G a9)
 have A10:FnA l.prog w K mg base "size_of" 1 ["numbers"] qA:=fnA (ok_sz F10 m_enumerate m_len m_sum) b10 k10 (PySem.W.mg_of X G a10)
 have A11:FnA l.prog w K mg base "core_of" 3 ["numbers"] K51H.sp_co:=fnA (K51H.ok_co F11 m_min A5) b11 k11 (PySem.W.mg_of X G a11)
 have A12:FnA l.prog w K mg base "weight_of_round" 1 ["t"] nt:=fnA (ok_wr F12 m_sum g_ROUNDS) b12 k12 (PySem.W.mg_of X G a12)
 have A13:FnA l.prog w K mg base "vectors_of_round" 4 ["t"] nu:=fnA (ok_vr F13 g_ROUNDS A6) b13 k13 (PySem.W.mg_of X G a13)
 have A14:FnA l.prog w K mg base "vector_by" 5 ["t","frame"] qy:=fnA (ok_vb F14 m_range m_tuple m_zip A13) b14 k14 (PySem.W.mg_of X G a14)
 have A15:FnA l.prog w K mg base "sum_of_products" 1 ["one","other"] qB:=fnA (ok_sp F15 m_sum m_zip) b15 k15 (PySem.W.mg_of X G a15)
 have A16:FnA l.prog w K mg base "bends_of" 5 ["t","numbers"] qG:=fnA (ok_bo F16 m_list m_range A15 A13 A12) b16 k16 (PySem.W.mg_of X G a16)
 have A17:FnA l.prog w K mg base "by_rises" 1 ["rises","total"] qF:=fnA (ok_br F17 m_len m_sum) b17 k17 (PySem.W.mg_of X G a17)
 have A18:FnA l.prog w K mg base "frame_of" 6 ["t","numbers"] qE:=fnA (ok_fo F18 m_tuple A16 A17 A10 A12) b18 k18 (PySem.W.mg_of X G a18)
 have A19:FnA l.prog w K mg base "core_frame" 7 ["t","parting"] nw:=fnA (ok_cf F19 A18 A6) b19 k19 (PySem.W.mg_of X G a19)
 have A20:FnA l.prog w K mg base "turned_on" 8 ["t","parting"] qz:=fnA (ok_tu F20 A7 A19 A11 A9 A14) b20 k20 (PySem.W.mg_of X G a20)
 have A21:FnA l.prog w K mg base "share" 8 ["t","parting"] qC:=fnA (ok_sh F21 m_enumerate m_sum A19) b21 k21 (PySem.W.mg_of X G a21)
 have A22:FnA l.prog w K mg base "_law_hand" 1 ["_law_script"] (gG K):=fnA (sf F22 m_abs m_enumerate m_len) b22 k22 (PySem.W.mg_of X G a22)
 have A23:FnA l.prog w K mg base "_law_take" 1 ["_law_state","_law_many"] gF:=fnA (se F23) b23 k23 (PySem.W.mg_of X G a23)
 have A24:FnA l.prog w K mg base "_law_all" 31 ["_law_n","_law_top"] (kx 31):=fnA (ok_al 31 F24 m_min m_range b24 k24 (PySem.W.mg_of X G a24)) b24 k24 (PySem.W.mg_of X G a24)
 have A25:FnA l.prog w K mg base "_law_round_of" 9 ["_law_t","_law_parting","_law_there"] qD:=fnA (ok_ro F25 m_range A20) b25 k25 (PySem.W.mg_of X G a25)
 exact ok_law F26 m_any m_dict m_len m_range A24 A22 A25 A23 A21
theorem walk {l:PySem.W.OpenLaw} {q:Program} {loose:List Str} {XP:(Str->Option Value)->Heap->Prop} {YP:World->Heap->Prop} {d:DefRec} {K:Params->PySem.W.Frag} (hn:l.most=some 63) (hdf:d.params.defaults=[])
 (hY:∀ (w:World) (h:Heap),YP w h->(K w.params).In h)
 (F:∀ (w:World) (mg:Str->Option Value) (fa:Addr) (h:Heap),(K w.params).In h->h.Ns mainGlobals mg->mg d.name=some (.ref fa) ->
   ∃ fd:FuncData,(∀ (s:Shared) (u:Value),BindsTo s fd ⟨[u],[]⟩ [("_law_script",u)])/\∀ base:Heap,(K w.params).In base->base.Ns mainGlobals mg->FnOk l.prog w (K w.params) mg base CX0 32 fa fd ["_law_script"] (ir (K w.params))) :
 PySem.W.WalkO q loose XP YP l.row.toRowW d [] (fun f vs=>PySem.call f vs):=
 L2.walk_of (n:=63) (k:=32) (x:="_law_script") (CX:=fun _=>CX0) (sp:=fun w=>ir (K w.params)) hn (by decide) hdf ⟨rfl,by decide,by decide,rfl⟩ hY F (fun _ _ a ns hl _ hS=>⟨a,ns,rfl,hS,hl,fun _=>rfl⟩) fun _ _ _ _ _ z=>z
end K51
namespace PySem.W.Fast
theorem tw13119789060253909503:True:=⟨⟩
theorem tw9108828305663448300:True:=⟨⟩
theorem tw1263592663003329717:True:=⟨⟩
theorem tw4686198372177902866:True:=⟨⟩
theorem tw7811512499063225008:True:=⟨⟩
theorem tw16678780385761238160:True:=⟨⟩
theorem tw2436018637613244521:True:=⟨⟩
theorem tw15556193981723788290:True:=⟨⟩
theorem tw13205415195780160222:True:=⟨⟩
theorem tw1301937062996688688:True:=⟨⟩
theorem tw6619578216943282896:True:=⟨⟩
theorem tw1797817284464846465:True:=⟨⟩
theorem tw16685697830464299516:True:=⟨⟩
theorem tw18128622782696279698:True:=⟨⟩
theorem tw11201269796998285890:True:=⟨⟩
theorem tw13118135776525990972:True:=⟨⟩
theorem tw5809716468684435718:True:=⟨⟩
theorem tw14217607593149199374:True:=⟨⟩
theorem tw9508411567521778588:True:=⟨⟩
theorem tw659132574068870216:True:=⟨⟩
theorem tw3372800878613539778:True:=⟨⟩
theorem tw14276027760010217051:True:=⟨⟩
theorem tw1443412404883451006:True:=⟨⟩
theorem tw14551482815847308685:True:=⟨⟩
theorem tw5711284117040352761:True:=⟨⟩
theorem tw3035927811280127329:True:=⟨⟩
theorem tw5804610207754921663:True:=⟨⟩
theorem tw4263462727618873585:True:=⟨⟩
theorem tw17299581894010532054:True:=⟨⟩
theorem tw11850965016303634946:True:=⟨⟩
theorem tw15687676947410903130:True:=⟨⟩
theorem tw12228715717641952286:True:=⟨⟩
theorem tw216524991203325372:True:=⟨⟩
theorem tw17948818934243020741:True:=⟨⟩
theorem tw9228323250313901428:True:=⟨⟩
theorem tw17702854875668604825:True:=⟨⟩
theorem tw13345182580046557202:True:=⟨⟩
theorem tw10757837128088163125:True:=⟨⟩
theorem tw15968870076778311857:True:=⟨⟩
theorem tw17800960866035619539:True:=⟨⟩
theorem tw10590189837687645895:True:=⟨⟩
theorem tw10694483212195671990:True:=⟨⟩
theorem tw12969040602477879827:True:=⟨⟩
theorem tw16208784744240959063:True:=⟨⟩
theorem tw3205750947976047655:True:=⟨⟩
theorem tw14309059673828204160:True:=⟨⟩
theorem tw4670830776431744230:True:=⟨⟩
theorem tw1319033918181543292:True:=⟨⟩
theorem tw11029718458569121842:True:=⟨⟩
theorem tw16155940463329836537:True:=⟨⟩
theorem tw12596988352252165368:True:=⟨⟩
theorem tw3057618662879728551:True:=⟨⟩
theorem tw77417915757164158:True:=⟨⟩
theorem tw2830073973364577983:True:=⟨⟩
theorem tw15780734232946661027:True:=⟨⟩
theorem tw5334625321378811107:True:=⟨⟩
theorem tw10024196251476909238:True:=⟨⟩
theorem tw9398117974739636487:True:=⟨⟩
theorem tw10144639218234091311:True:=⟨⟩
theorem tw2976267131148853855:True:=⟨⟩
theorem tw16241784721073346507:True:=⟨⟩
theorem tw2259520057907664229:True:=⟨⟩
theorem tw17930742157499152734:True:=⟨⟩
theorem tw4572468265599225567:True:=⟨⟩
theorem tw6388208749894545293:True:=⟨⟩
theorem tw13566960952325270511:True:=⟨⟩
theorem tw4980027547864005194:True:=⟨⟩
theorem tw1395665619437160572:True:=⟨⟩
theorem tw9855190290653977125:True:=⟨⟩
theorem tw15962171323727173905:True:=⟨⟩
theorem tw15800771993511039371:True:=⟨⟩
theorem tw7251011672399219413:True:=⟨⟩
theorem tw5072350515334817269:True:=⟨⟩
theorem tw17975794315020231337:True:=⟨⟩
theorem tw3890479386941879878:True:=⟨⟩
theorem tw5327754977974855995:True:=⟨⟩
theorem tw4801859640578842762:True:=⟨⟩
theorem tw17495482878791375023:True:=⟨⟩
theorem tw6101206904211222196:True:=⟨⟩
theorem tw17776750438950802295:True:=⟨⟩
theorem tw16257961078980076610:True:=⟨⟩
theorem tw18114985801971002800:True:=⟨⟩
theorem tw241155278740287406:True:=⟨⟩
theorem tw11151601522241617805:True:=⟨⟩
theorem tw7208565827057442767:True:=⟨⟩
theorem tw10310304098461404101:True:=⟨⟩
theorem tw7959175544710009093:True:=⟨⟩
theorem tw8005182731495341454:True:=⟨⟩
theorem tw12095488810166578894:True:=⟨⟩
theorem tw2053632274177384987:True:=⟨⟩
theorem tw9451666423525169016:True:=⟨⟩
theorem tw14455660657024282076:True:=⟨⟩
theorem tw8297141400526386388:True:=⟨⟩
theorem tw9135596037063585312:True:=⟨⟩
theorem tw9263362581203881474:True:=⟨⟩
theorem tw9886113335780000418:True:=⟨⟩
theorem tw17931384396401277316:True:=⟨⟩
theorem tw7152174582376703874:True:=⟨⟩
theorem tw12489405328281880263:True:=⟨⟩
theorem tw9754944945762512856:True:=⟨⟩
theorem tw17119970129260213:True:=⟨⟩
theorem tw16068194390338396338:True:=⟨⟩
theorem tw17367685874720351520:True:=⟨⟩
theorem tw7931599216354370918:True:=⟨⟩
theorem tw12820618455956862087:True:=⟨⟩
theorem tw14308388137912491807:True:=⟨⟩
theorem tw12084321114550456468:True:=⟨⟩
theorem tw9636746966651000967:True:=⟨⟩
theorem tw1200312225565255388:True:=⟨⟩
theorem tw8055934074044860289:True:=⟨⟩
theorem tw16163959460832755858:True:=⟨⟩
theorem tw13937978053188327419:True:=⟨⟩
theorem tw14469673936351725318:True:=⟨⟩
theorem tw4213162539683022434:True:=⟨⟩
theorem tw18143578477705632152:True:=⟨⟩
theorem tw15303842122425649185:True:=⟨⟩
theorem tw14678806075546470537:True:=⟨⟩
theorem tw5672709819923334309:True:=⟨⟩
theorem tw13678564678653312944:True:=⟨⟩
theorem tw11420505474643755702:True:=⟨⟩
theorem tw17570480147166682746:True:=⟨⟩
theorem tw12062534865622219233:True:=⟨⟩
theorem tw10500936340284943247:True:=⟨⟩
theorem tw15718368800695645025:True:=⟨⟩
theorem tw1463388560841318277:True:=⟨⟩
theorem tw11303624402239770405:True:=⟨⟩
theorem tw3728248021594847186:True:=⟨⟩
theorem tw14377573753403649052:True:=⟨⟩
theorem tw11411483422983252556:True:=⟨⟩
theorem tw5268350833282702027:True:=⟨⟩
theorem tw10306213865064552656:True:=⟨⟩
theorem tw14492041752539813572:True:=⟨⟩
theorem tw9772465503068645863:True:=⟨⟩
theorem tw3454998904116796755:True:=⟨⟩
theorem tw4082790526034689927:True:=⟨⟩
theorem tw1134697449401080200:True:=⟨⟩
theorem tw14727850383619012492:True:=⟨⟩
theorem tw14983523892872227324:True:=⟨⟩
theorem tw8984021525171400224:True:=⟨⟩
theorem tw7655637366024929102:True:=⟨⟩
theorem tw9081744014299046749:True:=⟨⟩
theorem tw5626562906472913876:True:=⟨⟩
theorem tw1658510135287661150:True:=⟨⟩
theorem tw9691637537625700184:True:=⟨⟩
theorem tw17162555131017027560:True:=⟨⟩
theorem tw6082141647535996795:True:=⟨⟩
theorem tw16132360504303799793:True:=⟨⟩
theorem tw15360299585647958385:True:=⟨⟩
theorem tw7171357716381990279:True:=⟨⟩
theorem tw786822080200493902:True:=⟨⟩
theorem tw16478986115031758175:True:=⟨⟩
theorem tw17326551047729278923:True:=⟨⟩
theorem tw16381451582137556410:True:=⟨⟩
theorem tw17335989519163748372:True:=⟨⟩
theorem tw5011791941267032232:True:=⟨⟩
theorem tw8181158431189167232:True:=⟨⟩
theorem tw10044100820374816814:True:=⟨⟩
theorem tw10199451449774905591:True:=⟨⟩
theorem tw1672102619498701883:True:=⟨⟩
theorem tw12763131269410356008:True:=⟨⟩
theorem tw4801281084752888825:True:=⟨⟩
theorem tw7249716320563105009:True:=⟨⟩
theorem tw5223151830009890843:True:=⟨⟩
theorem tw2850816266024943641:True:=⟨⟩
theorem tw1752450329036974180:True:=⟨⟩
theorem tw121036471569586312:True:=⟨⟩
theorem tw7479487550195414726:True:=⟨⟩
theorem tw16476305266194518307:True:=⟨⟩
theorem tw12645453844975025094:True:=⟨⟩
theorem tw11793464026223543742:True:=⟨⟩
theorem tw16037825532552073449:True:=⟨⟩
theorem tw15975349150582485937:True:=⟨⟩
theorem tw11571868650624880474:True:=⟨⟩
theorem tw17534601286261719562:True:=⟨⟩
theorem tw9515691651629382384:True:=⟨⟩
theorem tw10056256710442596568:True:=⟨⟩
theorem tw12474042221882714023:True:=⟨⟩
theorem tw7436235495423180005:True:=⟨⟩
theorem tw1191896785049343508:True:=⟨⟩
theorem tw17413885146150016738:True:=⟨⟩
theorem tw15220685302512337444:True:=⟨⟩
theorem tw10064821712261446014:True:=⟨⟩
theorem tw4286852919325595745:True:=⟨⟩
theorem tw17418846283100923873:True:=⟨⟩
theorem tw17613855496690280234:True:=⟨⟩
theorem tw5047518494784034298:True:=⟨⟩
theorem tw3962651864718935366:True:=⟨⟩
theorem tw3085139725521048494:True:=⟨⟩
theorem tw670750459113439593:True:=⟨⟩
theorem tw16149533010834447431:True:=⟨⟩
theorem tw14597940919438656710:True:=⟨⟩
theorem tw4977979982870687503:True:=⟨⟩
theorem tw1269522929693366039:True:=⟨⟩
theorem tw1038865134027511867:True:=⟨⟩
theorem tw14782535750639438119:True:=⟨⟩
theorem tw1703780282739711490:True:=⟨⟩
theorem tw5209475592839359136:True:=⟨⟩
theorem tw10361583040737404472:True:=⟨⟩
theorem tw247511779426784686:True:=⟨⟩
theorem tw12155769580993701693:True:=⟨⟩
theorem tw11487429544072771281:True:=⟨⟩
theorem tw14018659644126955754:True:=⟨⟩
theorem tw8589255824425757608:True:=⟨⟩
theorem tw13169645290531275525:True:=⟨⟩
theorem tw15321938089007194479:True:=⟨⟩
theorem tw1691255478585022586:True:=⟨⟩
theorem tw10109095391727856429:True:=⟨⟩
theorem tw17168954082878767057:True:=⟨⟩
theorem tw6200883371134203396:True:=⟨⟩
theorem tw2542415828392094188:True:=⟨⟩
theorem tw14944110735230948266:True:=⟨⟩
theorem tw3039660050561585692:True:=⟨⟩
theorem tw17680800451896451708:True:=⟨⟩
end PySem.W.Fast
open PySem PySem.W PyProof.Rows
set_option maxRecDepth 100000 in
set_option maxHeartbeats 0 in
theorem PySem.Challenge.cw_partrests_k51_whole_lists_in_rounds_holds : PySem.Challenge.rw_partrests_k51_whole_lists_in_rounds.Holds := by
 w_on;o_law;k_head;(case hw=>w_witness2)
 k_fill
 refine K51.walk (l:=PySem.Challenge.rw_partrests_k51_whole_lists_in_rounds) rfl rfl (fun w h Y=>PySem.W.kIn_of Y) ?F
 case F=>
  intro w mg fa h KX G hmg
  refine' K51.all_mk KX G hmg ?a1 ?l1 ?c1 ?k1 ?a2 ?l2 ?c2 ?k2 ?a3 ?l3 ?c3 ?k3 ?a4 ?l4 ?c4 ?k4 ?a5 ?l5 ?c5 ?k5 ?a6 ?l6 ?c6 ?k6 ?a7 ?l7 ?c7 ?k7 ?a8 ?l8 ?c8 ?k8 ?a9 ?l9 ?c9 ?k9 ?a10 ?l10 ?c10 ?k10 ?a11 ?l11 ?c11 ?k11 ?a12 ?l12 ?c12 ?k12 ?a13 ?l13 ?c13 ?k13 ?a14 ?l14 ?c14 ?k14 ?a15 ?l15 ?c15 ?k15 ?a16 ?l16 ?c16 ?k16 ?a17 ?l17 ?c17 ?k17 ?a18 ?l18 ?c18 ?k18 ?a19 ?l19 ?c19 ?k19 ?a20 ?l20 ?c20 ?k20 ?a21 ?l21 ?c21 ?k21 ?a22 ?l22 ?c22 ?k22 ?a23 ?l23 ?c23 ?k23 ?a24 ?l24 ?c24 ?k24 ?a25 ?l25 ?c25 ?k25 ?a26 ?l26 ?c26 ?k26 ?y1 ?yt1 ?z1 ?z2 ?z3 ?z4 ?z5 ?z6 ?z7 ?z8 ?z9 ?z10 ?z11 ?z12 ?z13 ?z14
  (case a1=>k_is);(case l1=>k_is);(case c1=>k_is);(case k1=>k_is)
  (case a2=>k_is);(case l2=>k_is);(case c2=>k_is);(case k2=>k_is)
  (case a3=>k_is);(case l3=>k_is);(case c3=>k_is);(case k3=>k_is)
  (case a4=>k_is);(case l4=>k_is);(case c4=>k_is);(case k4=>k_is)
  (case a5=>k_is);(case l5=>k_is);(case c5=>k_is);(case k5=>k_is)
  (case a6=>k_is);(case l6=>k_is);(case c6=>k_is);(case k6=>k_is)
  (case a7=>k_is);(case l7=>k_is);(case c7=>k_is);(case k7=>k_is)
  (case a8=>k_is);(case l8=>k_is);(case c8=>k_is);(case k8=>k_is)
  (case a9=>k_is);(case l9=>k_is);(case c9=>k_is);(case k9=>k_is)
  (case a10=>k_is);(case l10=>k_is);(case c10=>k_is);(case k10=>k_is)
  (case a11=>k_is);(case l11=>k_is);(case c11=>k_is);(case k11=>k_is)
  (case a12=>k_is);(case l12=>k_is);(case c12=>k_is);(case k12=>k_is)
  (case a13=>k_is);(case l13=>k_is);(case c13=>k_is);(case k13=>k_is)
  (case a14=>k_is);(case l14=>k_is);(case c14=>k_is);(case k14=>k_is)
  (case a15=>k_is);(case l15=>k_is);(case c15=>k_is);(case k15=>k_is)
  (case a16=>k_is);(case l16=>k_is);(case c16=>k_is);(case k16=>k_is)
  (case a17=>k_is);(case l17=>k_is);(case c17=>k_is);(case k17=>k_is)
  (case a18=>k_is);(case l18=>k_is);(case c18=>k_is);(case k18=>k_is)
  (case a19=>k_is);(case l19=>k_is);(case c19=>k_is);(case k19=>k_is)
  (case a20=>k_is);(case l20=>k_is);(case c20=>k_is);(case k20=>k_is)
  (case a21=>k_is);(case l21=>k_is);(case c21=>k_is);(case k21=>k_is)
  (case a22=>k_is);(case l22=>k_is);(case c22=>k_is);(case k22=>k_is)
  (case a23=>k_is);(case l23=>k_is);(case c23=>k_is);(case k23=>k_is)
  (case a24=>k_is);(case l24=>k_is);(case c24=>k_is);(case k24=>k_is)
  (case a25=>k_is);(case l25=>k_is);(case c25=>k_is);(case k25=>k_is)
  (case a26=>k_is);(case l26=>k_is);(case c26=>k_is);(case k26=>k_is)
  (case y1=>k_is)
  (case yt1=>with_unfolding_all rfl)
  (case z1=>k_is)
  (case z2=>k_is)
  (case z3=>k_is)
  (case z4=>k_is)
  (case z5=>k_is)
  (case z6=>k_is)
  (case z7=>k_is)
  (case z8=>k_is)
  (case z9=>k_is)
  (case z10=>k_is)
  (case z11=>k_is)
  (case z12=>k_is)
  (case z13=>k_is)
  (case z14=>k_is)
end
