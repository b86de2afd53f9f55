import PyProof.Rows.All
import Wide.All
import OpenK.AllK
import Wide.FinOn
import Lean
import PyProof.EqAt
import PyProof.EqKinds
import PyProof.TupleCall
import PySem.Challenge.RW_partrests_k65_whole_places_to_150
set_option Elab.async false
set_option linter.all false
set_option maxRecDepth 100000
noncomputable section
namespace L2
open PySem PySem.Spec PyProof.Rows
abbrev Key:=Sum Int Str
def keyIs:Key→Value→Bool
 | .inl k,v=>Value.isInt k v
 | .inr x,v=>Value.isStrOf x v
def keyH (w:World):Key→Int
 | .inl k=>hashInt k
 | .inr x=>hashStr w x
theorem keyIs_shape:∀ {k:Key} {v:Value},keyIs k v=true→(∃ i t,k=Sum.inl i∧v=Value.int i t)∨(∃ x t,k=Sum.inr x∧v=Value.str x t)
 | .inl i,v,h=>by
   obtain ⟨t,e⟩:=Value.isInt_shape (k:=i) (v:=v) h
   exact .inl ⟨i,t,rfl,e⟩
 | .inr x,v,h=>by
   obtain ⟨t,e⟩:=Value.isStrOf_shape (x:=x) (v:=v) h
   exact .inr ⟨x,t,rfl,e⟩
theorem key_ll (a b:Int):decide ((Sum.inl a:Key)=Sum.inl b)=(a == b):=by
 by_cases e:a=b
 · subst e;simp
 · have h:¬ (Sum.inl a:Key)=Sum.inl b:=fun q=>e (Sum.inl.inj q)
   rw [decide_eq_false h]
   exact (beq_eq_false_iff_ne.mpr e).symm
theorem key_rr (a b:Str):decide ((Sum.inr a:Key)=Sum.inr b)=decide (a=b):=by
 by_cases e:a=b
 · subst e;simp
 · have h:¬ (Sum.inr a:Key)=Sum.inr b:=fun q=>e (Sum.inr.inj q)
   rw [decide_eq_false h,decide_eq_false e]
theorem key_lr (a:Int) (b:Str):decide ((Sum.inl a:Key)=Sum.inr b)=false:=decide_eq_false (fun q=>nomatch q)
theorem key_rl (a:Str) (b:Int):decide ((Sum.inr a:Key)=Sum.inl b)=false:=decide_eq_false (fun q=>nomatch q)
def mixKind (prog:Program) (w:World):PySem.KeyKind prog w Key where
 is:=keyIs
 hash:=keyH w
 inj:=fun v a b ha hb=>by
  rcases keyIs_shape ha with ⟨i,t,rfl,rfl⟩ | ⟨x,t,rfl,rfl⟩
  · rcases keyIs_shape hb with ⟨j,u,rfl,e⟩ | ⟨y,u,rfl,e⟩
    · injection e with e1 _;rw [e1]
    · exact nomatch e
  · rcases keyIs_shape hb with ⟨j,u,rfl,e⟩ | ⟨y,u,rfl,e⟩
    · exact nomatch e
    · injection e with e1 _;rw [e1]
 byValue:=fun k v h=>by
  rcases keyIs_shape h with ⟨i,t,rfl,rfl⟩ | ⟨x,t,rfl,rfl⟩ <;> rfl
 pyHash:=fun hv h=>by
  rcases keyIs_shape hv with ⟨i,t,rfl,rfl⟩ | ⟨x,t,rfl,rfl⟩
  · exact wpAny_pyHash_int h
  · exact wpAny_pyHash_str h
 eqBool:=fun hu hv h=>by
  rcases keyIs_shape hu with ⟨i,t,rfl,rfl⟩ | ⟨x,t,rfl,rfl⟩
  · rcases keyIs_shape hv with ⟨j,u,rfl,rfl⟩ | ⟨y,u,rfl,rfl⟩
    · rw [key_ll] at h;exact wpAny_eqBool_int h
    · rw [key_lr] at h;exact SeqAt.EqAt.int_str i t y u _ _ _ _ h
  · rcases keyIs_shape hv with ⟨j,u,rfl,rfl⟩ | ⟨y,u,rfl,rfl⟩
    · rw [key_rl] at h;exact SeqAt.EqAt.str_int x t j u _ _ _ _ h
    · rw [key_rr] at h;exact wpAny_eqBool_str h
 «strs»:=fun k x t v h=>by
  rcases keyIs_shape h with ⟨i,u,rfl,e⟩ | ⟨y,u,rfl,e⟩
  · exact nomatch e
  · injection e with e1 _
    subst e1
    cases v <;> rfl
inductive V where
 | non | bl (b:Bool) | int (i:Int) | str (x:Str) | byt (b:Array UInt8) | flt (b:UInt64) | ref (a:Addr) | ty (n:String)
 deriving DecidableEq
def RelV:V→Value→Prop
 | .non,u=>u=Value.none
 | .bl b,u=>u=Value.bool b
 | .int i,u=>∃ t,u=Value.int i t
 | .str x,u=>∃ t,u=Value.str x t
 | .byt b,u=>∃ t,u=Value.bytes b t
 | .flt b,u=>∃ t,u=Value.float b t
 | .ref a,u=>u=Value.ref a
 | .ty n,u=>u=Value.type n
abbrev Vals:List V→List Value→Prop:=Paired RelV
theorem Vals.length {xs:List V} {us:List Value} (r:Vals xs us):xs.length=us.length:=Paired.length r
theorem Vals.get:∀ {xs:List V} {us:List Value} {i:Nat} {x:V},Vals xs us→xs[i]? = some x→∃ u,us[i]? = some u∧RelV x u
 | _,_,_,_,.nil,e=>by simp at e
 | _,_,0,_,.cons r _,e=>by simp at e;subst e;exact ⟨_,rfl,r⟩
 | _,_,i+1,x,.cons _ t,e=>by
   obtain ⟨u,h1,h2⟩:=Vals.get (i:=i) (x:=x) t (by simpa using e)
   exact ⟨u,by simpa using h1,h2⟩
theorem Vals.set {x:V} {u:Value} (r:RelV x u):∀ {xs:List V} {us:List Value} (i:Nat),Vals xs us→Vals (xs.set i x) (us.set i u)
 | _,_,_,.nil=>.nil
 | _,_,0,.cons _ t=>.cons r t
 | _,_,i+1,.cons q t=>.cons q (Vals.set r i t)
theorem Vals.append:∀ {xs ys:List V} {us ws:List Value},Vals xs us→Vals ys ws→Vals (xs++ys) (us++ws)
 | _,_,_,_,.nil,s=>s
 | _,_,_,_,.cons r t,s=>.cons r (Vals.append t s)
theorem Vals.take:∀ {xs:List V} {us:List Value} (n:Nat),Vals xs us→Vals (xs.take n) (us.take n)
 | _,_,0,_=>.nil
 | _,_,_+1,.nil=>.nil
 | _,_,n+1,.cons r t=>.cons r (Vals.take n t)
theorem Vals.drop:∀ {xs:List V} {us:List Value} (n:Nat),Vals xs us→Vals (xs.drop n) (us.drop n)
 | _,_,0,r=>r
 | _,_,_+1,.nil=>.nil
 | _,_,n+1,.cons _ t=>Vals.drop n t
def TupD (h:Heap) (a:Addr) (items:Array Value):Prop:=∃ n,h.get? a=some { cls:=.type "tuple",data:=.seq items n }
theorem TupD.tup {h:Heap} {a:Addr} {items:Array Value} (p:TupD h a items):IsTup h a items:=let ⟨n,e⟩:=p;⟨_,e,rfl,n,rfl⟩
theorem TupD.new (h:Heap) (items:Array Value):TupD (h.push { cls:=.type "tuple",data:=.seq items }) h.objs.size items:=⟨_,Heap.get?_push_size _ rfl⟩
def RelO:Option V→Option Value→Prop
 | some v,some u=>RelV v u
 | none,none=>True
 | _,_=>False
def KV {κ:Type}:List (κ×V)→List (κ×Value)→Prop:=Paired fun (p:κ×V) (q:κ×Value)=>p.1=q.1∧RelV p.2 q.2
def kV:Key→V
 | .inl i=>.int i
 | .inr x=>.str x
inductive HO where
 /-- a list -/
 | lst (xs:List V)
 /-- a tuple (never changes) -/
 | tup (xs:List V)
 /-- a dict whose keys are ints and texts;one whose keys are tuples of ints and texts (the empty one is both) -/
 | dK (kvs:List (Key×V)) | dT (kvs:List (List Key×V))
 /-- a set of ints: its members,its size -/
 | set (S:Int→Bool) (n:Nat)
 /-- an instance of the class at C,its dict at dx,its attributes -/
 | ins (C dx:Addr) (fs:List (Str×V))
 /-- the dict of the instance at x -/
 | own (x:Addr)
 /-- the dict of an exception -/
 | xd (fs:List (Str×V))
 /-- a bound method,f of x -/
 | met (f x:Addr)
 /-- a range object lo,lo+1,.. below hi -/
 | rng (lo hi:Int)
 /-- a thing that is known to the object (the script;a dict while a loop walks it): read,never written while it is so -/
 | frz (o:Obj) (u:HO)
 /-- a code object's table -/
 | tbl (ps:Array Value)
 /-- any other thing,by what is true of its one object (a def of one's own: SetO a S n:=HO.ext fun h=>..) -/
 | ext (φ:Heap→Prop)
abbrev Hp:=Addr→Option HO
def upd (H:Hp) (a:Addr) (o:HO):Hp:=fun b=>if b=a then some o else H b
theorem upd_same {H:Hp} {a:Addr} {o:HO}:upd H a o a=some o:=by unfold upd;rw [if_pos rfl]
theorem upd_ne {H:Hp} {a b:Addr} {o:HO} (h:b≠a):upd H a o b=H b:=by unfold upd;rw [if_neg h]
theorem ne_of {H:Hp} {a b:Addr} {o u:HO} (h:H a=some o) (h':H b=some u) (d:o≠u):a≠b:=by
 intro e;subst e;rw [h] at h';exact d (Option.some.inj h')
theorem ne_of_none {H:Hp} {a b:Addr} {o:HO} (h:H a=some o) (h':H b=none):a≠b:=by
 intro e;subst e;rw [h] at h';cases h'
section
variable (P:Program) (w:World)
def ObjOk (H:Hp) (h:Heap) (a:Addr):HO→Prop
 | .lst xs=>xs.length≤sizeLine∧∃ (its:List Value) (n:Nat),Vals xs its∧h.get? a=some { cls:=.type "list",data:=.seq its.toArray n }
 | .tup xs=>xs.length≤sizeLine∧∃ its:List Value,Vals xs its∧TupD h a its.toArray
 | .dK kvs=>kvs.length≤sizeLine∧(a == sysModules)=false∧∃ vs,KV kvs vs∧h.DictOf (mixKind P w) a vs
 | .dT kvs=>kvs.length≤sizeLine∧(a == sysModules)=false∧∃ xs:List (List Key×Addr×Value),
  Paired (fun (p:List Key×V) (q:List Key×Addr×Value)=>p.1=q.1∧H q.2.1=some (.tup (p.1.map kV))∧RelV p.2 q.2.2) kvs xs ∧
  ∃ o es ep,h.get? a=some o∧o.ExactDict∧o.data=.dict es ep∧es.toList=xs.map (entryOfKey (tupleKind (mixKind P w)))∧(xs.map (·.1)).Nodup
 | .set S n=>h.SetOf (intKind P w) a S n
 | .ins C dx fs=>H dx=some (.own a)∧fs.length≤1000∧dx≠a∧h.get? a=some (PySem.W.instObj C dx) ∧
  ∃ mA,h.Ns1 dx mA∧(∀ f,RelO (fs.lookup f) (mA f))∧PySem.Within mA (fs.map (·.1))
 | .own _=>∃ o,h.get? a=some o
 | .xd fs=>∃ mA,h.Ns1 a mA∧∀ f,RelO (fs.lookup f) (mA f)
 | .rng lo hi=>∃ t u v,h.get? a=some { cls:=.type "range",data:=.fields #[.int lo t,.int hi u,.int 1 v] }
 | .frz o u=>h.get? a=some o∧ObjOk H h a u
 | .tbl ps=>h.get? a=some { cls:=.none,data:=.fields ps }
 | .met f x=>h.get? a=some (PySem.W.methodObj (.ref f) (.ref x))
 | .ext φ=>φ h∧(∃ o,h.get? a=some o)∧∀ h1 h2:Heap,φ h1→(∀ o,h1.get? a=some o→h2.get? a=some o)→φ h2
def HOk (H:Hp) (h:Heap):Prop:=∀ a o,H a=some o→ObjOk P w H h a o
end
section
variable {P:Program} {w:World} {H H':Hp} {h h':Heap} {a:Addr} {o:HO}
theorem ObjOk.lt (x:ObjOk P w H h a o):a<h.objs.size:=by
 cases o with
 | lst xs=>obtain ⟨_,_,_,_,e⟩:=x;exact Heap.lt_size e
 | tup xs=>obtain ⟨_,_,_,p⟩:=x;exact p.tup.lt
 | dK kvs=>obtain ⟨_,_,_,_,o,_,_,e,_⟩:=x;exact Heap.lt_size e
 | dT kvs=>obtain ⟨_,_,_,_,o,_,_,e,_⟩:=x;exact Heap.lt_size e
 | set S n=>obtain ⟨o,_,_,_,e,_⟩:=x;exact Heap.lt_size e
 | ins C dx fs=>obtain ⟨_,_,_,e,_⟩:=x;exact Heap.lt_size e
 | own y=>obtain ⟨_,e⟩:=x;exact Heap.lt_size e
 | xd fs=>obtain ⟨_,⟨_,_,_,e,_⟩,_⟩:=x;exact Heap.lt_size e
 | rng lo hi=>obtain ⟨_,_,_,e⟩:=x;exact Heap.lt_size e
 | frz ob u=>obtain ⟨e,_⟩:=x;exact Heap.lt_size e
 | tbl ps=>exact Heap.lt_size (show h.get? a=some _ from x)
 | met f y=>exact Heap.lt_size (show h.get? a=some _ from x)
 | ext φ=>obtain ⟨_,⟨_,e⟩,_⟩:=x;exact Heap.lt_size e
theorem Paired.mapP {α β:Type} {F G:α→β→Prop}:∀ {l₁:List α} {l₂:List β},Paired F l₁ l₂→(∀ a b,F a b→G a b)→Paired G l₁ l₂
 | _,_,.nil,_=>.nil
 | _,_,.cons r t,f=>.cons (f _ _ r) (Paired.mapP t f)
theorem ObjOk.stay (x:ObjOk P w H h a o) (k:∀ b u,(b=a∨H b=some (.own a))→h.get? b=some u→h'.get? b=some u)
 (ho:∀ b,H b=some (.own a)→H' b=some (.own a)) (ht:∀ b xs,H b=some (.tup xs)→H' b=some (.tup xs)):ObjOk P w H' h' a o:=by
 induction o with
 | lst xs=>obtain ⟨z,its,n,r,e⟩:=x;exact ⟨z,its,n,r,k _ _ (.inl rfl) e⟩
 | tup xs=>obtain ⟨z,its,r,ob,e⟩:=x;exact ⟨z,its,r,ob,k _ _ (.inl rfl) e⟩
 | dK kvs=>obtain ⟨z,y,vs,r,ob,es,ep,e,c⟩:=x;exact ⟨z,y,vs,r,ob,es,ep,k _ _ (.inl rfl) e,c⟩
 | dT kvs=>
   obtain ⟨z,y,xs,r,ob,es,ep,e,c⟩:=x
   exact ⟨z,y,xs,Paired.mapP r fun p q z=>⟨z.1,ht _ _ z.2.1,z.2.2⟩,ob,es,ep,k _ _ (.inl rfl) e,c⟩
 | set S n=>obtain ⟨ob,es,ep,t,e,c⟩:=x;exact ⟨ob,es,ep,t,k _ _ (.inl rfl) e,c⟩
 | ins C dx fs=>
   obtain ⟨d,z,ne,e,mA,⟨od,es,ep,e2,c⟩,r⟩:=x
   exact ⟨ho _ d,z,ne,k _ _ (.inl rfl) e,mA,⟨od,es,ep,k _ _ (.inr d) e2,c⟩,r⟩
 | own y=>obtain ⟨ob,e⟩:=x;exact ⟨ob,k _ _ (.inl rfl) e⟩
 | xd fs=>obtain ⟨mA,⟨od,es,ep,e,c⟩,r⟩:=x;exact ⟨mA,⟨od,es,ep,k _ _ (.inl rfl) e,c⟩,r⟩
 | rng lo hi=>obtain ⟨t,u,v,e⟩:=x;exact ⟨t,u,v,k _ _ (.inl rfl) e⟩
 | frz ob u ih=>obtain ⟨e,q⟩:=x;exact ⟨k _ _ (.inl rfl) e,ih q⟩
 | tbl ps=>
   have e:h.get? a=some { cls:=.none,data:=.fields ps }:=x
   show h'.get? a=some { cls:=.none,data:=.fields ps }
   exact k a _ (.inl rfl) e
 | met f y=>
   have e:h.get? a=some (PySem.W.methodObj (.ref f) (.ref y)):=x
   show h'.get? a=some (PySem.W.methodObj (.ref f) (.ref y))
   exact k a _ (.inl rfl) e
 | ext φ=>obtain ⟨p,⟨o,e⟩,st⟩:=x;exact ⟨st _ _ p fun o q=>k _ _ (.inl rfl) q,⟨o,k _ _ (.inl rfl) e⟩,st⟩
theorem HOk.lt (x:HOk P w H h) (e:H a=some o):a<h.objs.size:=(x a o e).lt
theorem HOk.fresh (x:HOk P w H h) (e:h.objs.size≤a):H a=none:=by
 cases q:H a with
 | none=>rfl
 | some u=>exact absurd (Nat.lt_of_lt_of_le (x.lt q) e) (Nat.lt_irrefl _)
theorem HOk.kept (x:HOk P w H h) (k:∀ b u,h.get? b=some u→h'.get? b=some u):HOk P w H h':=fun a o e=>
 (x a o e).stay (fun b u _ q=>k b u q) (fun _ q=>q) fun _ _ q=>q
theorem HOk.laid (x:HOk P w H h) (k:∀ b u,h.get? b=some u→h'.get? b=some u) (hp:h.objs.size≤a) (new:ObjOk P w (upd H a o) h' a o):HOk P w (upd H a o) h':=fun b u e=>by
 have hn:=x.fresh hp
 by_cases hb:b=a
 · subst hb;rw [upd_same] at e;cases e;exact new
 · rw [upd_ne hb] at e
   exact (x b u e).stay (fun c v _ q=>k c v q) (fun c q=>by rw [upd_ne (ne_of_none q hn)];exact q) fun c xs q=>by rw [upd_ne (ne_of_none q hn)];exact q
end
def Rd (H:Hp) (a:Addr) (u:HO):Prop:=H a=some u∨∃ o,H a=some (.frz o u)
theorem Rd.ok {P:Program} {w:World} {H:Hp} {h:Heap} {a:Addr} {u:HO} (r:Rd H a u) (x:HOk P w H h):ObjOk P w H h a u:=by
 rcases r with r | ⟨o,r⟩
 · exact x a u r
 · obtain ⟨_,q⟩:=x a _ r
   exact q
def Mut:Option HO→Prop
 | some (.lst _)=>True
 | some (.dK _)=>True
 | some (.dT _)=>True
 | some (.set _ _)=>True
 | some (.ins _ _ _)=>True
 | some (.ext _)=>True
 | _=>False
section
variable {P:Program} {w:World} {H:Hp} {h h':Heap} {x e:Addr} {o':HO}
theorem HOk.write (ok:HOk P w H h) (mu:Mut (H x)) (he:e=x∨H e=some (.own x)) (k:∀ b u,b≠e→h.get? b=some u→h'.get? b=some u) (heo:∃ u,h'.get? e=some u)
 (new:ObjOk P w (upd H x o') h' x o'):HOk P w (upd H x o') h':=fun b u q=>by
 have nown:∀ c y,H c=some (.own y)→c≠x:=fun c y r z=>by subst z;rw [r] at mu;exact mu
 have ntup:∀ c xs,H c=some (.tup xs)→c≠x:=fun c xs r z=>by subst z;rw [r] at mu;exact mu
 by_cases hb:b=x
 · subst hb;rw [upd_same] at q;cases q;exact new
 · rw [upd_ne hb] at q
   by_cases hbe:b=e
   · have q':H b=some (.own x):=by
      rcases he with z | z
      · exact absurd (hbe.trans z) hb
      · rw [hbe];exact z
     rw [q] at q';cases q'
     obtain ⟨v,hv⟩:=heo
     exact ⟨v,by rw [hbe];exact hv⟩
   · refine (ok b u q).stay (fun c v hc r=>k c v ?_ r) (fun c r=>by rw [upd_ne (nown c b r)];exact r) fun c xs r=>by rw [upd_ne (ntup c xs r)];exact r
     rcases hc with rfl | hc
     · exact hbe
     · rintro rfl
       rcases he with z | z
       · exact nown c b hc z
       · rw [hc] at z;cases z;exact hb rfl
end
structure Un (fs ex:List Addr) (H H':Hp) (h h':Heap):Prop where
 keep:∀ b o,h.get? b=some o→H b=none→b∉fs→b∉ex→h'.get? b=some o
 slot:∀ b o,h.get? b=some o→H b=none→b∈fs→b∉ex→∃ sl,h'.get? b=some { o with slots:=sl }
 free:∀ b o,h.get? b=some o→H b=none→b∉ex→H' b=none
 there:∀ b o,h.get? b=some o→b∉ex→∃ o',h'.get? b=some o'
 tups:∀ b xs,H b=some (.tup xs)→H' b=some (.tup xs)
 frzs:∀ b o u,H b=some (.frz o u)→H' b=some (.frz o u)
 tbls:∀ b ps,H b=some (.tbl ps)→∃ more,H' b=some (.tbl (ps++more))
section
variable {fs fs' ex ex':List Addr} {H H1 H2:Hp} {h h1 h2 h':Heap} {a x e:Addr} {o:HO}
theorem Un.any (u:Un fs ex H H1 h h1) {b:Addr} {ob:Obj} (q:h.get? b=some ob) (n:H b=none) (hx:b∉ex):∃ sl,h1.get? b=some { ob with slots:=sl }:=by
 by_cases hb:b∈fs
 · exact u.slot b ob q n hb hx
 · exact ⟨ob.slots,u.keep b ob q n hb hx⟩
theorem Un.kept (k:∀ b u,h.get? b=some u→h'.get? b=some u):Un fs ex H H h h':=
 ⟨fun b ob q _ _ _=>k b ob q,fun b ob q _ _ _=>⟨ob.slots,k b ob q⟩,fun _ _ _ n _=>n,fun b ob q _=>⟨ob,k b ob q⟩,fun _ _ q=>q,fun _ _ _ q=>q,fun _ ps q=>⟨#[],by rw [q];simp⟩⟩
theorem Un.refl:Un fs ex H H h h:=Un.kept fun _ _ q=>q
theorem Un.laid (k:∀ b u,h.get? b=some u→h'.get? b=some u) (hp:h.objs.size≤a) (hn:H a=none):Un fs ex H (upd H a o) h h' where
 keep:=fun b u q _ _ _=>k b u q
 slot:=fun b u q _ _ _=>⟨u.slots,k b u q⟩
 free:=fun b u q n _=>by rw [upd_ne (Nat.ne_of_lt (Nat.lt_of_lt_of_le (Heap.lt_size q) hp))];exact n
 there:=fun b u q _=>⟨u,k b u q⟩
 tups:=fun b xs q=>by rw [upd_ne (ne_of_none q hn)];exact q
 frzs:=fun b u xs q=>by rw [upd_ne (ne_of_none q hn)];exact q
 tbls:=fun b ps q=>⟨#[],by rw [upd_ne (ne_of_none q hn),q];simp⟩
theorem Un.write (mu:Mut (H x)) (he:e=x∨H e=some (.own x)) (k:∀ b u,b≠e→h.get? b=some u→h'.get? b=some u) (heo:∃ u,h'.get? e=some u):Un fs ex H (upd H x o) h h':=by
 have hx:∀ b,H b=none→b≠x:=fun b n z=>by subst z;rw [n] at mu;exact mu
 have hb:∀ b,H b=none→b≠e:=fun b n z=>by
  subst z
  rcases he with r | r
  · exact hx b n r
  · rw [n] at r;cases r
 have hm:∀ b u,H b=some u→¬ Mut (some u)→b≠x:=fun b u q nm z=>by subst z;rw [q] at mu;exact nm mu
 refine ⟨fun b u q n _ _=>k b u (hb b n) q,fun b u q n _ _=>⟨u.slots,k b u (hb b n) q⟩,fun b u q n _=>by rw [upd_ne (hx b n)];exact n,fun b u q _=>?_,
  fun b xs q=>by rw [upd_ne (hm b _ q fun z=>z)];exact q,fun b u xs q=>by rw [upd_ne (hm b _ q fun z=>z)];exact q,fun b ps q=>⟨#[],by rw [upd_ne (hm b _ q fun z=>z),q];simp⟩⟩
 by_cases hbe:b=e
 · subst hbe;exact heo
 · exact ⟨u,k b u hbe q⟩
end
def trk (h:Heap) (H:Hp):List Addr:=(List.range h.objs.size).filter fun a=>(H a).isSome
def hidT (h:Heap) (H:Hp):Heap:=PySem.W.hideAll h (trk h H)
theorem hidT_size (h:Heap) (H:Hp):(hidT h H).objs.size=h.objs.size:=PySem.W.hideAll_size _ _
theorem hidT_get {h:Heap} {H:Hp} {b:Addr} {o:Obj} (e:h.get? b=some o) (n:H b=none):(hidT h H).get? b=some o:=
 PySem.W.hideAll_get _ e fun hm=>by
  have q:(H b).isSome=true:=(List.mem_filter.mp hm).2
  rw [n] at q;simp at q
theorem of_hidT {h:Heap} {H:Hp} {b:Addr} {o:Obj} (e:(hidT h H).get? b=some o):h.get? b=some o∧H b=none:=by
 have e':h.get? b=some o:=PySem.W.of_hideAll (trk h H) e
 refine ⟨e',?_⟩
 cases q:H b with
 | none=>rfl
 | some x=>
   have hm:b∈trk h H:=List.mem_filter.mpr ⟨List.mem_range.mpr (Heap.lt_size e'),by simp [q]⟩
   have z:(hidT h H).get? b=none:=PySem.W.hideAll_none (trk h H) hm
   rw [z] at e;cases e
structure Mod (K:PySem.W.Frag) (mg:Str→Option Value) (base:Heap):Prop where
 kin:K.In base
 glob:base.Ns mainGlobals mg
 blt:∃ mb,base.Ns builtinsNs mb∧∀ x:Str,x≠"__name__"→mb x=bootBuiltins x
 nolimit:base.NoLimit
structure Cx where
 prog:Program
 w:World
 K:PySem.W.Frag
 mg:Str→Option Value
 base:Heap
 A:Around
 N:List Str
 s₀:Shared
 H₀:Hp
 env:Env
 outer:List Env
 stack:List Env
 ex:List Addr
 fn:Str→Bool
 calm:Bool
 pn:List (Addr×Obj)
 xe:Value→Shared→Prop
def frs (l:List Env):List Addr:=l.filterMap (·.frame)
abbrev Cx.fs (X:Cx):List Addr:=frs X.outer
def Vis (sc:Scope) (x:Str):Prop:=sc.names.lookup x=some .local∨sc.names.lookup x=some .cell∨sc.names.lookup x=some .free
def Loc (sc:Scope) (x:Str):Prop:=sc.names.lookup x=some .local∨sc.names.lookup x=some .cell
def Look (env:Env) (h:Heap) (m:Str→Option Value) (x:Str) (u:Value):Prop:=
 (env.kindOf x=some .local∧m x=some u)∨((env.kindOf x=some .cell∨env.kindOf x=some .free)∧∃ c,env.cells.lookup x=some c∧h.IsCell c (some u))
structure Cx.Ok (X:Cx):Prop where
 mod:Mod X.K X.mg X.base
 kind:X.env.scope.kind=.function
 glob:X.env.globals=mainGlobals
 blt:X.env.builtins=builtinsNs
 above:X.s₀.heap.objs.size≤X.env.locals
 inj:∀ x y c,X.env.cells.lookup x=some c→X.env.cells.lookup y=some c→x=y
 has:∀ x,(X.env.kindOf x=some .cell∨X.env.kindOf x=some .free)→∃ c,X.env.cells.lookup x=some c
 cab:∀ x c,X.fn x=true→X.env.cells.lookup x=some c→X.s₀.heap.objs.size≤c
 hd:X.calm=true→X.A.handled=none
 frames:X.A.frames=some X.stack
 stk:X.stack=X.outer∨(X.stack=X.env::X.outer∧X.env.frame=some X.env.locals)
 exf:∀ b∈X.ex,b≠X.env.locals∧∀ x c,X.env.cells.lookup x=some c→c≠b
 bs:∀ b o,X.base.get? b=some o→X.s₀.heap.get? b=some o∧X.H₀ b=none
 bsz:X.base.objs.size≤X.s₀.heap.objs.size
 noex:∀ b o,X.base.get? b=some o→b∉X.ex
 exfs:∀ b∈X.ex,b∉X.fs
 funs:X.s₀.heap.FunFrames X.base X.outer
 frf:∀ b∈X.fs,X.H₀ b=none
structure Inv (X:Cx) (pins:List (Addr×Obj)) (σ:List (Option V)) (H:Hp) (s:Shared):Prop where
 ok:X.Ok
 os:s.os=X.s₀.os
 bare:AllBare s.gens
 base:Un X.fs X.ex X.H₀ H X.s₀.heap s.heap
 loc:∃ m,s.heap.Ns X.env.locals m∧∀ (i:Nat) (x:Str) (v:V),X.N[i]? = some x→σ[i]? = some (some v)→Vis X.env.scope x→∃ u,RelV v u∧Look X.env s.heap m x u
 cell:∀ x c,X.env.cells.lookup x=some c→∃ v,s.heap.IsCell c v
 free:H X.env.locals=none
 freeC:∀ x c,X.env.cells.lookup x=some c→H c=none
 pin:∀ p∈X.pn++pins,s.heap.get? p.1=some p.2∧H p.1=none∧p.1≠X.env.locals∧p.1∉X.fs∧∀ v,p.2.data≠.cell v
 hok:HOk X.prog X.w H s.heap
 len:σ.length=X.N.length
section
variable {X:Cx} {pins:List (Addr×Obj)} {σ:List (Option V)} {H H':Hp} {s:Shared} {h':Heap}
theorem Cx.Ok.nofr (ok:X.Ok) {b:Addr} {o:Obj} (e:X.base.get? b=some o):b∉X.fs:=fun hb=>by
 have:=(ok.funs.mem hb).1
 rw [e] at this;cases this
theorem Inv.bs (I:Inv X pins σ H s):∀ b o,X.base.get? b=some o→s.heap.get? b=some o∧H b=none:=fun b o e=>
 ⟨I.base.keep b o (I.ok.bs b o e).1 (I.ok.bs b o e).2 (I.ok.nofr e) (I.ok.noex b o e),I.base.free b o (I.ok.bs b o e).1 (I.ok.bs b o e).2 (I.ok.noex b o e)⟩
theorem Inv.bk (I:Inv X pins σ H s):∀ b o,X.base.get? b=some o→s.heap.get? b=some o:=fun b o e=>(I.bs b o e).1
theorem Inv.mod (I:Inv X pins σ H s):Mod X.K X.mg X.base:=I.ok.mod
theorem Inv.kIn (I:Inv X pins σ H s):X.K.In s.heap:=I.ok.mod.kin.keeps I.bk
theorem Inv.lt (I:Inv X pins σ H s):X.env.locals<s.heap.objs.size:=let ⟨_,hn,_⟩:=I.loc;hn.lt
theorem Inv.sz (I:Inv X pins σ H s):X.s₀.heap.objs.size≤s.heap.objs.size:=Nat.le_trans I.ok.above (Nat.le_of_lt I.lt)
theorem Inv.nofs (I:Inv X pins σ H s) {a:Addr} (h:s.heap.objs.size≤a):a∉X.fs:=fun hb=>by
 obtain ⟨_,o,ho,_⟩:=I.ok.funs.mem hb
 exact absurd (Nat.lt_of_lt_of_le (Heap.lt_size ho) (Nat.le_trans I.sz h)) (Nat.lt_irrefl _)
theorem Inv.cne (I:Inv X pins σ H s):∀ x c,X.env.cells.lookup x=some c→c≠X.env.locals:=fun x c e z=>by
 obtain ⟨v,o,ho,hd⟩:=I.cell x c e
 obtain ⟨m,⟨o',es,ep,ho',hd',_⟩,_⟩:=I.loc
 rw [z,ho'] at ho;cases ho;rw [hd'] at hd;cases hd
theorem Inv.funs (I:Inv X pins σ H s):s.heap.FunFrames X.base X.outer:=by
 have all:∀ (l:List Env),(∀ b∈frs l,b∈X.fs)→X.s₀.heap.FunFrames X.base l→s.heap.FunFrames X.base l:=by
  intro l
  induction l with
  | nil=>intro _ _;trivial
  | cons env r ih=>
    intro hs hl
    obtain ⟨hk,⟨L,o,hf,hn,ho,hd⟩,hr⟩:=hl
    have hL:L∈X.fs:=hs L (by unfold frs;rw [List.filterMap_cons,hf];exact List.mem_cons_self)
    obtain ⟨sl,e⟩:=I.base.slot L o ho (I.ok.frf L hL) hL fun z=>I.ok.exfs L z hL
    exact ⟨hk,⟨L,_,hf,hn,e,hd⟩,ih (fun b hb=>hs b (by unfold frs;rw [List.filterMap_cons,hf];exact List.mem_cons_of_mem _ hb)) hr⟩
 exact all X.outer (fun _ hb=>hb) I.ok.funs
theorem Inv.stack (I:Inv X pins σ H s):s.heap.FunFrames X.base X.stack:=by
 rcases I.ok.stk with e | ⟨e,hf⟩
 · rw [e];exact I.funs
 · rw [e]
   obtain ⟨m,hn,_⟩:=I.loc
   refine .cons (by rw [I.ok.kind];decide) hf hn ?_ I.funs
   exact Heap.get?_none_of_le (Nat.le_trans I.ok.bsz I.ok.above)
theorem Inv.stkSub (I:Inv X pins σ H s):∀ b∈frs X.stack,b∈X.env.locals::X.fs:=fun b hb=>by
 rcases I.ok.stk with e | ⟨e,hf⟩
 · rw [e] at hb;exact List.mem_cons_of_mem _ hb
 · rw [e] at hb
   unfold frs at hb
   rw [List.filterMap_cons,hf] at hb
   exact hb
theorem Inv.stkFree (I:Inv X pins σ H s):∀ b∈frs X.stack,H b=none:=fun b hb=>by
 rcases List.mem_cons.mp (I.stkSub b hb) with e | hb
 · rw [e];exact I.free
 · obtain ⟨_,o,ho,_⟩:=I.ok.funs.mem hb
   exact I.base.free b o ho (I.ok.frf b hb) fun z=>I.ok.exfs b z hb
theorem Inv.step {g':Array GenState} {t':Nat} {d':Drawn} {ch:List Addr} (I:Inv X pins σ H s)
 (hch:∀ b∈ch,(b∈X.ex∨X.s₀.heap.objs.size≤b)∧b≠X.env.locals∧(∀ x c,X.env.cells.lookup x=some c→c≠b)∧∀ p∈X.pn++pins,p.1≠b)
 (keep:∀ b o,b≠X.env.locals→b∉X.fs→b∉ch→s.heap.get? b=some o→H b=none→h'.get? b=some o)
 (slot:∀ b o,b≠X.env.locals→b∈X.fs→b∉ch→s.heap.get? b=some o→H b=none→∃ sl,h'.get? b=some { o with slots:=sl }) (free:∀ b o,b∉ch→s.heap.get? b=some o→H b=none→H' b=none)
 (there:∀ b o,b∉ch→s.heap.get? b=some o→∃ o',h'.get? b=some o')
 (tups:∀ b xs,H b=some (.tup xs)→H' b=some (.tup xs)) (frzs:∀ b o u,H b=some (.frz o u)→H' b=some (.frz o u)) (tbls:∀ b ps,H b=some (.tbl ps)→∃ more,H' b=some (.tbl (ps++more)))
 (ns:∀ m,s.heap.Ns X.env.locals m→h'.Ns X.env.locals m) (hok:HOk X.prog X.w H' h') (hg:AllBare g') :
 Inv X pins σ H' { s with heap:=h',gens:=g',drawn:=d',toks:=t' }:=by
 have neL:∀ b o,X.s₀.heap.get? b=some o→b≠X.env.locals:=fun b o e=>Nat.ne_of_lt (Nat.lt_of_lt_of_le (Heap.lt_size e) I.ok.above)
 have neC:∀ b o,X.s₀.heap.get? b=some o→b∉X.ex→b∉ch:=fun b o e hx hb=>by
  rcases (hch b hb).1 with z | z
  · exact hx z
  · exact absurd (Nat.lt_of_lt_of_le (Heap.lt_size e) z) (Nat.lt_irrefl _)
 have cellK:∀ x c,X.env.cells.lookup x=some c→∀ v,s.heap.IsCell c v→h'.IsCell c v:=fun x c e v ⟨o,ho,hd⟩=>by
  have nch:c∉ch:=fun z=>(hch c z).2.2.1 x c e rfl
  by_cases hc:c∈X.fs
  · obtain ⟨sl,q⟩:=slot c o (I.cne x c e) hc nch ho (I.freeC x c e)
    exact ⟨_,q,hd⟩
  · exact ⟨o,keep c o (I.cne x c e) hc nch ho (I.freeC x c e),hd⟩
 refine ⟨I.ok,I.os,hg,⟨fun b o e n hb hx=>?_,fun b o e n hb hx=>?_,fun b o e n hx=>?_,fun b o e hx=>?_,fun b xs e=>tups b xs (I.base.tups b xs e),fun b o xs e=>frzs b o xs (I.base.frzs b o xs e),fun b ps e=>?_⟩,?_,fun x c e=>?_,?_,fun x c e=>?_,fun p hp=>?_,hok,I.len⟩
 · exact keep b o (neL b o e) hb (neC b o e hx) (I.base.keep b o e n hb hx) (I.base.free b o e n hx)
 · obtain ⟨sl,e1⟩:=I.base.slot b o e n hb hx
   obtain ⟨sl',e2⟩:=slot b _ (neL b o e) hb (neC b o e hx) e1 (I.base.free b o e n hx)
   exact ⟨sl',e2⟩
 · obtain ⟨o',e1⟩:=I.base.there b o e hx
   exact free b o' (neC b o e hx) e1 (I.base.free b o e n hx)
 · obtain ⟨o',e1⟩:=I.base.there b o e hx
   exact there b o' (neC b o e hx) e1
 · obtain ⟨m1,e1⟩:=I.base.tbls b ps e
   obtain ⟨m2,e2⟩:=tbls b _ e1
   exact ⟨m1++m2,by rw [e2,Array.append_assoc]⟩
 · obtain ⟨m,hn,hl⟩:=I.loc
   refine ⟨m,ns m hn,fun i x v e1 e2 e3=>?_⟩
   obtain ⟨u,r,l⟩:=hl i x v e1 e2 e3
   refine ⟨u,r,?_⟩
   rcases l with l | ⟨k,c,e,z⟩
   · exact .inl l
   · exact .inr ⟨k,c,e,cellK x c e _ z⟩
 · obtain ⟨v,z⟩:=I.cell x c e
   exact ⟨v,cellK x c e v z⟩
 · obtain ⟨m,⟨o,_,_,ho,_⟩,_⟩:=I.loc
   exact free _ o (fun z=>(hch _ z).2.1 rfl) ho I.free
 · obtain ⟨v,o,ho,hd⟩:=I.cell x c e
   exact free c o (fun z=>(hch c z).2.2.1 x c e rfl) ho (I.freeC x c e)
 · obtain ⟨e,n,ne,nf,d⟩:=I.pin p hp
   have nch:p.1∉ch:=fun z=>(hch p.1 z).2.2.2 p hp rfl
   exact ⟨keep p.1 p.2 ne nf nch e n,free p.1 p.2 nch e n,ne,nf,d⟩
theorem Inv.un {t':Nat} (I:Inv X pins σ H s) (u:Un X.fs [] H H' s.heap h') (hok:HOk X.prog X.w H' h'):Inv X pins σ H' { s with heap:=h',toks:=t' }:=by
 obtain ⟨m,⟨o,es,ep,ho,r⟩,_⟩:=id I.loc
 obtain ⟨sl,hL⟩:=u.any ho I.free (by simp)
 exact I.step (g':=s.gens) (d':=s.drawn) (ch:=[]) (fun _ z=>nomatch z) (fun b o _ hb _ e n=>u.keep b o e n hb (by simp)) (fun b o _ hb _ e n=>u.slot b o e n hb (by simp)) (fun b o _ e n=>u.free b o e n (by simp)) (fun b o _ e=>u.there b o e (by simp)) u.tups u.frzs u.tbls (fun m' hm=>by
  obtain ⟨o',es',ep',ho',r'⟩:=hm
  rw [ho] at ho';cases ho'
  exact ⟨_,es',ep',hL,r'⟩) hok I.bare
theorem Inv.call {g':Array GenState} {t':Nat} {d':Drawn} {ch:List Addr} (I:Inv X pins σ H s) (u:Un (frs X.stack) ch H H' s.heap h') (hok:HOk X.prog X.w H' h') (hg:AllBare g')
 (hch:∀ b∈ch,(b∈X.ex∨X.s₀.heap.objs.size≤b)∧b≠X.env.locals∧(∀ x c,X.env.cells.lookup x=some c→c≠b)∧∀ p∈X.pn++pins,p.1≠b) :
 Inv X pins σ H' { s with heap:=h',gens:=g',drawn:=d',toks:=t' }:=by
 obtain ⟨m,⟨o,es,ep,ho,r⟩,_⟩:=id I.loc
 obtain ⟨sl,hL⟩:=u.any ho I.free fun z=>(hch _ z).2.1 rfl
 exact I.step (ch:=ch) hch (fun b o hL hb hc e n=>u.keep b o e n (fun z=>(List.mem_cons.mp (I.stkSub b z)).elim hL hb) hc) (fun b o _ _ hc e n=>u.any e n hc) (fun b o hc e n=>u.free b o e n hc) (fun b o hc e=>u.there b o e hc) u.tups u.frzs u.tbls (fun m' hm=>by
  obtain ⟨o',es',ep',ho',r'⟩:=hm
  rw [ho] at ho';cases ho'
  exact ⟨_,es',ep',hL,r'⟩) hok hg
theorem Inv.turned {t':Nat} {it:Addr} (I:Inv X pins σ H s) (k:∀ b o,b≠it→s.heap.get? b=some o→h'.get? b=some o) (hn:H it=none) (hL:it≠X.env.locals)
 (h1:it∈X.ex∨X.s₀.heap.objs.size≤it) (h2:∀ x c,X.env.cells.lookup x=some c→c≠it) (h3:∀ p∈X.pn++pins,p.1≠it):Inv X pins σ H { s with heap:=h',toks:=t' }:=by
 have nit:∀ b u,H b=some u→b≠it:=fun b u e z=>by rw [z,hn] at e;cases e
 refine I.step (g':=s.gens) (d':=s.drawn) (ch:=[it]) (fun b hb=>?_) (fun b o _ _ hc e _=>k b o (fun z=>hc (by simp [z])) e) (fun b o _ _ hc e _=>⟨o.slots,k b o (fun z=>hc (by simp [z])) e⟩) (fun _ _ _ _ n=>n)
  (fun b o hc e=>⟨o,k b o (fun z=>hc (by simp [z])) e⟩) (fun _ _ e=>e) (fun _ _ _ e=>e) (fun b ps e=>⟨#[],by rw [e];simp⟩) (fun m hm=>?_) (fun b u e=>?_) I.bare
 · have e:b=it:=by simpa using hb
   subst e
   exact ⟨h1,hL,h2,h3⟩
 · obtain ⟨o,es,ep,ho,r⟩:=hm
   exact ⟨o,es,ep,k _ o (Ne.symm hL) ho,r⟩
 · refine (I.hok b u e).stay (fun c v hc q=>k c v ?_ q) (fun _ q=>q) fun _ _ q=>q
   rcases hc with z | z
   · rw [z];exact nit b u e
   · exact nit c _ z
theorem Inv.tok (I:Inv X pins σ H s) (t:Nat):Inv X pins σ H { s with toks:=t }:=I.un (h':=s.heap) (t':=t) Un.refl I.hok
theorem Inv.kept {t':Nat} (I:Inv X pins σ H s) (k:∀ b u,s.heap.get? b=some u→h'.get? b=some u):Inv X pins σ H { s with heap:=h',toks:=t' }:=I.un (Un.kept k) (I.hok.kept k)
theorem Inv.laid {a:Addr} {o:HO} {t':Nat} (I:Inv X pins σ H s) (k:∀ b u,s.heap.get? b=some u→h'.get? b=some u) (hp:s.heap.objs.size≤a) (new:ObjOk X.prog X.w (upd H a o) h' a o) :
 Inv X pins σ (upd H a o) { s with heap:=h',toks:=t' }:=I.un (Un.laid k hp (I.hok.fresh hp)) (I.hok.laid k hp new)
theorem Inv.write {x e:Addr} {o:HO} {t':Nat} (I:Inv X pins σ H s) (mu:Mut (H x)) (he:e=x∨H e=some (.own x)) (k:∀ b u,b≠e→s.heap.get? b=some u→h'.get? b=some u) (heo:∃ u,h'.get? e=some u)
 (new:ObjOk X.prog X.w (upd H x o) h' x o):Inv X pins σ (upd H x o) { s with heap:=h',toks:=t' }:=I.un (Un.write mu he k heo) (I.hok.write mu he k heo new)
theorem Inv.weak {σ':List (Option V)} (I:Inv X pins σ H s) (hl:σ'.length=σ.length) (w:∀ (i:Nat) v,σ'[i]? = some (some v)→σ[i]? = some (some v)):Inv X pins σ' H s:=
 ⟨I.ok,I.os,I.bare,I.base,let ⟨m,hn,hl'⟩:=I.loc;⟨m,hn,fun i x v e1 e2 e3=>hl' i x v e1 (w i v e2) e3⟩,I.cell,I.free,I.freeC,I.pin,I.hok,hl.trans I.len⟩
theorem Inv.pins_of {pins':List (Addr×Obj)} (I:Inv X pins σ H s) (h:∀ p∈pins',s.heap.get? p.1=some p.2∧H p.1=none∧p.1≠X.env.locals∧p.1∉X.fs∧∀ v,p.2.data≠.cell v):Inv X pins' σ H s:=
 ⟨I.ok,I.os,I.bare,I.base,I.loc,I.cell,I.free,I.freeC,fun p hp=>(List.mem_append.mp hp).elim (fun z=>I.pin p (List.mem_append_left _ z)) (h p),I.hok,I.len⟩
theorem nodup_ix {N:List Str} (hN:N.Nodup) {i j:Nat} {x:Str} (a:N[i]? = some x) (b:N[j]? = some x):i=j:=by
 obtain ⟨h1,e1⟩:=List.getElem?_eq_some_iff.mp a
 obtain ⟨h2,e2⟩:=List.getElem?_eq_some_iff.mp b
 exact (List.getElem_inj hN).mp (e1.trans e2.symm)
theorem store_ok2 {M:Model} {A:Around} {E:Value→Shared→Prop} {i:Nat} {x:Str} {v:V} {u:Value} {Q:Unit→Shared→Prop} (I:Inv X pins σ H s) (hN:X.N.Nodup) (hi:X.N[i]? = some x) (hx:Loc X.env.scope x) (r:RelV v u)
 (h:∀ s',Inv X pins (σ.set i (some v)) H s'→(∃ a,Heap.SameBut a s.heap s'.heap∧(a=X.env.locals∨X.env.cells.lookup x=some a))→Q () s') (hf:X.fn x=true∨X.env.scope.names.lookup x=some .local:=by first | exact .inl rfl | exact .inr rfl | assumption):wpAny M A (storeName X.env x u) Q E s:=by
 obtain ⟨m,hn,hl⟩:=id I.loc
 have hcls:(X.env.scope.kind == .class||(X.env.scope.kind == .module&&X.env.locals != X.env.globals))=false:=by rw [I.ok.kind];rfl
 have hiσ:i<σ.length:=by rw [I.len];exact (List.getElem?_eq_some_iff.mp hi).1
 have cne:=I.cne
 have tracked:∀ {a:Addr} {h':Heap},(∃ o,s.heap.get? a=some o∧H a=none)→Heap.SameBut a s.heap h'→HOk X.prog X.w H h':=fun {a h'} ha hs b ob e=>by
  obtain ⟨_,_,hfree⟩:=ha
  refine (I.hok b ob e).stay (fun c w' hc q=>(hs.2 c ?_).trans q) (fun _ q=>q) fun _ _ q=>q
  rintro rfl
  rcases hc with rfl | hc
  · rw [hfree] at e;cases e
  · rw [hfree] at hc;cases hc
 rcases hx with hk | hk
 · refine wpAny_storeName_local hk hn (fun h' hn' hs=>?_) hcls
   obtain ⟨oL,_,_,hoL,_⟩:=id hn
   refine h _ ⟨I.ok,I.os,I.bare,⟨fun b o e n hb hx=>?_,fun b o e n hb hx=>?_,I.base.free,fun b o e hx=>?_,I.base.tups,I.base.frzs,I.base.tbls⟩,⟨_,hn',fun j y v' e1 e2 e3=>?_⟩,fun y c e=>?_,I.free,I.freeC,fun p hp=>?_,tracked ⟨oL,hoL,I.free⟩ hs,by simpa using I.len⟩ ⟨_,hs,.inl rfl⟩
   · exact (hs.2 b (Nat.ne_of_lt (Nat.lt_of_lt_of_le (Heap.lt_size e) I.ok.above))).trans (I.base.keep b o e n hb hx)
   · obtain ⟨sl,e1⟩:=I.base.slot b o e n hb hx
     exact ⟨sl,(hs.2 b (Nat.ne_of_lt (Nat.lt_of_lt_of_le (Heap.lt_size e) I.ok.above))).trans e1⟩
   · obtain ⟨o',e1⟩:=I.base.there b o e hx
     exact ⟨o',(hs.2 b (Nat.ne_of_lt (Nat.lt_of_lt_of_le (Heap.lt_size e) I.ok.above))).trans e1⟩
   · by_cases hj:j=i
     · subst hj
       rw [hi] at e1;cases e1
       rw [List.getElem?_set_self hiσ] at e2
       cases e2
       exact ⟨u,r,.inl ⟨hk,by simp⟩⟩
     · rw [List.getElem?_set_ne (Ne.symm hj)] at e2
       obtain ⟨u',r',q⟩:=hl j y v' e1 e2 e3
       refine ⟨u',r',?_⟩
       rcases q with ⟨k,e⟩ | ⟨k,c,e,z⟩
       · refine .inl ⟨k,?_⟩
         have:y≠x:=fun e=>hj (nodup_ix hN e1 (e▸hi))
         simp [this,e]
       · exact .inr ⟨k,c,e,z.sameBut hs (cne y c e)⟩
   · obtain ⟨w',z⟩:=I.cell y c e
     exact ⟨w',z.sameBut hs (cne y c e)⟩
   · obtain ⟨e,n,ne,nf,d⟩:=I.pin p hp
     exact ⟨(hs.2 p.1 ne).trans e,n,ne,nf,d⟩
 · have hfn:X.fn x=true:=by
    rcases hf with z | z
    · exact z
    · rw [z] at hk;cases hk
   obtain ⟨c,hc⟩:=I.ok.has x (.inl hk)
   obtain ⟨w',z⟩:=I.cell x c hc
   refine wpAny_storeName_cell I.ok.kind hk hc z (fun h' hc' hs=>?_)
   obtain ⟨oc,hoc,hocd⟩:=id z
   refine h { s with heap:=h' } ⟨I.ok,I.os,I.bare,⟨fun b o e n hb hx=>?_,fun b o e n hb hx=>?_,I.base.free,fun b o e hx=>?_,I.base.tups,I.base.frzs,I.base.tbls⟩,⟨m,hn.sameBut hs (Ne.symm (cne x c hc)),fun j y v' e1 e2 e3=>?_⟩,fun y c' e=>?_,I.free,I.freeC,fun p hp=>?_,tracked ⟨oc,hoc,I.freeC x c hc⟩ hs,by simpa using I.len⟩ ⟨c,hs,.inr hc⟩
   · exact (hs.2 b (Nat.ne_of_lt (Nat.lt_of_lt_of_le (Heap.lt_size e) (I.ok.cab x c hfn hc)))).trans (I.base.keep b o e n hb hx)
   · obtain ⟨sl,e1⟩:=I.base.slot b o e n hb hx
     exact ⟨sl,(hs.2 b (Nat.ne_of_lt (Nat.lt_of_lt_of_le (Heap.lt_size e) (I.ok.cab x c hfn hc)))).trans e1⟩
   · obtain ⟨o',e1⟩:=I.base.there b o e hx
     exact ⟨o',(hs.2 b (Nat.ne_of_lt (Nat.lt_of_lt_of_le (Heap.lt_size e) (I.ok.cab x c hfn hc)))).trans e1⟩
   · by_cases hj:j=i
     · subst hj
       rw [hi] at e1;cases e1
       rw [List.getElem?_set_self hiσ] at e2
       cases e2
       exact ⟨u,r,.inr ⟨.inl hk,c,hc,hc'⟩⟩
     · rw [List.getElem?_set_ne (Ne.symm hj)] at e2
       obtain ⟨u',r',q⟩:=hl j y v' e1 e2 e3
       refine ⟨u',r',?_⟩
       rcases q with q | ⟨k,c',e,z'⟩
       · exact .inl q
       · refine .inr ⟨k,c',e,z'.sameBut hs ?_⟩
         rintro rfl
         exact hj (nodup_ix hN e1 (I.ok.inj _ _ _ e hc▸hi))
   · by_cases hcc:c'=c
     · subst hcc;exact ⟨_,hc'⟩
     · obtain ⟨w2,z2⟩:=I.cell y c' e
       exact ⟨w2,z2.sameBut hs hcc⟩
   · obtain ⟨e,n,ne,nf,d⟩:=I.pin p hp
     refine ⟨(hs.2 p.1 ?_).trans e,n,ne,nf,d⟩
     intro q
     rw [q,hoc] at e
     have q':oc=p.2:=Option.some.inj e
     exact d w' (by rw [← q'];exact hocd)
theorem store_ok {M:Model} {A:Around} {E:Value→Shared→Prop} {i:Nat} {x:Str} {v:V} {u:Value} {Q:Unit→Shared→Prop} (I:Inv X pins σ H s) (hN:X.N.Nodup) (hi:X.N[i]? = some x) (hx:Loc X.env.scope x) (r:RelV v u)
 (h:∀ s',Inv X pins (σ.set i (some v)) H s'→Q () s') (hf:X.fn x=true∨X.env.scope.names.lookup x=some .local:=by first | exact .inl rfl | exact .inr rfl | assumption):wpAny M A (storeName X.env x u) Q E s:=
 store_ok2 I hN hi hx r (fun s' I' _=>h s' I') hf
theorem Inv.call' {s':Shared} {ch:List Addr} (I:Inv X pins σ H s) (ho:s'.os=s.os) (u:Un (frs X.stack) ch H H' s.heap s'.heap) (hok:HOk X.prog X.w H' s'.heap) (hg:AllBare s'.gens)
 (hch:∀ b∈ch,(b∈X.ex∨X.s₀.heap.objs.size≤b)∧b≠X.env.locals∧(∀ x c,X.env.cells.lookup x=some c→c≠b)∧∀ p∈X.pn++pins,p.1≠b):Inv X pins σ H' s':=by
 obtain ⟨h',g',d',t',o'⟩:=s'
 have e:o'=s.os:=ho
 subst e
 exact I.call (g':=g') (t':=t') (d':=d') u hok hg hch
end
abbrev XK:=Value→Option Addr→Hp→Prop
abbrev St:=List (Option V)
abbrev VK:=V→Hp→Prop
abbrev TE:=St→Hp→VK→Prop
abbrev TT:=St→Hp→(Bool→Hp→Prop)→Prop
abbrev TA:=St→Hp→(List V→Hp→Prop)→Prop
structure Ends where
 nx:St→Hp→Prop
 rt:VK
 bk:St→Hp→Prop:=fun _ _=>False
 ct:St→Hp→Prop:=fun _ _=>False
abbrev TS:=Ends→St→Hp→Prop
def EP (X:Cx) (pins:List (Addr×Obj)) (σ:St) (Q:VK) (u:Value) (s':Shared):Prop:=∃ v H',Inv X pins σ H' s'∧RelV v u∧Q v H'
def TP (X:Cx) (pins:List (Addr×Obj)) (σ:St) (Q:Bool→Hp→Prop) (b:Bool) (s':Shared):Prop:=∃ H',Inv X pins σ H' s'∧Q b H'
def AP (X:Cx) (pins:List (Addr×Obj)) (σ:St) (Q:List V→Hp→Prop) (us:List Value) (s':Shared):Prop:=∃ vs H',Inv X pins σ H' s'∧Vals vs us∧Q vs H'
def SP (X:Cx) (pins:List (Addr×Obj)) (D:Ends) (f:Flow) (s':Shared):Prop:=
 match f with
 | .next=>∃ σ' H',Inv X pins σ' H' s'∧D.nx σ' H'
 | .brk=>∃ σ' H',Inv X pins σ' H' s'∧D.bk σ' H'
 | .cont=>∃ σ' H',Inv X pins σ' H' s'∧D.ct σ' H'
 | .ret u=>∃ v σ' H',Inv X pins σ' H' s'∧RelV v u∧D.rt v H'
def PE (X:Cx) (e:Expr) (t:TE):Prop:=
 ∀ (pins:List (Addr×Obj)) (s:Shared) (σ:St) (H:Hp) (Q:VK),Inv X pins σ H s→t σ H Q→wpAny (model X.prog X.w) X.A (eval e X.env) (EP X pins σ Q) X.xe s
@[irreducible] def ZE (X:Cx) (e:Expr) (t:TE):Prop:=PE X e t
def PT (X:Cx) (e:Expr) (t:TT):Prop:=
 ∀ (pins:List (Addr×Obj)) (s:Shared) (σ:St) (H:Hp) (Q:Bool→Hp→Prop),Inv X pins σ H s→t σ H Q→wpAny (model X.prog X.w) X.A (isTrue e X.env (eval e X.env)) (TP X pins σ Q) X.xe s
@[irreducible] def ZT (X:Cx) (e:Expr) (t:TT):Prop:=PT X e t
def PW (X:Cx) (e:Expr) (t:TT):Prop:=
 ∀ (whole:Sem Value) (pins:List (Addr×Obj)) (s:Shared) (σ:St) (H:Hp) (Q:Bool→Hp→Prop),Inv X pins σ H s→t σ H Q→wpAny (model X.prog X.w) X.A (isTrue e X.env whole) (TP X pins σ Q) X.xe s
@[irreducible] def ZW (X:Cx) (e:Expr) (t:TT):Prop:=PW X e t
theorem PW.pt {X:Cx} {e:Expr} {t:TT} (h:PW X e t):PT X e t:=h _
theorem ZW.zt {X:Cx} {e:Expr} {t:TT} (h:ZW X e t):ZT X e t:=by with_unfolding_all exact PW.pt h
def PA (X:Cx) (es:List Expr) (t:TA):Prop:=
 ∀ (pos:Pos) (pins:List (Addr×Obj)) (s:Shared) (σ:St) (H:Hp) (Q:List V→Hp→Prop),Inv X pins σ H s→t σ H Q→wpAny (model X.prog X.w) X.A (spliced (backTo pos (starEach es X.env))) (AP X pins σ Q) X.xe s
@[irreducible] def ZA (X:Cx) (es:List Expr) (t:TA):Prop:=PA X es t
def PS (X:Cx) (st:Stmt) (t:TS):Prop:=
 ∀ (pins:List (Addr×Obj)) (s:Shared) (σ:St) (H:Hp) (D:Ends),Inv X pins σ H s→t D σ H→wpAny (model X.prog X.w) X.A (exec st X.env) (SP X pins D) X.xe s
@[irreducible] def ZS (X:Cx) (st:Stmt) (t:TS):Prop:=PS X st t
def PSs (X:Cx) (st:List Stmt) (t:TS):Prop:=
 ∀ (pins:List (Addr×Obj)) (s:Shared) (σ:St) (H:Hp) (D:Ends),Inv X pins σ H s→t D σ H→wpAny (model X.prog X.w) X.A (execs st X.env) (SP X pins D) X.xe s
@[irreducible] def ZSs (X:Cx) (st:List Stmt) (t:TS):Prop:=PSs X st t
theorem ZSs.p {X:Cx} {st:List Stmt} {t:TS}  (h:ZSs X st t):PSs X st t:=by unfold ZSs at h;exact h
theorem thn {α:Type} {t:Sem α} {Q Q':α→Shared→Prop} {M:Model} {A:Around} {E:Value→Shared→Prop} {s:Shared} (h:wpAny M A t Q E s) (hQ:∀ a s,Q a s→Q' a s):wpAny M A t Q' E s:=wpAny_mono h hQ fun _ _ x=>x
section
variable {X:Cx}
def tVar (i:Nat):TE:=fun σ H Q=>∃ v,σ[i]? = some (some v)∧Q v H
def tC (v:V):TE:=fun _ H Q=>Q v H
theorem pe_var {i:Nat} {x:Str} {pos:Pos} (hN:X.N[i]? = some x) (hv:Vis X.env.scope x) (hd:(x == ("__debug__" : Str))=false:=by decide) (hcd:(x == ("__classdict__" : Str))=false:=by decide):PE X (.Name x pos) (tVar i):=by
 intro pins s σ H Q I h
 obtain ⟨v,e,h⟩:=h
 obtain ⟨m,hn,hl⟩:=I.loc
 obtain ⟨u,r,l⟩:=hl i x v hN e hv
 have fin:EP X pins σ Q u s:=⟨v,H,I,r,h⟩
 rcases l with ⟨hk,hm⟩ | ⟨hk,c,hc,hcell⟩
 · exact wpAny_Name (wpAny_loadName_local I.ok.kind hk hn hm fin) hd
 · rcases hk with hk | hk
   · exact wpAny_Name (wpAny_loadName_cell I.ok.kind hk hc hcell fin) hd
   · exact wpAny_Name (wpAny_loadName_free I.ok.kind hk hc hcell fin hcd) hd
theorem pe_int {i j pos}:PE X (.Constant (.int i) j pos) (tC (.int i)):=fun _ _ _ H _ I h=>wpAny_Constant_int ⟨.int i,H,I.tok _,⟨_,rfl⟩,h⟩
theorem ze_int {i j pos}:ZE X (.Constant (.int i) j pos) (tC (.int i)):=by with_unfolding_all exact pe_int
theorem pe_bl {b j pos}:PE X (.Constant (.bool b) j pos) (tC (.bl b)):=fun _ _ _ H _ I h=>Constant_bool ⟨.bl b,H,I,rfl,h⟩
theorem ze_bl {b j pos}:ZE X (.Constant (.bool b) j pos) (tC (.bl b)):=by with_unfolding_all exact pe_bl
theorem pe_non {j pos}:PE X (.Constant .none j pos) (tC .non):=fun _ _ _ H _ I h=>Constant_none ⟨.non,H,I,rfl,h⟩
theorem ze_non {j pos}:ZE X (.Constant .none j pos) (tC .non):=by with_unfolding_all exact pe_non
theorem pe_str {x j pos}:PE X (.Constant (.str x) j pos) (tC (.str x)):=fun _ _ _ H _ I h=>Calls.Constant_str ⟨.str x,H,I.tok _,⟨_,rfl⟩,h⟩
theorem ze_str {x j pos}:ZE X (.Constant (.str x) j pos) (tC (.str x)):=by with_unfolding_all exact pe_str
def Gl (X:Cx) (x:Str):Prop:=X.env.kindOf x=some .globalImplicit
theorem ld_glob {E:Value→Shared→Prop} {pins:List (Addr×Obj)} {s:Shared} {σ:St} {H:Hp} {x:Str} {u:Value} {pos:Pos} {Q:Value→Shared→Prop} (I:Inv X pins σ H s) (hg:Gl X x) (hm:X.mg x=some u) (h:Q u s)
 (hd:(x == ("__debug__" : Str))=false:=by decide):wpAny (model X.prog X.w) X.A (eval (.Name x pos) X.env) Q E s:=
 Calls.Name_function_global I.ok.kind hg (Calls.loadGlobal_global (by rw [I.ok.glob];exact I.mod.glob.keeps I.bk) hm h) hd
theorem ld_blt {E:Value→Shared→Prop} {pins:List (Addr×Obj)} {s:Shared} {σ:St} {H:Hp} {x:Str} {u:Value} {pos:Pos} {Q:Value→Shared→Prop} (I:Inv X pins σ H s) (hg:Gl X x) (hm:X.mg x=none) (hv:bootBuiltins x=some u) (h:Q u s)
 (hn:x≠"__name__":=by decide) (hd:(x == ("__debug__" : Str))=false:=by decide):wpAny (model X.prog X.w) X.A (eval (.Name x pos) X.env) Q E s:=by
 obtain ⟨mb,h1,h2⟩:=I.mod.blt
 exact Calls.Name_function_global I.ok.kind hg (Calls.loadGlobal_builtin (by rw [I.ok.glob];exact I.mod.glob.keeps I.bk) hm (by rw [I.ok.blt];exact h1.keeps I.bk) ((h2 x hn).trans hv) h) hd
variable {a b:Expr} {ta tb:TE} {pos:Pos}
variable {tA tB':TT} {rest:List Expr}
def tAnd (t u:TT):TT:=fun σ H Q=>t σ H fun c H1=>if c=true then u σ H1 Q else Q false H1
def tOr (t u:TT):TT:=fun σ H Q=>t σ H fun c H1=>if c=true then Q true H1 else u σ H1 Q
def tNot (t:TT):TT:=fun σ H Q=>t σ H fun c H1=>Q (!c) H1
theorem pw_and1 (ha:PT X a tA):PW X (.BoolOp .And [a] pos) tA:=by
 intro wh pins s σ H Q I h
 refine isTrue_and (thn (ha pins s σ H Q I h) fun c s1 e=>?_)
 cases c with
 | true=>exact isTrue_and_nil e
 | false=>exact e
theorem zw_and1 (ha:ZT X a tA):ZW X (.BoolOp .And [a] pos) tA:=by with_unfolding_all exact pw_and1 ha
theorem pw_or1 (ha:PT X a tA):PW X (.BoolOp .Or [a] pos) tA:=by
 intro wh pins s σ H Q I h
 refine isTrue_or (thn (ha pins s σ H Q I h) fun c s1 e=>?_)
 cases c with
 | false=>exact isTrue_or_nil e
 | true=>exact e
theorem zw_or1 (ha:ZT X a tA):ZW X (.BoolOp .Or [a] pos) tA:=by with_unfolding_all exact pw_or1 ha
theorem pw_and (ha:PT X a tA) (hb:PW X (.BoolOp .And (b::rest) pos) tB'):PW X (.BoolOp .And (a::b::rest) pos) (tAnd tA tB'):=by
 intro wh pins s σ H Q I h
 refine isTrue_and (thn (ha pins s σ H _ I h) fun c s1 ⟨H1,I1,q1⟩=>?_)
 cases c with
 | true=>exact hb wh pins s1 σ H1 Q I1 q1
 | false=>exact ⟨H1,I1,q1⟩
theorem zw_and (ha:ZT X a tA) (hb:ZW X (.BoolOp .And (b::rest) pos) tB'):ZW X (.BoolOp .And (a::b::rest) pos) (tAnd tA tB'):=by with_unfolding_all exact pw_and ha hb
theorem pw_or (ha:PT X a tA) (hb:PW X (.BoolOp .Or (b::rest) pos) tB'):PW X (.BoolOp .Or (a::b::rest) pos) (tOr tA tB'):=by
 intro wh pins s σ H Q I h
 refine isTrue_or (thn (ha pins s σ H _ I h) fun c s1 ⟨H1,I1,q1⟩=>?_)
 cases c with
 | true=>exact ⟨H1,I1,q1⟩
 | false=>exact hb wh pins s1 σ H1 Q I1 q1
theorem zw_or (ha:ZT X a tA) (hb:ZW X (.BoolOp .Or (b::rest) pos) tB'):ZW X (.BoolOp .Or (a::b::rest) pos) (tOr tA tB'):=by with_unfolding_all exact pw_or ha hb
theorem pt_not (ha:PT X a tA):PT X (.UnaryOp .Not a pos) (tNot tA):=by
 intro pins s σ H Q I h
 exact isTrue_not (ha pins s σ H (fun c H1=>Q (!c) H1) I h)
theorem zt_not (ha:ZT X a tA):ZT X (.UnaryOp .Not a pos) (tNot tA):=by with_unfolding_all exact pt_not ha
theorem pe_one {op} {t:TE} (h:PE X a t):PE X (.BoolOp op [a] pos) t:=fun pins s σ H Q I hw=>BoolOp_one (h pins s σ H Q I hw)
theorem ze_one {op} {t:TE} (h:ZE X a t):ZE X (.BoolOp op [a] pos) t:=by with_unfolding_all exact pe_one h
def tIf (t:TT) (ta tb:TE):TE:=fun σ H Q=>t σ H fun c H1=>if c=true then ta σ H1 Q else tb σ H1 Q
theorem pe_ifExp {c:Expr} (hc:PT X c tA) (ha:PE X a ta) (hb:PE X b tb):PE X (.IfExp c a b pos) (tIf tA ta tb):=by
 intro pins s σ H Q I h
 refine wpAny_IfExp (thn (hc pins s σ H _ I h) fun d s1 ⟨H1,I1,q1⟩=>?_)
 cases d with
 | true=>exact ha pins s1 σ H1 Q I1 q1
 | false=>exact hb pins s1 σ H1 Q I1 q1
theorem ze_ifExp {c:Expr} (hc:ZT X c tA) (ha:ZE X a ta) (hb:ZE X b tb):ZE X (.IfExp c a b pos) (tIf tA ta tb):=by with_unfolding_all exact pe_ifExp hc ha hb
end
def SqL (K:PySem.W.Frag) (H:Hp) (a:Addr) (xs:List V):Prop:=
 Rd H a (.lst xs) ∨
  ∃ (o:Obj) (its:Array Value) (n:Nat),K.lookup a=some o∧o.cls=.type "list"∧o.dict=none∧o.data=.seq its n∧its.size≤sizeLine∧Vals xs its.toList
def SqT (K:PySem.W.Frag) (H:Hp) (a:Addr) (xs:List V):Prop:=
 Rd H a (.tup xs) ∨
  ∃ (o:Obj) (its:Array Value) (n:Nat),K.lookup a=some o∧o.cls=.type "tuple"∧o.data=.seq its n∧its.size≤sizeLine∧Vals xs its.toList
def absV:Value→Option V
 | .none=>some .non
 | .bool b=>some (.bl b)
 | .int i _=>some (.int i)
 | .str x _=>some (.str x)
 | .bytes b _=>some (.byt b)
 | .float b _=>some (.flt b)
 | .ref a=>some (.ref a)
 | .type n=>some (.ty n)
 | _=>none
theorem RelV.abs {x:V} {u:Value} (r:RelV x u):absV u=some x:=by
 cases x with
 | non=>cases r;rfl
 | bl _=>cases r;rfl
 | int _=>obtain ⟨t,rfl⟩:=r;rfl
 | str _=>obtain ⟨t,rfl⟩:=r;rfl
 | byt _=>obtain ⟨t,rfl⟩:=r;rfl
 | flt _=>obtain ⟨t,rfl⟩:=r;rfl
 | ref _=>cases r;rfl
 | ty _=>cases r;rfl
theorem RelV.inj {x y:V} {u:Value} (r:RelV x u) (q:RelV y u):x=y:=Option.some.inj (r.abs.symm.trans q.abs)
theorem Vals.inj:∀ {xs ys:List V} {us:List Value},Vals xs us→Vals ys us→xs=ys
 | _,_,_,.nil,.nil=>rfl
 | _,_,_,.cons r t,.cons r' t'=>by rw [r.inj r',Vals.inj t t']
section
variable {X:Cx} {pins:List (Addr×Obj)} {σ:St} {H:Hp} {s:Shared} {a:Addr} {xs ys:List V}
theorem SqL.of {K:PySem.W.Frag} (h:H a=some (.lst xs)):SqL K H a xs:=.inl (.inl h)
theorem SqT.of {K:PySem.W.Frag} (h:H a=some (.tup xs)):SqT K H a xs:=.inl (.inl h)
theorem Inv.list (I:Inv X pins σ H s) (h:SqL X.K H a xs):∃ its:List Value,Vals xs its∧PlainL s.heap a its.toArray∧xs.length≤sizeLine:=by
 rcases h with h | ⟨o,its,n,hk,hc,hd,hs,hz,r⟩
 · obtain ⟨z,its,n,r,e⟩:=h.ok I.hok
   exact ⟨its,r,⟨_,n,e,rfl,rfl,rfl⟩,z⟩
 · refine ⟨its.toList,r,⟨o,n,I.kIn a o hk,hc,hd,by simpa using hs⟩,?_⟩
   have e:=r.length
   simp only [Array.length_toList] at e
   omega
theorem Inv.tuple (I:Inv X pins σ H s) (h:SqT X.K H a xs):∃ its:List Value,Vals xs its∧IsTup s.heap a its.toArray∧xs.length≤sizeLine:=by
 rcases h with h | ⟨o,its,n,hk,hc,hs,hz,r⟩
 · obtain ⟨z,its,r,p⟩:=h.ok I.hok
   exact ⟨its,r,p.tup,z⟩
 · refine ⟨its.toList,r,⟨o,I.kIn a o hk,hc,n,by simpa using hs⟩,?_⟩
   have e:=r.length
   simp only [Array.length_toList] at e
   omega
theorem Inv.list_inj (I:Inv X pins σ H s) (h:SqL X.K H a xs) (h':SqL X.K H a ys):xs=ys:=by
 obtain ⟨its,r,⟨o,n,e,_,_,d⟩,_⟩:=I.list h
 obtain ⟨its',r',⟨o',n',e',_,_,d'⟩,_⟩:=I.list h'
 rw [e] at e';cases e'
 rw [d] at d'
 injection d' with d1 _
 have:its=its':=by simpa using congrArg Array.toList d1
 subst this
 exact r.inj r'
theorem Inv.tuple_inj (I:Inv X pins σ H s) (h:SqT X.K H a xs) (h':SqT X.K H a ys):xs=ys:=by
 obtain ⟨its,r,⟨o,e,_,n,d⟩,_⟩:=I.tuple h
 obtain ⟨its',r',⟨o',e',_,n',d'⟩,_⟩:=I.tuple h'
 rw [e] at e';cases e'
 rw [d] at d'
 injection d' with d1 _
 have:its=its':=by simpa using congrArg Array.toList d1
 subst this
 exact r.inj r'
end
abbrev Cx.wish (X:Cx) (E:Value→Shared→Prop):Cx:={ X with xe:=E }
abbrev Cx.nox (X:Cx):Cx:=X.wish fun _ _=>False
theorem Cx.Ok.wish {X:Cx} (ok:X.Ok) (E:Value→Shared→Prop):(X.wish E).Ok:=
 ⟨ok.mod,ok.kind,ok.glob,ok.blt,ok.above,ok.inj,ok.has,ok.cab,ok.hd,ok.frames,ok.stk,ok.exf,ok.bs,ok.bsz,ok.noex,ok.exfs,ok.funs,ok.frf⟩
theorem Cx.Ok.unwish {X:Cx} {E:Value→Shared→Prop} (ok:(X.wish E).Ok):X.Ok:=
 ⟨ok.mod,ok.kind,ok.glob,ok.blt,ok.above,ok.inj,ok.has,ok.cab,ok.hd,ok.frames,ok.stk,ok.exf,ok.bs,ok.bsz,ok.noex,ok.exfs,ok.funs,ok.frf⟩
section
variable {X:Cx} {pins:List (Addr×Obj)} {σ:St} {H:Hp} {s:Shared} {E:Value→Shared→Prop}
theorem Inv.wish (I:Inv X pins σ H s) (E:Value→Shared→Prop):Inv (X.wish E) pins σ H s:=⟨I.ok.wish E,I.os,I.bare,I.base,I.loc,I.cell,I.free,I.freeC,I.pin,I.hok,I.len⟩
theorem Inv.unwish (I:Inv (X.wish E) pins σ H s):Inv X pins σ H s:=⟨I.ok.unwish,I.os,I.bare,I.base,I.loc,I.cell,I.free,I.freeC,I.pin,I.hok,I.len⟩
theorem SP.unwish {D:Ends} {f:Flow} {s':Shared} (h:SP (X.wish E) pins D f s'):SP X pins D f s':=by
 cases f with
 | next=>obtain ⟨σ',H',I,q⟩:=h;exact ⟨σ',H',I.unwish,q⟩
 | brk=>obtain ⟨σ',H',I,q⟩:=h;exact ⟨σ',H',I.unwish,q⟩
 | cont=>obtain ⟨σ',H',I,q⟩:=h;exact ⟨σ',H',I.unwish,q⟩
 | ret u=>obtain ⟨v,σ',H',I,r,q⟩:=h;exact ⟨v,σ',H',I.unwish,r,q⟩
theorem PSs.nox {st:List Stmt} {t:TS} (h:PSs X.nox st t):PSs X st t:=fun pins s σ H D I hw=>
 wpAny_mono (h pins s σ H D (I.wish _) hw) (fun _ _ q=>q.unwish) fun _ _ z=>False.elim z
end
section
variable {X:Cx} {st:Stmt} {rest:List Stmt} {t u:TS} {e:Expr} {te:TE} {pos:Pos}
def tNext:TS:=fun D σ H=>D.nx σ H
def tSeq (t u:TS):TS:=fun D σ H=>t { D with nx:=u D } σ H
theorem pss_nil:PSs X [] tNext:=fun _ _ σ H _ I h=>wpAny_execs_nil ⟨σ,H,I,h⟩
theorem zss_nil:ZSs X [] tNext:=by with_unfolding_all exact pss_nil
theorem pss_cons (h1:PS X st t) (h2:PSs X rest u):PSs X (st::rest) (tSeq t u):=by
 intro pins s σ H D I h
 refine wpAny_execs_cons (thn (h1 pins s σ H { D with nx:=u D } I h) fun f s1 q=>?_)
 cases f with
 | next=>
   obtain ⟨σ',H',I',q⟩:=q
   exact h2 pins s1 σ' H' D I' q
 | ret v=>exact q
 | brk=>exact q
 | cont=>exact q
theorem zss_cons (h1:ZS X st t) (h2:ZSs X rest u):ZSs X (st::rest) (tSeq t u):=by with_unfolding_all exact pss_cons h1 h2
theorem pss_one (h1:PS X st t):PSs X [st] t:=by
 intro pins s σ H D I h
 refine wpAny_execs_cons (thn (h1 pins s σ H D I h) fun f s1 q=>?_)
 cases f with
 | next=>exact wpAny_execs_nil q
 | ret v=>exact q
 | brk=>exact q
 | cont=>exact q
theorem zss_one (h1:ZS X st t):ZSs X [st] t:=by with_unfolding_all exact pss_one h1
theorem Inv.quiet {pins:List (Addr×Obj)} {σ:St} {H:Hp} {s:Shared} (I:Inv X pins σ H s):interactive X.env=false:=by simp [interactive,I.ok.kind]
def tDrop (te:TE):TS:=fun D σ H=>te σ H fun _ H1=>D.nx σ H1
theorem ps_expr (he:PE X e te) (hs:swapsWith e none pos.line X.env=pure false:=by rfl):PS X (.Expr e pos) (tDrop te):=by
 intro pins s σ H D I h
 exact wpAny_Expr_any (thn (he pins s σ H _ I h) fun v s1 ⟨x,H1,I1,r1,q1⟩=>⟨σ,H1,I1,q1⟩) I.quiet hs
theorem zs_expr (he:ZE X e te) (hs:swapsWith e none pos.line X.env=pure false:=by rfl):ZS X (.Expr e pos) (tDrop te):=by with_unfolding_all exact ps_expr he hs
def tRet (te:TE):TS:=fun D σ H=>te σ H D.rt
theorem ps_ret (he:PE X e te):PS X (.Return (some e) pos) (tRet te):=by
 intro pins s σ H D I h
 exact wpAny_Return_some (thn (he pins s σ H _ I h) fun v s1 ⟨x,H1,I1,r1,q1⟩=>⟨x,σ,H1,I1,r1,q1⟩)
theorem zs_ret (he:ZE X e te):ZS X (.Return (some e) pos) (tRet te):=by with_unfolding_all exact ps_ret he
def tIfS (c:TT) (t u:TS):TS:=fun D σ H=>c σ H fun b H1=>if b=true then t D σ H1 else u D σ H1
theorem ps_if {c:Expr} {a b:List Stmt} {tc:TT} (hc:PT X c tc) (ha:PSs X a t) (hb:PSs X b u):PS X (.If c a b pos) (tIfS tc t u):=by
 intro pins s σ H D I h
 refine wpAny_If (thn (hc pins s σ H _ I h) fun d s1 ⟨H1,I1,q1⟩=>?_)
 cases d with
 | true=>exact ha pins s1 σ H1 D I1 q1
 | false=>exact hb pins s1 σ H1 D I1 q1
theorem zs_if {c:Expr} {a b:List Stmt} {tc:TT} (hc:ZT X c tc) (ha:ZSs X a t) (hb:ZSs X b u):ZS X (.If c a b pos) (tIfS tc t u):=by with_unfolding_all exact ps_if hc ha hb
def tNever:TS:=fun _ _ _=>False
theorem pss_never {sts:List Stmt}:PSs X sts tNever:=fun _ _ _ _ _ _ h=>h.elim
end
abbrev TG:=V→St→Hp→(St→Hp→Prop)→Prop
abbrev TGs:=List V→St→Hp→(St→Hp→Prop)→Prop
def PG (X:Cx) (target:Expr) (t:TG):Prop:=
 ∀ (pins:List (Addr×Obj)) (s:Shared) (σ:St) (H:Hp) (v:V) (u:Value) (Q:St→Hp→Prop),Inv X pins σ H s→RelV v u→t v σ H Q →
   wpAny (model X.prog X.w) X.A (assign target X.env u) (fun _ s'=>∃ σ' H',Inv X pins σ' H' s'∧Q σ' H') X.xe s
@[irreducible] def ZG (X:Cx) (target:Expr) (t:TG):Prop:=PG X target t
def PGs (X:Cx) (ts:List Expr) (t:TGs):Prop:=
 ∀ (pins:List (Addr×Obj)) (s:Shared) (σ:St) (H:Hp) (vs:List V) (us:List Value) (Q:St→Hp→Prop),Inv X pins σ H s→Vals vs us→t vs σ H Q →
   wpAny (model X.prog X.w) X.A (assignInOrder ((assignEach ts X.env).map (·.2)) us) (fun _ s'=>∃ σ' H',Inv X pins σ' H' s'∧Q σ' H') X.xe s
@[irreducible] def ZGs (X:Cx) (ts:List Expr) (t:TGs):Prop:=PGs X ts t
abbrev TSet:=V→V→V→Hp→(Hp→Prop)→Prop
def PSet (X:Cx) (t:TSet):Prop:=
 ∀ (pins:List (Addr×Obj)) (s:Shared) (σ:St) (H:Hp) (o i v:V) (ov iv u:Value) (Q:Hp→Prop),Inv X pins σ H s→RelV o ov→RelV i iv→RelV v u→t o i v H Q →
   wpAny (model X.prog X.w) X.A (setItem ov iv u) (fun _ s'=>∃ H',Inv X pins σ H' s'∧Q H') X.xe s
abbrev TIp:=V→V→Hp→VK→Prop
def PIp (X:Cx) (op:Operator) (t:TIp):Prop:=
 ∀ (pins:List (Addr×Obj)) (s:Shared) (σ:St) (H:Hp) (x y:V) (v u:Value) (Q:VK),Inv X pins σ H s→RelV x v→RelV y u→t x y H Q →
   wpAny (model X.prog X.w) X.A (inplaceOp op v u) (EP X pins σ Q) X.xe s
section
variable {X:Cx} {pos:Pos}
def gName (i:Nat):TG:=fun v σ H Q=>Q (σ.set i (some v)) H
theorem pg_name {i:Nat} {x:Str} (hN:X.N.Nodup) (hi:X.N[i]? = some x) (hx:Loc X.env.scope x) (hf:X.fn x=true∨X.env.scope.names.lookup x=some .local:=by first | exact .inl rfl | exact .inr rfl | assumption):PG X (.Name x pos) (gName i):=by
 intro pins s σ H v u Q I r h
 exact wpAny_assign_Name (store_ok I hN hi hx r (fun s' I'=>⟨_,H,I',h⟩) hf)
theorem zg_name {i:Nat} {x:Str} (hN:X.N.Nodup) (hi:X.N[i]? = some x) (hx:Loc X.env.scope x) (hf:X.fn x=true∨X.env.scope.names.lookup x=some .local:=by first | exact .inl rfl | exact .inr rfl | assumption):ZG X (.Name x pos) (gName i):=by with_unfolding_all exact pg_name hN hi hx hf
def gNil:TGs:=fun vs σ H Q=>vs=[]∧Q σ H
def gCons (t:TG) (u:TGs):TGs:=fun vs σ H Q=>∃ v r,vs=v::r∧t v σ H fun σ' H'=>u r σ' H' Q
theorem pgs_nil:PGs X [] gNil:=by
 intro pins s σ H vs us Q I r h
 obtain ⟨e,h⟩:=h
 subst e
 cases r
 exact assignInOrder_nil ⟨σ,H,I,h⟩
theorem zgs_nil:ZGs X [] gNil:=by with_unfolding_all exact pgs_nil
theorem pgs_cons {e:Expr} {es:List Expr} {t:TG} {u:TGs} (h1:PG X e t) (h2:PGs X es u)
 (hs:(assignEach (e::es) X.env).map (·.2)=assign e X.env::(assignEach es X.env).map (·.2):=by rfl):PGs X (e::es) (gCons t u):=by
 intro pins s σ H vs us Q I r h
 obtain ⟨v,vr,e1,h⟩:=h
 subst e1
 cases r with
 | cons r rr=>
   rw [hs]
   refine assignInOrder_cons (thn (h1 pins s σ H _ _ _ I r h) fun _ s1 ⟨σ1,H1,I1,q1⟩=>?_)
   exact h2 pins s1 σ1 H1 _ _ Q I1 rr q1
theorem zgs_cons {e:Expr} {es:List Expr} {t:TG} {u:TGs} (h1:ZG X e t) (h2:ZGs X es u)
 (hs:(assignEach (e::es) X.env).map (·.2)=assign e X.env::(assignEach es X.env).map (·.2):=by rfl):ZGs X (e::es) (gCons t u):=by with_unfolding_all exact pgs_cons h1 h2 hs
def gTup (K:PySem.W.Frag) (n:Nat) (t:TGs):TG:=fun v σ H Q=>∃ a xs,v=.ref a∧SqT K H a xs∧xs.length=n∧t xs σ H Q
theorem pg_tup {es:List Expr} {k:Nat} {t:TGs} {n:Nat} (hc:X.calm=true) (h:PGs X es t)
 (hn:(assignEach es X.env).length=n:=by rfl) (hst:(assignEach es X.env).findIdx? (·.1)=none:=by rfl):PG X (.Tuple es k pos) (gTup X.K n t):=by
 intro pins s σ H v u Q I r hw
 obtain ⟨a,xs,e1,hq,hl,hw⟩:=hw
 subst e1
 cases r
 obtain ⟨its,rv,ht,hz⟩:=I.tuple hq
 refine assign_Tuple_tuple (I.ok.hd hc) ht (by simp [hn,← hl,rv.length]) hst fun h' hx=>?_
 have I1:Inv X pins σ H { s with heap:=h' }:=I.kept (t':=s.toks) fun b o e=>hx b o (Nat.ne_of_lt (Heap.lt_size e)) e
 exact h pins _ σ H xs _ Q I1 (by simpa using rv) hw
theorem zg_tup {es:List Expr} {k:Nat} {t:TGs} {n:Nat} (hc:X.calm=true) (h:ZGs X es t)
 (hn:(assignEach es X.env).length=n:=by rfl) (hst:(assignEach es X.env).findIdx? (·.1)=none:=by rfl):ZG X (.Tuple es k pos) (gTup X.K n t):=by with_unfolding_all exact pg_tup hc h hn hst
def gSub (to ti:TE) (t:TSet):TG:=fun v σ H Q=>to σ H fun o H1=>ti σ H1 fun i H2=>t o i v H2 fun H3=>Q σ H3
theorem pg_sub {o i:Expr} {to ti:TE} {t:TSet} (ho:PE X o to) (hi:PE X i ti) (hs:PSet X t)
 (ha:∀ v,assign (.Subscript o i pos) X.env v=(do
   let ov ← holding [v] (eval o X.env)
   let iv ← holding [v,ov] (eval i X.env)
   standAt pos
   holding [v,ov,iv] (setItem ov iv v)
   release [v,ov,iv] []):=by intro _;rfl):PG X (.Subscript o i pos) (gSub to ti t):=by
 intro pins s σ H v u Q I r h
 rw [ha]
 refine wpAny_bind (wpAny_holding (thn (ho pins s σ H _ I h) fun ov s1 ⟨x,H1,I1,r1,q1⟩=>?_))
 refine wpAny_bind (wpAny_holding (thn (hi pins s1 σ H1 _ I1 q1) fun iv s2 ⟨y,H2,I2,r2,q2⟩=>?_))
 refine wpAny_bind (wpAny_standAt (wpAny_bind (wpAny_holding (thn (hs pins s2 σ H2 x y v ov iv u _ I2 r1 r2 r q2) fun _ s3 ⟨H3,I3,q3⟩=>?_))))
 exact wpAny_release ⟨σ,H3,I3,q3⟩
theorem zg_sub {o i:Expr} {to ti:TE} {t:TSet} (ho:ZE X o to) (hi:ZE X i ti) (hs:PSet X t)
 (ha:∀ v,assign (.Subscript o i pos) X.env v=(do
   let ov ← holding [v] (eval o X.env)
   let iv ← holding [v,ov] (eval i X.env)
   standAt pos
   holding [v,ov,iv] (setItem ov iv v)
   release [v,ov,iv] []):=by intro _;rfl):ZG X (.Subscript o i pos) (gSub to ti t):=by with_unfolding_all exact pg_sub ho hi hs ha
def tAsg (te:TE) (g:TG):TS:=fun D σ H=>te σ H fun x H1=>g x σ H1 D.nx
theorem ps_asg {tg e:Expr} {te:TE} {g:TG} (he:PE X e te) (hg:PG X tg g) (hs:swapsWithSole [tg] e pos.line X.env=pure false:=by rfl) (hw:swappedStores [tg] e X.env=pure none:=by rfl)
 (h1:(assignEach [tg] X.env).map (·.2)=[assign tg X.env]:=by rfl):PS X (.Assign [tg] e pos) (tAsg te g):=by
 intro pins s σ H D I h
 refine wpAny_Assign_stores (thn (he pins s σ H _ I h) fun v s1 ⟨x,H1,I1,r1,q1⟩=>?_) hs hw
 rw [h1]
 exact thn (hg pins s1 σ H1 x v _ I1 r1 q1) fun _ s2 q=>q
theorem zs_asg {tg e:Expr} {te:TE} {g:TG} (he:ZE X e te) (hg:ZG X tg g) (hs:swapsWithSole [tg] e pos.line X.env=pure false:=by rfl) (hw:swappedStores [tg] e X.env=pure none:=by rfl)
 (h1:(assignEach [tg] X.env).map (·.2)=[assign tg X.env]:=by rfl):ZS X (.Assign [tg] e pos) (tAsg te g):=by with_unfolding_all exact ps_asg he hg hs hw h1
theorem ps_set {i:Nat} {x:Str} {e:Expr} {te:TE} {pos':Pos} (hN:X.N.Nodup) (hi:X.N[i]? = some x) (hx:Loc X.env.scope x) (he:PE X e te) (hs:swapsWith e (some (.Name x pos')) pos.line X.env=pure false:=by rfl) (hf:X.fn x=true∨X.env.scope.names.lookup x=some .local:=by first | exact .inl rfl | exact .inr rfl | assumption) :
 PS X (.Assign [.Name x pos'] e pos) (tAsg te (gName i)):=by
 intro pins s σ H D I h
 refine wpAny_Assign_Name (thn (he pins s σ H _ I h) fun v s1 ⟨y,H1,I1,r1,q1⟩=>?_) hs
 exact store_ok I1 hN hi hx r1 (fun s2 I2=>⟨_,H1,I2,q1⟩) hf
theorem zs_set {i:Nat} {x:Str} {e:Expr} {te:TE} {pos':Pos} (hN:X.N.Nodup) (hi:X.N[i]? = some x) (hx:Loc X.env.scope x) (he:ZE X e te) (hs:swapsWith e (some (.Name x pos')) pos.line X.env=pure false:=by rfl) (hf:X.fn x=true∨X.env.scope.names.lookup x=some .local:=by first | exact .inl rfl | exact .inr rfl | assumption) :
 ZS X (.Assign [.Name x pos'] e pos) (tAsg te (gName i)):=by with_unfolding_all exact ps_set hN hi hx he hs hf
def tPar (i j:Nat) (ta:TA):TS:=fun D σ H=>ta σ H fun vs H1=>∃ v w,vs=[v,w]∧D.nx ((σ.set i (some v)).set j (some w)) H1
theorem ps_par {i j:Nat} {x y:Str} {a b:Expr} {ta:TA} {px py pt:Pos} {kt k2 pt2} (hc:X.calm=true) (hN:X.N.Nodup) (hi:X.N[i]? = some x) (hj:X.N[j]? = some y) (hij:i≠j)
 (hx:X.env.scope.names.lookup x=some .local) (hy:X.env.scope.names.lookup y=some .local) (ha:PA X [a,b] ta)
 (hw:swappedStores [.Tuple [.Name x px,.Name y py] kt pt] (.Tuple [a,b] k2 pt2) X.env=pure (some [x,y]))
 (hs:swapsWithSole [.Tuple [.Name x px,.Name y py] kt pt] (.Tuple [a,b] k2 pt2) pos.line X.env=pure false:=by rfl) :
 PS X (.Assign [.Tuple [.Name x px,.Name y py] kt pt] (.Tuple [a,b] k2 pt2) pos) (tPar i j ta):=by
 intro pins s σ H D I h
 rw [exec_Assign_arm]
 refine wpAny_bind (wpAny_standAt ?_)
 rw [hs]
 refine wpAny_bind (wpAny_pure ?_)
 rw [if_neg (by decide)]
 refine wpAny_bind (Tuple_ (thn (ha _ pins s σ H _ I h) fun us s1 ⟨vs,H1,I1,r1,q1⟩=>?_))
 obtain ⟨v,w,e1,q1⟩:=q1
 subst e1
 obtain ⟨u1,u2,rfl,rv,rw'⟩:∃ u1 u2,us=[u1,u2]∧RelV v u1∧RelV w u2:=by
  cases r1 with
  | cons p q=>
    cases q with
    | cons p' q'=>
      cases q'
      exact ⟨_,_,rfl,p,p'⟩
 refine wpAny_newObj_type ?_ (by show 2≤sizeLine;decide)
 have I2:Inv X pins σ H1 { s1 with heap:=s1.heap.push { cls:=.type "tuple",data:=.seq [u1,u2].toArray } }:=I1.kept (t':=s1.toks) fun b o e=>Heap.get?_push_of_some _ e
 rw [hw]
 refine wpAny_bind (wpAny_pure ?_)
 show wpAny (model X.prog X.w) X.A (do rule "assign.swapped-stores";let items ← unpackItems (.ref s1.heap.objs.size) 2 none;assignInOrder [fun v=>bindName X.env y v,fun v=>bindName X.env x v] items.reverse;pure Flow.next) _ _ _
 refine wpAny_bind (wpAny_rule (wpAny_bind (unpackItems_tuple (items:=#[u1,u2]) (I.ok.hd hc) (IsTup.new s1.heap _) fun h' hx'=>?_)))
 have I3:=I2.kept (h':=h') (t':=s1.toks) fun b o e=>hx' b o (Nat.ne_of_lt (Heap.lt_size e)) e
 show wpAny _ _ (assignInOrder [fun v=>bindName X.env y v,fun v=>bindName X.env x v] [u2,u1] >>= fun _=>pure Flow.next) _ _ _
 refine wpAny_bind (assignInOrder_cons (wpAny_bindName (store_ok I3 hN hj (.inl hy) rw' (fun s2 I4=>?_) (.inr hy))))
 refine assignInOrder_cons (wpAny_bindName (store_ok I4 hN hi (.inl hx) rv (fun s3 I5=>assignInOrder_nil (wpAny_pure ?_)) (.inr hx)))
 rw [List.set_comm _ _ (Ne.symm hij)] at I5
 exact ⟨_,H1,I5,q1⟩
theorem zs_par {i j:Nat} {x y:Str} {a b:Expr} {ta:TA} {px py pt:Pos} {kt k2 pt2} (hc:X.calm=true) (hN:X.N.Nodup) (hi:X.N[i]? = some x) (hj:X.N[j]? = some y) (hij:i≠j)
 (hx:X.env.scope.names.lookup x=some .local) (hy:X.env.scope.names.lookup y=some .local) (ha:ZA X [a,b] ta)
 (hw:swappedStores [.Tuple [.Name x px,.Name y py] kt pt] (.Tuple [a,b] k2 pt2) X.env=pure (some [x,y]))
 (hs:swapsWithSole [.Tuple [.Name x px,.Name y py] kt pt] (.Tuple [a,b] k2 pt2) pos.line X.env=pure false:=by rfl) :
 ZS X (.Assign [.Tuple [.Name x px,.Name y py] kt pt] (.Tuple [a,b] k2 pt2) pos) (tPar i j ta):=by with_unfolding_all exact ps_par hc hN hi hj hij hx hy ha hw hs
def tAug (i:Nat) (te:TE) (ti:TIp):TS:=fun D σ H=>∃ x,σ[i]? = some (some x)∧te σ H fun y H1=>ti x y H1 fun z H2=>D.nx (σ.set i (some z)) H2
theorem ps_aug {i:Nat} {x:Str} {e:Expr} {te:TE} {op:Operator} {ti:TIp} {pos':Pos} (hN:X.N.Nodup) (hi:X.N[i]? = some x) (hx:Loc X.env.scope x) (he:PE X e te) (ho:PIp X op ti) (hf:X.fn x=true∨X.env.scope.names.lookup x=some .local:=by first | exact .inl rfl | exact .inr rfl | assumption) :
 PS X (.AugAssign (.Name x pos') op e pos) (tAug i te ti):=by
 intro pins s σ H D I h
 obtain ⟨v,e1,h⟩:=h
 obtain ⟨m,hn,hl⟩:=I.loc
 have vis:Vis X.env.scope x:=by rcases hx with k | k;exact .inl k;exact .inr (.inl k)
 obtain ⟨u,r,l⟩:=hl i x v hi e1 vis
 refine wpAny_AugAssign_Name ?_
 have go:wpAny (model X.prog X.w) X.A (eval e X.env) (fun w s₂=>wpAny (model X.prog X.w) X.A (inplaceOp op u w) (fun r s₃=>wpAny (model X.prog X.w) X.A (storeName X.env x r) (fun _=>SP X pins D .next) X.xe s₃) X.xe s₂) X.xe s:=by
  refine thn (he pins s σ H _ I h) fun w s1 ⟨y,H1,I1,r1,q1⟩=>?_
  refine thn (ho pins s1 σ H1 v y u w _ I1 r r1 q1) fun z s2 ⟨zv,H2,I2,r2,q2⟩=>?_
  exact store_ok I2 hN hi hx r2 (fun s3 I3=>⟨_,H2,I3,q2⟩) hf
 rcases l with ⟨hk,hm⟩ | ⟨hk,c,hc,hcell⟩
 · exact wpAny_loadName_local I.ok.kind hk hn hm go
 · rcases hk with hk | hk
   · exact wpAny_loadName_cell I.ok.kind hk hc hcell go
   · rcases hx with k | k
     · have:X.env.scope.names.lookup x=some .free:=hk
       rw [k] at this;cases this
     · have:X.env.scope.names.lookup x=some .free:=hk
       rw [k] at this;cases this
theorem zs_aug {i:Nat} {x:Str} {e:Expr} {te:TE} {op:Operator} {ti:TIp} {pos':Pos} (hN:X.N.Nodup) (hi:X.N[i]? = some x) (hx:Loc X.env.scope x) (he:ZE X e te) (ho:PIp X op ti) (hf:X.fn x=true∨X.env.scope.names.lookup x=some .local:=by first | exact .inl rfl | exact .inr rfl | assumption) :
 ZS X (.AugAssign (.Name x pos') op e pos) (tAug i te ti):=by with_unfolding_all exact ps_aug hN hi hx he ho hf
def tAugS (to ti te:TE) (tget:V→V→Hp→VK→Prop) (tip:TIp) (tset:TSet):TS:=fun D σ H=>to σ H fun o H1=>ti σ H1 fun i H2=>tget o i H2 fun x H3=>te σ H3 fun y H4=>tip x y H4 fun z H5=>tset o i z H5 fun H6=>D.nx σ H6
def PGet (X:Cx) (t:V→V→Hp→VK→Prop):Prop:=
 ∀ (pins:List (Addr×Obj)) (s:Shared) (σ:St) (H:Hp) (o i:V) (ov iv:Value) (Q:VK),Inv X pins σ H s→RelV o ov→RelV i iv→t o i H Q →
   wpAny (model X.prog X.w) X.A (getItem ov iv) (EP X pins σ Q) X.xe s
theorem ps_augS {o i e:Expr} {to ti te:TE} {tget:V→V→Hp→VK→Prop} {tip:TIp} {tset:TSet} {op:Operator} {tpos:Pos} (ho:PE X o to) (hi:PE X i ti) (hg:PGet X tget) (he:PE X e te) (hp:PIp X op tip) (hs:PSet X tset)
 (ha:∀ ov iv new,augStore i ov iv new=(do holding [new,ov,iv] (setItem ov iv new);release [new,ov,iv] [];pure .next):=by intros;rfl):PS X (.AugAssign (.Subscript o i tpos) op e pos) (tAugS to ti te tget tip tset):=by
 intro pins s σ H D I h
 refine wpAny_AugAssign_SubscriptAny (thn (ho pins s σ H _ I h) fun ov s1 ⟨x1,H1,I1,r1,q1⟩=>?_) ha
 refine thn (hi pins s1 σ H1 _ I1 q1) fun iv s2 ⟨x2,H2,I2,r2,q2⟩=>?_
 refine thn (hg pins s2 σ H2 x1 x2 ov iv _ I2 r1 r2 q2) fun old s3 ⟨x3,H3,I3,r3,q3⟩=>?_
 refine thn (he pins s3 σ H3 _ I3 q3) fun v s4 ⟨x4,H4,I4,r4,q4⟩=>?_
 refine thn (hp pins s4 σ H4 x3 x4 old v _ I4 r3 r4 q4) fun new s5 ⟨x5,H5,I5,r5,q5⟩=>?_
 exact thn (hs pins s5 σ H5 x1 x2 x5 ov iv new _ I5 r1 r2 r5 q5) fun _ s6 ⟨H6,I6,q6⟩=>⟨σ,H6,I6,q6⟩
theorem zs_augS {o i e:Expr} {to ti te:TE} {tget:V→V→Hp→VK→Prop} {tip:TIp} {tset:TSet} {op:Operator} {tpos:Pos} (ho:ZE X o to) (hi:ZE X i ti) (hg:PGet X tget) (he:ZE X e te) (hp:PIp X op tip) (hs:PSet X tset)
 (ha:∀ ov iv new,augStore i ov iv new=(do holding [new,ov,iv] (setItem ov iv new);release [new,ov,iv] [];pure .next):=by intros;rfl):ZS X (.AugAssign (.Subscript o i tpos) op e pos) (tAugS to ti te tget tip tset):=by with_unfolding_all exact ps_augS ho hi hg he hp hs ha
def ipI (f:Int→Int→Int):TIp:=fun x y H Q=>∃ i j,x=.int i∧y=.int j∧Q (.int (f i j)) H
theorem ip_add:PIp X .Add (ipI fun i j=>i+j):=by
 intro pins s σ H x y v u Q I r1 r2 h
 obtain ⟨i,j,e1,e2,q⟩:=h
 subst e1;subst e2
 obtain ⟨t,rfl⟩:=r1
 obtain ⟨t',rfl⟩:=r2
 exact iadd_int ⟨.int _,H,I.tok _,⟨_,rfl⟩,q⟩
theorem ip_sub:PIp X .Sub (ipI fun i j=>i - j):=by
 intro pins s σ H x y v u Q I r1 r2 h
 obtain ⟨i,j,e1,e2,q⟩:=h
 subst e1;subst e2
 obtain ⟨t,rfl⟩:=r1
 obtain ⟨t',rfl⟩:=r2
 exact isub_int ⟨.int _,H,I.tok _,⟨_,rfl⟩,q⟩
end
section
variable {X:Cx} {pos:Pos}
def tWhile (c:TT) (tb:TS):TS:=fun D σ H=>∃ W:Nat→St→Hp→Prop,(∃ m,W m σ H)∧∀ m σ H,W m σ H →
 c σ H fun b H1=>if b=true then ∃ N:St→Hp→Prop,(∀ σ' H',N σ' H'→∃ m',m' < m∧W m' σ' H')∧tb { D with nx:=N,ct:=N,bk:=D.nx } σ H1 else D.nx σ H1
theorem ps_while {c:Expr} {body:List Stmt} {tc:TT} {tb:TS} (hp:PassesOwn (model X.prog X.w) X.A X.env X.xe) (hc:PT X c tc) (hb:PSs X body tb):PS X (.While c body [] pos) (tWhile tc tb):=by
 intro pins s σ H D I h
 obtain ⟨W,⟨m0,w0⟩,turn⟩:=h
 refine wpAny_While (codeAny_whileLoop (fun n s'=>∃ σ' H',Inv X pins σ' H' s'∧W n σ' H') ?_ m0 ⟨σ,H,I,w0⟩)
 rintro n s1 ⟨σ1,H1,I1,w1⟩
 refine wpAny_passesOwn hp (thn (hc pins s1 σ1 H1 _ I1 (turn n σ1 H1 w1)) fun b s2 ⟨H2,I2,q2⟩=>?_)
 cases b with
 | true=>
   obtain ⟨N,hN,q2⟩:=q2
   rw [if_pos rfl]
   refine wpAny_passesOwn hp (thn (hb pins s2 σ1 H2 _ I2 q2) fun f s3 q3=>?_)
   cases f with
   | next=>
     obtain ⟨σ3,H3,I3,n3⟩:=q3
     obtain ⟨m',hm,w3⟩:=hN σ3 H3 n3
     exact ⟨m',hm,σ3,H3,I3,w3⟩
   | cont=>
     obtain ⟨σ3,H3,I3,n3⟩:=q3
     obtain ⟨m',hm,w3⟩:=hN σ3 H3 n3
     exact ⟨m',hm,σ3,H3,I3,w3⟩
   | brk=>exact q3
   | ret v=>exact q3
 | false=>
   rw [if_neg Bool.false_ne_true]
   exact wpAny_execs_nil ⟨σ1,H2,I2,q2⟩
theorem zs_while {c:Expr} {body:List Stmt} {tc:TT} {tb:TS} (hp:PassesOwn (model X.prog X.w) X.A X.env X.xe) (hc:ZT X c tc) (hb:ZSs X body tb):ZS X (.While c body [] pos) (tWhile tc tb):=by with_unfolding_all exact ps_while hp hc hb
end
structure It where
 go:Nat→Hp→Prop
 yld:Nat→Hp→V→Hp→Prop
 stop:Nat→Hp→Prop
def FpOk (X:Cx) (pins:List (Addr×Obj)) (H:Hp) (b:Addr):Prop:=
 H b=none∧b≠X.env.locals∧b∉X.fs∧(b∈X.ex∨X.s₀.heap.objs.size≤b)∧(∀ x c,X.env.cells.lookup x=some c→c≠b)∧∀ p∈X.pn++pins,p.1≠b
theorem Inv.fpOk {X:Cx} {pins:List (Addr×Obj)} {σ:St} {H H':Hp} {s:Shared} {b:Addr} (I:Inv X pins σ H s) (hb:s.heap.objs.size≤b) (hn:H' b=none):FpOk X pins H' b:=by
 refine ⟨hn,Nat.ne_of_gt (Nat.lt_of_lt_of_le I.lt hb),I.nofs hb,.inr (Nat.le_trans I.sz hb),fun x c e z=>?_,fun p hp z=>?_⟩
 · obtain ⟨v,q⟩:=I.cell x c e
   exact absurd (Nat.lt_of_lt_of_le q.lt (by rw [z];exact hb)) (Nat.lt_irrefl _)
 · exact absurd (Nat.lt_of_lt_of_le (Heap.lt_size (I.pin p hp).1) (by rw [z];exact hb)) (Nat.lt_irrefl _)
structure Turn (P:Program) (w:World) (K:PySem.W.Frag) (tg:Expr) (J:It) (fp:List Addr) (it:Addr) (tn:Nat→Heap→Prop):Prop where
 mem:it∈fp
 obj:∀ i h,tn i h→∀ b∈fp,∃ o,h.get? b=some o∧∀ v,o.data≠.cell v
 keep:∀ i h h',tn i h→(∀ b∈fp,∀ o,h.get? b=some o→h'.get? b=some o)→tn i h'
 item:∀ (X:Cx),X.prog=P→X.w=w→X.K=K→X.calm=true→∀ (i:Nat) (pins:List (Addr×Obj)) (s:Shared) (σ:St) (H:Hp) (E:Value→Shared→Prop),Inv X pins σ H s→(∀ b∈fp,FpOk X pins H b)→tn i s.heap→J.go i H →
  wpAny (model P w) X.A (pyNext (.ref it)) (fun r s1=>∃ u,r=some u ∧
   wpAny (model P w) X.A (letOwnedTupleGo tg (.ref it) u) (fun _ s2=>∃ x H',Inv X pins σ H' s2∧RelV x u∧J.yld i H x H'∧tn (i+1) s2.heap∧∀ b∈fp,H' b=none) E s1) E s
 done:∀ (X:Cx),X.prog=P→X.w=w→X.K=K→X.calm=true→∀ (i:Nat) (pins:List (Addr×Obj)) (s:Shared) (σ:St) (H:Hp) (E:Value→Shared→Prop),Inv X pins σ H s→(∀ b∈fp,FpOk X pins H b)→tn i s.heap→J.stop i H →
  wpAny (model P w) X.A (pyNext (.ref it)) (fun r s1=>r=none∧Inv X pins σ H s1) E s
 self:∀ (A:Around) (i:Nat) (s:Shared) (Q:Value→Shared→Prop) (E:Value→Shared→Prop),tn i s.heap→Q (.ref it) s→wpAny (model P w) A (pyIter (.ref it)) Q E s
abbrev TI:=St→Hp→(It→Hp→Prop)→Prop
def PIE (X:Cx) (pins:List (Addr×Obj)) (σ:St) (tg:Expr) (R:It→Hp→Prop) (itv:Value) (s2:Shared):Prop:=
 ∃ (it:Addr) (fp:List Addr) (tn:Nat→Heap→Prop) (J:It) (H':Hp),itv=.ref it∧Inv X pins σ H' s2∧Turn X.prog X.w X.K tg J fp it tn∧tn 0 s2.heap∧(∀ b∈fp,FpOk X pins H' b)∧R J H'
def PI (X:Cx) (tg iter:Expr) (wi:TI):Prop:=
 ∀ (pins:List (Addr×Obj)) (s:Shared) (σ:St) (H:Hp) (R:It→Hp→Prop),Inv X pins σ H s→wi σ H R →
   wpAny (model X.prog X.w) X.A (eval iter X.env) (fun v s1=>wpAny (model X.prog X.w) X.A (pyIter v) (PIE X pins σ tg R) X.xe s1) X.xe s
@[irreducible] def ZI (X:Cx) (tg iter:Expr) (wi:TI):Prop:=PI X tg iter wi
theorem go_of {M:Model} {A:Around} {E:Value→Shared→Prop} {s:Shared} {tg:Expr} {it:Addr} {u:Value} {o:Obj} {n:String} {vs:Array Value} {Q:Unit→Shared→Prop} (ho:s.heap.get? it=some o) (hc:o.cls=.type n) (hd:o.data=.fields vs)
 (hn:["enumerate","zip","dict_itemiterator","dict_reverseitemiterator","odict_iterator","itertools.zip_longest","itertools.pairwise"].contains n=false) (hQ:Q () s):wpAny M A (letOwnedTupleGo tg (.ref it) u) Q E s:=by
 unfold letOwnedTupleGo
 cases tg <;> first
  | exact wpAny_pure hQ
  | (cases u <;> first
      | exact wpAny_pure hQ
      | (refine wpAny_bind (wpAny_load ho ?_)
         rw [hc,hd]
         show wpAny M A (if (["enumerate","zip","dict_itemiterator","dict_reverseitemiterator","odict_iterator","itertools.zip_longest","itertools.pairwise"].contains n&&vs[0]? == some (rawInt _))=true then _ else _) Q E s
         rw [if_neg (by intro h;rw [hn,Bool.false_and] at h;cases h)]
         exact wpAny_pure hQ))
def Itl (K:PySem.W.Frag) (a:Addr):It:=
 ⟨fun i H=>∃ xs x,SqL K H a xs∧xs[i]? = some x,fun i H x H'=>H'=H∧∀ xs,SqL K H a xs→xs[i]? = some x,fun i H=>∃ xs,SqL K H a xs∧xs.length≤i⟩
def Itt (K:PySem.W.Frag) (a:Addr):It:=
 ⟨fun i H=>∃ xs x,SqT K H a xs∧xs[i]? = some x,fun i H x H'=>H'=H∧∀ xs,SqT K H a xs→xs[i]? = some x,fun i H=>∃ xs,SqT K H a xs∧xs.length≤i⟩
def Itr (lo:Int) (n:Nat):It:=⟨fun i _=>i<n,fun i H x H'=>H'=H∧x=.int (lo+i),fun i _=>n≤i⟩
theorem turn_list {P:Program} {w:World} {K:PySem.W.Frag} {tg:Expr} (a it:Addr):Turn P w K tg (Itl K a) [it] it (fun i h=>h.IsListIter it a i) where
 mem:=by simp
 obj:=fun i h st b hb=>by
  have e:b=it:=by simpa using hb
  subst e
  obtain ⟨o,e,c,d⟩:=st
  exact ⟨o,e,fun v z=>by rw [d] at z;cases z⟩
 keep:=fun i h h' st k=>st.at fun o e=>k it (by simp) o e
 item:=by
  intro X hP hw hK hc i pins s σ H E I hf st hg
  subst hP hw hK
  obtain ⟨xs,x,hq,hx⟩:=hg
  obtain ⟨its,rv,p,hz⟩:=I.list hq
  obtain ⟨u,hu,ru⟩:=rv.get hx
  obtain ⟨f0,f1,f2,f3,f4,f5⟩:=hf it (by simp)
  refine wpAny_pyNext_list_item st p.isList (x:=u) (by simpa using hu) fun h' st' sb=>?_
  have I1:Inv X pins σ H { s with heap:=h' }:=I.turned (t':=s.toks) (fun b o hb e=>(sb.2 b hb).trans e) f0 f1 f3 f4 f5
  obtain ⟨o,e,c,d⟩:=id st'
  exact ⟨u,rfl,go_of (s:={ s with heap:=h' }) e c d (by decide) ⟨x,H,I1,ru,⟨rfl,fun ys hy=>by rw [I.list_inj hy hq];exact hx⟩,st',fun b hb=>(hf b hb).1⟩⟩
 done:=by
  intro X hP hw hK hc i pins s σ H E I hf st hg
  subst hP hw hK
  obtain ⟨xs,hq,hx⟩:=hg
  obtain ⟨its,rv,p,hz⟩:=I.list hq
  obtain ⟨f0,f1,f2,f3,f4,f5⟩:=hf it (by simp)
  have hl:=rv.length
  exact wpAny_pyNext_list_end (I.ok.hd hc) st p.isList (by simp;omega) fun h' eb=>⟨rfl,I.turned (t':=s.toks) (fun b o hb e=>eb b o hb e) f0 f1 f3 f4 f5⟩
 self:=fun _ _ _ _ _ st h=>wpAny_pyIter_listiter st h
theorem turn_tuple {P:Program} {w:World} {K:PySem.W.Frag} {tg:Expr} (a it:Addr):Turn P w K tg (Itt K a) [it] it (fun i h=>h.IsTupleIter it a i) where
 mem:=by simp
 obj:=fun i h st b hb=>by
  have e:b=it:=by simpa using hb
  subst e
  obtain ⟨o,e,c,d⟩:=st
  exact ⟨o,e,fun v z=>by rw [d] at z;cases z⟩
 keep:=fun i h h' st k=>st.at fun o e=>k it (by simp) o e
 item:=by
  intro X hP hw hK hc i pins s σ H E I hf st hg
  subst hP hw hK
  obtain ⟨xs,x,hq,hx⟩:=hg
  obtain ⟨its,rv,p,hz⟩:=I.tuple hq
  obtain ⟨u,hu,ru⟩:=rv.get hx
  obtain ⟨f0,f1,f2,f3,f4,f5⟩:=hf it (by simp)
  refine wpAny_pyNext_tuple_item st (show s.heap.IsTuple a its.toArray from p) (x:=u) (by simpa using hu) fun h' st' sb=>?_
  have I1:Inv X pins σ H { s with heap:=h' }:=I.turned (t':=s.toks) (fun b o hb e=>(sb.2 b hb).trans e) f0 f1 f3 f4 f5
  obtain ⟨o,e,c,d⟩:=id st'
  exact ⟨u,rfl,go_of (s:={ s with heap:=h' }) e c d (by decide) ⟨x,H,I1,ru,⟨rfl,fun ys hy=>by rw [I.tuple_inj hy hq];exact hx⟩,st',fun b hb=>(hf b hb).1⟩⟩
 done:=by
  intro X hP hw hK hc i pins s σ H E I hf st hg
  subst hP hw hK
  obtain ⟨xs,hq,hx⟩:=hg
  obtain ⟨its,rv,p,hz⟩:=I.tuple hq
  obtain ⟨f0,f1,f2,f3,f4,f5⟩:=hf it (by simp)
  have hl:=rv.length
  exact wpAny_pyNext_tuple_end (I.ok.hd hc) st (show s.heap.IsTuple a its.toArray from p) (by simp;omega) fun h' eb=>⟨rfl,I.turned (t':=s.toks) (fun b o hb e=>eb b o hb e) f0 f1 f3 f4 f5⟩
 self:=fun _ _ _ _ _ st h=>wpAny_pyIter_tupleiter st h
theorem turn_range {P:Program} {w:World} {K:PySem.W.Frag} {tg:Expr} (it:Addr) (lo:Int) (n:Nat):Turn P w K tg (Itr lo n) [it] it (fun i h=>IsRangeIter h it (lo+(i:Nat)*1) ((n:Int) - (i:Nat)) 1) where
 mem:=by simp
 obj:=fun i h st b hb=>by
  have e:b=it:=by simpa using hb
  subst e
  exact ⟨_,st,fun v z=>by
   have z':Data.fields _=Data.cell v:=z
   cases z'⟩
 keep:=fun i h h' st k=>k it (by simp) _ st
 item:=by
  intro X hP hw hK hc i pins s σ H E I hf st hg
  subst hP hw hK
  obtain ⟨f0,f1,f2,f3,f4,f5⟩:=hf it (by simp)
  have W:=Walks.range (prog:=X.prog) (w:=X.w) (I.ok.hd hc) it lo 1 n
  refine W.item i s _ _ hg st fun v h' tk hv st' kk=>?_
  obtain ⟨t,rfl⟩:=hv
  have I1:Inv X pins σ H { s with heap:=h',toks:=tk }:=I.turned (fun b o hb e=>kk b o (by simpa using hb) e) f0 f1 f3 f4 f5
  refine ⟨_,rfl,go_of (s:={ s with heap:=h',toks:=tk }) (n:="range_iterator") st' rfl rfl (by decide) ⟨.int (lo+i),H,I1,⟨t,?_⟩,⟨rfl,rfl⟩,st',fun b hb=>(hf b hb).1⟩⟩
  rw [Int.mul_one]
 done:=by
  intro X hP hw hK hc i pins s σ H E I hf st hg
  subst hP hw hK
  obtain ⟨f0,f1,f2,f3,f4,f5⟩:=hf it (by simp)
  exact wpAny_pyNext_range_end (I.ok.hd hc) st (by have:n≤i:=hg;omega) fun h' eb=>⟨rfl,I.turned (t':=s.toks) (fun b o hb e=>eb b o hb e) f0 f1 f3 f4 f5⟩
 self:=fun _ _ _ _ _ st h=>wpAny_pyIter_rangeiter st h
section
variable {X:Cx} {tg:Expr}
def iList (K:PySem.W.Frag) (tl:TE):TI:=fun σ H R=>tl σ H fun x H1=>∃ a,x=.ref a∧(∃ xs,SqL K H1 a xs)∧R (Itl K a) H1
def iTup (K:PySem.W.Frag) (tl:TE):TI:=fun σ H R=>tl σ H fun x H1=>∃ a,x=.ref a∧(∃ xs,SqT K H1 a xs)∧R (Itt K a) H1
theorem pi_list {l:Expr} {tl:TE} (hl:PE X l tl):PI X tg l (iList X.K tl):=by
 intro pins s σ H R I h
 refine thn (hl pins s σ H _ I h) fun v s1 ⟨x,H1,I1,r1,q1⟩=>?_
 obtain ⟨a,e,⟨xs,hq⟩,q⟩:=q1
 subst e
 cases r1
 obtain ⟨its,rv,p,hz⟩:=I1.list hq
 refine wpAny_pyIter_list p.isList ?_
 refine ⟨s1.heap.objs.size,[s1.heap.objs.size],_,_,H1,rfl,I1.kept (t':=s1.toks) fun b o e=>Heap.get?_push_of_some _ e,turn_list a _,⟨_,Heap.get?_push_size _ rfl,rfl,rfl⟩,fun b hb=>?_,q⟩
 have e:b=s1.heap.objs.size:=by simpa using hb
 subst e
 exact I1.fpOk (Nat.le_refl _) (I1.hok.fresh (Nat.le_refl _))
theorem zi_list {l:Expr} {tl:TE} (hl:ZE X l tl):ZI X tg l (iList X.K tl):=by with_unfolding_all exact pi_list hl
theorem pi_tup {l:Expr} {tl:TE} (hl:PE X l tl):PI X tg l (iTup X.K tl):=by
 intro pins s σ H R I h
 refine thn (hl pins s σ H _ I h) fun v s1 ⟨x,H1,I1,r1,q1⟩=>?_
 obtain ⟨a,e,⟨xs,hq⟩,q⟩:=q1
 subst e
 cases r1
 obtain ⟨its,rv,p,hz⟩:=I1.tuple hq
 refine wpAny_pyIter_tuple (show s1.heap.IsTuple a its.toArray from p) ?_
 refine ⟨s1.heap.objs.size,[s1.heap.objs.size],_,_,H1,rfl,I1.kept (t':=s1.toks) fun b o e=>Heap.get?_push_of_some _ e,turn_tuple a _,⟨_,Heap.get?_push_size _ rfl,rfl,rfl⟩,fun b hb=>?_,q⟩
 have e:b=s1.heap.objs.size:=by simpa using hb
 subst e
 exact I1.fpOk (Nat.le_refl _) (I1.hok.fresh (Nat.le_refl _))
theorem zi_tup {l:Expr} {tl:TE} (hl:ZE X l tl):ZI X tg l (iTup X.K tl):=by with_unfolding_all exact pi_tup hl
theorem range_it {pins:List (Addr×Obj)} {σ:St} {H:Hp} {s:Shared} {R:It→Hp→Prop} {E:Value→Shared→Prop} {lo hi:Int} {t u v:Tok} {tk:Nat} (I:Inv X pins σ H s) (h1:-(2 ^ 62)≤lo) (h2:lo<2 ^ 62) (h3:-(2 ^ 62)≤hi) (h4:hi<2 ^ 62)
 (q:R (Itr lo (hi - lo).toNat) H):wpAny (model X.prog X.w) X.A (pyIter (.ref s.heap.objs.size)) (PIE X pins σ tg R) E { s with heap:=s.heap.push { cls:=.type "range",data:=.fields #[.int lo t,.int hi u,.int 1 v] },toks:=tk }:=by
 refine wpAny_pyIter_range (IsRange.new ..) (small_one h1 h2 h3 h4) ?_
 have I1:Inv X pins σ H { s with heap:=s.heap.push { cls:=.type "range",data:=.fields #[.int lo t,.int hi u,.int 1 v] },toks:=tk }:=I.kept fun b o e=>Heap.get?_push_of_some _ e
 refine ⟨(s.heap.push { cls:=.type "range",data:=.fields #[.int lo t,.int hi u,.int 1 v] }).objs.size,[(s.heap.push { cls:=.type "range",data:=.fields #[.int lo t,.int hi u,.int 1 v] }).objs.size],_,_,H,rfl,
  I1.kept (t':=tk) fun b o e=>Heap.get?_push_of_some _ e,turn_range _ lo (hi - lo).toNat,?_,fun b hb=>?_,q⟩
 · have e1:lo+((0:Nat):Int)*1=lo:=by simp
   have e2:(((hi - lo).toNat:Nat):Int) - ((0:Nat):Int)=Builtin.Range.rangeSize lo hi 1:=by rw [rangeSize_one];split <;> omega
   show IsRangeIter _ _ (lo+((0:Nat):Int)*1) ((((hi - lo).toNat:Nat):Int) - ((0:Nat):Int)) 1
   rw [e1,e2]
   exact Heap.get?_push_size _ rfl
 · have e:b=(s.heap.push { cls:=.type "range",data:=.fields #[.int lo t,.int hi u,.int 1 v] }).objs.size:=by simpa using hb
   subst e
   exact I1.fpOk (Nat.le_refl _) (I1.hok.fresh (Nat.le_refl _))
def iRng1 (ta:TA):TI:=fun σ H R=>ta σ H fun vs H1=>∃ j:Int,vs=[.int j]∧-(2 ^ 62)≤j∧j<2 ^ 62∧R (Itr 0 j.toNat) H1
def iRng2 (ta:TA):TI:=fun σ H R=>ta σ H fun vs H1=>∃ i j:Int,vs=[.int i,.int j]∧(-(2 ^ 62)≤i∧i<2 ^ 62∧-(2 ^ 62)≤j∧j<2 ^ 62)∧R (Itr i (j - i).toNat) H1
theorem pi_range1 {a:Expr} {ta:TA} {p pos:Pos} (hg:Gl X "range") (hm:X.mg "range" = none) (ha:PA X [a] ta) (hs:starEach [a] X.env=[(false,eval a X.env)]:=by rfl):PI X tg (.Call (.Name "range" p) [a] [] pos) (iRng1 ta):=by
 intro pins s σ H R I h
 refine Call_ (ld_blt I hg hm boot_range (PyProof.Rows.callWith_type1 (thn (ha pos pins s σ H _ I h) fun us s1 ⟨vs,H1,I1,r1,q1⟩=>?_) hs rfl))
 obtain ⟨j,e,q1,q2,q⟩:=q1
 subst e
 cases r1 with
 | cons r rr=>
   cases rr
   obtain ⟨t,rfl⟩:=r
   exact call_range_1 (range_it I1 (by omega) (by omega) q1 q2 (by simpa using q))
theorem zi_range1 {a:Expr} {ta:TA} {p pos:Pos} (hg:Gl X "range") (hm:X.mg "range" = none) (ha:ZA X [a] ta) (hs:starEach [a] X.env=[(false,eval a X.env)]:=by rfl):ZI X tg (.Call (.Name "range" p) [a] [] pos) (iRng1 ta):=by with_unfolding_all exact pi_range1 hg hm ha hs
theorem pi_range2 {a b:Expr} {ta:TA} {p pos:Pos} (hg:Gl X "range") (hm:X.mg "range" = none) (ha:PA X [a,b] ta) (hs:starEach [a,b] X.env=[(false,eval a X.env),(false,eval b X.env)]:=by rfl) (hs2:starEach [b] X.env=[(false,eval b X.env)]:=by rfl) :
 PI X tg (.Call (.Name "range" p) [a,b] [] pos) (iRng2 ta):=by
 intro pins s σ H R I h
 refine Call_ (ld_blt I hg hm boot_range (PyProof.Rows.callWith_type1 (thn (ha pos pins s σ H _ I h) fun us s1 ⟨vs,H1,I1,r1,q1⟩=>?_) (by rw [hs,hs2]) (by rw [hs2];rfl)))
 obtain ⟨i,j,e,⟨q1,q2,q3,q4⟩,q⟩:=q1
 subst e
 cases r1 with
 | cons r rr=>
   cases rr with
   | cons r' rr=>
     cases rr
     obtain ⟨t,rfl⟩:=r
     obtain ⟨t',rfl⟩:=r'
     exact call_range_2 (range_it I1 q1 q2 q3 q4 q)
theorem zi_range2 {a b:Expr} {ta:TA} {p pos:Pos} (hg:Gl X "range") (hm:X.mg "range" = none) (ha:ZA X [a,b] ta) (hs:starEach [a,b] X.env=[(false,eval a X.env),(false,eval b X.env)]:=by rfl) (hs2:starEach [b] X.env=[(false,eval b X.env)]:=by rfl) :
 ZI X tg (.Call (.Name "range" p) [a,b] [] pos) (iRng2 ta):=by with_unfolding_all exact pi_range2 hg hm ha hs hs2
def tFor (wi:TI) (g:TG) (tb:TS):TS:=fun D σ H=>wi σ H fun J H1=>∃ W:Nat→Nat→St→Hp→Prop,(∃ m,W 0 m σ H1)∧∀ i m σ H,W i m σ H →
 (J.stop i H∧D.nx σ H)∨(J.go i H∧∃ N:St→Hp→Prop,(∀ σ' H',N σ' H'→∃ m',m' < m∧W (i+1) m' σ' H')∧∀ x H',J.yld i H x H'→g x σ H' fun σ2 H2=>tb { D with nx:=N,ct:=N,bk:=D.nx } σ2 H2)
def pinsAt (fp:List Addr) (h:Heap):List (Addr×Obj):=fp.filterMap fun b=>(h.get? b).map fun o=>(b,o)
theorem mem_pinsAt {fp:List Addr} {h:Heap} {b:Addr} {o:Obj} (hb:b∈fp) (e:h.get? b=some o):(b,o)∈pinsAt fp h:=List.mem_filterMap.mpr ⟨b,hb,by rw [e];rfl⟩
theorem of_pinsAt {fp:List Addr} {h:Heap} {p:Addr×Obj} (hp:p∈pinsAt fp h):p.1∈fp∧h.get? p.1=some p.2:=by
 obtain ⟨b,hb,e⟩:=List.mem_filterMap.mp hp
 cases q:h.get? b with
 | none=>rw [q] at e;cases e
 | some o=>
   rw [q] at e
   have e':(b,o)=p:=Option.some.inj e
   subst e'
   exact ⟨hb,q⟩
theorem Inv.pinned {pins:List (Addr×Obj)} {σ:St} {H:Hp} {s:Shared} {fp:List Addr} (I:Inv X pins σ H s) (hf:∀ b∈fp,FpOk X pins H b) (ho:∀ b∈fp,∃ o,s.heap.get? b=some o∧∀ v,o.data≠.cell v):Inv X (pins++pinsAt fp s.heap) σ H s:=
 I.pins_of fun p hp=>(List.mem_append.mp hp).elim (fun z=>I.pin p (List.mem_append_right _ z)) fun z=>by
  obtain ⟨hb,e⟩:=of_pinsAt z
  obtain ⟨f0,f1,f2,_⟩:=hf p.1 hb
  obtain ⟨o,e',d⟩:=ho p.1 hb
  rw [e] at e';cases e'
  exact ⟨e,f0,f1,f2,d⟩
theorem Inv.unpinned {pins pl:List (Addr×Obj)} {σ:St} {H:Hp} {s:Shared} (I:Inv X (pins++pl) σ H s):Inv X pins σ H s:=I.pins_of fun p hp=>I.pin p (List.mem_append_right _ (List.mem_append_left _ hp))
theorem ps_for {iter:Expr} {body:List Stmt} {wi:TI} {g:TG} {tb:TS} {pos:Pos} (hp:PassesOwn (model X.prog X.w) X.A X.env X.xe) (hc:X.calm=true) (hi:PI X tg iter wi) (hg:PG X tg g) (hb:PSs X body tb)
 (hs:∀ x,foldedSetIterable iter X.env x=pure x:=by intro _;rfl):PS X (.For tg iter body [] pos) (tFor wi g tb):=by
 intro pins s σ H D I h
 refine wpAny_For (thn (hi pins s σ H _ I h) fun v s1 h1=>thn h1 fun itv s2 h2=>?_) hs
 obtain ⟨it,fp,tn,J,H2,e,I2,T,st2,f2,W,⟨m0,w0⟩,turn⟩:=h2
 subst e
 -- what stays true of the iterator's objects through the loop
 have stat:∀ {H':Hp},(∀ b∈fp,H' b=none)→∀ b∈fp,FpOk X pins H' b:=fun hn b hb=>⟨hn b hb,(f2 b hb).2⟩
 refine codeAny_forLoop_any (fun n s'=>∃ i σ' H',Inv X pins σ' H' s'∧tn i s'.heap∧(∀ b∈fp,H' b=none)∧W i n σ' H') ?_ m0 ⟨0,σ,H2,I2,st2,fun b hb=>(f2 b hb).1,w0⟩
 rintro n s3 ⟨i,σ3,H3,I3,st3,fr3,w3⟩
 rcases turn i n σ3 H3 w3 with ⟨stop,qn⟩ | ⟨go,N,hN,step⟩
 · refine wpAny_passesOwn hp (thn (T.done X rfl rfl rfl hc i pins s3 σ3 H3 X.xe I3 (stat fr3) st3 stop) fun r s4 ⟨hr,I4⟩=>?_)
   subst hr
   exact wpAny_execs_nil ⟨σ3,H3,I4,qn⟩
 · refine wpAny_passesOwn hp (thn (T.item X rfl rfl rfl hc i pins s3 σ3 H3 X.xe I3 (stat fr3) st3 go) fun r s4 ⟨u,hr,h4⟩=>?_)
   subst hr
   refine wpAny_passesOwn hp (thn h4 fun _ s5 ⟨x,H5,I5,r5,y5,st5,fr5⟩=>?_)
   have I5':=I5.pinned (stat fr5) (T.obj _ _ st5)
   refine wpAny_passesOwn hp (thn (hg _ s5 σ3 H5 x u _ I5' r5 (step x H5 y5)) fun _ s6 ⟨σ6,H6,I6,q6⟩=>?_)
   refine wpAny_passesOwn hp (thn (hb _ s6 σ6 H6 _ I6 q6) fun f s7 q7=>?_)
   have again:∀ {σ7:St} {H7:Hp},Inv X (pins++pinsAt fp s5.heap) σ7 H7 s7→N σ7 H7→∃ m,m<n∧∃ i σ' H',Inv X pins σ' H' s7∧tn i s7.heap∧(∀ b∈fp,H' b=none)∧W i m σ' H':=fun {σ7 H7} I7 n7=>by
    obtain ⟨m',hm,w7⟩:=hN σ7 H7 n7
    refine ⟨m',hm,i+1,σ7,H7,I7.unpinned,T.keep _ _ _ st5 fun b hb o e=>(I7.pin (b,o) (List.mem_append_right _ (List.mem_append_right _ (mem_pinsAt hb e)))).1,fun b hb=>?_,w7⟩
    obtain ⟨o,e,d⟩:=T.obj _ _ st5 b hb
    exact (I7.pin (b,o) (List.mem_append_right _ (List.mem_append_right _ (mem_pinsAt hb e)))).2.1
   cases f with
   | next=>obtain ⟨σ7,H7,I7,n7⟩:=q7;exact again I7 n7
   | cont=>obtain ⟨σ7,H7,I7,n7⟩:=q7;exact again I7 n7
   | brk=>obtain ⟨σ7,H7,I7,q7⟩:=q7;exact ⟨σ7,H7,I7.unpinned,q7⟩
   | ret v=>obtain ⟨x7,σ7,H7,I7,r7,q7⟩:=q7;exact ⟨x7,σ7,H7,I7.unpinned,r7,q7⟩
theorem zs_for {iter:Expr} {body:List Stmt} {wi:TI} {g:TG} {tb:TS} {pos:Pos} (hp:PassesOwn (model X.prog X.w) X.A X.env X.xe) (hc:X.calm=true) (hi:ZI X tg iter wi) (hg:ZG X tg g) (hb:ZSs X body tb)
 (hs:∀ x,foldedSetIterable iter X.env x=pure x:=by intro _;rfl):ZS X (.For tg iter body [] pos) (tFor wi g tb):=by with_unfolding_all exact ps_for hp hc hi hg hb hs
end
theorem for_list {K:PySem.W.Frag} {a:Addr} {xs:List V} {g:TG} {tb:TS} {D:Ends} {σ:St} {H:Hp} (Pv:Nat→St→Hp→Prop) (h0:Pv 0 σ H) (hl:∀ i σ H,i≤xs.length→Pv i σ H→SqL K H a xs)
 (hs:∀ i x σ H,xs[i]? = some x→Pv i σ H→g x σ H fun σ2 H2=>tb { D with nx:=Pv (i+1),ct:=Pv (i+1),bk:=D.nx } σ2 H2) (hd:∀ σ H,Pv xs.length σ H→D.nx σ H) :
 ∃ W:Nat→Nat→St→Hp→Prop,(∃ m,W 0 m σ H)∧∀ i m σ H,W i m σ H →
   ((Itl K a).stop i H∧D.nx σ H)∨((Itl K a).go i H∧∃ N:St→Hp→Prop,(∀ σ' H',N σ' H'→∃ m',m' < m∧W (i+1) m' σ' H')∧∀ x H',(Itl K a).yld i H x H'→g x σ H' fun σ2 H2=>tb { D with nx:=N,ct:=N,bk:=D.nx } σ2 H2):=by
 refine ⟨fun i m σ H=>m=xs.length - i∧i≤xs.length∧Pv i σ H,⟨xs.length,by simp,Nat.zero_le _,h0⟩,?_⟩
 rintro i m σ H ⟨rfl,hi,p⟩
 have q:=hl i σ H hi p
 by_cases hlt:i<xs.length
 · refine .inr ⟨⟨xs,xs[i],q,by simp [hlt]⟩,Pv (i+1),fun σ' H' p'=>⟨xs.length - (i+1),by omega,rfl,hlt,p'⟩,fun x H' y=>?_⟩
   obtain ⟨e,y⟩:=y
   subst e
   exact hs i x σ _ (y xs q) p
 · have e:i=xs.length:=by omega
   subst e
   exact .inl ⟨⟨xs,q,Nat.le_refl _⟩,hd σ H p⟩
theorem for_tup {K:PySem.W.Frag} {a:Addr} {xs:List V} {g:TG} {tb:TS} {D:Ends} {σ:St} {H:Hp} (Pv:Nat→St→Hp→Prop) (h0:Pv 0 σ H) (hl:∀ i σ H,i≤xs.length→Pv i σ H→SqT K H a xs)
 (hs:∀ i x σ H,xs[i]? = some x→Pv i σ H→g x σ H fun σ2 H2=>tb { D with nx:=Pv (i+1),ct:=Pv (i+1),bk:=D.nx } σ2 H2) (hd:∀ σ H,Pv xs.length σ H→D.nx σ H) :
 ∃ W:Nat→Nat→St→Hp→Prop,(∃ m,W 0 m σ H)∧∀ i m σ H,W i m σ H →
   ((Itt K a).stop i H∧D.nx σ H)∨((Itt K a).go i H∧∃ N:St→Hp→Prop,(∀ σ' H',N σ' H'→∃ m',m' < m∧W (i+1) m' σ' H')∧∀ x H',(Itt K a).yld i H x H'→g x σ H' fun σ2 H2=>tb { D with nx:=N,ct:=N,bk:=D.nx } σ2 H2):=by
 refine ⟨fun i m σ H=>m=xs.length - i∧i≤xs.length∧Pv i σ H,⟨xs.length,by simp,Nat.zero_le _,h0⟩,?_⟩
 rintro i m σ H ⟨rfl,hi,p⟩
 have q:=hl i σ H hi p
 by_cases hlt:i<xs.length
 · refine .inr ⟨⟨xs,xs[i],q,by simp [hlt]⟩,Pv (i+1),fun σ' H' p'=>⟨xs.length - (i+1),by omega,rfl,hlt,p'⟩,fun x H' y=>?_⟩
   obtain ⟨e,y⟩:=y
   subst e
   exact hs i x σ _ (y xs q) p
 · have e:i=xs.length:=by omega
   subst e
   exact .inl ⟨⟨xs,q,Nat.le_refl _⟩,hd σ H p⟩
theorem for_range {lo:Int} {n:Nat} {g:TG} {tb:TS} {D:Ends} {σ:St} {H:Hp} (Pv:Nat→St→Hp→Prop) (h0:Pv 0 σ H)
 (hs:∀ i σ H,i<n→Pv i σ H→g (.int (lo+i)) σ H fun σ2 H2=>tb { D with nx:=Pv (i+1),ct:=Pv (i+1),bk:=D.nx } σ2 H2) (hd:∀ σ H,Pv n σ H→D.nx σ H) :
 ∃ W:Nat→Nat→St→Hp→Prop,(∃ m,W 0 m σ H)∧∀ i m σ H,W i m σ H →
   ((Itr lo n).stop i H∧D.nx σ H)∨((Itr lo n).go i H∧∃ N:St→Hp→Prop,(∀ σ' H',N σ' H'→∃ m',m' < m∧W (i+1) m' σ' H')∧∀ x H',(Itr lo n).yld i H x H'→g x σ H' fun σ2 H2=>tb { D with nx:=N,ct:=N,bk:=D.nx } σ2 H2):=by
 refine ⟨fun i m σ H=>m=n - i∧i≤n∧Pv i σ H,⟨n,by simp,Nat.zero_le _,h0⟩,?_⟩
 rintro i m σ H ⟨rfl,hi,p⟩
 by_cases hlt:i<n
 · refine .inr ⟨hlt,Pv (i+1),fun σ' H' p'=>⟨n - (i+1),by omega,rfl,hlt,p'⟩,fun x H' y=>?_⟩
   obtain ⟨e,y⟩:=y
   subst e y
   exact hs i σ _ hlt p
 · have e:i=n:=by omega
   subst e
   exact .inl ⟨Nat.le_refl _,hd σ H p⟩
abbrev R2:=V→V→Hp→VK→Prop
def OpR (X:Cx) (f:Value→Value→Sem Value) (r:R2):Prop:=
 ∀ (pins:List (Addr×Obj)) (s:Shared) (σ:St) (H:Hp) (x y:V) (v u:Value) (Q:VK),Inv X pins σ H s→RelV x v→RelV y u→r x y H Q →
   wpAny (model X.prog X.w) X.A (f v u) (EP X pins σ Q) X.xe s
def UnR (X:Cx) (f:Value→Sem Value) (r:V→Hp→VK→Prop):Prop:=
 ∀ (pins:List (Addr×Obj)) (s:Shared) (σ:St) (H:Hp) (x:V) (v:Value) (Q:VK),Inv X pins σ H s→RelV x v→r x H Q →
   wpAny (model X.prog X.w) X.A (f v) (EP X pins σ Q) X.xe s
def CallR (X:Cx) (f:Value) (r:List V→Hp→VK→Prop):Prop:=
 ∀ (pins:List (Addr×Obj)) (s:Shared) (σ:St) (H:Hp) (xs:List V) (us:List Value) (Q:VK),Inv X pins σ H s→Vals xs us→r xs H Q →
   wpAny (model X.prog X.w) X.A (call f us) (EP X pins σ Q) X.xe s
def TruR (X:Cx) (r:V→Hp→(Bool→Hp→Prop)→Prop):Prop:=
 ∀ (pins:List (Addr×Obj)) (s:Shared) (σ:St) (H:Hp) (x:V) (v:Value) (Q:Bool→Hp→Prop),Inv X pins σ H s→RelV x v→r x H Q →
   wpAny (model X.prog X.w) X.A (truthy v) (TP X pins σ Q) X.xe s
def tOp (r:R2) (ta tb:TE):TE:=fun σ H Q=>ta σ H fun x H1=>tb σ H1 fun y H2=>r x y H2 Q
def tUn (r:V→Hp→VK→Prop) (ta:TE):TE:=fun σ H Q=>ta σ H fun x H1=>r x H1 Q
def rI (C:Int→Int→Prop) (g:Int→Int→V):R2:=fun x y H Q=>∃ i j,x=.int i∧y=.int j∧C i j∧Q (g i j) H
def rI0 (g:Int→Int→V):R2:=fun x y H Q=>∃ i j,x=.int i∧y=.int j∧Q (g i j) H
def rU (g:Int→V):V→Hp→VK→Prop:=fun x H Q=>∃ i,x=.int i∧Q (g i) H
section
variable {X:Cx} {a b c:Expr} {ta tb tc:TE} {pos:Pos}
theorem binT (ha:PE X a ta) (hb:PE X b tb) {pins:List (Addr×Obj)} {s:Shared} {σ:St} {H:Hp} {R:V→V→Hp→Prop} (I:Inv X pins σ H s)
 (h:ta σ H fun x H1=>tb σ H1 fun y H2=>R x y H2) {Q:Value→Shared→Prop} {f:Value→Value→Sem Value}
 (hf:∀ v u s2 x y H2,Inv X pins σ H2 s2→RelV x v→RelV y u→R x y H2→wpAny (model X.prog X.w) X.A (f v u) Q X.xe s2) :
 wpAny (model X.prog X.w) X.A (eval a X.env) (fun v s₁=>wpAny (model X.prog X.w) X.A (eval b X.env) (fun u s₂=>wpAny (model X.prog X.w) X.A (f v u) Q X.xe s₂) X.xe s₁) X.xe s:=by
 refine thn (ha pins s σ H _ I h) fun v s1 ⟨x,H1,I1,r1,q1⟩=>?_
 refine thn (hb pins s1 σ H1 _ I1 q1) fun u s2 ⟨y,H2,I2,r2,q2⟩=>?_
 exact hf v u s2 x y H2 I2 r1 r2 q2
theorem pe_op {op:Operator} {r:R2} (ho:OpR X (binaryOp op) r) (ha:PE X a ta) (hb:PE X b tb):PE X (.BinOp a op b pos) (tOp r ta tb):=by
 intro pins s σ H Q I h
 exact wpAny_BinOp (binT ha hb I h fun v u s2 x y H2 I2 rx ry q=>ho pins s2 σ H2 x y v u Q I2 rx ry q)
theorem ze_op {op:Operator} {r:R2} (ho:OpR X (binaryOp op) r) (ha:ZE X a ta) (hb:ZE X b tb):ZE X (.BinOp a op b pos) (tOp r ta tb):=by with_unfolding_all exact pe_op ho ha hb
theorem pe_un {op:UnaryOp} {r:V→Hp→VK→Prop} (ho:UnR X (unaryOp op) r) (ha:PE X a ta):PE X (.UnaryOp op a pos) (tUn r ta):=by
 intro pins s σ H Q I h
 exact UnaryOp_ (thn (ha pins s σ H _ I h) fun v s1 ⟨x,H1,I1,r1,q1⟩=>ho pins s1 σ H1 x v Q I1 r1 q1)
theorem ze_un {op:UnaryOp} {r:V→Hp→VK→Prop} (ho:UnR X (unaryOp op) r) (ha:ZE X a ta):ZE X (.UnaryOp op a pos) (tUn r ta):=by with_unfolding_all exact pe_un ho ha
theorem opI {f:Value→Value→Sem Value} {C:Int→Int→Prop} {g:Int→Int→Int}
 (rule:∀ (i j:Int) (t u:Tok) (s:Shared) (Q:Value→Shared→Prop) (E:Value→Shared→Prop),C i j→Q (.int (g i j) s.toks) { s with toks:=s.toks+1 }→wpAny (model X.prog X.w) X.A (f (.int i t) (.int j u)) Q E s) :
 OpR X f (rI C fun i j=>.int (g i j)):=by
 intro pins s σ H x y v u Q I rx ry h
 obtain ⟨i,j,rfl,rfl,hc,q⟩:=h
 obtain ⟨t,rfl⟩:=rx
 obtain ⟨t',rfl⟩:=ry
 exact rule i j t t' s _ _ hc ⟨.int (g i j),H,I.tok _,⟨_,rfl⟩,q⟩
theorem opI0 {f:Value→Value→Sem Value} {g:Int→Int→Int}
 (rule:∀ (i j:Int) (t u:Tok) (s:Shared) (Q:Value→Shared→Prop) (E:Value→Shared→Prop),Q (.int (g i j) s.toks) { s with toks:=s.toks+1 }→wpAny (model X.prog X.w) X.A (f (.int i t) (.int j u)) Q E s) :
 OpR X f (rI0 fun i j=>.int (g i j)):=by
 intro pins s σ H x y v u Q I rx ry h
 obtain ⟨i,j,rfl,rfl,q⟩:=h
 obtain ⟨t,rfl⟩:=rx
 obtain ⟨t',rfl⟩:=ry
 exact rule i j t t' s _ _ ⟨.int (g i j),H,I.tok _,⟨_,rfl⟩,q⟩
theorem opB0 {f:Value→Value→Sem Value} {g:Int→Int→Bool}
 (rule:∀ (i j:Int) (t u:Tok) (s:Shared) (Q:Value→Shared→Prop) (E:Value→Shared→Prop),Q (.bool (g i j)) s→wpAny (model X.prog X.w) X.A (f (.int i t) (.int j u)) Q E s) :
 OpR X f (rI0 fun i j=>.bl (g i j)):=by
 intro pins s σ H x y v u Q I rx ry h
 obtain ⟨i,j,rfl,rfl,q⟩:=h
 obtain ⟨t,rfl⟩:=rx
 obtain ⟨t',rfl⟩:=ry
 exact rule i j t t' s _ _ ⟨.bl (g i j),H,I,rfl,q⟩
def CDiv (i j:Int):Prop:=0<j∧j<1073741824
def CPow (i j:Int):Prop:=0≤j∧j≤1000000∧i.natAbs<2 ^ 64
theorem op_add:OpR X (binaryOp .Add) (rI0 fun i j=>.int (i+j)):=opI0 fun _ _ _ _ _ _ _ q=>add_int q
theorem op_sub:OpR X (binaryOp .Sub) (rI0 fun i j=>.int (i - j)):=opI0 fun _ _ _ _ _ _ _ q=>sub_int q
theorem op_fdiv:OpR X (binaryOp .FloorDiv) (rI CDiv fun i j=>.int (i / j)):=opI fun i j _ _ _ _ _ hc q=>by
 have h1:(0:Int)<j:=hc.1
 have h2:j<1073741824:=hc.2
 exact floordiv_int (by omega) (by rw [Int.fdiv_eq_ediv_of_nonneg i (by omega)];exact q) (.inl (PyProof.noPylong_small (by omega)))
theorem op_mod:OpR X (binaryOp .Mod) (rI (fun _ j=>0<j) fun i j=>.int (i % j)):=opI fun i j _ _ _ _ _ hc q=>by
 have h1:(0:Int)<j:=hc
 exact mod_int' (by omega) (by rw [Int.fmod_eq_emod_of_nonneg i (by omega)];exact q)
theorem op_pow:OpR X (binaryOp .Pow) (rI CPow fun i j=>.int (i ^ j.toNat)):=opI fun _ _ _ _ _ _ _ hc q=>pow_int_small hc.1 hc.2.1 hc.2.2 q
theorem unI {f:Value→Sem Value} {g:Int→Int}
 (rule:∀ (i:Int) (t:Tok) (s:Shared) (Q:Value→Shared→Prop) (E:Value→Shared→Prop),Q (.int (g i) s.toks) { s with toks:=s.toks+1 }→wpAny (model X.prog X.w) X.A (f (.int i t)) Q E s) :
 UnR X f (rU fun i=>.int (g i)):=by
 intro pins s σ H x v Q I rx h
 obtain ⟨i,rfl,q⟩:=h
 obtain ⟨t,rfl⟩:=rx
 exact rule i t s _ _ ⟨.int (g i),H,I.tok _,⟨_,rfl⟩,q⟩
theorem un_neg:UnR X (unaryOp .USub) (rU fun i=>.int (-i)):=unI fun _ _ _ _ _ q=>neg_int q
end
def scal:V→V→Bool
 | .non,.non=>true | .non,.int _=>true | .int _,.non=>true | .non,.bl _=>true | .bl _,.non=>true | .non,.str _=>true | .str _,.non=>true
 | .int _,.int _=>true | .bl _,.bl _=>true | .str _,.str _=>true | .byt _,.byt _=>true
 | .int _,.str _=>true | .str _,.int _=>true | .bl _,.str _=>true | .str _,.bl _=>true
 | _,_=>false
def rEq:R2:=fun x y H Q=>scal x y=true∧Q (.bl (decide (x=y))) H
def rNe:R2:=fun x y H Q=>scal x y=true∧Q (.bl (!decide (x=y))) H
theorem dec_int {i j:Int}:decide (V.int i=V.int j)=(i == j):=by
 rw [Bool.eq_iff_iff]
 simp
theorem dec_bl {i j:Bool}:decide (V.bl i=V.bl j)=(i == j):=by
 rw [Bool.eq_iff_iff]
 simp
theorem dec_str {i j:Str}:decide (V.str i=V.str j)=(i == j):=by
 rw [Bool.eq_iff_iff]
 simp
theorem dec_byt {i j:Array UInt8}:decide (V.byt i=V.byt j)=(i.toList == j.toList):=by
 rw [Bool.eq_iff_iff]
 cases i
 cases j
 simp
section
variable {X:Cx} {a b c:Expr} {ta tb tc:TE} {pos:Pos}
theorem fin_bl {pins:List (Addr×Obj)} {σ:St} {H:Hp} {s:Shared} {Q:VK} {k k':Bool} (I:Inv X pins σ H s) (q:Q (.bl k) H) (e:k=k'):EP X pins σ Q (.bool k') s:=by
 subst e
 exact ⟨.bl k,H,I,rfl,q⟩
theorem op_eq:OpR X (compareOp .Eq) rEq:=by
 intro pins s σ H x y v u Q I rx ry h
 obtain ⟨hs,q⟩:=h
 cases x with
 | non=>
   cases rx
   cases y with
   | non=>cases ry;exact PySem.EqNone.eq_none_none (fin_bl I q (by simp))
   | bl j=>cases ry;exact PySem.EqNone.eq_none_bool (fin_bl I q (by simp))
   | int j=>obtain ⟨t',rfl⟩:=ry;exact PySem.EqNone.eq_none_int (fin_bl I q (by simp))
   | str j=>obtain ⟨t',rfl⟩:=ry;exact PySem.EqNone.eq_none_str (fin_bl I q (by simp))
   | _=>exact absurd (show false=true from hs) Bool.false_ne_true
 | bl i=>
   cases rx
   cases y with
   | non=>cases ry;exact PySem.EqNone.eq_bool_none (fin_bl I q (by simp))
   | bl j=>cases ry;exact eq_bool (fin_bl I q dec_bl)
   | str j=>obtain ⟨t',rfl⟩:=ry;exact PySem.EqMixed.eq_bool_str (fin_bl I q (by simp))
   | _=>exact absurd (show false=true from hs) Bool.false_ne_true
 | int i=>
   obtain ⟨t,rfl⟩:=rx
   cases y with
   | non=>cases ry;exact PySem.EqNone.eq_int_none (fin_bl I q (by simp))
   | int j=>obtain ⟨t',rfl⟩:=ry;exact eq_int (fin_bl I q dec_int)
   | str j=>obtain ⟨t',rfl⟩:=ry;exact PySem.EqMixed.eq_int_str (fin_bl I q (by simp))
   | _=>exact absurd (show false=true from hs) Bool.false_ne_true
 | str i=>
   obtain ⟨t,rfl⟩:=rx
   cases y with
   | non=>cases ry;exact PySem.EqNone.eq_str_none (fin_bl I q (by simp))
   | bl j=>cases ry;exact PySem.EqMixed.eq_str_bool (fin_bl I q (by simp))
   | int j=>obtain ⟨t',rfl⟩:=ry;exact PySem.EqMixed.eq_str_int (fin_bl I q (by simp))
   | str j=>obtain ⟨t',rfl⟩:=ry;exact eq_str (fin_bl I q dec_str)
   | _=>exact absurd (show false=true from hs) Bool.false_ne_true
 | byt i=>
   obtain ⟨t,rfl⟩:=rx
   cases y with
   | byt j=>obtain ⟨t',rfl⟩:=ry;exact PySem.W.eq_bytes (fin_bl I q dec_byt)
   | _=>exact absurd (show false=true from hs) Bool.false_ne_true
 | _=>cases y <;> exact absurd (show false=true from hs) Bool.false_ne_true
theorem op_ne:OpR X (compareOp .NotEq) rNe:=by
 intro pins s σ H x y v u Q I rx ry h
 obtain ⟨hs,q⟩:=h
 cases x with
 | non=>
   cases rx
   cases y with
   | non=>cases ry;exact PySem.EqNone.ne_none_none (fin_bl I q (by simp))
   | bl j=>cases ry;exact PySem.EqNone.ne_none_bool (fin_bl I q (by simp))
   | int j=>obtain ⟨t',rfl⟩:=ry;exact PySem.EqNone.ne_none_int (fin_bl I q (by simp))
   | str j=>obtain ⟨t',rfl⟩:=ry;exact PySem.EqNone.ne_none_str (fin_bl I q (by simp))
   | _=>exact absurd (show false=true from hs) Bool.false_ne_true
 | bl i=>
   cases rx
   cases y with
   | non=>cases ry;exact PySem.EqNone.ne_bool_none (fin_bl I q (by simp))
   | bl j=>cases ry;exact ne_bool (fin_bl I q (congrArg not dec_bl))
   | str j=>obtain ⟨t',rfl⟩:=ry;exact PySem.EqMixed.ne_bool_str (fin_bl I q (by simp))
   | _=>exact absurd (show false=true from hs) Bool.false_ne_true
 | int i=>
   obtain ⟨t,rfl⟩:=rx
   cases y with
   | non=>cases ry;exact PySem.EqNone.ne_int_none (fin_bl I q (by simp))
   | int j=>obtain ⟨t',rfl⟩:=ry;exact ne_int (fin_bl I q (congrArg not dec_int))
   | str j=>obtain ⟨t',rfl⟩:=ry;exact PySem.EqMixed.ne_int_str (fin_bl I q (by simp))
   | _=>exact absurd (show false=true from hs) Bool.false_ne_true
 | str i=>
   obtain ⟨t,rfl⟩:=rx
   cases y with
   | non=>cases ry;exact PySem.EqNone.ne_str_none (fin_bl I q (by simp))
   | bl j=>cases ry;exact PySem.EqMixed.ne_str_bool (fin_bl I q (by simp))
   | int j=>obtain ⟨t',rfl⟩:=ry;exact PySem.EqMixed.ne_str_int (fin_bl I q (by simp))
   | str j=>obtain ⟨t',rfl⟩:=ry;exact ne_str (fin_bl I q (congrArg not dec_str))
   | _=>exact absurd (show false=true from hs) Bool.false_ne_true
 | byt i=>
   obtain ⟨t,rfl⟩:=rx
   cases y with
   | byt j=>obtain ⟨t',rfl⟩:=ry;exact PySem.W.ne_bytes (fin_bl I q (congrArg not dec_byt))
   | _=>exact absurd (show false=true from hs) Bool.false_ne_true
 | _=>cases y <;> exact absurd (show false=true from hs) Bool.false_ne_true
theorem op_lt:OpR X (compareOp .Lt) (rI0 fun i j=>.bl (decide (i<j))):=opB0 fun _ _ _ _ _ _ _ q=>lt_int q
theorem op_le:OpR X (compareOp .LtE) (rI0 fun i j=>.bl (decide (i≤j))):=opB0 fun _ _ _ _ _ _ _ q=>le_int q
theorem op_gt:OpR X (compareOp .Gt) (rI0 fun i j=>.bl (decide (j<i))):=opB0 fun _ _ _ _ _ _ _ q=>gt_int q
theorem op_ge:OpR X (compareOp .GtE) (rI0 fun i j=>.bl (decide (j≤i))):=opB0 fun _ _ _ _ _ _ _ q=>ge_int q
theorem op_notN:OpR X (compareOp .IsNot) (fun x y H Q=>y=.non∧Q (.bl (!decide (x=.non))) H):=by
 intro pins s σ H x y v u Q I rx ry h
 obtain ⟨rfl,q⟩:=h
 cases ry
 refine isnot_none_gen (fin_bl I q ?_)
 cases x <;> first
  | (cases rx;rfl)
  | (obtain ⟨t,rfl⟩:=rx;rfl)
theorem nomark (b:Expr) {op:CmpOp} (h:op≠.In:=by decide) (h2:op≠.NotIn:=by decide):behindInMarks op b=false:=by
 have e1:(op == CmpOp.In)=false:=by cases op <;> first | rfl | exact absurd rfl h
 have e2:(op == CmpOp.NotIn)=false:=by cases op <;> first | rfl | exact absurd rfl h2
 cases b <;> simp [behindInMarks,e1,e2]
theorem pe_cmpR {op:CmpOp} {r:R2} (ho:OpR X (compareOp op) r) (ha:PE X a ta) (hb:PE X b tb) (hm:behindInMarks op b=false):PE X (.Compare a [op] [b] pos) (tOp r ta tb):=by
 intro pins s σ H Q I h
 exact wpAny_Compare1 (binT ha hb I h fun v u s2 x y H2 I2 rx ry q=>ho pins s2 σ H2 x y v u Q I2 rx ry q) hm
theorem ze_cmpR {op:CmpOp} {r:R2} (ho:OpR X (compareOp op) r) (ha:ZE X a ta) (hb:ZE X b tb) (hm:behindInMarks op b=false):ZE X (.Compare a [op] [b] pos) (tOp r ta tb):=by with_unfolding_all exact pe_cmpR ho ha hb hm
def TruV (K:PySem.W.Frag) (x:V) (H:Hp) (k:Bool):Prop:=
 match x with
 | .non=>k=false
 | .bl b=>k=b
 | .int i=>k=(i != 0)
 | .str y=>y.length≤sizeLine∧k=((y.length:Int) != 0)
 | .byt y=>y.size≤sizeLine∧k=((y.size:Int) != 0)
 | .ref p=>(∃ xs,SqL K H p xs∧k=!xs.isEmpty)∨(∃ xs,SqT K H p xs∧k=!xs.isEmpty)∨∃ kvs,H p=some (.dK kvs)∧k=!kvs.isEmpty
 | _=>False
theorem isEmpty_kv {κ:Type} {kvs:List (κ×V)} {vs:List (κ×Value)} (r:KV kvs vs):(!vs.isEmpty)=!kvs.isEmpty:=by
 cases r <;> rfl
theorem isEmpty_of {xs:List V} {its:List Value} (r:Vals xs its):(!its.toArray.isEmpty)=!xs.isEmpty:=by
 cases r <;> simp
theorem line63:(sizeLine:Nat)<2 ^ 63:=by rw [sizeLine_eq];decide
theorem tru_ok:TruR X (fun x H Q=>∃ k,TruV X.K x H k∧Q k H):=by
 intro pins s σ H x v Q I rx h
 obtain ⟨k,e,q⟩:=h
 have hl:=line63
 have hs:sizeLine=16777216:=sizeLine_eq
 cases x with
 | non=>
   cases rx
   have e':k=false:=e
   subst e'
   exact truthy_none ⟨H,I,q⟩
 | bl b=>
   cases rx
   have e':k=b:=e
   subst e'
   exact wpAny_truthy_bool ⟨H,I,q⟩
 | int i=>
   obtain ⟨t,rfl⟩:=rx
   have e':k=(i != 0):=e
   subst e'
   exact PySem.P.truthy_int ⟨H,I,q⟩
 | str y=>
   obtain ⟨t,rfl⟩:=rx
   obtain ⟨hy,e'⟩:y.length≤sizeLine∧k=((y.length:Int) != 0):=e
   subst e'
   exact PySem.P.truthy_str (by omega) ⟨H,I.tok _,q⟩
 | byt y=>
   obtain ⟨t,rfl⟩:=rx
   obtain ⟨hy,e'⟩:y.size≤sizeLine∧k=((y.size:Int) != 0):=e
   subst e'
   exact PySem.W.truthy_bytes (by omega) ⟨H,I.tok _,q⟩
 | ref p=>
   cases rx
   have e':(∃ xs,SqL X.K H p xs∧k=!xs.isEmpty)∨(∃ xs,SqT X.K H p xs∧k=!xs.isEmpty)∨∃ kvs,H p=some (.dK kvs)∧k=!kvs.isEmpty:=e
   rcases e' with ⟨xs,hx,e'⟩ | ⟨xs,hx,e'⟩ | ⟨kvs,hx,e'⟩
   · subst e'
     obtain ⟨its,r,pl,hz⟩:=I.list hx
     have hlen:=r.length
     exact wpAny_truthy_list pl.isList (by simp only [List.size_toArray];omega) ⟨H,I.tok _,by rw [isEmpty_of r];exact q⟩
   · subst e'
     obtain ⟨its,r,pl,hz⟩:=I.tuple hx
     have hlen:=r.length
     exact truthy_tuple pl (by simp only [List.size_toArray];omega) ⟨H,I.tok _,by rw [isEmpty_of r];exact q⟩
   · subst e'
     obtain ⟨hz,hS,vs,r,m⟩:kvs.length≤sizeLine∧(p == sysModules)=false∧∃ vs,KV kvs vs∧s.heap.DictOf (mixKind X.prog X.w) p vs:=I.hok p _ hx
     have hlen:kvs.length=vs.length:=Paired.length r
     exact wpAny_truthy_dict hS m (by omega) ⟨H,I.tok _,by rw [isEmpty_kv r];exact q⟩
 | _=>exact (show False from e).elim
theorem op_add_str:OpR X (binaryOp .Add) (fun x y H Q=>∃ i j,x=.str i∧y=.str j∧i.length+j.length≤sizeLine∧Q (.str (i++j)) H):=by
 intro pins s σ H x y v u Q I rx ry h
 obtain ⟨i,j,rfl,rfl,hz,q⟩:=h
 obtain ⟨t,rfl⟩:=rx
 obtain ⟨t',rfl⟩:=ry
 exact add_str (fun t' tk=>⟨.str (i++j),H,I.tok _,⟨_,rfl⟩,q⟩) hz
theorem vals1 {x:V} {us:List Value} (r:Vals [x] us):∃ u,us=[u]∧RelV x u:=by
 cases r with
 | cons r1 r2=>cases r2;exact ⟨_,rfl,r1⟩
theorem vals2 {x y:V} {us:List Value} (r:Vals [x,y] us):∃ u w',us=[u,w']∧RelV x u∧RelV y w':=by
 cases r with
 | cons r1 r2=>
   cases r2 with
   | cons r3 r4=>cases r4;exact ⟨_,_,rfl,r1,r3⟩
theorem call_abs:CallR X (.builtin "abs") (fun xs H Q=>∃ i,xs=[.int i]∧Q (.int (if i<0 then -i else i)) H):=by
 intro pins s σ H xs us Q I r h
 obtain ⟨i,rfl,q⟩:=h
 obtain ⟨u,rfl,t,rfl⟩:=vals1 r
 exact call_abs_int fun u tk=>⟨.int (if i<0 then -i else i),H,I.tok _,⟨_,rfl⟩,q⟩
theorem call_max2 (hc:X.calm=true):CallR X (.builtin "max") (fun xs H Q=>∃ i j,xs=[.int i,.int j]∧Q (.int (if j > i then j else i)) H):=by
 intro pins s σ H xs us Q I r h
 obtain ⟨i,j,rfl,q⟩:=h
 obtain ⟨u,w',rfl,⟨t,rfl⟩,⟨t',rfl⟩⟩:=vals2 r
 refine max_two_ints (I.ok.hd hc) fun h' tk k=>⟨_,H,I.kept k,?_,q⟩
 by_cases hj:j > i
 · rw [if_pos hj,if_pos hj];exact ⟨_,rfl⟩
 · rw [if_neg hj,if_neg hj];exact ⟨_,rfl⟩
theorem call_min2 (hc:X.calm=true):CallR X (.builtin "min") (fun xs H Q=>∃ i j,xs=[.int i,.int j]∧Q (.int (if j<i then j else i)) H):=by
 intro pins s σ H xs us Q I r h
 obtain ⟨i,j,rfl,q⟩:=h
 obtain ⟨u,w',rfl,⟨t,rfl⟩,⟨t',rfl⟩⟩:=vals2 r
 refine min_two_ints (I.ok.hd hc) fun h' tk k=>⟨_,H,I.kept k,?_,q⟩
 by_cases hj:j<i
 · rw [if_pos hj,if_pos hj];exact ⟨_,rfl⟩
 · rw [if_neg hj,if_neg hj];exact ⟨_,rfl⟩
theorem call_int1:CallR X (.type "int") (fun xs H Q=>(∃ i,xs=[.int i]∧Q (.int i) H)∨∃ k,xs=[.bl k]∧Q (.int (if k then 1 else 0)) H):=by
 intro pins s σ H xs us Q I r h
 rcases h with ⟨i,rfl,q⟩ | ⟨k,rfl,q⟩
 · obtain ⟨u,rfl,t,rfl⟩:=vals1 r
   exact call_int_int ⟨.int i,H,I,⟨_,rfl⟩,q⟩
 · obtain ⟨u,rfl,r1⟩:=vals1 r
   cases r1
   exact call_int_bool ⟨.int (if k then 1 else 0),H,I.tok _,⟨_,rfl⟩,q⟩
end
structure Room (k:Nat) (A:Around):Prop where
 hd:A.handled=none
 dp:A.depth+3*k+5<recursionLimit
 un:A.units+16*k+200<cLine
 gd:A.guards=some []
theorem Room.mono {j k:Nat} {A:Around} (r:Room k A) (h:j≤k):Room j A:=⟨r.hd,by have:=r.dp;omega,by have:=r.un;omega,r.gd⟩
theorem Room.deeper {k:Nat} {A:Around} (r:Room (k+1) A) (env:Env):Room k (A.deeper env):=
 ⟨r.hd,by have:=r.dp;show A.depth+1+3*k+5<_;omega,by have:=r.un;show A.units+3+16*k+200<_;omega,r.gd⟩
theorem Room.depth {k:Nat} {A:Around} (r:Room k A):A.depth<recursionLimit:=by have:=r.dp;omega
theorem Room.units {k:Nat} {A:Around} (r:Room k A):A.units+64<cLine:=by have:=r.un;omega
def tNil:TA:=fun _ H Q=>Q [] H
def tCons (ta:TE) (tr:TA):TA:=fun σ H Q=>ta σ H fun x H1=>tr σ H1 fun xs H2=>Q (x::xs) H2
section
variable {X:Cx} {e:Expr} {es:List Expr} {te:TE} {t:TA} {pos:Pos}
theorem pa_nil:PA X [] tNil:=fun _ _ _ _ H Q I h=>Calls.spliced_nil ⟨[],H,I,.nil,h⟩
theorem za_nil:ZA X [] tNil:=by with_unfolding_all exact pa_nil
theorem pa_cons (ha:PE X e te) (hr:PA X es t) (hs:starEach (e::es) X.env=(false,eval e X.env)::starEach es X.env:=by rfl):PA X (e::es) (tCons te t):=by
 intro pos pins s σ H Q I h
 rw [hs]
 show wpAny _ _ (spliced ((false,eval e X.env)::backTo pos (starEach es X.env))) _ _ s
 refine Calls.spliced_cons (thn (ha pins s σ H _ I h) fun u s1 ⟨x,H1,I1,r1,q1⟩=>?_)
 exact thn (hr pos pins s1 σ H1 _ I1 q1) fun us s2 ⟨xs,H2,I2,r2,q2⟩=>⟨x::xs,H2,I2,.cons r1 r2,q2⟩
theorem za_cons (ha:ZE X e te) (hr:ZA X es t) (hs:starEach (e::es) X.env=(false,eval e X.env)::starEach es X.env:=by rfl):ZA X (e::es) (tCons te t):=by with_unfolding_all exact pa_cons ha hr hs
def tTup (t:TA):TE:=fun σ H Q=>t σ H fun xs H1=>xs.length≤sizeLine∧∀ p,H1 p=none→Q (.ref p) (upd H1 p (.tup xs))
def tLst (t:TA):TE:=fun σ H Q=>t σ H fun xs H1=>xs.length≤sizeLine∧∀ p,H1 p=none→Q (.ref p) (upd H1 p (.lst xs))
theorem pe_tup {x1} (h:PA X es t):PE X (.Tuple es x1 pos) (tTup t):=by
 intro pins s σ H Q I hq
 refine wpAny_Tuple_spliced (thn (h pos pins s σ H _ I hq) fun us s1 ⟨xs,H1,I1,r,z,q⟩=>⟨by rw [← r.length];exact z,?_⟩)
 have hf:H1 s1.heap.objs.size=none:=I1.hok.fresh (Nat.le_refl _)
 refine ⟨.ref s1.heap.objs.size,upd H1 s1.heap.objs.size (.tup xs),I1.laid (t':=s1.toks) (fun b u e=>Heap.get?_push_of_some _ e) (Nat.le_refl _) ?_,rfl,q _ hf⟩
 exact ⟨z,us,r,⟨_,Heap.get?_push_size _ rfl⟩⟩
theorem ze_tup {x1} (h:ZA X es t):ZE X (.Tuple es x1 pos) (tTup t):=by with_unfolding_all exact pe_tup h
theorem pe_lst (h:PA X es t):PE X (.List es pos) (tLst t):=by
 intro pins s σ H Q I hq
 refine wpAny_List_spliced (thn (h pos pins s σ H _ I hq) fun us s1 ⟨xs,H1,I1,r,z,q⟩=>⟨by rw [← r.length];exact z,?_⟩)
 have hf:H1 s1.heap.objs.size=none:=I1.hok.fresh (Nat.le_refl _)
 refine ⟨.ref s1.heap.objs.size,upd H1 s1.heap.objs.size (.lst xs),I1.laid (t':=s1.toks) (fun b u e=>Heap.get?_push_of_some _ e) (Nat.le_refl _) ?_,rfl,q _ hf⟩
 exact ⟨z,us,0,r,Heap.get?_push_size _ rfl⟩
theorem ze_lst (h:ZA X es t):ZE X (.List es pos) (tLst t):=by with_unfolding_all exact pe_lst h
end
abbrev Sp:=List V→Hp→VK→XK→Prop
abbrev CXT:=List Env→Hp→Shared→XK→Value→Shared→Prop
structure Env0 (P:Program) (w:World) (K:PySem.W.Frag) (mg:Str→Option Value) (base:Heap) (A:Around) (outer:List Env) (s:Shared) (H:Hp):Prop where
 frames:A.frames=some outer
 mod:Mod K mg base
 bs:∀ b o,base.get? b=some o→s.heap.get? b=some o∧H b=none
 bsz:base.objs.size≤s.heap.objs.size
 funs:s.heap.FunFrames base outer
 frf:∀ b∈frs outer,H b=none
 hok:HOk P w H s.heap
 bare:AllBare s.gens
def CE (outer:List Env) (P:Program) (w:World) (H:Hp) (s:Shared) (Q:VK) (u:Value) (s':Shared):Prop:=
 ∃ v H',s'.os=s.os∧AllBare s'.gens∧Un (frs outer) [] H H' s.heap s'.heap∧HOk P w H' s'.heap∧RelV v u∧Q v H'
def CR (CX:CXT) (outer:List Env) (P:Program) (w:World) (H:Hp) (s:Shared) (Q:VK) (E:XK) (r:Result) (s':Shared):Prop:=
 match r with
 | .ok (.ret u)=>CE outer P w H s Q u s'
 | .ok _=>False
 | .error e=>CX outer H s E e s'
structure FnOk (P:Program) (w:World) (K:PySem.W.Frag) (mg:Str→Option Value) (base:Heap) (CX:CXT) (k:Nat) (f:Addr) (fd:FuncData) (ps:List Str) (sp:Sp):Prop where
 len:∀ vs H Q E,sp vs H Q E→vs.length=ps.length
 run:∀ (A:Around) (outer:List Env) (s:Shared) (H:Hp) (args:Args) (us:List Value) (vs:List V) (Q:VK) (E:XK),Room k A→Env0 P w K mg base A outer s H→BindsTo s fd args (ps.zip us)→Vals vs us→sp vs H Q E →
  codeAny (model P w) A (.call (.ref f) args) (CR CX outer P w H s Q E) s
theorem FnOk.mono {P:Program} {w:World} {K:PySem.W.Frag} {mg:Str→Option Value} {base:Heap} {CX:CXT} {j k:Nat} {f:Addr} {fd:FuncData} {ps:List Str} {sp:Sp} (F:FnOk P w K mg base CX j f fd ps sp) (h:j≤k) :
 FnOk P w K mg base CX k f fd ps sp:=⟨F.len,fun A outer s H args us vs Q E hr=>F.run A outer s H args us vs Q E (hr.mono h)⟩
section
variable {X:Cx} {pins:List (Addr×Obj)} {σ:St} {H:Hp} {s s':Shared}
theorem Inv.env0 (I:Inv X pins σ H s):Env0 X.prog X.w X.K X.mg X.base X.A X.stack s H:=
 ⟨I.ok.frames,I.ok.mod,I.bs,Nat.le_trans I.ok.bsz I.sz,I.stack,I.stkFree,I.hok,I.bare⟩
theorem Inv.after {Q:VK} {u:Value} (I:Inv X pins σ H s) (h:CE X.stack X.prog X.w H s Q u s'):EP X pins σ Q u s':=by
 obtain ⟨v,H',os,bare,un,hok,r,q⟩:=h
 obtain ⟨hh,g,d,t,os'⟩:=s'
 obtain rfl:os'=s.os:=os
 exact ⟨v,H',I.call (h':=hh) (g':=g) (d':=d) (t':=t) (ch:=[]) un hok bare (fun b z=>absurd z (by simp)),r,q⟩
end
def tCall (sp:Sp) (dvs:List V) (E:XK) (t:TA):TE:=fun σ H Q=>t σ H fun vs H1=>sp (vs++dvs) H1 Q E
def Binds (K:PySem.W.Frag) (fd:FuncData) (ps:List Str) (ds:List Value):Prop:=
 ∀ (s:Shared) (us:List Value),K.In s.heap→(us++ds).length=ps.length→BindsTo s fd ⟨us,[]⟩ (ps.zip (us++ds))
theorem Binds.all {K:PySem.W.Frag} {fd:FuncData} {ps:List Str} (h:∀ us:List Value,us.length=ps.length→bindArgs fd ⟨us,[]⟩=pure (ps.zip us)):Binds K fd ps []:=fun s us _ hl=>by
 rw [List.append_nil] at hl ⊢
 exact .of_eq (h us hl)
def Passes (CX:CXT) (X:Cx) (E:XK):Prop:=∀ (pins:List (Addr×Obj)) (σ:St) (H:Hp) (s:Shared) (e:Value) (s':Shared),Inv X pins σ H s→CX X.stack H s E e s'→X.xe e s'
section
variable {X:Cx} {CX:CXT} {k:Nat} {f C:Addr} {fd:FuncData} {ps:List Str} {sp:Sp} {dvs:List V} {ds:List Value} {E:XK} {x m:Str} {p pos apos:Pos} {e o:Expr} {es:List Expr} {ta:TE} {t:TA}
theorem run_fn {pins:List (Addr×Obj)} {σ:St} {H:Hp} {s:Shared} {Q:VK} {us:List Value} {vs:List V} (F:FnOk X.prog X.w X.K X.mg X.base CX k f fd ps sp) (hr:Room k X.A) (hb:Binds X.K fd ps ds) (hd:Vals dvs ds) (hx:Passes CX X E)
 (I:Inv X pins σ H s) (r:Vals vs us) (h:sp (vs++dvs) H Q E):wpAny (model X.prog X.w) X.A (call (.ref f) us) (EP X pins σ Q) X.xe s:=by
 have r2:Vals (vs++dvs) (us++ds):=r.append hd
 have hl:(us++ds).length=ps.length:=by rw [← r2.length];exact F.len _ _ _ _ h
 refine wpAny_call (codeAny_mono (F.run X.A X.stack s H ⟨us,[]⟩ (us++ds) (vs++dvs) Q E hr I.env0 (hb s us I.kIn hl) r2 h) fun r s' hq=>?_)
 cases r with
 | error e=>exact hx pins σ H s e s' I hq
 | ok fl=>
   cases fl with
   | ret u=>exact I.after hq
   | next=>exact False.elim hq
   | brk=>exact False.elim hq
   | cont=>exact False.elim hq
theorem pe_call (F:FnOk X.prog X.w X.K X.mg X.base CX k f fd ps sp) (hr:Room k X.A) (hg:Gl X x) (hm:X.mg x=some (.ref f)) (hk:PySem.W.keepIn X.K (.ref f)=true) (hb:Binds X.K fd ps ds) (hd:Vals dvs ds) (hx:Passes CX X E)
 (ha:PA X (e::es) t) (hdb:(x == ("__debug__" : Str))=false:=by decide) (he:starEach (e::es) X.env=(false,eval e X.env)::starEach es X.env:=by rfl) (hpl:(backTo pos (starEach es X.env)).any (·.1)=false:=by rfl) :
 PE X (.Call (.Name x p) (e::es) [] pos) (tCall sp dvs E t):=by
 intro pins s σ H Q I h
 refine wpAny_Call_Name_kw (ld_glob I hg hm ?_ hdb)
 refine PySem.W.callWith_K (h₀:=X.base) I.ok.mod.kin hk (thn (ha pos pins s σ H _ I h) fun us s1 ⟨vs,H1,I1,r,q⟩=>⟨I1.kIn,?_⟩) he hpl
 exact run_fn F hr hb hd hx I1 r q
end
structure FnScope (N P:List Str) (sc:Scope):Prop where
 kind:sc.kind=.function
 co:sc.isCoroutine=false
 gen:sc.isGenerator=false
 nd:N.Nodup
 pre:N.take P.length=P
 par:∀ x∈P,sc.names.lookup x=some .local∨sc.names.lookup x=some .cell
 nofree:∀ y∈sc.names,y.2≠.free
theorem bindL_out {kindOf:Str→Option NameKind} {x:Str}:∀ {binds:List (Str×Value)} {m:Str→Option Value},(∀ v,(x,v)∉binds)→bindL kindOf binds m x=m x
 | [],_,_=>rfl
 | (n,v)::r,m,h=>by
   unfold bindL
   rw [bindL_out fun w hw=>h w (List.mem_cons_of_mem _ hw)]
   split
   · have:x≠n:=by rintro rfl;exact h v List.mem_cons_self
     simp [this]
   · rfl
theorem bindC_out {kindOf:Str→Option NameKind} {x:Str}:∀ {binds:List (Str×Value)} {m:Str→Option Value},(∀ v,(x,v)∉binds)→bindC kindOf binds m x=m x
 | [],_,_=>rfl
 | (n,v)::r,m,h=>by
   unfold bindC
   rw [bindC_out fun w hw=>h w (List.mem_cons_of_mem _ hw)]
   split
   · rfl
   · have:x≠n:=by rintro rfl;exact h v List.mem_cons_self
     simp [this]
theorem bindL_get {kindOf:Str→Option NameKind} {x:Str} {v:Value}:∀ {P:List Str} {vs:List Value} {i:Nat} {m:Str→Option Value},P.Nodup→P[i]? = some x→vs[i]? = some v→kindOf x=some .local →
 bindL kindOf (P.zip vs) m x=some v
 | [],_,_,_,_,h,_,_=>by simp at h
 | _::_,[],_,_,_,_,h,_=>by simp at h
 | p::P,w::vs,0,m,nd,h1,h2,hk=>by
   simp at h1 h2;subst h1;subst h2
   show bindL kindOf ((p,w)::P.zip vs) m p=_
   unfold bindL
   rw [bindL_out fun v hv=>(List.nodup_cons.mp nd).1 (List.of_mem_zip hv).1,if_pos hk]
   simp
 | p::P,w::vs,i+1,m,nd,h1,h2,hk=>by
   show bindL kindOf ((p,w)::P.zip vs) m x=_
   unfold bindL
   exact bindL_get (i:=i) (List.nodup_cons.mp nd).2 (by simpa using h1) (by simpa using h2) hk
theorem bindC_get {kindOf:Str→Option NameKind} {x:Str} {v:Value}:∀ {P:List Str} {vs:List Value} {i:Nat} {m:Str→Option Value},P.Nodup→P[i]? = some x→vs[i]? = some v→kindOf x≠some .local →
 bindC kindOf (P.zip vs) m x=some v
 | [],_,_,_,_,h,_,_=>by simp at h
 | _::_,[],_,_,_,_,h,_=>by simp at h
 | p::P,w::vs,0,m,nd,h1,h2,hk=>by
   simp at h1 h2;subst h1;subst h2
   show bindC kindOf ((p,w)::P.zip vs) m p=_
   unfold bindC
   rw [bindC_out fun v hv=>(List.nodup_cons.mp nd).1 (List.of_mem_zip hv).1,if_neg hk]
   simp
 | p::P,w::vs,i+1,m,nd,h1,h2,hk=>by
   show bindC kindOf ((p,w)::P.zip vs) m x=_
   unfold bindC
   exact bindC_get (i:=i) (List.nodup_cons.mp nd).2 (by simpa using h1) (by simpa using h2) hk
def start (N:List Str) (vs:List V):St:=vs.map some++List.replicate (N.length - vs.length) none
def cxOf (CX:CXT) (P:Program) (w:World) (K:PySem.W.Frag) (mg:Str→Option Value) (base:Heap) (N:List Str) (qual:Str) (scope:Scope) (f:Addr) (cd:Value) (A:Around) (outer:List Env) (s:Shared) (H:Hp) (E:XK):Cx where
 prog:=P
 w:=w
 K:=K
 mg:=mg
 base:=base
 A:=A.deeper (envOfC qual scope s.heap.objs.size f cd)
 N:=N
 s₀:=s
 H₀:=H
 env:=envOfC qual scope s.heap.objs.size f cd
 outer:=outer
 stack:=envOfC qual scope s.heap.objs.size f cd::outer
 ex:=[]
 calm:=true
 fn:=fun _=>true
 pn:=[]
 xe:=fun e s'=>wpAny (model P w) (A.deeper (envOfC qual scope s.heap.objs.size f cd)) (leaving (envOfC qual scope s.heap.objs.size f cd) e) (fun _ s''=>CX outer H s E e s'') (fun e' s''=>CX outer H s E e' s'') s'
theorem cell_has {sc:Scope} {n:Nat} {x:Str} (h:sc.names.lookup x=some .cell):∃ c,(cellsFrom n sc.names []).lookup x=some c:=by
 have q:=PySem.W.cellsFrom_some sc.names n [] (.inl h)
 exact Option.isSome_iff_exists.mp q
theorem inv_start {CX:CXT} {P:Program} {w:World} {K:PySem.W.Frag} {mg:Str→Option Value} {base:Heap} {N ps:List Str} {qual:Str} {scope:Scope} {f:Addr} {cd:Value} {A:Around} {outer:List Env} {s s1:Shared} {H:Hp} {E:XK} {us:List Value} {vs:List V}
 (S:FnScope N ps scope) (hd:A.handled=none) (e0:Env0 P w K mg base A outer s H) (hl:vs.length=ps.length) (r:Vals vs us)
 (x:InCallC s s.heap.objs.size (bindL (envOfC qual scope s.heap.objs.size f cd).kindOf (ps.zip us) fun _=>none) (cellsFrom (s.heap.objs.size+1) scope.names []) (bindC (envOfC qual scope s.heap.objs.size f cd).kindOf (ps.zip us) fun _=>none) s1) :
 Inv (cxOf CX P w K mg base N qual scope f cd A outer s H E) [] (start N vs) H s1:=by
 have hpl:ps.length≤N.length:=by have:=congrArg List.length S.pre;rw [List.length_take] at this;omega
 obtain ⟨h1,tk,rfl,hk⟩:=x.done
 have noA:∀ b:Addr,b∉(cxOf CX P w K mg base N qual scope f cd A outer s H E).ex:=fun b z=>absurd (show b∈([]:List Addr) from z) (by simp)
 refine ⟨⟨e0.mod,S.kind,rfl,rfl,Nat.le_refl _,fun y z c h1 h2=>?_,fun y hy=>?_,fun y c _ h=>?_,fun _=>hd,Around.frames_deeper e0.frames,.inr ⟨rfl,rfl⟩,fun b z=>absurd z (noA b),e0.bs,e0.bsz,fun b _ _=>noA b,fun b z=>absurd z (noA b),e0.funs,e0.frf⟩,
  rfl,e0.bare,Un.kept hk,⟨_,x.toInCall.ns,fun i y v h1 h2 h3=>?_⟩,fun y c h=>⟨_,x.cell y c h⟩,e0.hok.fresh (Nat.le_refl _),fun y c h=>?_,fun p hp=>absurd (show p∈([]:List (Addr×Obj)) from hp) (by simp),e0.hok.kept hk,?_⟩
 · exact name_of_addr x.apart (PySem.mem_of_lookup h1) (PySem.mem_of_lookup h2)
 · have hy:scope.names.lookup y=some .cell∨scope.names.lookup y=some .free:=hy
   rcases hy with hy | hy
   · exact cell_has hy
   · exact absurd rfl (S.nofree _ (PySem.mem_of_lookup hy))
 · exact Nat.le_of_lt (x.above y c (PySem.mem_of_lookup h))
 · have hi:i<vs.length:=by
    unfold start at h2
    by_cases hi:i<vs.length
    · exact hi
    · rw [List.getElem?_append_right (by simpa using hi)] at h2
      rw [List.getElem?_replicate] at h2
      split at h2 <;> cases h2
   have ha:vs[i]? = some v:=by
    unfold start at h2
    rw [List.getElem?_append_left (by simpa using hi),List.getElem?_map] at h2
    cases e:vs[i]? with
    | none=>rw [e] at h2;cases h2
    | some a=>rw [e] at h2;cases h2;rfl
   obtain ⟨u,hu,rv⟩:=r.get ha
   have hp:ps[i]? = some y:=by
    rw [← S.pre,List.getElem?_take_of_lt (by omega)];exact h1
   have ndP:ps.Nodup:=by rw [← S.pre];exact S.nd.sublist (List.take_sublist _ _)
   refine ⟨u,rv,?_⟩
   rcases S.par y (List.mem_of_getElem? hp) with k | k
   · exact .inl ⟨k,bindL_get ndP hp hu k⟩
   · obtain ⟨c,e⟩:=cell_has (n:=s.heap.objs.size+1) k
     refine .inr ⟨.inl k,c,e,?_⟩
     have q:=x.cell y c e
     rw [bindC_get ndP hp hu (by show scope.names.lookup y≠_;rw [k];decide)] at q
     exact q
 · exact e0.hok.fresh (Nat.le_of_lt (x.above y c (PySem.mem_of_lookup h)))
 · unfold start
   show _=N.length
   rw [List.length_append,List.length_map,List.length_replicate]
   omega
theorem fn_of {CX:CXT} {P:Program} {w:World} {K:PySem.W.Frag} {mg:Str→Option Value} {base:Heap} {k:Nat} {f:Addr} {name qual:Str} {params:Arguments} {body:List Stmt} {scope:Scope} {dV kV doc pm cdv ct oc:Value} {an od:Option Addr}
 {osl:Array (Option Value)} {N ps:List Str} {sp:Sp} (lk:K.lookup f=some ⟨oc,od,.func (PySem.W.fnOf name qual params body scope dV kV doc pm an cdv ct),osl⟩) (hcd:PySem.W.codeIn K cdv qual=true) (S:FnScope N ps scope)
 (len:∀ vs H Q E,sp vs H Q E→vs.length=ps.length)
 (hbody:∀ (A:Around) (outer:List Env) (s:Shared) (H:Hp) (vs:List V) (Q:VK) (E:XK),Room k (A.deeper (envOfC qual scope s.heap.objs.size f cdv))→sp vs H Q E →
   ∃ t,PSs (cxOf CX P w K mg base N qual scope f cdv A outer s H E) body t∧t { nx:=fun _ H'=>Q .non H',rt:=Q } (start N vs) H) :
 FnOk P w K mg base CX (k+1) f (PySem.W.fnOf name qual params body scope dV kV doc pm an cdv ct) ps sp:=by
 refine ⟨len,fun A outer s H args us vs Q E hr e0 hb r hsp=>?_⟩
 have hl:=len _ _ _ _ hsp
 have KX:K.In s.heap:=e0.mod.kin.keeps fun b o e=>(e0.bs b o e).1
 have lim:s.heap.NoLimit:=e0.mod.nolimit.keeps fun b o e=>(e0.bs b o e).1
 have hkind:∀ y∈ps.zip us,scope.names.lookup y.1=some .local∨(scope.names.lookup y.1=some .cell∧((cellsFrom (s.heap.objs.size+1) scope.names []).lookup y.1).isSome=true):=fun ⟨n,v⟩ hy=>by
  rcases S.par n (List.of_mem_zip hy).1 with q | q
  · exact .inl q
  · exact .inr ⟨q,PySem.W.cellsFrom_some _ _ _ (.inl q)⟩
 refine codeAny_call_function hr.depth (KX _ _ lk) rfl S.co S.gen rfl (PySem.W.codeRec_of KX hcd) (hb _ _ _ _ ?_)
 refine wpAny_newFunctionEnv_cells S.kind hkind fun env he s1 x=>?_
 subst he
 refine ⟨lim.keeps x.toInCall.keep,codeAny_func ?_⟩
 obtain ⟨t,ht,hq⟩:=hbody A outer s H vs Q E (hr.deeper _) hsp
 have I:Inv (cxOf CX P w K mg base N qual scope f cdv A outer s H E) [] (start N vs) H s1:=inv_start S hr.hd e0 hl r x
 refine wpAny_mono (ht [] s1 (start N vs) H _ I hq) (fun fl s' hs=>?_) fun e s' hs=>hs
 have fin:∀ {σ':St} {H':Hp} {v:V} {u:Value},Inv (cxOf CX P w K mg base N qual scope f cdv A outer s H E) [] σ' H' s'→RelV v u→Q v H'→CE outer P w H s Q u s':=
  fun {σ' H' v u} J rv q=>⟨v,H',J.os,J.bare,J.base,J.hok,rv,q⟩
 cases fl with
 | ret u=>
   obtain ⟨v,σ',H',J,rv,q⟩:=hs
   exact fin J rv q
 | next=>
   obtain ⟨σ',H',J,q⟩:=hs
   exact fin (v:=V.non) (u:=Value.none) J rfl q
 | brk=>
   obtain ⟨_,_,_,q⟩:=hs
   exact False.elim q
 | cont=>
   obtain ⟨_,_,_,q⟩:=hs
   exact False.elim q
section
variable {X:Cx} {x:Str} {p pos:Pos} {e:Expr} {es:List Expr} {t:TA} {id T:String} {r:List V→Hp→VK→Prop}
def tCB (r:List V→Hp→VK→Prop) (t:TA):TE:=fun σ H Q=>t σ H fun vs H1=>r vs H1 Q
theorem pe_callB (hc:CallR X (.builtin id) r) (hg:Gl X x) (hm:X.mg x=none) (hv:bootBuiltins x=some (.builtin id)) (ha:PA X (e::es) t) (hn:x≠"__name__":=by decide) (hdb:(x == ("__debug__" : Str))=false:=by decide)
 (he:starEach (e::es) X.env=(false,eval e X.env)::starEach es X.env:=by rfl) (hpl:(backTo pos (starEach es X.env)).any (·.1)=false:=by rfl):PE X (.Call (.Name x p) (e::es) [] pos) (tCB r t):=by
 intro pins s σ H Q I h
 refine wpAny_Call_Name_kw (ld_blt I hg hm hv ?_ hn hdb)
 exact PyProof.Rows.callWith_builtin1 (thn (ha pos pins s σ H _ I h) fun us s1 ⟨vs,H1,I1,r1,q1⟩=>hc pins s1 σ H1 vs us Q I1 r1 q1) he hpl
theorem pe_callTy (hc:CallR X (.type T) r) (hg:Gl X x) (hm:X.mg x=none) (hv:bootBuiltins x=some (.type T)) (ha:PA X (e::es) t) (hn:x≠"__name__":=by decide) (hdb:(x == ("__debug__" : Str))=false:=by decide)
 (he:starEach (e::es) X.env=(false,eval e X.env)::starEach es X.env:=by rfl) (hpl:(backTo pos (starEach es X.env)).any (·.1)=false:=by rfl):PE X (.Call (.Name x p) (e::es) [] pos) (tCB r t):=by
 intro pins s σ H Q I h
 refine wpAny_Call_Name_kw (ld_blt I hg hm hv ?_ hn hdb)
 exact PyProof.Rows.callWith_type1 (thn (ha pos pins s σ H _ I h) fun us s1 ⟨vs,H1,I1,r1,q1⟩=>hc pins s1 σ H1 vs us Q I1 r1 q1) he hpl
end
end L2
namespace HT
open PySem PyProof.Rows
section
variable {prog:Program} {w:World} {A:Around} {E:Value→Shared→Prop} {s:Shared}
theorem cat_tup {t b:Addr} {vs ws:List Value} {Q:Value→Shared→Prop} (ht:IsTup s.heap t vs.toArray) (hb:IsTup s.heap b ws.toArray) (hv:vs≠[])
 (h1:ws=[]→Q (.ref t) s) (h2:ws≠[]→Q (.ref s.heap.objs.size) { s with heap:=s.heap.push { cls:=.type "tuple",data:=.seq (vs++ws).toArray } })
 (hsz:vs.length+ws.length≤sizeLine):wpAny (model prog w) A (binaryOp .Add (.ref t) (.ref b)) Q E s:=by
 obtain ⟨⟨cls,dd,data,sl⟩,ho,hc,n,hd⟩:=id ht
 obtain ⟨⟨cls2,dd2,data2,sl2⟩,ho2,hc2,n2,hd2⟩:=id hb
 simp only at hc hd hc2 hd2
 subst hc hd hc2 hd2
 have e:vs.toArray++ws.toArray=(vs++ws).toArray:=by simp
 by_cases hw:ws=[]
 · exact concat_meets ⟨_,ho,rfl⟩ ⟨_,ho2,rfl⟩ noFill_tuple_add seq_tuple_add PySem.F.slot_tuple_add PySem.F.entry_tuple_add (PySem.F.args_tuple_add_2 _ _)
    (tuple_addW1 t b vs.toArray ws.toArray n n2 dd dd2 sl sl2 (by simpa using hv) (by simp [hw])) ⟨ho,ho2,h1 hw⟩
 · refine concat_meets ⟨_,ho,rfl⟩ ⟨_,ho2,rfl⟩ noFill_tuple_add seq_tuple_add PySem.F.slot_tuple_add PySem.F.entry_tuple_add (PySem.F.args_tuple_add_2 _ _)
    (tuple_addW2 t b vs.toArray ws.toArray n n2 dd dd2 sl sl2 (by simpa using hv) (by simpa using hw) (by rw [List.size_toArray,List.size_toArray];exact hsz)) ⟨ho,ho2,?_⟩
   rw [e]
   exact h2 hw
def sIx (n d:Nat):Option Int→Nat
 | none=>d
 | some v=>if v<0 then (v+(n:Int)).toNat else min v.toNat n
theorem sIx_none (n d:Nat):sIx n d none=d:=rfl
theorem sIx_nat (n d k:Nat):sIx n d (some (k:Int))=min k n:=by
 show (if (k:Int)<0 then ((k:Int)+(n:Int)).toNat else min (k:Int).toNat n)=min k n
 rw [if_neg (by omega),Int.toNat_natCast]
theorem sIx_le (n d:Nat) (hd:d≤n) (o:Option Int):sIx n d o≤n:=by
 cases o with
 | none=>exact hd
 | some v=>
   show (if v<0 then (v+(n:Int)).toNat else min v.toNat n)≤n
   by_cases hv:v<0
   · rw [if_pos hv];omega
   · rw [if_neg hv];exact Nat.min_le_right _ _
theorem clip_eq (v:Int) (n d:Nat):(if v<0 then max (v+(n:Int)) 0 else min v (n:Int))=((sIx n d (some v):Nat):Int):=by
 show (if v<0 then max (v+(n:Int)) 0 else min v (n:Int))=(((if v<0 then (v+(n:Int)).toNat else min v.toNat n):Nat):Int)
 by_cases hv:v<0
 · simp only [if_pos hv];omega
 · simp only [if_neg hv];omega
theorem adjust_gen (lo hi:Option Int) (n:Nat):Builtin.Slice.sliceAdjust lo hi 1 (n:Int)=(((sIx n 0 lo:Nat):Int),((sIx n n hi:Nat):Int)):=by
 have h1:¬ ((1:Int)<0):=by omega
 unfold Builtin.Slice.sliceAdjust
 simp only [h1,if_false]
 refine Prod.ext ?_ ?_
 · cases lo with
   | none=>rfl
   | some v=>exact clip_eq v n 0
 · cases hi with
   | none=>rfl
   | some v=>exact clip_eq v n n
theorem places_gen (i j:Nat):Builtin.Slice.slicePlaces (i:Int) (j:Int) 1=j - i:=by
 unfold Builtin.Slice.slicePlaces
 have h1:(1:Int) > 0:=by omega
 simp only [h1,if_true,Int.ediv_one]
 split <;> omega
theorem slicePart_ {v:Value} {o:Option Int} {Q:Option Int→Shared→Prop} (p:IsPart v o) (h:Q o s):wpAny (model prog w) A (Builtin.Slice.slicePartIndex v) Q E s:=by
 cases p with
 | none=>exact slicePart_none h
 | int i t=>exact slicePart_int h
theorem sliceApplied_gen {sl:Addr} {vl vu:Value} {lo hi:Option Int} {n:Nat} {Q:Int×Int×Nat→Shared→Prop} (hs:s.heap.IsSliceOf sl vl vu .none) (pl:IsPart vl lo) (pu:IsPart vu hi)
 (h:Q (((sIx n 0 lo:Nat):Int),1,sIx n n hi - sIx n 0 lo) s):wpAny (model prog w) A (Builtin.Slice.sliceApplied (.ref sl) (pure (n:Int))) Q E s:=by
 obtain ⟨os,hos,hcs,hds⟩:=id hs
 unfold Builtin.Slice.sliceApplied Builtin.Slice.sliceFields
 refine wpAny_bind (wpAny_bind (wpAny_field hos hds (x:=vl) rfl (wpAny_bind (wpAny_field hos hds (x:=vu) rfl (wpAny_bind (wpAny_field hos hds (x:=.none) rfl (wpAny_pure ?_)))))))
 refine wpAny_bind (slicePart_none ?_)
 show wpAny _ _ (if ((1:Int) == 0)=true then _ else _) _ _ s
 rw [if_neg (by decide)]
 refine wpAny_bind (slicePart_ pl (wpAny_bind (slicePart_ pu (wpAny_bind (wpAny_pure ?_)))))
 show wpAny _ _ (match Builtin.Slice.sliceAdjust lo hi 1 (n:Int) with | (lo,hi)=>pure (lo,(1:Int),Builtin.Slice.slicePlaces lo hi 1)) _ _ s
 rw [adjust_gen lo hi n]
 show wpAny _ _ (pure (((sIx n 0 lo:Nat):Int),(1:Int),Builtin.Slice.slicePlaces ((sIx n 0 lo:Nat):Int) ((sIx n n hi:Nat):Int) 1)) _ _ s
 rw [places_gen]
 exact wpAny_pure h
theorem pick_gen (xs:Array Value) (i k:Nat):((List.range k).filterMap fun (m:Nat)=>xs[((i:Int)+(m:Int)*1).toNat]?).toArray=((xs.toList.drop i).take k).toArray:=by
 have e:(fun (m:Nat)=>xs[((i:Int)+(m:Int)*1).toNat]?)=fun m=>xs[i+m]?:=by
  funext m
  have:((i:Int)+(m:Int)*1).toNat=i+m:=by omega
  rw [this]
 rw [e]
 have:=pick_run xs i k
 rw [List.filterMap_map] at this
 have e2:((fun x=>xs[x]?) ∘ fun x=>i+x)=fun m=>xs[i+m]?:=rfl
 rw [e2] at this
 rw [this]
theorem getItem_tuple_cut {t sl:Addr} {items:Array Value} {vl vu:Value} {lo hi:Option Int} {Q:Value→Shared→Prop} (ht:IsTup s.heap t items) (hs:s.heap.IsSliceOf sl vl vu .none) (pl:IsPart vl lo) (pu:IsPart vu hi)
 (hw:¬ (sIx items.size 0 lo=0∧sIx items.size items.size hi=items.size))
 (h:Q (.ref s.heap.objs.size) { s with heap:=s.heap.push { cls:=.type "tuple",data:=.seq ((items.toList.drop (sIx items.size 0 lo)).take (sIx items.size items.size hi - sIx items.size 0 lo)).toArray } })
 (hsz:items.size≤sizeLine):wpAny (model prog w) A (getItem (.ref t) (.ref sl)) Q E s:=by
 have htake:sizeOk (.seq ((items.toList.drop (sIx items.size 0 lo)).take (sIx items.size items.size hi - sIx items.size 0 lo)).toArray):=by
  show ((items.toList.drop (sIx items.size 0 lo)).take (sIx items.size items.size hi - sIx items.size 0 lo)).toArray.size≤sizeLine
  rw [List.size_toArray,List.length_take,List.length_drop,Array.length_toList]
  omega
 have hj:sIx items.size items.size hi≤items.size:=sIx_le _ _ (Nat.le_refl _) hi
 obtain ⟨os,hos,hcs,hds⟩:=id hs
 have hTs:s.TypeIs (.ref sl) "slice":=⟨os,hos,hcs⟩
 unfold getItem
 try with_reducible refine wpAny_holding ?_
 first | refine wpAny_bind (wpAny_pure ?_) | skip
 refine wpAny_bind (wpAny_sequenceKey ht.typeIs (by decide) ?_)
 refine wpAny_bind (wpAny_callSpecial?_slot (name:=Str.ofString "__getitem__") ht.typeIs PyProof.Rows.slot_tuple_getitem
  (wpAny_call_entry PyProof.Rows.slot_tuple_getitem ht.typeIs entry_tuple_getitem ?_ (args_tuple_getitem _ _)))
 show wpAny _ _ (Builtin.Tuple.tupleItemsOf (.ref t) >>= _) _ _ s
 refine wpAny_bind (tupleItemsOf_ ht ?_)
 refine wpAny_bind (wpAny_typeOf hTs ?_)
 rw [if_pos (by decide)]
 refine wpAny_bind (sliceApplied_gen hs pl pu ?_)
 have hno:¬ ((((sIx items.size 0 lo:Nat):Int) == 0&&(1:Int) == 1&&(sIx items.size items.size hi - sIx items.size 0 lo) == items.size)=true):=by
  intro q
  rw [Bool.and_eq_true,Bool.and_eq_true] at q
  have q1:((sIx items.size 0 lo:Nat):Int)=0:=eq_of_beq q.1.1
  have q2:sIx items.size items.size hi - sIx items.size 0 lo=items.size:=eq_of_beq q.2
  exact hw ⟨by omega,by omega⟩
 show wpAny _ _ (if (((sIx items.size 0 lo:Nat):Int) == 0&&(1:Int) == 1&&(sIx items.size items.size hi - sIx items.size 0 lo) == items.size)=true then _ else _) _ _ s
 rw [if_neg hno,pick_gen]
 first
  | exact wpAny_bind (m:=Builtin.Tuple.tupleExact _) (wpAny_newObj_type (wpAny_pure ⟨_,rfl,wpAny_pure h⟩) htake)
  | exact wpAny_bind (m:=Builtin.Tuple.tupleExact _) (wpAny_newObj_type (wpAny_bind (wpAny_pure (wpAny_pure ⟨_,rfl,wpAny_pure h⟩))) htake)
  | exact wpAny_bind (wpAny_bind (m:=Builtin.Tuple.tupleExact _) (wpAny_newObj_type (wpAny_pure (wpAny_pure ⟨_,rfl,wpAny_pure h⟩)) htake))
  | exact wpAny_bind (wpAny_bind (m:=Builtin.Tuple.tupleExact _) (wpAny_newObj_type (wpAny_pure ⟨_,rfl,wpAny_pure h⟩) htake))
end
end HT
namespace L2
open PySem PySem.Spec PyProof.Rows
abbrev TO:=St→Hp→(Option Int→Hp→Prop)→Prop
def PO (X:Cx) (e:Option Expr) (t:TO):Prop:=
 ∀ (pins:List (Addr×Obj)) (s:Shared) (σ:St) (H:Hp) (Q:Option Int→Hp→Prop),Inv X pins σ H s→t σ H Q →
   wpAny (model X.prog X.w) X.A (evalPart e X.env) (fun u s'=>∃ o H',Inv X pins σ H' s'∧IsPart u o∧Q o H') X.xe s
@[irreducible] def ZO (X:Cx) (e:Option Expr) (t:TO):Prop:=PO X e t
def tNoPart:TO:=fun _ H Q=>Q none H
def tPart (t:TE):TO:=fun σ H Q=>t σ H fun x H1=>∃ i,x=.int i∧Q (some i) H1
theorem intsAre_of {ns:List Int}:∀ {us:List Value},Vals (ns.map V.int) us→IntsAre us ns:=by
 induction ns with
 | nil=>intro us r;rw [List.map_nil] at r;cases r;exact .nil
 | cons n ns ih=>
   intro us r
   rw [List.map_cons] at r
   cases r with
   | cons r1 r2=>
     obtain ⟨t,e⟩:=r1
     subst e
     exact .cons n t (ih r2)
section
variable {X:Cx} {e:Expr} {te:TE} {lo hi:Option Expr} {tl th:TO} {pos p2:Pos}
theorem po_none:PO X none tNoPart:=by
 intro pins s σ H Q I h
 rw [evalPart_none]
 exact wpAny_pure ⟨none,H,I,.none,h⟩
theorem zo_none:ZO X none tNoPart:=by with_unfolding_all exact po_none
theorem po_some (h:PE X e te):PO X (some e) (tPart te):=by
 intro pins s σ H Q I hw
 rw [evalPart_some]
 refine thn (h pins s σ H _ I hw) fun u s1 ⟨x,H1,I1,r1,q1⟩=>?_
 obtain ⟨i,rfl,q⟩:=q1
 obtain ⟨t,rfl⟩:=r1
 exact ⟨some i,H1,I1,.int i t,q⟩
theorem zo_some (h:ZE X e te):ZO X (some e) (tPart te):=by with_unfolding_all exact po_some h
def SlR (X:Cx) (r:V→Option Int→Option Int→Hp→VK→Prop):Prop:=
 ∀ (pins:List (Addr×Obj)) (s:Shared) (σ:St) (H:Hp) (x:V) (v vl vu:Value) (lo hi:Option Int) (sl:Addr) (Q:VK),Inv X pins σ H s→RelV x v→s.heap.IsSliceOf sl vl vu .none→IsPart vl lo→IsPart vu hi→r x lo hi H Q →
   ∃ T id,typeLookup (.type T) "__getitem__" = pure (some (.builtin id))∧s.TypeIs v T∧wpAny (model X.prog X.w) X.A (getItem v (.ref sl)) (EP X pins σ Q) X.xe s
def tSl (r:V→Option Int→Option Int→Hp→VK→Prop) (te:TE) (tl th:TO):TE:=fun σ H Q=>te σ H fun x H1=>tl σ H1 fun l H2=>th σ H2 fun u H3=>r x l u H3 Q
theorem pe_slice {r:V→Option Int→Option Int→Hp→VK→Prop} (hr:SlR X r) (he:PE X e te) (hl:PO X lo tl) (hu:PO X hi th):PE X (.Subscript e (.Slice lo hi none p2) pos) (tSl r te tl th):=by
 intro pins s σ H Q I h
 refine Subscript_ (thn (he pins s σ H _ I h) fun v s1 ⟨x,H1,I1,r1,q1⟩=>?_)
 refine wpAny_Slice (thn (hl pins s1 σ H1 _ I1 q1) fun vl s2 ⟨l,H2,I2,pl,q2⟩=>thn (hu pins s2 σ H2 _ I2 q2) fun vu s3 ⟨u,H3,I3,pu,q3⟩=>?_)
 rw [evalPart_none]
 refine wpAny_pure ?_
 have I4:Inv X pins σ H3 { s3 with heap:=s3.heap.push { cls:=.type "slice",data:=.fields #[vl,vu,.none] } }:=I3.kept (t':=s3.toks) fun b ob q=>Heap.get?_push_of_some _ q
 obtain ⟨T,id,hT,ht,hg⟩:=hr pins { s3 with heap:=s3.heap.push { cls:=.type "slice",data:=.fields #[vl,vu,.none] } } σ H3 x v vl vu l u s3.heap.objs.size Q I4 r1 (Heap.IsSliceOf.new ..) pl pu q3
 show wpAny (model X.prog X.w) X.A (subscriptTail e (.Slice lo hi none p2) v (.ref s3.heap.objs.size)) (EP X pins σ Q) X.xe { s3 with heap:=s3.heap.push { cls:=.type "slice",data:=.fields #[vl,vu,.none] } }
 exact tail_any (ops:=[.ref s3.heap.objs.size,v]) ht hT hg (by with_unfolding_all rfl)
theorem ze_slice {r:V→Option Int→Option Int→Hp→VK→Prop} (hr:SlR X r) (he:ZE X e te) (hl:ZO X lo tl) (hu:ZO X hi th):ZE X (.Subscript e (.Slice lo hi none p2) pos) (tSl r te tl th):=by with_unfolding_all exact pe_slice hr he hl hu
def cutV (xs:List V) (lo hi:Option Int):List V:=(xs.drop (HT.sIx xs.length 0 lo)).take (HT.sIx xs.length xs.length hi - HT.sIx xs.length 0 lo)
theorem cutV_length (xs:List V) (lo hi:Option Int):(cutV xs lo hi).length≤xs.length:=by
 unfold cutV
 rw [List.length_take,List.length_drop]
 omega
def rSlT (K:PySem.W.Frag):V→Option Int→Option Int→Hp→VK→Prop:=fun x lo hi H Q=>∃ a xs,x=.ref a∧SqT K H a xs ∧
 ¬ (HT.sIx xs.length 0 lo=0∧HT.sIx xs.length xs.length hi=xs.length)∧∀ p,H p=none→Q (.ref p) (upd H p (.tup (cutV xs lo hi)))
theorem sl_tup:SlR X (rSlT X.K):=by
 intro pins s σ H x v vl vu lo hi sl Q I rx hs pl pu h
 obtain ⟨a,xs,rfl,hx,hw,q⟩:=h
 cases rx
 obtain ⟨its,r,ht,hz⟩:=I.tuple hx
 have hlen:its.toArray.size=xs.length:=by rw [List.size_toArray];exact r.length.symm
 refine ⟨"tuple",_,PyProof.Rows.slot_tuple_getitem.lookup,ht.typeIs,?_⟩
 refine HT.getItem_tuple_cut ht hs pl pu (by rw [hlen];exact hw) ?_ (by rw [hlen];exact hz)
 rw [hlen]
 refine ⟨.ref s.heap.objs.size,_,I.laid (t':=s.toks) (o:=.tup (cutV xs lo hi)) (fun b ob q=>Heap.get?_push_of_some _ q) (Nat.le_refl _) ?_,rfl,q _ (I.hok.fresh (Nat.le_refl _))⟩
 exact ⟨Nat.le_trans (cutV_length xs lo hi) hz,_,(r.drop (HT.sIx xs.length 0 lo)).take (HT.sIx xs.length xs.length hi - HT.sIx xs.length 0 lo),TupD.new _ _⟩
def rCatT (K:PySem.W.Frag):R2:=fun x y H Q=>∃ a b xs ys,x=.ref a∧y=.ref b∧SqT K H a xs∧SqT K H b ys∧xs≠[]∧xs.length+ys.length≤sizeLine ∧
 (ys=[]→Q (.ref a) H)∧(ys≠[]→∀ p,H p=none→Q (.ref p) (upd H p (.tup (xs++ys))))
theorem Vals.nil_iff {xs:List V} {us:List Value} (r:Vals xs us):us=[]↔xs=[]:=by
 cases r with
 | nil=>simp
 | cons _ _=>simp
theorem op_catT:OpR X (binaryOp .Add) (rCatT X.K):=by
 intro pins s σ H x y v u Q I rx ry h
 obtain ⟨a,b,xs,ys,rfl,rfl,ha,hb,hx,hz,q1,q2⟩:=h
 cases rx
 cases ry
 obtain ⟨its,r1,p1,_⟩:=I.tuple ha
 obtain ⟨its2,r2,p2,_⟩:=I.tuple hb
 refine HT.cat_tup p1 p2 (fun z=>hx (r1.nil_iff.mp z)) (fun z=>⟨.ref a,H,I,rfl,q1 (r2.nil_iff.mp z)⟩) (fun z=>?_) (by rw [← r1.length,← r2.length];exact hz)
 refine ⟨.ref s.heap.objs.size,_,I.laid (t':=s.toks) (o:=.tup (xs++ys)) (fun b ob q=>Heap.get?_push_of_some _ q) (Nat.le_refl _) ?_,rfl,q2 (fun w=>z (r2.nil_iff.mpr w)) _ (I.hok.fresh (Nat.le_refl _))⟩
 exact ⟨by rw [List.length_append];exact hz,_,r1.append r2,TupD.new _ _⟩
end
def ixN (n:Nat) (i:Int):Option Nat:=if 0≤i then (if i<n then some i.toNat else none) else if -(n:Int)≤i then some (i+n).toNat else none
def atI {α:Type} (xs:List α) (i:Int):Option α:=(ixN xs.length i).bind fun j=>xs[j]?
theorem ixN_seq {n:Nat} {i:Int} {j:Nat} (h:ixN n i=some j):seqIndex? i n=some j∧j<n∧-(n:Int)≤i∧i<n:=by
 unfold ixN at h
 by_cases h0:0≤i
 · rw [if_pos h0] at h
   by_cases h1:i<n
   · rw [if_pos h1] at h
     have e:i.toNat=j:=Option.some.inj h
     exact ⟨by rw [seqIndex_of h0 h1,e],by omega,by omega,h1⟩
   · rw [if_neg h1] at h;cases h
 · rw [if_neg h0] at h
   by_cases h1:-(n:Int)≤i
   · rw [if_pos h1] at h
     have e:(i+n).toNat=j:=Option.some.inj h
     exact ⟨by rw [seqIndex_neg (by omega) h1,e],by omega,h1,by omega⟩
   · rw [if_neg h1] at h;cases h
theorem atI_get {α:Type} {xs:List α} {i:Int} {v:α} (h:atI xs i=some v):∃ j,seqIndex? i xs.length=some j∧xs[j]? = some v∧j<xs.length∧-(xs.length:Int)≤i∧i<xs.length:=by
 unfold atI at h
 cases e:ixN xs.length i with
 | none=>rw [e] at h;cases h
 | some j=>
   rw [e] at h
   obtain ⟨h1,h2,h3,h4⟩:=ixN_seq e
   exact ⟨j,h1,h,h2,h3,h4⟩
theorem atI_nat {α:Type} {xs:List α} {j:Nat} {v:α} (h:xs[j]? = some v):atI xs (j:Int)=some v:=by
 have hj:j<xs.length:=(List.getElem?_eq_some_iff.mp h).1
 have e:ixN xs.length (j:Int)=some j:=by
  unfold ixN
  rw [if_pos (by omega),if_pos (by omega)];simp
 unfold atI;rw [e];exact h
theorem atI_last {α:Type} (xs:List α) (v:α):atI (xs++[v]) (-1)=some v:=by
 have hl:(xs++[v]).length=xs.length+1:=by simp
 have e:ixN (xs++[v]).length (-1)=some xs.length:=by
  unfold ixN
  rw [hl,if_neg (by decide),if_pos (by omega)]
  congr 1
  omega
 unfold atI
 rw [e]
 show (xs++[v])[xs.length]? = some v
 simp
def PlainIx (b:Expr):Prop:=∀ o i,subscripted b false o i=operate [o,i] (getItem o i)
def IxR (X:Cx) (r:R2):Prop:=
 ∀ (value slice:Expr) (pins:List (Addr×Obj)) (s:Shared) (σ:St) (H:Hp) (x y:V) (v u:Value) (Q:VK),Inv X pins σ H s→RelV x v→RelV y u→r x y H Q →
   subscripted slice false v u=operate [v,u] (getItem v u)→wpAny (model X.prog X.w) X.A (subscriptTail value slice v u) (EP X pins σ Q) X.xe s
def MtR (X:Cx) (id:String) (r:V→List V→Hp→VK→Prop):Prop:=
 ∀ (pins:List (Addr×Obj)) (s:Shared) (σ:St) (H:Hp) (x:V) (xs:List V) (v:Value) (us:List Value) (Q:VK),Inv X pins σ H s→RelV x v→Vals xs us→r x xs H Q →
   wpAny (model X.prog X.w) X.A (call (.builtin id) (v::us)) (EP X pins σ Q) X.xe s
section
variable {X:Cx} {a b:Expr} {ta tb:TE} {pos:Pos}
theorem pe_ix {r:R2} (hr:IxR X r) (ha:PE X a ta) (hb:PE X b tb) (hs:PlainIx b):PE X (.Subscript a b pos) (tOp r ta tb):=by
 intro pins s σ H Q I h
 exact Subscript_ (binT ha hb I h fun v u s2 x y H2 I2 rx ry q=>hr a b pins s2 σ H2 x y v u Q I2 rx ry q (hs _ _))
theorem ze_ix {r:R2} (hr:IxR X r) (ha:ZE X a ta) (hb:ZE X b tb) (hs:PlainIx b):ZE X (.Subscript a b pos) (tOp r ta tb):=by with_unfolding_all exact pe_ix hr ha hb hs
def rIxL (K:PySem.W.Frag):R2:=fun x y H Q=>∃ p xs i v,x=.ref p∧y=.int i∧SqL K H p xs∧atI xs i=some v∧Q v H
def rIxT (K:PySem.W.Frag):R2:=fun x y H Q=>∃ p xs i v,x=.ref p∧y=.int i∧SqT K H p xs∧atI xs i=some v∧Q v H
theorem ix_list:IxR X (rIxL X.K):=by
 intro value slice pins s σ H x y v u Q I rx ry h hs
 obtain ⟨p,xs,i,z,rfl,rfl,hq,he,q⟩:=h
 cases rx
 obtain ⟨t,rfl⟩:=ry
 obtain ⟨its,r,pl,hz⟩:=I.list hq
 obtain ⟨j,h1,h2,h3,h4,h5⟩:=atI_get he
 obtain ⟨w,ew,rw'⟩:=r.get h2
 have hl:=r.length
 have hn:=line63
 have fin:EP X pins σ Q w s:=⟨z,H,I,rw',q⟩
 by_cases h0:0≤i
 · have hj:i.toNat=j:=by
    rw [seqIndex_of h0 h5] at h1
    exact Option.some.inj h1
   exact item_listR pl.isList h0 (by omega) (by rw [hj];simpa using ew) fin hs
 · have hj:(i+(its.toArray.size:Int)).toNat=j:=by
    rw [seqIndex_neg (by omega) h4] at h1
    rw [List.size_toArray,← hl]
    exact Option.some.inj h1
   exact subscriptTail_builtinR (x:=w) pl.isList.typeIs slot_list_getitem.lookup
    (wpAny_getItem_list_neg (Q:=fun r s'=>r=w∧EP X pins σ Q r s') pl.isList (by omega) (by rw [List.size_toArray] <;> omega) (by omega) (by rw [hj];simpa using ew) ⟨rfl,fin⟩) hs
theorem ix_tup:IxR X (rIxT X.K):=by
 intro value slice pins s σ H x y v u Q I rx ry h hs
 obtain ⟨p,xs,i,z,rfl,rfl,hq,he,q⟩:=h
 cases rx
 obtain ⟨t,rfl⟩:=ry
 obtain ⟨its,r,pl,hz⟩:=I.tuple hq
 obtain ⟨j,h1,h2,h3,h4,h5⟩:=atI_get he
 obtain ⟨w,ew,rw'⟩:=r.get h2
 have hl:=r.length
 have hn:=line63
 have fin:EP X pins σ Q w s:=⟨z,H,I,rw',q⟩
 exact subscriptTail_builtinR (x:=w) pl.typeIs slot_tuple_getitem.lookup
  (getItem_tuple (j:=j) (Q:=fun r s'=>r=w∧EP X pins σ Q r s') pl (by omega) (by omega) (by rw [List.size_toArray,← hl];exact h1) (by simpa using ew) ⟨rfl,fin⟩) hs
theorem mapSeq_set (its:List Value) (n j:Nat) (u:Value):Obj.mapSeq (·.setIfInBounds j u) { cls:=.type "list",data:=.seq its.toArray n }={ cls:=.type "list",data:=.seq (its.set j u).toArray n }:=by
 simp [Obj.mapSeq]
theorem Inv.lst {pins:List (Addr×Obj)} {σ:St} {H:Hp} {s:Shared} {p:Addr} {xs:List V} (I:Inv X pins σ H s) (h:H p=some (.lst xs)) :
 ∃ (its:List Value) (n:Nat),Vals xs its∧s.heap.get? p=some { cls:=.type "list",data:=.seq its.toArray n }∧xs.length≤sizeLine:=by
 obtain ⟨z,its,n,r,e⟩:=I.hok p _ h
 exact ⟨its,n,r,e,z⟩
theorem Inv.lstUpd {pins:List (Addr×Obj)} {σ:St} {H:Hp} {s:Shared} {p:Addr} {xs ys:List V} {its its':List Value} {n n':Nat} {f:Obj→Obj} (I:Inv X pins σ H s) (h:H p=some (.lst xs))
 (ho:s.heap.get? p=some { cls:=.type "list",data:=.seq its.toArray n }) (hf:f { cls:=.type "list",data:=.seq its.toArray n }={ cls:=.type "list",data:=.seq its'.toArray n' }) (r:Vals ys its') (hz:ys.length≤sizeLine) (t:Nat) :
 Inv X pins σ (upd H p (.lst ys)) { s with heap:=s.heap.update p f,toks:=t }:=by
 have e:(s.heap.update p f).get? p=some { cls:=.type "list",data:=.seq its'.toArray n' }:=by
  rw [Heap.get?_update_self f ho (by rw [hf] <;> rfl),hf]
 refine I.write (x:=p) (e:=p) (by rw [h];trivial) (.inl rfl) (fun b u hb q=>(Heap.get?_update_other _ _ (Ne.symm hb)).trans q) ⟨_,e⟩ ?_
 exact ⟨hz,its',n',r,e⟩
def rSetL:V→V→V→Hp→(Hp→Prop)→Prop:=fun o i v H Q=>∃ p xs k j,o=.ref p∧i=.int k∧H p=some (.lst xs)∧ixN xs.length k=some j∧Q (upd H p (.lst (xs.set j v)))
theorem set_list:PSet X rSetL:=by
 intro pins s σ H o i v ov iv u Q I ro ri rv h
 obtain ⟨p,xs,k,j,rfl,rfl,hp,hj,q⟩:=h
 cases ro
 obtain ⟨t,rfl⟩:=ri
 obtain ⟨its,n,r,ho,hz⟩:=I.lst hp
 obtain ⟨h1,h2,h3,h4⟩:=ixN_seq hj
 have hl:=r.length
 have hn:=line63
 have I':Inv X pins σ (upd H p (.lst (xs.set j v))) { s with heap:=s.heap.update p (Obj.mapSeq (·.setIfInBounds j u)) }:=
  I.lstUpd hp ho (mapSeq_set its n j u) (r.set rv j) (by rw [List.length_set];exact hz) s.toks
 by_cases h0:0≤k
 · have hk:k.toNat=j:=by
    rw [seqIndex_of h0 h4] at h1
    exact Option.some.inj h1
   exact PySem.W.ki_setAt ho h0 (by omega) (by rw [List.size_toArray,← hl];exact h4) (by rw [hk];exact ⟨_,I',q⟩)
 · have hk:(k+(its.toArray.size:Int)).toNat=j:=by
    rw [seqIndex_neg (by omega) h3] at h1
    rw [List.size_toArray,← hl]
    exact Option.some.inj h1
   exact PySem.W.ki_setBack ho (by omega) (by rw [List.size_toArray,← hl];exact h3) (by omega) (by rw [hk];exact ⟨_,I',q⟩)
theorem slice_bounds (lo hi:Option Int) (n:Nat):(sliceBounds lo hi none n).1=((HT.sIx n 0 lo:Nat):Int)∧(sliceBounds lo hi none n).2.1=((HT.sIx n n hi:Nat):Int)∧(sliceBounds lo hi none n).2.2=1:=by
 refine ⟨?_,?_,rfl⟩
 · cases lo with
   | none=>simp [sliceBounds,HT.sIx]
   | some i=>
     simp only [sliceBounds,HT.sIx,Option.getD_none,show (1:Int) > 0 by decide,if_true]
     by_cases h:i<0
     · simp only [h,if_true] <;> omega
     · simp only [h,if_false] <;> omega
 · cases hi with
   | none=>simp [sliceBounds,HT.sIx]
   | some i=>
     simp only [sliceBounds,HT.sIx,Option.getD_none,show (1:Int) > 0 by decide,if_true]
     by_cases h:i<0
     · simp only [h,if_true] <;> omega
     · simp only [h,if_false] <;> omega
theorem slicePick_cut (its:List Value) (lo hi:Option Int):slicePick its.toArray lo hi none=((its.drop (HT.sIx its.length 0 lo)).take (HT.sIx its.length its.length hi - HT.sIx its.length 0 lo)).toArray:=by
 obtain ⟨h1,h2,h3⟩:=slice_bounds lo hi its.toArray.size
 unfold slicePick
 rw [h1,h2,h3]
 simp only [sliceRange_one,pick_run,List.size_toArray] <;> rfl
def rSlL (K:PySem.W.Frag):V→Option Int→Option Int→Hp→VK→Prop:=fun x lo hi H Q=>∃ a xs,x=.ref a∧SqL K H a xs∧∀ p,H p=none→Q (.ref p) (upd H p (.lst (cutV xs lo hi)))
theorem sl_list:SlR X (rSlL X.K):=by
 intro pins s σ H x v vl vu lo hi sl Q I rx hs pl pu h
 obtain ⟨a,xs,rfl,hx,q⟩:=h
 cases rx
 obtain ⟨its,r,ht,hz⟩:=I.list hx
 have hlen:=r.length
 refine ⟨"list",_,slot_list_getitem.lookup,ht.isList.typeIs,?_⟩
 refine wpAny_getItem_list_slice ht.isList hs pl pu .none (by simp) ?_ (by rw [List.size_toArray] <;> omega)
 rw [slicePick_cut,← hlen]
 refine ⟨.ref s.heap.objs.size,_,I.laid (t':=s.toks) (o:=.lst (cutV xs lo hi)) (fun b ob q=>Heap.get?_push_of_some _ q) (Nat.le_refl _) ?_,rfl,q _ (I.hok.fresh (Nat.le_refl _))⟩
 exact ⟨Nat.le_trans (cutV_length xs lo hi) hz,_,0,(r.drop (HT.sIx xs.length 0 lo)).take (HT.sIx xs.length xs.length hi - HT.sIx xs.length 0 lo),Heap.get?_push_size _ rfl⟩
def flatV:V→Bool
 | .non=>true
 | .bl _=>true
 | .int _=>true
 | .str _=>true
 | _=>false
def eqV:V→V→Bool
 | .non,.non=>true
 | .bl a,.bl b=>a == b
 | .bl a,.int b=>(if a then 1 else 0) == b
 | .int a,.bl b=>a == (if b then 1 else 0)
 | .int a,.int b=>a == b
 | .str a,.str b=>a == b
 | _,_=>false
theorem eqAt_V {A:Around} {s:Shared} {y x:V} {u v:Value} (ry:RelV y u) (rx:RelV x v) (fy:flatV y=true) (fx:flatV x=true):SeqAt.EqAt A s u v (eqV y x):=by
 cases y with
 | non=>
   cases ry
   cases x with
   | non=>cases rx;exact SeqAt.EqAt.same _
   | bl b=>cases rx;exact SeqAt.EqAt.none_bool b
   | int b=>obtain ⟨t,rfl⟩:=rx;exact SeqAt.EqAt.none_int b t
   | str b=>obtain ⟨t,rfl⟩:=rx;exact SeqAt.EqAt.none_str b t
   | _=>exact absurd (show false=true from fx) Bool.false_ne_true
 | bl a=>
   cases ry
   cases x with
   | non=>cases rx;exact SeqAt.EqAt.bool_none a
   | bl b=>cases rx;exact SeqAt.EqAt.bool_bool a b
   | int b=>obtain ⟨t,rfl⟩:=rx;exact SeqAt.EqAt.bool_int a b t
   | str b=>obtain ⟨t,rfl⟩:=rx;exact SeqAt.EqAt.bool_str a b t
   | _=>exact absurd (show false=true from fx) Bool.false_ne_true
 | int a=>
   obtain ⟨t',rfl⟩:=ry
   cases x with
   | non=>cases rx;exact SeqAt.EqAt.int_none a t'
   | bl b=>cases rx;exact SeqAt.EqAt.int_bool a t' b
   | int b=>obtain ⟨t,rfl⟩:=rx;exact SeqAt.EqAt.int_int a t' b t
   | str b=>obtain ⟨t,rfl⟩:=rx;exact SeqAt.EqAt.int_str a t' b t
   | _=>exact absurd (show false=true from fx) Bool.false_ne_true
 | str a=>
   obtain ⟨t',rfl⟩:=ry
   cases x with
   | non=>cases rx;exact SeqAt.EqAt.str_none a t'
   | bl b=>cases rx;exact SeqAt.EqAt.str_bool a t' b
   | int b=>obtain ⟨t,rfl⟩:=rx;exact SeqAt.EqAt.str_int a t' b t
   | str b=>obtain ⟨t,rfl⟩:=rx;exact SeqAt.EqAt.str_str a t' b t
   | _=>exact absurd (show false=true from fx) Bool.false_ne_true
 | _=>exact absurd (show false=true from fy) Bool.false_ne_true
def eqU (x:V) (u:Value):Bool:=match u with
 | .none=>eqV .non x
 | .bool b=>eqV (.bl b) x
 | .int i _=>eqV (.int i) x
 | .str z _=>eqV (.str z) x
 | _=>false
theorem eqU_of {x y:V} {u:Value} (r:RelV y u) (f:flatV y=true):eqU x u=eqV y x:=by
 cases y with
 | non=>cases r;rfl
 | bl b=>cases r;rfl
 | int i=>obtain ⟨t,rfl⟩:=r;rfl
 | str z=>obtain ⟨t,rfl⟩:=r;rfl
 | _=>exact absurd (show false=true from f) Bool.false_ne_true
theorem any_eqU {x:V}:∀ {xs:List V} {us:List Value},Vals xs us→xs.all flatV=true→us.any (eqU x)=xs.any fun y=>eqV y x
 | _,_,.nil,_=>rfl
 | y::xs,u::us,.cons r t,f=>by
   rw [List.all_cons,Bool.and_eq_true] at f
   rw [List.any_cons,List.any_cons,eqU_of r f.1,any_eqU t f.2]
theorem mem_eqAt {A:Around} {s:Shared} {x:V} {v:Value} (rx:RelV x v) (fx:flatV x=true):∀ {xs:List V} {us:List Value},Vals xs us→xs.all flatV=true→∀ u∈us,SeqAt.EqAt A s u v (eqU x u)
 | _,_,.nil,_=>fun u hu=>by cases hu
 | y::xs,u::us,.cons r t,f=>fun u' hu=>by
   rw [List.all_cons,Bool.and_eq_true] at f
   rcases List.mem_cons.mp hu with rfl | hu
   · rw [eqU_of r f.1];exact eqAt_V r rx f.1 fx
   · exact mem_eqAt rx fx t f.2 u' hu
def inV (x:V) (xs:List V):Bool:=xs.any fun y=>eqV y x
def rIn (K:PySem.W.Frag) (neg:Bool):R2:=fun x y H Q=>∃ p xs,y=.ref p∧(SqL K H p xs∨SqT K H p xs)∧flatV x=true∧xs.all flatV=true∧Q (.bl (if neg then !inV x xs else inV x xs)) H
theorem op_in_seq:OpR X (compareOp .In) (rIn X.K false):=by
 intro pins s σ H x y v u Q I rx ry h
 obtain ⟨p,xs,rfl,hq,fx,fs,q⟩:=h
 cases ry
 rcases hq with hq | hq
 · obtain ⟨its,r,pl,hz⟩:=I.list hq
   refine SeqAt.in_listAt (eqU x) pl.isList (fun w hw=>mem_eqAt rx fx r fs w (by simpa using hw)) ⟨.bl _,H,I,rfl,?_⟩
   rw [show its.toArray.any (eqU x)=its.any (eqU x) by simp,any_eqU r fs]
   exact q
 · obtain ⟨its,r,pl,hz⟩:=I.tuple hq
   refine SeqAt.in_tupleAt (eqU x) pl (fun w hw=>mem_eqAt rx fx r fs w (by simpa using hw)) ⟨.bl _,H,I,rfl,?_⟩
   rw [show its.toArray.any (eqU x)=its.any (eqU x) by simp,any_eqU r fs]
   exact q
theorem op_notIn_seq:OpR X (compareOp .NotIn) (rIn X.K true):=by
 intro pins s σ H x y v u Q I rx ry h
 obtain ⟨p,xs,rfl,hq,fx,fs,q⟩:=h
 cases ry
 rcases hq with hq | hq
 · obtain ⟨its,r,pl,hz⟩:=I.list hq
   refine SeqAt.notIn_listAt (eqU x) pl.isList (fun w hw=>mem_eqAt rx fx r fs w (by simpa using hw)) ⟨.bl _,H,I,rfl,?_⟩
   rw [show its.toArray.any (eqU x)=its.any (eqU x) by simp,any_eqU r fs]
   exact q
 · obtain ⟨its,r,pl,hz⟩:=I.tuple hq
   refine SeqAt.notIn_tupleAt (eqU x) pl (fun w hw=>mem_eqAt rx fx r fs w (by simpa using hw)) ⟨.bl _,H,I,rfl,?_⟩
   rw [show its.toArray.any (eqU x)=its.any (eqU x) by simp,any_eqU r fs]
   exact q
theorem call_len_seq:CallR X (.builtin "len") (fun xs H Q=>∃ p ys,xs=[.ref p]∧(SqL X.K H p ys∨SqT X.K H p ys)∧Q (.int ys.length) H):=by
 intro pins s σ H xs us Q I r h
 obtain ⟨p,ys,rfl,hq,q⟩:=h
 obtain ⟨u,rfl,rx⟩:=vals1 r
 cases rx
 have hn:=line63
 rcases hq with hq | hq
 · obtain ⟨its,r',pl,hz⟩:=I.list hq
   have hlen:=r'.length
   exact Calls.call_len_list pl.isList (by simp only [List.size_toArray] <;> omega) ⟨.int ys.length,H,I.tok _,⟨s.toks+1,by rw [List.size_toArray,hlen]⟩,q⟩
 · obtain ⟨its,r',pl,hz⟩:=I.tuple hq
   have hlen:=r'.length
   exact len_tuple pl (by simp only [List.size_toArray] <;> omega) ⟨.int ys.length,H,I.tok _,⟨s.toks+1,by rw [List.size_toArray,hlen]⟩,q⟩
theorem call_list_of:CallR X (.type "list") (fun xs H Q=>∃ p ys,xs=[.ref p]∧(SqL X.K H p ys∨SqT X.K H p ys)∧∀ l,H l=none→Q (.ref l) (upd H l (.lst ys))):=by
 intro pins s σ H xs us Q I r h
 obtain ⟨p,ys,rfl,hq,q⟩:=h
 obtain ⟨u,rfl,rx⟩:=vals1 r
 cases rx
 have fin:∀ (its:List Value),Vals ys its→ys.length≤sizeLine→∀ (h':Heap) (c':Nat),(∀ b o',s.heap.get? b=some o'→h'.get? b=some o') →
  h'.get? s.heap.objs.size=some { cls:=.type "list",dict:=none,data:=.seq its.toArray c',slots:=#[] }→EP X pins σ Q (.ref s.heap.objs.size) { s with heap:=h' }:=fun its r' hz h' c' kp e=>
  ⟨.ref s.heap.objs.size,_,I.laid (t':=s.toks) kp (Nat.le_refl _) (show ObjOk X.prog X.w _ h' _ (.lst ys) from ⟨hz,its,c',r',e⟩),rfl,q _ (I.hok.fresh (Nat.le_refl _))⟩
 rcases hq with hq | hq
 · obtain ⟨its,r',pl,hz⟩:=I.list hq
   have hlen:=r'.length
   obtain ⟨o,ho,hc,n,hd⟩:=pl.isList
   exact call_list_seq p (.inl rfl) ho hc hd (fun h' c' kp e=>fin its r' hz h' c' kp e) (by simp only [List.size_toArray] <;> omega)
 · obtain ⟨its,r',pl,hz⟩:=I.tuple hq
   have hlen:=r'.length
   obtain ⟨o,ho,hc,n,hd⟩:=pl
   exact call_list_seq p (.inr rfl) ho hc hd (fun h' c' kp e=>fin its r' hz h' c' kp e) (by simp only [List.size_toArray] <;> omega)
theorem call_tuple_of:CallR X (.type "tuple") (fun xs H Q=>∃ p ys,xs=[.ref p]∧((SqL X.K H p ys∧∀ l,H l=none→Q (.ref l) (upd H l (.tup ys)))∨(SqT X.K H p ys∧Q (.ref p) H))):=by
 intro pins s σ H xs us Q I r h
 obtain ⟨p,ys,rfl,h⟩:=h
 obtain ⟨u,rfl,rx⟩:=vals1 r
 cases rx
 rcases h with ⟨hq,q⟩ | ⟨hq,q⟩
 · obtain ⟨its,r',pl,hz⟩:=I.list hq
   have hlen:=r'.length
   refine call_tuple_list pl.isList (fun h' kp=>?_) (by simp only [List.size_toArray] <;> omega)
   have I1:Inv X pins σ H { s with heap:=h' }:=I.kept (t':=s.toks) kp
   have I2:Inv X pins σ (upd H h'.objs.size (.tup ys)) { s with heap:=h'.push { cls:=.type "tuple",data:=.seq its.toArray } }:=
    I1.laid (t':=s.toks) (fun b o e=>Heap.get?_push_of_some _ e) (Nat.le_refl _) (show ObjOk X.prog X.w _ _ _ (.tup ys) from ⟨hz,its,r',TupD.new _ _⟩)
   exact ⟨.ref h'.objs.size,_,I2,rfl,q _ (I1.hok.fresh (Nat.le_refl _))⟩
 · obtain ⟨its,r',pl,hz⟩:=I.tuple hq
   exact call_tuple_same pl ⟨.ref p,H,I,rfl,q⟩
def tyV (K:PySem.W.Frag) (T:String) (x:V) (H:Hp):Prop:=match x with
 | .str _=>T="str"
 | .int _=>T="int"
 | .ref p=>(T="list"∧∃ xs,SqL K H p xs)∨(T="tuple"∧∃ o,K.lookup p=some o∧o.cls=.type "tuple"∧o.dict=none) ∨
  (T="dict"∧((∃ kvs,H p=some (.dK kvs))∨∃ kvs,H p=some (.dT kvs)))∨(T="set"∧∃ S n,H p=some (.set S n))∨(T="tuple"∧∃ xs,H p=some (.tup xs))
 | _=>False
theorem tyV_is {pins:List (Addr×Obj)} {σ:St} {H:Hp} {s:Shared} {T:String} {x:V} {v:Value} (I:Inv X pins σ H s) (r:RelV x v) (ty:tyV X.K T x H) :
 s.TypeIs v T∧∀ a,v=.ref a→∃ ob,s.heap.get? a=some ob∧ob.dict=none:=by
 cases x with
 | str z=>
   obtain ⟨t,rfl⟩:=r
   cases (show T="str" from ty)
   exact ⟨typeIs_str s z t,fun _ e=>nomatch e⟩
 | int i=>
   obtain ⟨t,rfl⟩:=r
   cases (show T="int" from ty)
   exact ⟨typeIs_int s i t,fun _ e=>nomatch e⟩
 | ref p=>
   cases r
   rcases ty with ⟨rfl,xs,hq⟩ | ⟨rfl,o,hk,hc,hd⟩ | ⟨rfl,hk⟩ | ⟨rfl,S,n,hk⟩ | ⟨rfl,xs,hk⟩
   · obtain ⟨its,_,pl,_⟩:=I.list hq
     refine ⟨pl.isList.typeIs,fun a e=>?_⟩
     cases e
     obtain ⟨o,n,e,c,hd,_⟩:=pl
     exact ⟨o,e,hd⟩
   · refine ⟨⟨o,I.kIn p o hk,hc⟩,fun a e=>?_⟩
     cases e
     exact ⟨o,I.kIn _ o hk,hd⟩
   · have z:∃ o,s.heap.get? p=some o∧o.ExactDict:=by
      rcases hk with ⟨kvs,hk⟩ | ⟨kvs,hk⟩
      · obtain ⟨_,_,_,_,o,_,_,e,ex,_⟩:=I.hok p _ hk
        exact ⟨o,e,ex⟩
      · obtain ⟨_,_,_,_,o,_,_,e,ex,_⟩:=I.hok p _ hk
        exact ⟨o,e,ex⟩
     obtain ⟨o,e,ex⟩:=z
     refine ⟨⟨o,e,ex.1⟩,fun a e2=>?_⟩
     cases e2
     exact ⟨o,e,ex.2.1⟩
   · obtain ⟨o,_,_,_,e,ex,_⟩:=I.hok p _ hk
     refine ⟨⟨o,e,ex.1⟩,fun a e2=>?_⟩
     cases e2
     exact ⟨o,e,ex.2.1⟩
   · obtain ⟨_,_,_,n,e⟩:=I.hok p _ hk
     refine ⟨⟨_,e,rfl⟩,fun a e2=>?_⟩
     cases e2
     exact ⟨_,e,rfl⟩
 | _=>exact False.elim ty
def tBM (K:PySem.W.Frag) (T:String) (r:V→List V→Hp→VK→Prop) (to:TE) (t:TA):TE:=fun σ H Q=>to σ H fun x H1=>tyV K T x H1∧t σ H1 fun xs H2=>r x xs H2 Q
variable {o e:Expr} {es:List Expr} {to:TE} {t:TA} {name:Str} {apos cpos:Pos} {T id:String} {r:V→List V→Hp→VK→Prop}
theorem pe_bm (pa:PlainAttrs T) (slot:Slot T name id) (hty:typeOf (.builtin id)=pure (.type "method_descriptor")) (hm:MtR X id r) (ho:PE X o to) (ha:PA X (e::es) t)
 (hbase:attributeBase o name X.env (eval o X.env)=eval o X.env:=by rfl)
 (hfew:((backTo cpos (starEach (e::es) X.env)).all (fun x=>!x.1)&&(backToKw cpos (keywordEach [] X.env)).all (fun x=>x.1.isSome)
   && decide ((e::es).length+([]:List Keyword).length+(if ([]:List Keyword).isEmpty then 0 else 1)<30))=true:=by rfl)
 (hline:(apos.endLine == cpos.line)=true:=by rfl) (hs:starEach (e::es) X.env=(false,eval e X.env)::starEach es X.env:=by rfl) (hplain:(backTo cpos (starEach es X.env)).any (·.1)=false:=by rfl) :
 PE X (.Call (.Attribute o name apos) (e::es) [] cpos) (tBM X.K T r to t):=by
 intro pins s σ H Q I h
 refine wpAny_Call_method_late hbase hfew hline rfl (thn (ho pins s σ H _ I h) fun v s1 ⟨x,H1,I1,r1,ty,q1⟩=>?_)
 obtain ⟨h1,h2⟩:=tyV_is I1 r1 ty
 refine ⟨T,id,pa,slot,hty,h1,h2,?_⟩
 have hA:=ha cpos pins s1 σ H1 _ I1 q1
 rw [hs] at hA ⊢
 refine Calls.callWith_builtin (by show (false||(backTo cpos (starEach es X.env)).any (·.1))=false;rw [hplain] <;> rfl) (Calls.evalArgs_plain ?_)
 exact thn hA fun us s2 ⟨vs,H2,I2,r2,q2⟩=>hm pins s2 σ H2 x vs v us Q I2 r1 r2 q2
/- xs.append(e),list.index on a module's tuple .. are MtR facts of 06m -/
end
def MtM (X:Cx) (id:String) (r:V→List V→Hp→VK→Prop):Prop:=
 ∀ (pins:List (Addr×Obj)) (s:Shared) (σ:St) (H:Hp) (x:V) (xs:List V) (v:Value) (us:List Value) (Q:VK),Inv X pins σ H s→RelV x v→Vals xs us→r x xs H Q →
   wpAny (model X.prog X.w) X.A (call (.builtin id) (v::us)) (EP X pins σ Q) X.xe s
theorem Vals.one:∀ {x:V} {us:List Value},Vals [x] us→∃ u,us=[u]∧RelV x u
 | _,_,.cons r .nil=>⟨_,rfl,r⟩
theorem Vals.eraseIdx:∀ {xs:List V} {us:List Value} (i:Nat),Vals xs us→Vals (xs.eraseIdx i) (us.eraseIdx i)
 | _,_,_,.nil=>.nil
 | _,_,0,.cons _ t=>t
 | _,_,i+1,.cons r t=>.cons r (Vals.eraseIdx i t)
theorem Vals.rep {xs:List V} {us:List Value} (h:Vals xs us):∀ k:Nat,Vals (List.replicate k xs).flatten (List.replicate k us).flatten
 | 0=>.nil
 | k+1=>by
   rw [List.replicate_succ,List.replicate_succ,List.flatten_cons,List.flatten_cons]
   exact Vals.append h (Vals.rep h k)
theorem len_erase {α:Type}:∀ (l:List α) (i:Nat),(l.eraseIdx i).length≤l.length
 | [],_=>Nat.le_refl _
 | _::_,0=>Nat.le_succ _
 | _::r,i+1=>Nat.succ_le_succ (len_erase r i)
theorem foldl_rep (its:List Value):∀ (k:Nat) (acc:List Value),
 List.foldl (fun x1 x2=>x1++x2) acc.toArray (List.replicate k its.toArray)=(acc++(List.replicate k its).flatten).toArray
 | 0,acc=>by simp
 | k+1,acc=>by
   have e:acc.toArray++its.toArray=(acc++its).toArray:=by simp
   have e2:(acc++its)++(List.replicate k its).flatten=acc++(List.replicate (k+1) its).flatten:=by
    rw [List.replicate_succ,List.flatten_cons,List.append_assoc]
   rw [← e2,← foldl_rep its k (acc++its),← e,List.replicate_succ,List.foldl_cons]
section
variable {X:Cx} {pins:List (Addr×Obj)} {σ:St} {H:Hp} {s:Shared} {l b:Addr} {xs ys zs:List V}
theorem Inv.lset {its its':List Value} {n:Nat} {f:Array Value→Array Value} {t':Nat} (I:Inv X pins σ H s) (hH:H l=some (.lst xs))
 (e:s.heap.get? l=some { cls:=.type "list",data:=.seq its.toArray n }) (hf:f its.toArray=its'.toArray) (hv:Vals ys its') (hz:ys.length≤sizeLine) :
 Inv X pins σ (upd H l (.lst ys)) { s with heap:=s.heap.update l (Obj.mapSeq f),toks:=t' }:=by
 have q:=PySem.IsL.update e f
 rw [hf] at q
 refine I.write (x:=l) (e:=l) (by rw [hH];exact trivial) (.inl rfl) (fun b' u hb hu=>(Heap.get?_update_other s.heap (Obj.mapSeq f) (Ne.symm hb)).trans hu) ⟨_,q⟩ ?_
 exact ⟨hz,its',_,hv,q⟩
theorem Inv.lnew {its:List Value} {t':Nat} (I:Inv X pins σ H s) (hv:Vals ys its) (hz:ys.length≤sizeLine) :
 Inv X pins σ (upd H s.heap.objs.size (.lst ys)) { s with heap:=s.heap.push { cls:=.type "list",data:=.seq its.toArray },toks:=t' }:=
 I.laid (fun _ _ q=>Heap.get?_push_of_some _ q) (Nat.le_refl _) ⟨hz,its,0,hv,Heap.get?_push_size _ rfl⟩
theorem Inv.fresh (I:Inv X pins σ H s):H s.heap.objs.size=none:=I.hok.fresh (Nat.le_refl _)
theorem Inv.lstM (I:Inv X pins σ H s) (hH:H l=some (.lst xs)):xs.length≤sizeLine∧∃ (its:List Value) (n:Nat),Vals xs its∧xs.length=its.length∧s.heap.get? l=some { cls:=.type "list",data:=.seq its.toArray n }:=by
 obtain ⟨z,its,n,r,e⟩:=I.hok l _ hH
 exact ⟨z,its,n,r,r.length,e⟩
theorem notLongL {n:Nat} (h:n≤sizeLine):Builtin.List.listTooLong n=false:=by
 unfold Builtin.List.listTooLong
 exact decide_eq_false (by omega)
end
section
variable {X:Cx}
def rAppend:V→List V→Hp→VK→Prop:=fun x vs H Q=>∃ l xs y,x=.ref l∧vs=[y]∧H l=some (.lst xs)∧xs.length<sizeLine∧Q .non (upd H l (.lst (xs++[y])))
theorem mt_append:MtM X "list.append" rAppend:=by
 intro pins s σ H x vs v us Q I rx rv h
 obtain ⟨l,xs,y,rfl,rfl,hH,hz,q⟩:=h
 cases rx
 obtain ⟨u,rfl,ru⟩:=rv.one
 obtain ⟨z,its,n,r,hl,e⟩:=I.lstM hH
 refine call_meets F.slot_list_append ⟨_,e,rfl⟩ F.entry_list_append (F.args_list_append_2 _ _) (PySem.list_append l its.toArray n u (by rw [List.size_toArray];omega)) ⟨e,?_⟩
 refine ⟨.non,_,I.lset (its':=its++[u]) hH e (by simp) (r.append (.cons ru .nil)) ?_,rfl,q⟩
 rw [List.length_append,List.length_singleton]
 omega
def rExtend:V→List V→Hp→VK→Prop:=fun x vs H Q=>∃ l b xs zs,x=.ref l∧vs=[.ref b]∧H l=some (.lst xs)∧H b=some (.lst zs)∧xs.length+zs.length≤sizeLine∧Q .non (upd H l (.lst (xs++zs)))
theorem mt_extend:MtM X "list.extend" rExtend:=by
 intro pins s σ H x vs v us Q I rx rv h
 obtain ⟨l,b,xs,zs,rfl,rfl,hH,hB,hz,q⟩:=h
 cases rx
 obtain ⟨u,rfl,ru⟩:=rv.one
 cases ru
 obtain ⟨z,its,n,r,hl,e⟩:=I.lstM hH
 obtain ⟨z2,its2,n2,r2,hl2,e2⟩:=I.lstM hB
 have hsz:its.toArray.size+its2.toArray.size≤sizeLine:=by rw [List.size_toArray,List.size_toArray];omega
 have hlong:¬ (!its.toArray.isEmpty&&Builtin.List.listTooLong (its.toArray.size+its2.toArray.size))=true:=by
  rw [notLongL hsz,Bool.and_false]
  exact Bool.false_ne_true
 refine call_meets F.slot_list_extend ⟨_,e,rfl⟩ F.entry_list_extend (F.args_list_extend_2 _ _)
  (AutoSeq1.list_extend_list_list_0 l its.toArray n b its2.toArray n2 hlong (by rw [List.size_toArray];omega) (by omega)) ⟨e,e2,?_⟩
 refine ⟨.non,_,I.lset (its':=its++its2) hH e (by simp) (r.append r2) ?_,rfl,q⟩
 rw [List.length_append]
 omega
def rPopAt:V→List V→Hp→VK→Prop:=fun x vs H Q=>∃ l xs i k y,x=.ref l∧vs=[.int i]∧H l=some (.lst xs)∧-(2 ^ 63)≤i∧i<2 ^ 63∧seqIndex? i xs.length=some k∧xs[k]? = some y∧Q y (upd H l (.lst (xs.eraseIdx k)))
theorem mt_popAt:MtM X "list.pop" rPopAt:=by
 intro pins s σ H x vs v us Q I rx rv h
 obtain ⟨l,xs,i,k,y,rfl,rfl,hH,h1,h2,hk,hy,q⟩:=h
 cases rx
 obtain ⟨u,rfl,ru⟩:=rv.one
 obtain ⟨t,rfl⟩:=ru
 obtain ⟨z,its,n,r,hl,e⟩:=I.lstM hH
 obtain ⟨w,hw,rw'⟩:=r.get hy
 refine call_meets F.slot_list_pop ⟨_,e,rfl⟩ F.entry_list_pop (F.args_list_pop_2 _ _)
  (MeetsSeq.list_pop_at l its.toArray n i t k w (fitsIndex_both h1 h2) (by rw [List.size_toArray,← hl];exact hk) (by rw [← Array.getElem?_toList];exact hw) (by rw [List.size_toArray];omega)) ⟨e,?_⟩
 refine ⟨y,_,I.lset (its':=its.eraseIdx k) hH e ?_ (r.eraseIdx k) ?_,rw',q⟩
 · show its.toArray.eraseIdxIfInBounds k=(its.eraseIdx k).toArray
   rw [List.eraseIdxIfInBounds_toArray]
 · have:=len_erase xs k
   omega
def rCat:R2:=fun x y H Q=>∃ l b xs zs,x=.ref l∧y=.ref b∧H l=some (.lst xs)∧H b=some (.lst zs)∧xs.length+zs.length≤sizeLine∧∀ p,H p=none→Q (.ref p) (upd H p (.lst (xs++zs)))
theorem op_cat:OpR X (binaryOp .Add) rCat:=by
 intro pins s σ H x y v u Q I rx ry h
 obtain ⟨l,b,xs,zs,rfl,rfl,hH,hB,hz,q⟩:=h
 cases rx
 cases ry
 obtain ⟨z,its,n,r,hl,e⟩:=I.lstM hH
 obtain ⟨z2,its2,n2,r2,hl2,e2⟩:=I.lstM hB
 refine PySem.P.add_list e e2 ?_ (by rw [List.size_toArray,List.size_toArray];omega)
 have ea:its.toArray++its2.toArray=(its++its2).toArray:=by simp
 rw [ea]
 exact ⟨.ref _,_,I.lnew (t':=s.toks) (r.append r2) (by rw [List.length_append];omega),rfl,q _ I.fresh⟩
def rRep:R2:=fun x y H Q=>∃ l k xs,x=.ref l∧y=.int k∧H l=some (.lst xs)∧-(2 ^ 63)≤k∧k<2 ^ 63∧xs.length*k.toNat≤sizeLine ∧
 ∀ p,H p=none→Q (.ref p) (upd H p (.lst (List.replicate k.toNat xs).flatten))
theorem len_rep {α:Type} (xs:List α) (k:Nat):(List.replicate k xs).flatten.length=k*xs.length:=by
 induction k with
 | zero=>simp
 | succ k ih=>rw [List.replicate_succ,List.flatten_cons,List.length_append,ih,Nat.succ_mul,Nat.add_comm]
theorem op_rep:OpR X (binaryOp .Mult) rRep:=by
 intro pins s σ H x y v u Q I rx ry h
 obtain ⟨l,k,xs,rfl,rfl,hH,h1,h2,hz,q⟩:=h
 cases rx
 obtain ⟨t,rfl⟩:=ry
 obtain ⟨z,its,n,r,hl,e⟩:=I.lstM hH
 have hlen:its.toArray.size*k.toNat≤sizeLine:=by rw [List.size_toArray,← hl];exact hz
 have hcap:¬ its.toArray.size*k.toNat > (2 ^ 63 - 1) / 8:=by
  have:(sizeLine:Nat)≤(2 ^ 63 - 1) / 8:=by decide
  omega
 have hfit:¬ (!Builtin.List.listFitsIndex k)=true:=by
  rw [fitsIndex_both h1 h2]
  exact Bool.false_ne_true
 have hlong:¬ Builtin.List.listTooLong (its.toArray.size*k.toNat)=true:=by
  rw [notLongL hlen]
  exact Bool.false_ne_true
 have hnew:List.foldl (fun x1 x2=>x1++x2) #[] (List.replicate (if its.toArray.isEmpty=true then 0 else k.toNat) its.toArray)=(List.replicate k.toNat its).flatten.toArray:=by
  have f0:∀ m:Nat,List.foldl (fun x1 x2=>x1++x2) #[] (List.replicate m its.toArray)=(List.replicate m its).flatten.toArray:=fun m=>by
   have:=foldl_rep its m []
   rw [List.nil_append] at this
   exact this
  rw [f0]
  cases its with
  | nil=>simp
  | cons a r'=>rw [if_neg (by simp)]
 refine wpAny_binaryOp_repeat_ref (T:="list") (U:="int") (by decide) ⟨_,e,rfl⟩ (fun s'=>typeIs_int s' k t) noFill_list_mul F.fills_int_mul F.slot_int_rmul repeat_list F.slot_int_index.lookup
  (call_meets F.slot_int_rmul (typeIs_int s k t) F.entry_int_rmul (F.args_int_rmul_2 _ _) (int___rmul___int_list k t l its.toArray n)
    ⟨e,rfl,⟨_,e,rfl⟩,call_meets F.slot_list_mul ⟨_,e,rfl⟩ F.entry_list_mul (F.args_list_mul_2 _ _) (AutoListH.list___mul___list_int_3 l its.toArray n k t hfit hcap hlong) ⟨e,?_⟩⟩)
 rw [hnew]
 exact ⟨.ref _,_,I.lnew (t':=s.toks) (r.rep k.toNat) (by rw [len_rep,Nat.mul_comm];exact hz),rfl,q _ I.fresh⟩
end
end L2
namespace Att
open PySem PySem.W PySem.Calls PyProof.Rows
theorem ints_of_wellAll {P:Params} {h:Heap}:∀ (ns:List Int) (vs:List Value),WellAll P h vs (ns.map WData.int)→IntsAre vs ns:=by
 intro ns
 induction ns with
 | nil=>
   intro vs w
   rw [List.map_nil] at w
   cases w
   exact .nil
 | cons n ns ih=>
   intro vs w
   rw [List.map_cons] at w
   cases w with
   | cons a b=>
     cases a
     exact .cons _ _ (ih _ b)
theorem script_of {l:OpenLaw} {n:Nat} (hn:l.most=some n) {P:Params} {h:Heap} {args:List WData} {vals:List Value}
 (hpre:l.row.toRowW.claim.pre args=true) (hwl:WellAll P h vals args) :
 ∃ a vs ns,vals=[Value.ref a]∧args=[WData.list (ns.map WData.int)]∧h.get? a=some { cls:=.type "list",data:=.seq vs.toArray }∧IntsAre vs ns∧ns.length≤n:=by
 have hsh:WShape.hasAll [] args [.list .int]=true:=(pre_splitW hpre).1
 have hc:l.pre.holds [] { args:=args }=true:=(pre_splitW hpre).2
 obtain ⟨d,r,rfl,h1,h2⟩:=hasAllW_cons hsh
 obtain rfl:=hasAllW_nil h2
 obtain ⟨xs,rfl,h3⟩:=hasW_list h1
 obtain ⟨ns,rfl⟩:=items_int h3
 have hlen:ns.length≤n:=by
  unfold OpenLaw.pre at hc
  have h4:(WTm.not (.lt (.lit (.int (n:Int))) (.len (.arg 0)))).holds [] { args:=[.list (ns.map .int)] }=true:=by
   have h4:=(holds_andW hc).1
   rw [hn] at h4
   exact h4
  have h5:=condW_of h4 (w_not (w_lt w_lit (w_len_list (w_arg rfl))))
  rw [List.length_map] at h5
  refine Nat.le_of_not_lt fun q=>?_
  have q':(n:Int)<((ns.length:Nat):Int):=by omega
  first
   | (rw [decide_eq_true q'] at h5;exact absurd h5 (by decide))
   | (simp at h5;omega)
 cases hwl with
 | cons w1 w2=>
   cases w2
   cases w1 with
   | list ho hall=>exact ⟨_,_,ns,rfl,rfl,ho,ints_of_wellAll ns _ hall,hlen⟩
theorem post_true (l:OpenLaw) (args:List WData):l.row.toRowW.claim.post args (.bool true) args=true:=
 postW_of (r:=l.row.toRowW) (X:=(true == true))
  (show WShape.has [] (.bool true) .bool=true by first | rfl | decide | simp [WShape.has,WShape.arms,WShape.armsAll])
  (show (WTm.eq .res (.lit (.bool true))).value [] { args:=args,res:=some (.bool true),after:=args }=some (.bool (true == true)) from w_eq_bool (w_res rfl) w_lit) rfl
theorem attach_call {l:OpenLaw} {n:Nat} {q:Program} {loose:List Str} {XP:(Str→Option Value)→Heap→Prop} {YP:World→Heap→Prop} {d:DefRec}
 (hn:l.most=some n) (hdf:d.params.defaults=[])
 (call:∀ (w:World) (s₀ s₁:Shared) (mg mb:Str→Option Value) (fa:Addr) (o:Obj) (pm cd doc:Value) (a:Addr) (vs:List Value) (ns:List Int),
   Ground q loose [] XP w s₀ mg mb s₁.heap→YP w s₁.heap →
   s₁.heap.get? fa=some o→o.data=.func (docDef d.name d.params d.body d.scope pm cd doc)→s₁.heap.CodeRec cd d.name→mg d.name=some (.ref fa) →
   s₁.heap.get? a=some { cls:=.type "list",data:=.seq vs.toArray }→IntsAre vs ns→ns.length≤n→s₁.gens=#[] →
   codeAny (model l.prog w) callerA (.call (.ref fa) ⟨[.ref a],[]⟩) (fun r s'=>r=.ok (.ret (.bool true))∧OldK s₁.heap s'.heap∧s'.os=s₁.os∧AllBare s'.gens) s₁) :
 WalkO q loose XP YP l.row.toRowW d [] (fun f vs=>PySem.call f vs):=by
 intro w s₀ s₁ mg mb G Y fa o pm cd doc dV kV ho hd hcd hD hmg hg args vals as hpre hlay hrd hwl hlo
 obtain rfl:dV=.none:=Dflts.none hD hdf
 obtain rfl:kV=.none:=Dflts.noKw hD
 obtain ⟨a,vs,ns,rfl,rfl,hobj,hints,hlen⟩:=script_of hn hpre hwl
 refine enter_call (codeAny_mono (call w s₀ s₁ mg mb fa o pm cd doc a vs ns G Y ho (fd_plain hd) hcd hmg hobj hints hlen hg) fun r s' hq=>?_)
 obtain ⟨rfl,h2,h3,h4⟩:=hq
 exact ⟨.inl ⟨.bool true,.bool true,[],rfl,fun _=>rfl,.bool true,post_true l _,fun _=>⟨List.Pairwise.nil,fun _ hm=>(nomatch hm)⟩⟩,h2,h3,h4⟩
end Att
namespace L2
open PySem PySem.Spec PyProof.Rows
theorem vals_ints:∀ {vs:List Value} {ns:List Int},IntsAre vs ns→Vals (ns.map V.int) vs
 | _,_,.nil=>.nil
 | _,_,.cons n t h=>.cons ⟨t,rfl⟩ (vals_ints h)
def Only (H:Hp):Prop:=∀ b,H b=none∨∃ o xs,H b=some (.frz o (.lst xs))
theorem law_call {P:Program} {w:World} {K:PySem.W.Frag} {mg mb:Str→Option Value} {CX:CXT} {k:Nat} {fa a:Addr} {fd:FuncData} {x:Str} {sp:Sp} {s₁:Shared} {vs:List Value} {ns:List Int}
 (KX:K.In s₁.heap) (hns:s₁.heap.Ns mainGlobals mg) (hb:s₁.heap.Ns builtinsNs mb) (hbb:∀ x:Str,x≠"__name__"→mb x=bootBuiltins x) (hlim:s₁.heap.NoLimit) (hg:s₁.gens=#[])
 (ha:s₁.heap.get? a=some { cls:=.type "list",data:=.seq vs.toArray }) (hi:IntsAre vs ns) (hl:ns.length≤sizeLine) (hr:Room k callerA)
 (F:∀ base:Heap,K.In base→base.Ns mainGlobals mg→FnOk P w K mg base CX k fa fd [x] sp) (hbind:∀ (s:Shared) (u:Value),BindsTo s fd ⟨[u],[]⟩ [(x,u)])
 (hsp:∀ H:Hp,Only H→SqL K H a (ns.map V.int)→sp [.ref a] H (fun v _=>v=.bl true) fun _ _ _=>False)
 (hCX:∀ H e s',CX [] H s₁ (fun _ _ _=>False) e s'→False) :
 codeAny (model P w) callerA (.call (.ref fa) ⟨[.ref a],[]⟩) (fun r s'=>r=.ok (.ret (.bool true))∧OldK s₁.heap s'.heap∧s'.os=s₁.os∧AllBare s'.gens) s₁:=by
 have rv:=vals_ints hi
 have lenV:=hi.length
 -- from an abstract heap in which nothing but the script may be tracked
 have core:∀ H:Hp,Only H→SqL K H a (ns.map V.int)→HOk P w H s₁.heap→(∀ b,H b≠none→b=a)→(H a≠none→K.lookup a=none) →
  codeAny (model P w) callerA (.call (.ref fa) ⟨[.ref a],[]⟩) (fun r s'=>r=.ok (.ret (.bool true))∧OldK s₁.heap s'.heap∧s'.os=s₁.os∧AllBare s'.gens) s₁:=by
  intro H hO hS hok hA hK
  have base_of:∀ {b:Addr} {o:Obj},s₁.heap.get? b=some o→H b=none→(hidT s₁.heap H).get? b=some o:=fun e n=>hidT_get e n
  have noA:∀ {b:Addr} {o:Obj} {es:Array DictEntry} {ep:Nat},s₁.heap.get? b=some o→o.data=.dict es ep→H b=none:=fun {b o es ep} e d=>by
   cases q:H b with
   | none=>rfl
   | some u=>
     have e':b=a:=hA b (by rw [q];simp)
     subst e'
     rw [ha] at e;cases e
     have d':Data.seq vs.toArray _=Data.dict es ep:=d
     cases d'
  have nsK:∀ {b:Addr} {m:Str→Option Value},s₁.heap.Ns b m→(hidT s₁.heap H).Ns b m:=fun {b m} ⟨o,es,ep,e,d,r⟩=>⟨o,es,ep,base_of e (noA e d),d,r⟩
  have hKb:K.In (hidT s₁.heap H):=fun b o e=>base_of (KX b o e) (by
   cases q:H b with
   | none=>rfl
   | some u=>
     have e':b=a:=hA b (by rw [q];simp)
     subst e'
     rw [hK (by rw [q];simp)] at e;cases e)
  have hM:Mod K mg (hidT s₁.heap H):=⟨hKb,nsK hns,⟨mb,nsK hb,hbb⟩,let ⟨mc,h1,h2⟩:=hlim;⟨mc,nsK h1,h2⟩⟩
  have e0:Env0 P w K mg (hidT s₁.heap H) callerA [] s₁ H:=⟨rfl,hM,fun b o e=>of_hidT e,Nat.le_of_eq (hidT_size _ _),trivial,fun b hb=>absurd (show b∈([]:List Addr) from hb) (by simp),hok,.of_eq hg⟩
  refine codeAny_mono ((F _ hKb (nsK hns)).run callerA [] s₁ H ⟨[.ref a],[]⟩ [.ref a] [.ref a] _ _ hr e0 (hbind s₁ (.ref a)) (.cons rfl .nil) (hsp H hO hS)) fun r s' h=>?_
  cases r with
  | error e=>exact (hCX H e s' h).elim
  | ok fl=>
    cases fl with
    | next=>exact False.elim h
    | brk=>exact False.elim h
    | cont=>exact False.elim h
    | ret u=>
      obtain ⟨v,H',os,bare,un,hok',r',q⟩:=h
      have q':v=.bl true:=q
      subst q'
      obtain rfl:u=Value.bool true:=r'
      refine ⟨rfl,OldK.of_keep fun b o e=>?_,os,bare⟩
      cases q:H b with
      | none=>exact un.keep b o e q (by intro z;exact absurd (show b∈([]:List Addr) from z) (by simp)) (by simp)
      | some u=>
        rcases hO b with z | ⟨ob,xs,z⟩
        · rw [q] at z;cases z
        · have z2:=un.frzs b ob _ z
          obtain ⟨e1,_⟩:=hok b _ z
          obtain ⟨e2,_⟩:=hok' b _ z2
          rw [e] at e1;cases e1
          exact e2
 cases hk:K.lookup a with
 | some o=>
   -- the script is one of the module's own objects
   have e:=KX a o hk
   rw [ha] at e
   cases e
   refine core (fun _=>none) (fun _=>.inl rfl) (.inr ⟨_,vs.toArray,_,hk,rfl,rfl,rfl,by rw [List.size_toArray,lenV];exact hl,by simpa using rv⟩) (fun b u z=>by have z':(none:Option HO)=some u:=z;cases z') (fun b z=>absurd rfl z) fun z=>absurd rfl z
 | none=>
   refine core (fun b=>if b=a then some (.frz { cls:=.type "list",data:=.seq vs.toArray } (.lst (ns.map V.int))) else none) (fun b=>?_) (.inl (.inr ⟨{ cls:=.type "list",data:=.seq vs.toArray },if_pos rfl⟩)) (fun b u z=>?_) (fun b z=>?_) fun _=>hk
   · by_cases hb:b=a
     · exact .inr ⟨_,_,if_pos hb⟩
     · exact .inl (if_neg hb)
   · by_cases hb:b=a
     · have z':=(if_pos hb).symm.trans z
       cases z'
       subst hb
       exact ⟨ha,by rw [List.length_map];exact hl,vs,_,rv,ha⟩
     · have z':=(if_neg hb).symm.trans z
       cases z'
   · by_cases hb:b=a
     · exact hb
     · exact absurd (if_neg hb) z
theorem walk_of {l:PySem.W.OpenLaw} {n k:Nat} {q:Program} {loose:List Str} {XP:(Str→Option Value)→Heap→Prop} {YP:World→Heap→Prop} {d:DefRec} {K:Params→PySem.W.Frag} {CX:World→CXT} {sp:World→Sp} {x:Str}
 (hn:l.most=some n) (hn2:n≤sizeLine) (hdf:d.params.defaults=[]) (hr:Room k callerA)
 (hY:∀ (w:World) (h:Heap),YP w h→(K w.params).In h)
 (F:∀ (w:World) (mg:Str→Option Value) (fa:Addr) (h:Heap),(K w.params).In h→h.Ns mainGlobals mg→mg d.name=some (.ref fa) →
   ∃ fd:FuncData,(∀ (s:Shared) (u:Value),BindsTo s fd ⟨[u],[]⟩ [(x,u)]) ∧
     ∀ base:Heap,(K w.params).In base→base.Ns mainGlobals mg→FnOk l.prog w (K w.params) mg base (CX w) k fa fd [x] (sp w))
 (hsp:∀ (w:World) (H:Hp) (a:Addr) (ns:List Int),ns.length≤n→Only H→SqL (K w.params) H a (ns.map V.int)→sp w [.ref a] H (fun v _=>v=.bl true) fun _ _ _=>False)
 (hCX:∀ (w:World) (H:Hp) (s:Shared) (e:Value) (s':Shared),CX w [] H s (fun _ _ _=>False) e s'→False) :
 PySem.W.WalkO q loose XP YP l.row.toRowW d [] (fun f vs=>PySem.call f vs):=by
 refine Att.attach_call hn hdf fun w s₀ s₁ mg mb fa o pm cd doc a vs ns G Y ho hd hcd hmg hobj hints hlen hg=>?_
 have KX:=hY w _ Y
 obtain ⟨fd,hb,hF⟩:=F w mg fa _ KX G.T.g hmg
 exact law_call KX G.T.g G.T.b G.T.builtins G.T.nolimit hg hobj hints (Nat.le_trans hlen hn2) hr hF hb (fun H hO hS=>hsp w H a ns hlen hO hS) fun H e s'=>hCX w H s₁ e s'
end L2
/- THE LAST THEOREM (shape;LID,My.* are yours):
   My.Adr: a structure of the addresses that your layer names (classes,functions);My.Txt K t: a structure (Prop) of the equations over K;
   My.txt_mk:{K} {implicit addresses ..} (e1:nsIn K mainGlobals "law" = some (some (.ref f))) (e2:K.lookup f=some ⟨oc,od,.func (fnOf "law" "law" params body scope dV kV doc pm an cdv ct),sl⟩) (e3:codeIn K cdv "law" = true) .. : ∃ t,My.Txt K t
(the tactic k_is has no namespace: write k_is) -/
namespace L2
open PySem PySem.Spec PyProof.Rows
def defArgs (s:Stmt):Arguments:=match s with
 | .FunctionDef _ a _ _ _ _ _ _ _ _=>a
 | _=>{ posonlyargs:=[],args:=[],vararg:=none,kwonlyargs:=[],kw_defaults:=[],kwarg:=none,defaults:=[] }
def defBody (s:Stmt):List Stmt:=match s with
 | .FunctionDef _ _ b _ _ _ _ _ _ _=>b
 | _=>[]
def defScope (s:Stmt):Scope:=match s with
 | .FunctionDef _ _ _ _ _ _ sc _ _ _=>sc
 | _=>{ kind:=.function,names:=[],isGenerator:=false,isCoroutine:=false }
abbrev CX0:CXT:=fun _ _ _ _ _ _=>False
abbrev E0:XK:=fun _ _ _=>False
theorem pass0 {X:Cx}:Passes CX0 X E0:=fun _ _ _ _ _ _ _ h=>h.elim
structure Fun (K:PySem.W.Frag) (x qual:Str) (st:Stmt) (f:Addr) (fd:FuncData):Prop where
 ex:∃ (oc:Value) (od:Option Addr) (kV doc pm:Value) (an:Option Addr) (cdv ct:Value) (osl:Array (Option Value)),
  fd=PySem.W.fnOf x qual (defArgs st) (defBody st) (defScope st) .none kV doc pm an cdv ct∧K.lookup f=some ⟨oc,od,.func fd,osl⟩∧PySem.W.codeIn K cdv qual=true
 kp:PySem.W.keepIn K (.ref f)=true
section
variable {P:Program} {w:World} {K:PySem.W.Frag} {mg:Str→Option Value} {base:Heap}
theorem Fun.ok {x qual:Str} {st:Stmt} {f:Addr} {fd:FuncData} {N ps:List Str} {k:Nat} {sp:Sp} (F:Fun K x qual st f fd) (S:FnScope N ps (defScope st)) (len:∀ vs H Q E,sp vs H Q E→vs.length=ps.length)
 (hbody:∀ (cdv:Value) (A:Around) (outer:List Env) (s:Shared) (H:Hp) (vs:List V) (Q:VK) (E:XK),Room k (A.deeper (envOfC qual (defScope st) s.heap.objs.size f cdv))→sp vs H Q E →
   ∃ t,PSs (cxOf CX0 P w K mg base N qual (defScope st) f cdv A outer s H E).nox (defBody st) t∧t { nx:=fun _ H'=>Q .non H',rt:=Q } (start N vs) H):FnOk P w K mg base CX0 (k+1) f fd ps sp:=by
 obtain ⟨oc,od,kV,doc,pm,an,cdv,ct,osl,rfl,lk,hcd⟩:=F.ex
 refine fn_of lk hcd S len fun A outer s H vs Q E hr hsp=>?_
 obtain ⟨t,h,q⟩:=hbody cdv A outer s H vs Q E hr hsp
 exact ⟨t,h.nox,q⟩
theorem Fun.okz {x qual:Str} {st:Stmt} {f:Addr} {fd:FuncData} {N ps:List Str} {k:Nat} {sp:Sp} (F:Fun K x qual st f fd) (S:FnScope N ps (defScope st)) (len:∀ vs H Q E,sp vs H Q E→vs.length=ps.length)
 (hbody:∀ (cdv:Value) (A:Around) (outer:List Env) (s:Shared) (H:Hp) (vs:List V) (Q:VK) (E:XK),Room k (A.deeper (envOfC qual (defScope st) s.heap.objs.size f cdv))→sp vs H Q E →
   ∃ t,ZSs (cxOf CX0 P w K mg base N qual (defScope st) f cdv A outer s H E).nox (defBody st) t∧t { nx:=fun _ H'=>Q .non H',rt:=Q } (start N vs) H):FnOk P w K mg base CX0 (k+1) f fd ps sp:=
 F.ok S len fun cdv A outer s H vs Q E hr h=>let ⟨t,h1,h2⟩:=hbody cdv A outer s H vs Q E hr h;⟨t,h1.p,h2⟩
theorem Fun.binds {x qual:Str} {st:Stmt} {f:Addr} {fd:FuncData} {ps:List Str} (F:Fun K x qual st f fd)
 (h:∀ (kV doc pm:Value) (an:Option Addr) (cdv ct:Value) (us:List Value),us.length=ps.length→bindArgs (PySem.W.fnOf x qual (defArgs st) (defBody st) (defScope st) .none kV doc pm an cdv ct) ⟨us,[]⟩=pure (ps.zip us)):Binds K fd ps []:=by
 obtain ⟨oc,od,kV,doc,pm,an,cdv,ct,osl,rfl,lk,hcd⟩:=F.ex
 exact .all (h kV doc pm an cdv ct)
theorem fun_mk {x qual:Str} {st:Stmt} {f:Addr} {oc:Value} {od an:Option Addr} {osl:Array (Option Value)} {kV doc pm cdv ct:Value} (l:K.lookup f=some ⟨oc,od,.func (PySem.W.fnOf x qual (defArgs st) (defBody st) (defScope st) .none kV doc pm an cdv ct),osl⟩)
 (c:PySem.W.codeIn K cdv qual=true) (k:PySem.W.keepIn K (.ref f)=true):Fun K x qual st f (PySem.W.fnOf x qual (defArgs st) (defBody st) (defScope st) .none kV doc pm an cdv ct):=⟨⟨oc,od,kV,doc,pm,an,cdv,ct,osl,rfl,l,c⟩,k⟩
end
theorem small1000 {n:Nat} (h:n≤1000):n<sizeLine:=Nat.lt_of_le_of_lt h (by decide)
theorem iteF {A B:Prop} (h:B):if false=true then A else B:=by
 rw [if_neg Bool.false_ne_true]
 exact h
theorem iteT {A B:Prop} (h:A):if true=true then A else B:=by
 rw [if_pos rfl]
 exact h
def Same (H H':Hp):Prop:=∀ b o,H b=some o→H' b=some o
theorem Same.refl (H:Hp):Same H H:=fun _ _ h=>h
theorem Same.trans {H H1 H2:Hp} (a:Same H H1) (b:Same H1 H2):Same H H2:=fun c o h=>b c o (a c o h)
end L2
set_option maxHeartbeats 4000000
namespace L2
open PySem PySem.Spec PyProof.Rows
def clsOf (env:Env):List (Str×NameKind)→List (Str×Addr)→List (Str×Addr)
 | [],cs=>cs
 | y::r,cs=>clsOf env r (if (y.2 == .free)=true then (y.1,(env.cells.lookup y.1).getD 0)::cs else cs)
theorem closure_ok {env:Env} {scope:Scope} (h:∀ y∈scope.names,y.2=.free→∃ c,env.cells.lookup y.1=some c):closureFor scope env=pure (clsOf env scope.names []):=by
 simp only [closureFor]
 generalize scope.names=ns at h
 have go:∀ (ns:List (Str×NameKind)) (cs:List (Str×Addr)),(∀ y∈ns,y.2=.free→∃ c,env.cells.lookup y.1=some c) →
  (forIn ns cs fun (x:Str×NameKind) (r:List (Str×Addr))=>(if (x.2 == NameKind.free)=true then do let a ← cellOf env x.1;pure (ForInStep.yield ((x.1,a)::r)) else pure (ForInStep.yield r):Sem (ForInStep (List (Str×Addr)))))=(pure (clsOf env ns cs):Sem (List (Str×Addr))):=by
  intro ns
  induction ns with
  | nil=>intro cs _;rfl
  | cons y r ih=>
    intro cs hy
    rw [List.forIn_cons]
    have hr:=fun z hz=>hy z (List.mem_cons_of_mem _ hz)
    by_cases hf:(y.2 == NameKind.free)=true
    · obtain ⟨c,hc⟩:=hy y List.mem_cons_self (by simpa using hf)
      have e:cellOf env y.1=pure c:=by unfold cellOf;rw [hc]
      rw [if_pos hf,e]
      refine Eq.trans (ih ((y.1,c)::cs) hr) (congrArg pure ?_)
      show _=clsOf env r (if (y.2 == .free)=true then (y.1,(env.cells.lookup y.1).getD 0)::cs else cs)
      rw [if_pos hf,hc]
      rfl
    · rw [if_neg hf]
      refine Eq.trans (ih cs hr) (congrArg pure ?_)
      show _=clsOf env r (if (y.2 == .free)=true then (y.1,(env.cells.lookup y.1).getD 0)::cs else cs)
      rw [if_neg hf]
 have e:=go ns [] h
 exact (congrArg (fun (t:Sem (List (Str×Addr)))=>t >>= fun cs=>pure cs) e).trans rfl
theorem clsOf_look {env:Env}:∀ (ns:List (Str×NameKind)) (cs:List (Str×Addr)),(∀ y∈ns,y.2=.free→∃ c,env.cells.lookup y.1=some c)→(∀ n c,cs.lookup n=some c→env.cells.lookup n=some c) →
 ∀ n c,(clsOf env ns cs).lookup n=some c→env.cells.lookup n=some c
 | [],cs,_,hc=>hc
 | y::r,cs,hy,hc=>by
   refine clsOf_look r _ (fun z hz=>hy z (List.mem_cons_of_mem _ hz)) fun n c e=>?_
   by_cases hf:(y.2 == NameKind.free)=true
   · rw [if_pos hf,List.lookup_cons] at e
     obtain ⟨c',hc'⟩:=hy y List.mem_cons_self (by simpa using hf)
     cases hn:n == y.1 with
     | true=>
       rw [hn] at e
       have en:n=y.1:=by simpa using hn
       rw [hc'] at e
       rw [en,hc']
       exact e
     | false=>rw [hn] at e;exact hc n c e
   · rw [if_neg hf] at e
     exact hc n c e
theorem clsOf_has {env:Env}:∀ (ns:List (Str×NameKind)) (cs:List (Str×Addr)) (n:Str),((n,NameKind.free)∈ns∨∃ c,cs.lookup n=some c)→∃ c,(clsOf env ns cs).lookup n=some c
 | [],cs,n,h=>by
   rcases h with h | h
   · cases h
   · exact h
 | y::r,cs,n,h=>by
   refine clsOf_has r _ n ?_
   rcases h with h | ⟨c,h⟩
   · rcases List.mem_cons.mp h with e | h
     · refine .inr ⟨(env.cells.lookup n).getD 0,?_⟩
       have e2:y.2=.free:=by rw [← e]
       have e1:y.1=n:=by rw [← e]
       rw [if_pos (by rw [e2];rfl),e1,List.lookup_cons]
       simp
     · exact .inl h
   · refine .inr ?_
     by_cases hf:(y.2 == NameKind.free)=true
     · rw [if_pos hf,List.lookup_cons]
       cases hn:n == y.1 with
       | true=>exact ⟨_,rfl⟩
       | false=>exact ⟨c,h⟩
     · rw [if_neg hf];exact ⟨c,h⟩
def rlOf (env:Env) (y:Str×NameKind):Str×NameKind:=if (y.2 == NameKind.free&&env.scope.kind == .function&&env.kindOf y.1 == some .cell)=true then (y.1,NameKind.cell) else (y.1,y.2)
theorem rl_look {env:Env}:∀ {names:List (Str×NameKind)} {x:Str} {k':NameKind},(names.map (rlOf env)).lookup x=some k' →
 ∃ k,(x,k)∈names∧names.lookup x=some k∧(k'=k∨(k=.free∧k'=.cell))
 | [],_,_,h=>by simp at h
 | (n,k)::r,x,k',h=>by
   have ih:=@rl_look env r x k'
   rw [List.map_cons] at h
   unfold rlOf at h
   dsimp only at h
   cases hx:x == n with
   | true=>
     have en:x=n:=by simpa using hx
     refine ⟨k,by rw [en];exact List.mem_cons_self,by simp [List.lookup_cons,hx],?_⟩
     by_cases hc:(k == NameKind.free&&env.scope.kind == .function&&env.kindOf n == some .cell)=true
     · rw [if_pos hc,List.lookup_cons,hx] at h
       have hk:k=.free:=by
        have:=(Bool.and_eq_true_iff.mp (Bool.and_eq_true_iff.mp hc).1).1
        simpa using this
       exact .inr ⟨hk,by cases h;rfl⟩
     · rw [if_neg hc,List.lookup_cons,hx] at h
       exact .inl (by cases h;rfl)
   | false=>
     have h':(r.map (rlOf env)).lookup x=some k':=by
      by_cases hc:(k == NameKind.free&&env.scope.kind == .function&&env.kindOf n == some .cell)=true
      · rw [if_pos hc,List.lookup_cons,hx] at h;exact h
      · rw [if_neg hc,List.lookup_cons,hx] at h;exact h
     obtain ⟨k,h1,h2,h3⟩:=ih h'
     exact ⟨k,List.mem_cons_of_mem _ h1,by rw [List.lookup_cons,hx];exact h2,h3⟩
theorem rl_has {env:Env}:∀ {names:List (Str×NameKind)} {x:Str} {k:NameKind},names.lookup x=some k→∃ k',(names.map (rlOf env)).lookup x=some k'
 | [],_,_,h=>by simp at h
 | (n,k0)::r,x,k,h=>by
   have ih:=@rl_has env r x k
   rw [List.map_cons]
   have e1:(rlOf env (n,k0)).1=n:=by unfold rlOf;split <;> rfl
   have e0:rlOf env (n,k0)=(n,(rlOf env (n,k0)).2):=by rw [Prod.ext_iff];exact ⟨e1,rfl⟩
   rw [e0,List.lookup_cons]
   cases hx:x == n with
   | true=>exact ⟨_,rfl⟩
   | false=>
     rw [List.lookup_cons,hx] at h
     exact ih h
def cmpX (X:Cx) (nv:List Str) (ix:List (Str×Nat)) (scope:Scope) (C:Addr) (s₀:Shared) (H₀:Hp) (fp:List Addr):Cx:=
 { X with N:=nv++ix.map (·.1),s₀:=s₀,H₀:=H₀,env:=compEnvC scope (clsOf X.env scope.names []) C X.env,outer:=X.stack,stack:=X.stack,ex:=fp,fn:=fun _=>false,pn:=[],xe:=fun _ _=>False }
def frV (σ:St) (ix:List (Str×Nat)):St:=ix.map fun p=>(σ[p.2]?).join
def st0 (nv:List Str) (ix:List (Str×Nat)) (σ:St):St:=nv.map (fun _=>none)++frV σ ix
structure CompOk (X:Cx) (nv:List Str) (ix:List (Str×Nat)) (scope:Scope):Prop where
 kind:scope.kind=.function
 nocell:∀ y∈scope.names,y.2≠.cell
 names:∀ y∈scope.names,y.2=.local→scope.names.lookup y.1=some .local
 free:(scope.names.all fun y=>!(y.2 == NameKind.free)||(X.env.kindOf y.1 == some NameKind.cell||X.env.kindOf y.1 == some NameKind.free))=true
 ix:(ix.all fun p=>(scope.names.lookup p.1 == some NameKind.free)&&(X.N[p.2]? == some p.1))=true
section
variable {X:Cx} {nv:List Str} {ix:List (Str×Nat)} {scope:Scope} {pins:List (Addr×Obj)} {σ:St} {H:Hp} {s:Shared}
theorem CompOk.fk (co:CompOk X nv ix scope) {y:Str×NameKind} (hy:y∈scope.names) (hf:y.2=.free):X.env.kindOf y.1=some .cell∨X.env.kindOf y.1=some .free:=by
 have q:=List.all_eq_true.mp co.free y hy
 rw [hf] at q
 simpa using q
theorem CompOk.cells (co:CompOk X nv ix scope) (ok:X.Ok):∀ y∈scope.names,y.2=.free→∃ c,X.env.cells.lookup y.1=some c:=fun y hy hf=>ok.has y.1 (co.fk hy hf)
theorem CompOk.look (co:CompOk X nv ix scope) (ok:X.Ok) {n:Str} {c:Addr} (h:(clsOf X.env scope.names []).lookup n=some c):X.env.cells.lookup n=some c:=
 clsOf_look _ _ (co.cells ok) (fun _ _ e=>by cases e) n c h
theorem CompOk.ixp (co:CompOk X nv ix scope) {p:Str×Nat} (hp:p∈ix):scope.names.lookup p.1=some .free∧X.N[p.2]? = some p.1:=by
 have q:=Bool.and_eq_true_iff.mp (List.all_eq_true.mp co.ix p hp)
 exact ⟨by simpa using q.1,by simpa using q.2⟩
theorem lookup_mem {α:Type}:∀ {l:List (Str×α)} {n:Str} {k:α},l.lookup n=some k→(n,k)∈l
 | [],_,_,h=>by cases h
 | (m,j)::r,n,k,h=>by
   rw [List.lookup_cons] at h
   cases e:n == m with
   | true=>rw [e] at h;cases h;have:n=m:=by simpa using e
           rw [this];exact List.mem_cons_self
   | false=>rw [e] at h;exact List.mem_cons_of_mem _ (lookup_mem h)
theorem cmpX_ok (co:CompOk X nv ix scope) (I:Inv X pins σ H s) {fp:List Addr} {C:Addr} (hC:s.heap.objs.size≤C) (hf:∀ b∈fp,FpOk X pins H b) (hlt:∀ b∈fp,b<s.heap.objs.size):(cmpX X nv ix scope C s H fp).Ok where
 mod:=I.mod
 kind:=co.kind
 glob:=I.ok.glob
 blt:=I.ok.blt
 above:=hC
 inj:=fun x y c a b=>I.ok.inj x y c (co.look I.ok a) (co.look I.ok b)
 has:=fun x hk=>by
  have z:∃ k,(x,k)∈scope.names∧k=.free:=by
   rcases hk with hk | hk
   · obtain ⟨k,h1,_,h3⟩:=rl_look (env:=X.env) (names:=scope.names) hk
     rcases h3 with h3 | ⟨h3,_⟩
     · exact absurd h3.symm (co.nocell _ h1)
     · exact ⟨k,h1,h3⟩
   · obtain ⟨k,h1,_,h3⟩:=rl_look (env:=X.env) (names:=scope.names) hk
     rcases h3 with h3 | ⟨_,h3⟩
     · exact ⟨k,h1,h3.symm⟩
     · cases h3
  obtain ⟨k,h1,rfl⟩:=z
  exact clsOf_has _ _ x (.inl h1)
 cab:=fun x c h _=>by cases h
 hd:=I.ok.hd
 frames:=I.ok.frames
 stk:=.inl rfl
 exf:=fun b hb=>⟨Nat.ne_of_lt (Nat.lt_of_lt_of_le (hlt b hb) hC),fun x c e=>(hf b hb).2.2.2.2.1 x c (co.look I.ok e)⟩
 bs:=fun b o e=>I.bs b o e
 bsz:=Nat.le_trans I.ok.bsz I.sz
 noex:=fun b o e hb=>by
  rcases (hf b hb).2.2.2.1 with z | z
  · exact I.ok.noex b o e z
  · exact absurd (Nat.lt_of_lt_of_le (Heap.lt_size e) (Nat.le_trans I.ok.bsz z)) (Nat.lt_irrefl _)
 exfs:=fun b hb hs=>by
  rcases List.mem_cons.mp (I.stkSub b hs) with e | h
  · exact (hf b hb).2.1 e
  · exact (hf b hb).2.2.1 h
 funs:=I.stack
 frf:=I.stkFree
abbrev lobj (its:List Value) (k:Nat):Obj:={ cls:=.type "list",data:=.seq its.toArray k }
theorem join_some {o:Option (Option V)} {v:V} (h:o.join=some v):o=some (some v):=by
 cases o with
 | none=>cases h
 | some o'=>exact congrArg some h
theorem cmp_start (co:CompOk X nv ix scope) (I:Inv X pins σ H s) {fp:List Addr} {h₁:Heap} {tk:Nat} {m:Str→Option Value} (hf:∀ b∈fp,FpOk X pins H b) (hlt:∀ b∈fp,b<s.heap.objs.size)
 (hn:h₁.Ns (s.heap.objs.size+1) m) (old:∀ b o,s.heap.get? b=some o→h₁.get? b=some o) (hD:h₁.get? s.heap.objs.size=some (lobj [] 0)) :
 Inv (cmpX X nv ix scope (s.heap.objs.size+1) s H fp) [(s.heap.objs.size,lobj [] 0)] (st0 nv ix σ) H { s with heap:=h₁,toks:=tk } where
 ok:=cmpX_ok co I (Nat.le_succ _) hf hlt
 os:=rfl
 bare:=I.bare
 base:=Un.kept old
 loc:=by
  refine ⟨m,hn,fun i x v e1 e2 hv=>?_⟩
  obtain ⟨m₀,_,hl⟩:=I.loc
  have e1':(nv++ix.map (·.1))[i]? = some x:=e1
  unfold st0 at e2
  by_cases hi:i<nv.length
  · rw [List.getElem?_append_left (by rw [List.length_map];exact hi),List.getElem?_map] at e2
    cases q:nv[i]? with
    | none=>rw [q] at e2;cases e2
    | some z=>rw [q] at e2;cases e2
  · have hi':nv.length≤i:=Nat.not_lt.mp hi
    rw [List.getElem?_append_right hi',List.getElem?_map] at e1'
    rw [List.getElem?_append_right (by rw [List.length_map];exact hi'),List.length_map] at e2
    unfold frV at e2
    rw [List.getElem?_map] at e2
    cases q:ix[i - nv.length]? with
    | none=>rw [q] at e1';cases e1'
    | some p=>
      rw [q] at e1' e2
      have hp:p∈ix:=List.mem_of_getElem? q
      have ex:p.1=x:=Option.some.inj e1'
      have ev:σ[p.2]? = some (some v):=join_some (Option.some.inj e2)
      obtain ⟨f1,f2⟩:=co.ixp hp
      have hk:=co.fk (lookup_mem f1) rfl
      obtain ⟨u,r,l⟩:=hl p.2 p.1 v f2 ev (hk.elim (fun z=>.inr (.inl z)) fun z=>.inr (.inr z))
      refine ⟨u,r,.inr ⟨?_,?_⟩⟩
      · obtain ⟨k',hk'⟩:=rl_has (env:=X.env) f1
        obtain ⟨k,h1,h2,h3⟩:=rl_look hk'
        rw [f1] at h2
        cases h2
        rw [← ex]
        rcases h3 with h3 | ⟨_,h3⟩
        · exact .inr (hk'.trans (congrArg some h3))
        · exact .inl (hk'.trans (congrArg some h3))
      · obtain ⟨c,hc⟩:=clsOf_has (env:=X.env) scope.names [] p.1 (.inl (lookup_mem f1))
        refine ⟨c,by rw [← ex];exact hc,?_⟩
        have hc':=co.look I.ok hc
        rcases l with ⟨z,_⟩ | ⟨_,c',z1,o,z2,z3⟩
        · have z':X.env.kindOf p.1=some .local:=z
          rcases hk with hk | hk
          · have hk':X.env.kindOf p.1=some .cell:=hk
            rw [z'] at hk';cases hk'
          · have hk':X.env.kindOf p.1=some .free:=hk
            rw [z'] at hk';cases hk'
        · rw [hc'] at z1
          cases z1
          exact ⟨o,old _ _ z2,z3⟩
 cell:=fun x c e=>by
  obtain ⟨v,o,h1,h2⟩:=I.cell x c (co.look I.ok e)
  exact ⟨v,o,old _ _ h1,h2⟩
 free:=I.hok.fresh (Nat.le_succ _)
 freeC:=fun x c e=>I.freeC x c (co.look I.ok e)
 pin:=fun p hp=>by
  have e:p=(s.heap.objs.size,lobj [] 0):=by simpa [cmpX] using hp
  subst e
  refine ⟨hD,I.hok.fresh (Nat.le_refl _),Nat.ne_of_lt (Nat.lt_succ_self _),fun hb=>?_,fun v z=>by cases z⟩
  rcases List.mem_cons.mp (I.stkSub _ hb) with e | h
  · exact absurd I.lt (by rw [← e];exact Nat.lt_irrefl _)
  · exact I.nofs (Nat.le_refl _) h
 hok:=I.hok.kept old
 len:=by
  show (nv.map (fun _=>none)++frV σ ix).length=(nv++ix.map (·.1)).length
  unfold frV
  simp
theorem Inv.track {D:Addr} {ys its:List _} {k:Nat} (I:Inv X pins σ H s) (rv:Vals ys its) (hz:ys.length≤sizeLine) (e:s.heap.get? D=some (lobj its k)) (hn:H D=none) (hd:FpOk X pins H D):Inv X pins σ (upd H D (.lst ys)) s:=by
 have nD:∀ b u,H b=some u→b≠D:=fun b u q z=>by rw [z,hn] at q;cases q
 obtain ⟨h1,h2,h3,h4,h5,h6⟩:=hd
 refine I.step (s:=s) (h':=s.heap) (g':=s.gens) (t':=s.toks) (d':=s.drawn) (ch:=[D]) (fun b hb=>?_) (fun b o _ _ _ q _=>q) (fun b o _ _ _ q _=>⟨o.slots,q⟩) (fun b o hb _ q=>?_) (fun b o _ q=>⟨o,q⟩)
  (fun b xs q=>by rw [upd_ne (nD b _ q)];exact q) (fun b o u q=>by rw [upd_ne (nD b _ q)];exact q) (fun b ps q=>⟨#[],by rw [upd_ne (nD b _ q),q];simp⟩) (fun m hm=>hm) (fun b u q=>?_) I.bare
 · have e:b=D:=by simpa using hb
   subst e
   exact ⟨h4,h2,h5,h6⟩
 · rw [upd_ne (fun z=>hb (by simp [z]))];exact q
 · by_cases hb:b=D
   · subst hb
     rw [upd_same] at q
     cases q
     exact ⟨hz,its,k,rv,e⟩
   · rw [upd_ne hb] at q
     exact (I.hok b u q).stay (fun c v _ r=>r) (fun c r=>by rw [upd_ne (nD c _ r)];exact r) fun c xs r=>by rw [upd_ne (nD c _ r)];exact r
theorem cmp_end {ps2:List (Addr×Obj)} {σ2:St} {H':Hp} {s':Shared} {fp:List Addr} {C:Addr} (I:Inv X pins σ H s) (hf:∀ b∈fp,FpOk X pins H b) (Ic:Inv (cmpX X nv ix scope C s H fp) ps2 σ2 H' s'):Inv X pins σ H' s':=
 I.call' (ch:=fp) Ic.os Ic.base Ic.hok Ic.bare fun b hb=>⟨(hf b hb).2.2.2.1,(hf b hb).2.1,(hf b hb).2.2.2.2.1,(hf b hb).2.2.2.2.2⟩
def PIf (X:Cx) (ifs:List Expr) (t:TT):Prop:=
 ∀ (pins:List (Addr×Obj)) (s:Shared) (σ:St) (H:Hp) (Q:Bool→Hp→Prop),Inv X pins σ H s→t σ H Q →
   wpAny (model X.prog X.w) X.A (forIn ifs true fun c r=>if r=true then do let ok ← isTrue c X.env (eval c X.env);pure (ForInStep.yield ok) else pure (ForInStep.yield r)) (TP X pins σ Q) X.xe s
@[irreducible] def ZIf (X:Cx) (ifs:List Expr) (t:TT):Prop:=PIf X ifs t
def tYes:TT:=fun _ H Q=>Q true H
theorem pif_nil:PIf X [] tYes:=fun _ _ _ H _ I h=>wpAny_tests_nil ⟨H,I,h⟩
theorem zif_nil:ZIf X [] tYes:=by with_unfolding_all exact pif_nil
theorem pif_one {c:Expr} {t:TT} (h:PT X c t):PIf X [c] t:=fun pins s σ H Q I q=>wpAny_tests_one (h pins s σ H Q I q)
theorem zif_one {c:Expr} {t:TT} (h:ZT X c t):ZIf X [c] t:=by with_unfolding_all exact pif_one h
end
section
variable {prog:Program} {w:World} {A:Around} {E:Value→Shared→Prop} {R:Result→Shared→Prop} {s:Shared}
theorem compLoop_go {elt target iter:Expr} {ifs:List Expr} {scope:Scope} {pos:Pos} {it acc:Value} {env:Env} (I:Nat→Shared→Prop)
 (turn:∀ n s,I n s→wpAny (model prog w) A (pyNext it) (fun r s₁=>match r with
   | none=>R (.ok .next) s₁
   | some v=>wpAny (model prog w) A (letOwnedTupleGo target it v) (fun _ s₁'=>wpAny (model prog w) A (assign target env v) (fun _ s₂=>
    wpAny (model prog w) A (forIn ifs true fun c r=>if r=true then do let ok ← isTrue c env (eval c env);pure (ForInStep.yield ok) else pure (ForInStep.yield r)) (fun ok s₃=>
     if ok=true then wpAny (model prog w) A (eval elt env) (fun x s₄=>
      wpAny (model prog w) A (call (.builtin "list.append") [acc,x]) (fun _ s₅=>∃ m,m<n∧I m s₅) (fun _ _=>False) s₄) (fun _ _=>False) s₃
     else ∃ m,m<n∧I m s₃) (fun _ _=>False) s₂) (fun _ _=>False) s₁') (fun _ _=>False) s₁) (fun _ _=>False) s)
 (n:Nat) (h:I n s) :
 codeAny (model prog w) A (.compLoop (.ListComp elt [⟨target,iter,ifs,0⟩] scope pos) 0 it acc env) R s:=by
 refine codeAny_loop rfl I (fun n s hI=>?_) n h
 show wpAny _ A ((compTurn (.ListComp elt [⟨target,iter,ifs,0⟩] scope pos) 0 it acc env).onRaise (fun x=>do noteFrame x env;theTreesLotGoes x)) _ _ s
 refine wpAny_noted ?_
 rw [compTurn_list]
 refine wpAny_bind (wpAny_standAt (wpAny_bind (wpAny_mono (turn n s hI) (fun r s₁ h₁=>?_) fun _ _ h'=>h'.elim)))
 cases r with
 | none=>exact wpAny_pure h₁
 | some v=>
   refine wpAny_bind (wpAny_mono h₁ (fun _ s₁' h₁'=>?_) fun _ _ h'=>h'.elim)
   refine wpAny_bind (wpAny_mono h₁' (fun _ s₂ h₂=>wpAny_bind (wpAny_mono h₂ (fun ok s₃ h₃=>?_) fun _ _ h'=>h'.elim)) fun _ _ h'=>h'.elim)
   cases ok with
   | false=>exact wpAny_pure ⟨rfl,h₃⟩
   | true=>
     exact wpAny_bind (wpAny_bind (wpAny_mono h₃ (fun x s₄ h₄=>wpAny_bind (wpAny_mono h₄ (fun _ s₅ h₅=>wpAny_pure (wpAny_pure ⟨rfl,h₅⟩)) fun _ _ h'=>h'.elim)) fun _ _ h'=>h'.elim))
end
section
variable {X:Cx} {nv:List Str} {ix:List (Str×Nat)} {scope:Scope} {pins:List (Addr×Obj)} {σ:St} {H:Hp} {s:Shared} {elt tg iter:Expr} {ifs:List Expr} {pos:Pos}
def Kp (σ σ2:St):Prop:=σ.length=σ2.length∧∀ (i:Nat) v,σ[i]? = some (some v)→σ2[i]? = some (some v)
def KpG (nv:List Str) (g:TG):Prop:=∀ (fr:St) (v:V) (H:Hp) (Q:St→Hp→Prop),g v (nv.map (fun _=>none)++fr) H Q→g v (nv.map (fun _=>none)++fr) H fun σ2 H2=>Kp (nv.map (fun _=>none)++fr) σ2∧Q σ2 H2
theorem kpg_name {x:Str}:KpG [x] (gName 0):=fun fr v H Q h=>by
 refine ⟨⟨by simp,fun i w e=>?_⟩,h⟩
 cases i with
 | zero=>cases e
 | succ i=>exact e
def CmpW (nv:List Str) (ix:List (Str×Nat)) (g:TG) (ti:TT) (te:TE) (σ:St) (J:It) (Fin:List V→Hp→Prop) (H1:Hp):Prop:=
 ∃ W:Nat→Nat→List V→Hp→Prop,(∃ m,W 0 m [] H1)∧∀ i m ys H,W i m ys H →
   (J.stop i H∧Fin ys H)∨(J.go i H∧ys.length<sizeLine∧∃ N:List V→Hp→Prop,(∀ ys' H',N ys' H'→∃ m',m' < m∧W (i+1) m' ys' H') ∧
     ∀ x H',J.yld i H x H'→g x (st0 nv ix σ) H' fun σ2 H2=>ti σ2 H2 fun b H3=>if b=true then te σ2 H3 fun y H4=>N (ys++[y]) H4 else N ys H3)
theorem comp_run {J:It} {fp:List Addr} {it:Addr} {tn:Nat→Heap→Prop} {g:TG} {ti:TT} {te:TE} {Fin:List V→Hp→Prop} {E:Value→Shared→Prop} {RR:Value→Addr→Result→Shared→Prop}
 (co:CompOk X nv ix scope) (hc:X.calm=true) (I:Inv X pins σ H s) (T:Turn X.prog X.w X.K tg J fp it tn) (st:tn 0 s.heap) (hf:∀ b∈fp,FpOk X pins H b)
 (kg:KpG nv g) (hg:∀ C s₀ H₀ fp,PG (cmpX X nv ix scope C s₀ H₀ fp) tg g) (hi:∀ C s₀ H₀ fp,PIf (cmpX X nv ix scope C s₀ H₀ fp) ifs ti) (he:∀ C s₀ H₀ fp,PE (cmpX X nv ix scope C s₀ H₀ fp) elt te)
 (q:CmpW nv ix g ti te σ J Fin H)
 (fin:∀ D C s' H' ys,Inv X pins σ (upd H' D (.lst ys)) s'→H' D=none→Fin ys H'→(∃ m,s'.heap.Ns C m)→FpOk X pins (upd H' D (.lst ys)) C→RR (.ref D) C (.ok .next) s') :
 wpAny (model X.prog X.w) X.A (newList []) (fun acc s₃=>wpAny (model X.prog X.w) X.A (newFunctionEnv scope X.env.globals (clsOf X.env scope.names []) [] X.env.qual none .none (some X.env)) (fun cenv s₄=>
  codeAny (model X.prog X.w) X.A (.compStart (.ListComp elt [⟨tg,iter,ifs,0⟩] scope pos) 0 (.ref it) acc { cenv with scope:=relabel scope X.env }) (RR acc cenv.locals) s₄) E s₃) E s:=by
 obtain ⟨W,⟨m0,w0⟩,turn⟩:=q
 refine wpAny_newObj_type (wpAny_newFunctionEnv co.nocell (by intro y hy;simp at hy) (fun h₁ hns₁ hsb₁=>?_) co.kind)
 dsimp only at hns₁ hsb₁ ⊢
 generalize hH2:s.heap.push { cls:=.type "list",dict:=none,data:=.seq ([]:List Value).toArray }=H2 at hns₁ hsb₁ ⊢
 have hC:H2.objs.size=s.heap.objs.size+1:=by rw [← hH2,Heap.size_push]
 rw [hC] at hns₁ hsb₁ ⊢
 have hDC:s.heap.objs.size≠s.heap.objs.size+1:=Nat.ne_of_lt (Nat.lt_succ_self _)
 have below:∀ b,b<s.heap.objs.size→b≠s.heap.objs.size+1∧b≠s.heap.objs.size:=fun b hb=>⟨Nat.ne_of_lt (Nat.lt_succ_of_lt hb),Nat.ne_of_lt hb⟩
 have old:∀ b o,s.heap.get? b=some o→h₁.get? b=some o:=fun b o e=>hsb₁.extBut b o (below b (Heap.lt_size e)).1 (Heap.get?_push_of_some _ (hH2▸Heap.get?_push_of_some _ e))
 have hacc:h₁.get? s.heap.objs.size=some (lobj [] 0):=hsb₁.extBut _ _ hDC (Heap.get?_push_of_some _ (hH2▸Heap.get?_push_size _ rfl))
 have hlt:∀ b∈fp,b<s.heap.objs.size:=fun b hb=>by
  obtain ⟨o,e,_⟩:=T.obj 0 _ st b hb
  exact Heap.lt_size e
 have I₁:=fun tk=>cmp_start (tk:=tk) co I hf hlt hns₁ old hacc
 have st₁:tn 0 h₁:=T.keep 0 _ _ st fun b _ o e=>old b o e
 have fpD:∀ {H':Hp},H' s.heap.objs.size=none→FpOk X pins H' s.heap.objs.size:=fun hn=>I.fpOk (Nat.le_refl _) hn
 have loop:∀ tk:Nat,codeAny (model X.prog X.w) X.A (.compLoop (.ListComp elt [⟨tg,iter,ifs,0⟩] scope pos) 0 (.ref it) (.ref s.heap.objs.size) (compEnvC scope (clsOf X.env scope.names []) (s.heap.objs.size+1) X.env))
  (RR (.ref s.heap.objs.size) (s.heap.objs.size+1)) { s with heap:=h₁,toks:=tk }:=by
  intro tk
  refine compLoop_go (fun n s'=>∃ i H' ys its k,Inv (cmpX X nv ix scope (s.heap.objs.size+1) s H fp) [(s.heap.objs.size,lobj its k)] (st0 nv ix σ) H' s'∧Vals ys its∧ys.length≤sizeLine∧tn i s'.heap∧(∀ b∈fp,H' b=none)∧W i n ys H')
   ?_ m0 ⟨0,H,[],[],0,I₁ tk,.nil,Nat.zero_le _,st₁,fun b hb=>(hf b hb).1,w0⟩
  rintro n s3 ⟨i,H3,ys,its,k,I3,rv,hz,st3,fr3,w3⟩
  have fpc:∀ {H':Hp} {its:List Value} {k:Nat},(∀ b∈fp,H' b=none)→∀ b∈fp,FpOk (cmpX X nv ix scope (s.heap.objs.size+1) s H fp) [(s.heap.objs.size,lobj its k)] H' b:=fun {H' its k} hn b hb=>by
   refine ⟨hn b hb,(below b (hlt b hb)).1,fun hs=>?_,.inl hb,fun x c e=>(hf b hb).2.2.2.2.1 x c (co.look I.ok e),fun p hp z=>?_⟩
   · rcases List.mem_cons.mp (I.stkSub b hs) with e | h
     · exact (hf b hb).2.1 e
     · exact (hf b hb).2.2.1 h
   · have e:p=(s.heap.objs.size,lobj its k):=by simpa [cmpX] using hp
     subst e
     exact (below b (hlt b hb)).2 z.symm
  have pD:=fun {ps:List (Addr×Obj)} {σ':St} {H':Hp} {s':Shared} (I':Inv (cmpX X nv ix scope (s.heap.objs.size+1) s H fp) ((s.heap.objs.size,lobj its k)::ps) σ' H' s')=>
   I'.pin (s.heap.objs.size,lobj its k) (List.mem_append_right _ List.mem_cons_self)
  rcases turn i n ys H3 w3 with ⟨stop,fin0⟩ | ⟨go,hlt',N,hN,step⟩
  · refine thn (T.done (cmpX X nv ix scope (s.heap.objs.size+1) s H fp) rfl rfl rfl hc i _ s3 _ H3 _ I3 (fpc fr3) st3 stop) fun r s4 ⟨hr,I4⟩=>?_
    subst hr
    obtain ⟨p1,p2,_⟩:=pD I4
    have I5:=(cmp_end I hf I4).track rv hz p1 p2 (fpD p2)
    obtain ⟨mC,hmC,_⟩:=I4.loc
    exact fin _ _ s4 H3 ys I5 p2 fin0 ⟨mC,hmC⟩ (I.fpOk (Nat.le_succ _) (by rw [upd_ne (Ne.symm hDC)];exact I4.free))
  · refine thn (T.item (cmpX X nv ix scope (s.heap.objs.size+1) s H fp) rfl rfl rfl hc i _ s3 _ H3 _ I3 (fpc fr3) st3 go) fun r s4 ⟨u,hr,h4⟩=>?_
    subst hr
    refine thn h4 fun _ s5 ⟨x,H5,I5,r5,y5,st5,fr5⟩=>?_
    have I5':=I5.pinned (fpc fr5) (T.obj _ _ st5)
    refine thn (hg _ _ _ _ _ s5 _ H5 x u _ I5' r5 (kg _ _ _ _ (step x H5 y5))) fun _ s6 ⟨σ6,H6,I6,kp,q6⟩=>?_
    refine thn (hi _ _ _ _ _ s6 σ6 H6 _ I6 q6) fun b s7 ⟨H7,I7,q7⟩=>?_
    have again:∀ {s7:Shared} {H7:Hp} {ys' its':List _} {k':Nat},Inv (cmpX X nv ix scope (s.heap.objs.size+1) s H fp) ([(s.heap.objs.size,lobj its' k')]++pinsAt fp s5.heap) σ6 H7 s7→Vals ys' its'→ys'.length≤sizeLine→N ys' H7 →
     ∃ m,m<n∧∃ i H' ys its k,Inv (cmpX X nv ix scope (s.heap.objs.size+1) s H fp) [(s.heap.objs.size,lobj its k)] (st0 nv ix σ) H' s7∧Vals ys its∧ys.length≤sizeLine∧tn i s7.heap∧(∀ b∈fp,H' b=none)∧W i m ys H':=fun {s7 H7 ys' its' k'} I8 rv' hz' n8=>by
     obtain ⟨m',hm,w8⟩:=hN _ _ n8
     have pn:=fun (b:Addr) (o:Obj) (hb:b∈fp) (e:s5.heap.get? b=some o)=>I8.pin (b,o) (List.mem_append_right _ (List.mem_append_right _ (mem_pinsAt hb e)))
     refine ⟨m',hm,i+1,H7,ys',its',k',(I8.unpinned).weak kp.1 kp.2,rv',hz',T.keep _ _ _ st5 fun b hb o e=>(pn b o hb e).1,fun b hb=>?_,w8⟩
     obtain ⟨o,e,d⟩:=T.obj _ _ st5 b hb
     exact (pn b o hb e).2.1
    cases b with
    | false=>
      rw [if_neg Bool.false_ne_true] at q7 ⊢
      exact again I7 rv hz q7
    | true=>
      rw [if_pos rfl] at q7 ⊢
      refine thn (he _ _ _ _ _ s7 σ6 H7 _ I7 q7) fun u8 s8 ⟨y,H8,I8,r8,q8⟩=>?_
      obtain ⟨p1,p2,p3,p4,p5⟩:=pD I8
      refine append_at (hsz:=by rw [List.size_toArray,← rv.length];exact Nat.le_of_lt hlt') p1 fun h9 hs9 hD9=>?_
      have I9:Inv (cmpX X nv ix scope (s.heap.objs.size+1) s H fp) (pinsAt fp s5.heap) σ6 H8 { s8 with heap:=h9 }:=by
       have Iu:Inv (cmpX X nv ix scope (s.heap.objs.size+1) s H fp) (pinsAt fp s5.heap) σ6 H8 s8:=I8.pins_of fun p hp=>I8.pin p (List.mem_append_right _ (List.mem_append_right _ hp))
       refine Iu.turned (t':=s8.toks) (it:=s.heap.objs.size) (fun b o hb e=>(hs9.2 b hb).trans e) p2 p3 (.inr (Nat.le_refl _)) (fun x c e z=>?_) fun p hp z=>?_
       · obtain ⟨v,o,e1,_⟩:=I.cell x c (co.look I.ok e)
         exact absurd (Heap.lt_size e1) (by rw [z];exact Nat.lt_irrefl _)
       · have hp':p∈pinsAt fp s5.heap:=by simpa [cmpX] using hp
         obtain ⟨hb,_⟩:=of_pinsAt hp'
         exact (below _ (hlt _ hb)).2 z
      have I10:Inv (cmpX X nv ix scope (s.heap.objs.size+1) s H fp) ([(s.heap.objs.size,lobj (its++[u8]) (k+1))]++pinsAt fp s5.heap) σ6 H8 { s8 with heap:=h9 }:=
       I9.pins_of fun p hp=>by
        rcases List.mem_append.mp hp with hp | hp
        · have e:p=(s.heap.objs.size,lobj (its++[u8]) (k+1)):=by simpa using hp
          subst e
          refine ⟨?_,p2,p3,p4,fun v z=>by cases z⟩
          rw [List.push_toArray] at hD9
          exact hD9
        · exact I9.pin p (List.mem_append_right _ hp)
      exact again I10 (rv.append (.cons r8 .nil)) (by rw [List.length_append,List.length_singleton];exact hlt') q8
 exact codeAny_compStart_list (loop _) (T.self _ 0 _ _ _ st₁ (loop _))
def tComp (nv:List Str) (ix:List (Str×Nat)) (wi:TI) (g:TG) (ti:TT) (te:TE):TE:=fun σ H Q=>wi σ H fun J H1=>CmpW nv ix g ti te σ J (fun ys H2=>∀ D,H2 D=none→Q (.ref D) (upd H2 D (.lst ys))) H1
theorem pe_comp {wi:TI} {g:TG} {ti:TT} {te:TE} (nv:List Str) (ix:List (Str×Nat)) (hc:X.calm=true) (co:CompOk X nv ix scope) (hit:PI X tg iter wi) (kg:KpG nv g) (hg:∀ C s₀ H₀ fp,PG (cmpX X nv ix scope C s₀ H₀ fp) tg g)
 (hi:∀ C s₀ H₀ fp,PIf (cmpX X nv ix scope C s₀ H₀ fp) ifs ti) (he:∀ C s₀ H₀ fp,PE (cmpX X nv ix scope C s₀ H₀ fp) elt te)
 (hs:∀ x,foldedSetIterable iter X.env x=pure x:=by intro _;rfl):PE X (.ListComp elt [⟨tg,iter,ifs,0⟩] scope pos) (tComp nv ix wi g ti te):=by
 intro pins s σ H Q I h
 rw [eval_ListComp]
 refine wpAny_comprehension_free (use:=none) rfl hs (closure_ok (co.cells I.ok)) co.kind co.names (thn (hit pins s σ H _ I h) fun v s1 h1=>thn h1 fun itv s2 h2=>?_)
 obtain ⟨it,fp,tn,J,H2,e,I2,T,st2,f2,q⟩:=h2
 subst e
 refine comp_run co hc I2 T st2 f2 kg hg hi he q fun D C s' H' ys I' hD fin ⟨m,hm⟩ hC=>?_
 obtain ⟨c0,c1,c2,c3,c4,c5⟩:=hC
 exact ⟨m,hm,fun h' hs'=>⟨.ref D,_,I'.turned (t':=s'.toks) (fun b o hb e=>(hs'.2 b hb).trans e) c0 c1 c3 c4 c5,rfl,fin D hD⟩⟩
theorem ze_comp {wi:TI} {g:TG} {ti:TT} {te:TE} (nv:List Str) (ix:List (Str×Nat)) (hc:X.calm=true) (co:CompOk X nv ix scope) (hit:ZI X tg iter wi) (kg:KpG nv g) (hg:∀ C s₀ H₀ fp,ZG (cmpX X nv ix scope C s₀ H₀ fp) tg g)
 (hi:∀ C s₀ H₀ fp,ZIf (cmpX X nv ix scope C s₀ H₀ fp) ifs ti) (he:∀ C s₀ H₀ fp,ZE (cmpX X nv ix scope C s₀ H₀ fp) elt te)
 (hs:∀ x,foldedSetIterable iter X.env x=pure x:=by intro _;rfl):ZE X (.ListComp elt [⟨tg,iter,ifs,0⟩] scope pos) (tComp nv ix wi g ti te):=by with_unfolding_all exact pe_comp nv ix hc co hit kg hg hi he hs
theorem ps_setcomp {wi:TI} {g:TG} {ti:TT} {te:TE} {i:Nat} {y:Str} {py spos:Pos} (nv:List Str) (ix:List (Str×Nat)) (hc:X.calm=true) (hN:X.N.Nodup) (hi':X.N[i]? = some y) (hy:Loc X.env.scope y) (co:CompOk X nv ix scope) (hit:PI X tg iter wi) (kg:KpG nv g)
 (hg:∀ C s₀ H₀ fp,PG (cmpX X nv ix scope C s₀ H₀ fp) tg g) (hi:∀ C s₀ H₀ fp,PIf (cmpX X nv ix scope C s₀ H₀ fp) ifs ti) (he:∀ C s₀ H₀ fp,PE (cmpX X nv ix scope C s₀ H₀ fp) elt te)
 (hsw:swapsWith (.ListComp elt [⟨tg,iter,ifs,0⟩] scope pos) (some (.Name y py)) spos.line X.env=pure true:=by rfl)
 (hs:∀ x,foldedSetIterable iter X.env x=pure x:=by intro _;rfl) (hfn:X.fn y=true∨X.env.scope.names.lookup y=some .local:=by first | exact .inl rfl | exact .inr rfl | assumption) :
 PS X (.Assign [.Name y py] (.ListComp elt [⟨tg,iter,ifs,0⟩] scope pos) spos) (tAsg (tComp nv ix wi g ti te) (gName i)):=by
 intro pins s σ H D I h
 rw [exec_Assign_Name_used _ _ _ _ hsw]
 refine wpAny_bind (wpAny_standAt (wpAny_bind ?_))
 show wpAny _ X.A (do let _ ← comprehension (.ListComp elt [⟨tg,iter,ifs,0⟩] scope pos) scope X.env _ (newList []) false (eval iter X.env) (some (assign (.Name y py) X.env))) _ _ s
 refine wpAny_bind (wpAny_mono (wpAny_comprehension_free (use:=some (assign (.Name y py) X.env)) (Q:=fun _ s'=>SP X pins D .next s') rfl hs (closure_ok (co.cells I.ok)) co.kind co.names
  (thn (hit pins s σ H _ I h) fun v s1 h1=>thn h1 fun itv s2 h2=>?_)) (fun _ s' hq=>wpAny_pure (wpAny_pure hq)) fun _ _ e=>e)
 obtain ⟨it,fp,tn,J,H2,e,I2,T,st2,f2,q⟩:=h2
 subst e
 refine comp_run co hc I2 T st2 f2 kg hg hi he q fun DD C s' H' ys I' hD fin ⟨m,hm⟩ hC=>?_
 obtain ⟨c0,c1,c2,c3,c4,c5⟩:=hC
 show wpAny _ X.A (assign (.Name y py) X.env (.ref DD)) _ _ s'
 refine wpAny_assign_Name (store_ok2 I' hN hi' hy (show RelV (.ref DD) (.ref DD) from rfl) (fun s'' I'' ⟨a,sb,ha⟩=>?_) hfn)
 have hCa:C≠a:=by
  rcases ha with rfl | ha
  · exact c1
  · exact fun z=>c4 y a ha z.symm
 refine ⟨m,hm.sameBut sb hCa,fun h' hs'=>⟨_,_,I''.turned (t':=s''.toks) (fun b o hb e=>(hs'.2 b hb).trans e) c0 c1 c3 c4 c5,fin DD hD⟩⟩
theorem zs_setcomp {wi:TI} {g:TG} {ti:TT} {te:TE} {i:Nat} {y:Str} {py spos:Pos} (nv:List Str) (ix:List (Str×Nat)) (hc:X.calm=true) (hN:X.N.Nodup) (hi':X.N[i]? = some y) (hy:Loc X.env.scope y) (co:CompOk X nv ix scope) (hit:ZI X tg iter wi) (kg:KpG nv g)
 (hg:∀ C s₀ H₀ fp,ZG (cmpX X nv ix scope C s₀ H₀ fp) tg g) (hi:∀ C s₀ H₀ fp,ZIf (cmpX X nv ix scope C s₀ H₀ fp) ifs ti) (he:∀ C s₀ H₀ fp,ZE (cmpX X nv ix scope C s₀ H₀ fp) elt te)
 (hsw:swapsWith (.ListComp elt [⟨tg,iter,ifs,0⟩] scope pos) (some (.Name y py)) spos.line X.env=pure true:=by rfl)
 (hs:∀ x,foldedSetIterable iter X.env x=pure x:=by intro _;rfl) (hfn:X.fn y=true∨X.env.scope.names.lookup y=some .local:=by first | exact .inl rfl | exact .inr rfl | assumption) :
 ZS X (.Assign [.Name y py] (.ListComp elt [⟨tg,iter,ifs,0⟩] scope pos) spos) (tAsg (tComp nv ix wi g ti te) (gName i)):=by with_unfolding_all exact ps_setcomp nv ix hc hN hi' hy co hit kg hg hi he hsw hs hfn
end
section
variable {nv:List Str} {ix:List (Str×Nat)} {σ:St} {H:Hp} {g:TG} {ti:TT} {te:TE} {Fin:List V→Hp→Prop} {K:PySem.W.Frag} {a:Addr} {xs:List V}
theorem cmp_list (Pv:Nat→List V→Hp→Prop) (h0:Pv 0 [] H) (hl:∀ i ys H,i≤xs.length→Pv i ys H→SqL K H a xs)
 (hs:∀ i x ys H,xs[i]? = some x→Pv i ys H→ys.length<sizeLine∧g x (st0 nv ix σ) H fun σ2 H2=>ti σ2 H2 fun b H3=>if b=true then te σ2 H3 fun y H4=>Pv (i+1) (ys++[y]) H4 else Pv (i+1) ys H3)
 (hd:∀ ys H,Pv xs.length ys H→Fin ys H):CmpW nv ix g ti te σ (Itl K a) Fin H:=by
 refine ⟨fun i m ys H=>m=xs.length - i∧i≤xs.length∧Pv i ys H,⟨xs.length,by simp,Nat.zero_le _,h0⟩,?_⟩
 rintro i m ys H ⟨rfl,hi,p⟩
 have q:=hl i ys H hi p
 by_cases hlt:i<xs.length
 · have e:=hs i xs[i] ys H (by simp [hlt]) p
   refine .inr ⟨⟨xs,xs[i],q,by simp [hlt]⟩,e.1,Pv (i+1),fun σ' H' p'=>⟨xs.length - (i+1),by omega,rfl,hlt,p'⟩,fun x H' y=>?_⟩
   obtain ⟨e',y⟩:=y
   subst e'
   exact (hs i x ys _ (y xs q) p).2
 · have e:i=xs.length:=by omega
   subst e
   exact .inl ⟨⟨xs,q,Nat.le_refl _⟩,hd ys H p⟩
theorem cmp_tup (Pv:Nat→List V→Hp→Prop) (h0:Pv 0 [] H) (hl:∀ i ys H,i≤xs.length→Pv i ys H→SqT K H a xs)
 (hs:∀ i x ys H,xs[i]? = some x→Pv i ys H→ys.length<sizeLine∧g x (st0 nv ix σ) H fun σ2 H2=>ti σ2 H2 fun b H3=>if b=true then te σ2 H3 fun y H4=>Pv (i+1) (ys++[y]) H4 else Pv (i+1) ys H3)
 (hd:∀ ys H,Pv xs.length ys H→Fin ys H):CmpW nv ix g ti te σ (Itt K a) Fin H:=by
 refine ⟨fun i m ys H=>m=xs.length - i∧i≤xs.length∧Pv i ys H,⟨xs.length,by simp,Nat.zero_le _,h0⟩,?_⟩
 rintro i m ys H ⟨rfl,hi,p⟩
 have q:=hl i ys H hi p
 by_cases hlt:i<xs.length
 · have e:=hs i xs[i] ys H (by simp [hlt]) p
   refine .inr ⟨⟨xs,xs[i],q,by simp [hlt]⟩,e.1,Pv (i+1),fun σ' H' p'=>⟨xs.length - (i+1),by omega,rfl,hlt,p'⟩,fun x H' y=>?_⟩
   obtain ⟨e',y⟩:=y
   subst e'
   exact (hs i x ys _ (y xs q) p).2
 · have e:i=xs.length:=by omega
   subst e
   exact .inl ⟨⟨xs,q,Nat.le_refl _⟩,hd ys H p⟩
theorem cmp_range {lo:Int} {n:Nat} (Pv:Nat→List V→Hp→Prop) (h0:Pv 0 [] H)
 (hs:∀ i ys H,i<n→Pv i ys H→ys.length<sizeLine∧g (.int (lo+i)) (st0 nv ix σ) H fun σ2 H2=>ti σ2 H2 fun b H3=>if b=true then te σ2 H3 fun y H4=>Pv (i+1) (ys++[y]) H4 else Pv (i+1) ys H3)
 (hd:∀ ys H,Pv n ys H→Fin ys H):CmpW nv ix g ti te σ (Itr lo n) Fin H:=by
 refine ⟨fun i m ys H=>m=n - i∧i≤n∧Pv i ys H,⟨n,by simp,Nat.zero_le _,h0⟩,?_⟩
 rintro i m ys H ⟨rfl,hi,p⟩
 by_cases hlt:i<n
 · refine .inr ⟨hlt,(hs i ys H hlt p).1,Pv (i+1),fun σ' H' p'=>⟨n - (i+1),by omega,rfl,hlt,p'⟩,fun x H' y=>?_⟩
   obtain ⟨e',y⟩:=y
   subst e' y
   exact (hs i ys _ hlt p).2
 · have e:i=n:=by omega
   subst e
   exact .inl ⟨Nat.le_refl _,hd ys H p⟩
end
theorem Same.new {H:Hp} {p:Addr} (h:H p=none) (o:HO):Same H (upd H p o):=fun b u q=>by rw [upd_ne (ne_of_none q h)];exact q
section
variable {X:Cx} {a b c:Expr} {ta tb tc:TE} {pos:Pos}
theorem op_mulB:OpR X (binaryOp .Mult) (rI (fun i j=>IntMulOk i j) fun i j=>.int (i*j)):=opI fun _ _ _ _ _ _ _ hc q=>mul_int q hc
def rSorted (K:PySem.W.Frag):List V→Hp→VK→Prop:=fun xs H Q=>∃ p ns,xs=[.ref p]∧SqL K H p (ns.map V.int)∧ns.length<64 ∧
 ∀ l ns',H l=none→List.Perm ns' ns→ns'.Pairwise (·≤·)→Q (.ref l) (upd H l (.lst (ns'.map V.int)))
theorem call_sorted:CallR X (.builtin "sorted") (rSorted X.K):=by
 intro pins s σ H xs us Q I r h
 obtain ⟨p,ns,rfl,hq,h64,q⟩:=h
 obtain ⟨u,rfl,rx⟩:=vals1 r
 cases rx
 obtain ⟨its,rv,pl,hz⟩:=I.list hq
 have hI:IntsAre its ns:=intsAre_of rv
 have hl:its.length<64:=by rw [← rv.length,List.length_map];exact h64
 refine sorted_ints pl.isList hI hl fun out ns' a1 a2 a3=>?_
 obtain ⟨e,he⟩:=sortedAll_at s.heap its out
 refine ⟨.ref (s.heap.objs.size+1),_,I.laid (t':=s.toks) (a:=s.heap.objs.size+1) (o:=.lst (ns'.map V.int)) (fun b ob q=>sortedAll_old q) (Nat.le_succ _) ?_,rfl,q _ ns' (I.hok.fresh (Nat.le_succ _)) a2 a3⟩
 refine ⟨?_,out.toList,e,vals_ints a1,he⟩
 rw [List.length_map,a2.length_eq,← List.length_map (f:=V.int)]
 exact hz
end
section
variable {prog:Program} {w:World} {A:Around} {E:Value→Shared→Prop} {s:Shared}
theorem getItem_tuple_whole {t sl:Addr} {items:Array Value} {vl vu:Value} {lo hi:Option Int} {Q:Value→Shared→Prop} (ht:IsTup s.heap t items) (hs:s.heap.IsSliceOf sl vl vu .none) (pl:IsPart vl lo) (pu:IsPart vu hi)
 (hw:HT.sIx items.size 0 lo=0∧HT.sIx items.size items.size hi=items.size)
 (h:Q (.ref t) s):wpAny (model prog w) A (getItem (.ref t) (.ref sl)) Q E s:=by
 obtain ⟨os,hos,hcs,hds⟩:=id hs
 have hTs:s.TypeIs (.ref sl) "slice":=⟨os,hos,hcs⟩
 unfold getItem
 try with_reducible refine wpAny_holding ?_
 first | refine wpAny_bind (wpAny_pure ?_) | skip
 refine wpAny_bind (wpAny_sequenceKey ht.typeIs (by decide) ?_)
 refine wpAny_bind (wpAny_callSpecial?_slot (name:=Str.ofString "__getitem__") ht.typeIs PyProof.Rows.slot_tuple_getitem
  (wpAny_call_entry PyProof.Rows.slot_tuple_getitem ht.typeIs entry_tuple_getitem ?_ (args_tuple_getitem _ _)))
 show wpAny _ _ (Builtin.Tuple.tupleItemsOf (.ref t) >>= _) _ _ s
 refine wpAny_bind (tupleItemsOf_ ht ?_)
 refine wpAny_bind (wpAny_typeOf hTs ?_)
 rw [if_pos (by decide)]
 refine wpAny_bind (HT.sliceApplied_gen hs pl pu ?_)
 have hyes:((((HT.sIx items.size 0 lo:Nat):Int) == 0&&(1:Int) == 1&&(HT.sIx items.size items.size hi - HT.sIx items.size 0 lo) == items.size)=true):=by
  rw [hw.1,hw.2]
  simp
 show wpAny _ _ (if (((HT.sIx items.size 0 lo:Nat):Int) == 0&&(1:Int) == 1&&(HT.sIx items.size items.size hi - HT.sIx items.size 0 lo) == items.size)=true then _ else _) _ _ s
 rw [if_pos hyes]
 refine wpAny_bind (m:=Builtin.Tuple.tupleIsExact _) ?_
 unfold Builtin.Tuple.tupleIsExact
 refine wpAny_bind (wpAny_typeOf ht.typeIs (wpAny_pure ?_))
 rw [if_pos (by decide)]
 exact wpAny_bind (wpAny_rule (wpAny_pure ⟨_,rfl,wpAny_pure h⟩))
end
section
variable {X:Cx} {a b c:Expr} {ta tb tc:TE} {pos:Pos}
def rSlP (K:PySem.W.Frag):V→Option Int→Option Int→Hp→VK→Prop:=fun x lo hi H Q=>∃ a,x=.ref a∧((∃ xs,H a=some (.tup xs)∧∀ r H',Same H H'→H' r=some (.tup (cutV xs lo hi))→Q (.ref r) H') ∨
 ∃ xs,SqL K H a xs∧∀ p,H p=none→Q (.ref p) (upd H p (.lst (cutV xs lo hi))))
theorem sl_P:SlR X (rSlP X.K):=by
 intro pins s σ H x v vl vu lo hi sl Q I rx hs pl pu h
 obtain ⟨a,rfl,⟨xs,hx,q⟩ | ⟨xs,hx,q⟩⟩:=h
 · by_cases hw:HT.sIx xs.length 0 lo=0∧HT.sIx xs.length xs.length hi=xs.length
   · cases rx
     obtain ⟨its,r,ht,hz⟩:=I.tuple (SqT.of hx)
     have hlen:its.toArray.size=xs.length:=by rw [List.size_toArray];exact r.length.symm
     refine ⟨"tuple",_,PyProof.Rows.slot_tuple_getitem.lookup,ht.typeIs,?_⟩
     refine getItem_tuple_whole ht hs pl pu (by rw [hlen];exact hw) ⟨.ref a,H,I,rfl,q a H (Same.refl H) ?_⟩
     rw [hx]
     unfold cutV
     rw [hw.1,hw.2,List.drop_zero,Nat.sub_zero,List.take_of_length_le (Nat.le_refl _)]
   · exact sl_tup pins s σ H _ v vl vu lo hi sl Q I rx hs pl pu ⟨a,xs,rfl,SqT.of hx,hw,fun p hp=>q p _ (Same.new hp _) upd_same⟩
 · exact sl_list pins s σ H _ v vl vu lo hi sl Q I rx hs pl pu ⟨a,xs,rfl,hx,q⟩
theorem PE.imp {e:Expr} {t t':TE} (h:PE X e t) (i:∀ σ H Q,t' σ H Q→t σ H Q):PE X e t':=fun pins s σ H Q I q=>h pins s σ H Q I (i σ H Q q)
theorem OpR.imp {f:Value→Value→Sem Value} {r r':R2} (h:OpR X f r) (i:∀ x y H Q,r' x y H Q→r x y H Q):OpR X f r':=fun pins s σ H x y v u Q I rx ry q=>h pins s σ H x y v u Q I rx ry (i x y H Q q)
def tV (i:Nat):TE:=fun σ H Q=>match σ[i]? with | some (some v)=>Q v H | _=>False
theorem tV_var {i:Nat} (σ:St) (H:Hp) (Q:VK) (h:tV i σ H Q):tVar i σ H Q:=by
 unfold tV at h
 split at h
 · exact ⟨_,by assumption,h⟩
 · exact h.elim
theorem pn (i:Nat) {x:Str} {pos:Pos} (hN:X.N[i]? = some x:=by rfl) (hv:Vis X.env.scope x:=by first | exact Or.inl rfl | exact Or.inr (Or.inl rfl) | exact Or.inr (Or.inr rfl)) (hd:(x == ("__debug__" : Str))=false:=by decide)
 (hcd:(x == ("__classdict__" : Str))=false:=by decide):PE X (.Name x pos) (tV i):=(pe_var hN hv hd hcd).imp tV_var
theorem zn (i:Nat) {x:Str} {pos:Pos} (hN:X.N[i]? = some x:=by rfl) (hv:Vis X.env.scope x:=by first | exact Or.inl rfl | exact Or.inr (Or.inl rfl) | exact Or.inr (Or.inr rfl)) (hd:(x == ("__debug__" : Str))=false:=by decide)
 (hcd:(x == ("__classdict__" : Str))=false:=by decide):ZE X (.Name x pos) (tV i):=by with_unfolding_all exact pn i hN hv hd hcd
def rAddP (K:PySem.W.Frag):R2:=fun x y H Q=>match x,y with
 | .int i,.int j=>Q (.int (i+j)) H
 | .str i,.str j=>i.length+j.length≤sizeLine∧Q (.str (i++j)) H
 | .ref a,.ref b=>(∃ xs ys,H a=some (.lst xs)∧H b=some (.lst ys)∧xs.length+ys.length≤sizeLine∧∀ p,H p=none→Q (.ref p) (upd H p (.lst (xs++ys)))) ∨
  ∃ xs ys,H a=some (.tup xs)∧H b=some (.tup ys)∧xs.length+ys.length≤sizeLine∧∀ r H',Same H H'→H' r=some (.tup (xs++ys))→Q (.ref r) H'
 | _,_=>False
theorem op_catA':OpR X (binaryOp .Add) (fun x y H Q=>∃ a b xs ys,x=.ref a∧y=.ref b∧H a=some (.tup xs)∧H b=some (.tup ys)∧xs.length+ys.length≤sizeLine∧∀ r H',Same H H'→H' r=some (.tup (xs++ys))→Q (.ref r) H'):=by
 intro pins s σ H x y v u Q I rx ry h
 obtain ⟨a,b,xs,ys,rfl,rfl,ha,hb,hz,q⟩:=h
 by_cases hx:xs=[]
 · subst hx
   cases rx
   cases ry
   obtain ⟨its,r1,p1,_⟩:=I.tuple (SqT.of ha)
   obtain ⟨its2,r2,p2,_⟩:=I.tuple (SqT.of hb)
   cases r1
   obtain ⟨⟨cls,dd,data,sl⟩,ho,hc,n,hd⟩:=id p1
   obtain ⟨⟨cls2,dd2,data2,sl2⟩,ho2,hc2,n2,hd2⟩:=id p2
   simp only at hc hd hc2 hd2
   subst hc hd hc2 hd2
   exact concat_meets ⟨_,ho,rfl⟩ ⟨_,ho2,rfl⟩ noFill_tuple_add seq_tuple_add PySem.F.slot_tuple_add PySem.F.entry_tuple_add (PySem.F.args_tuple_add_2 _ _)
    (tuple_addW0 a b _ _ n n2 dd dd2 sl sl2 (by rfl)) ⟨ho,ho2,⟨.ref b,H,I,rfl,q b H (Same.refl H) hb⟩⟩
 · refine op_catT pins s σ H _ _ v u Q I rx ry ⟨a,b,xs,ys,rfl,rfl,SqT.of ha,SqT.of hb,hx,hz,fun e=>?_,fun e p hp=>?_⟩
   · subst e
     exact q a H (Same.refl H) (by rw [List.append_nil];exact ha)
   · exact q p _ (Same.new hp _) upd_same
theorem op_addP:OpR X (binaryOp .Add) (rAddP X.K):=by
 intro pins s σ H x y v u Q I rx ry h
 unfold rAddP at h
 split at h
 · exact op_add pins s σ H _ _ v u Q I rx ry ⟨_,_,rfl,rfl,h⟩
 · exact op_add_str pins s σ H _ _ v u Q I rx ry ⟨_,_,rfl,rfl,h⟩
 · rcases h with ⟨xs,ys,h1,h2,h3,q⟩ | ⟨xs,ys,h1,h2,h3,q⟩
   · exact op_cat pins s σ H _ _ v u Q I rx ry ⟨_,_,xs,ys,rfl,rfl,h1,h2,h3,q⟩
   · exact op_catA' pins s σ H _ _ v u Q I rx ry ⟨_,_,xs,ys,rfl,rfl,h1,h2,h3,q⟩
 · exact h.elim
def rP (C:Int→Int→Prop) (g:Int→Int→V):R2:=fun x y H Q=>match x,y with | .int i,.int j=>C i j∧Q (g i j) H | _,_=>False
def rP0 (g:Int→Int→V):R2:=fun x y H Q=>match x,y with | .int i,.int j=>Q (g i j) H | _,_=>False
theorem rP_rI {C:Int→Int→Prop} {g:Int→Int→V} (x y:V) (H:Hp) (Q:VK) (h:rP C g x y H Q):rI C g x y H Q:=by
 unfold rP at h
 split at h
 · exact ⟨_,_,rfl,rfl,h⟩
 · exact h.elim
theorem rP0_rI0 {g:Int→Int→V} (x y:V) (H:Hp) (Q:VK) (h:rP0 g x y H Q):rI0 g x y H Q:=by
 unfold rP0 at h
 split at h
 · exact ⟨_,_,rfl,rfl,h⟩
 · exact h.elim
theorem op_subP:OpR X (binaryOp .Sub) (rP0 fun i j=>.int (i - j)):=op_sub.imp rP0_rI0
theorem op_modP:OpR X (binaryOp .Mod) (rP (fun _ j=>0<j) fun i j=>.int (i % j)):=op_mod.imp rP_rI
theorem op_fdivP:OpR X (binaryOp .FloorDiv) (rP CDiv fun i j=>.int (i / j)):=op_fdiv.imp rP_rI
theorem op_powP:OpR X (binaryOp .Pow) (rP CPow fun i j=>.int (i ^ j.toNat)):=op_pow.imp rP_rI
theorem op_ltP:OpR X (compareOp .Lt) (rP0 fun i j=>.bl (decide (i<j))):=op_lt.imp rP0_rI0
theorem op_leP:OpR X (compareOp .LtE) (rP0 fun i j=>.bl (decide (i≤j))):=op_le.imp rP0_rI0
theorem op_gtP:OpR X (compareOp .Gt) (rP0 fun i j=>.bl (decide (j<i))):=op_gt.imp rP0_rI0
theorem op_geP:OpR X (compareOp .GtE) (rP0 fun i j=>.bl (decide (j≤i))):=op_ge.imp rP0_rI0
def rIsP (neg:Bool):R2:=fun x y H Q=>match y with
 | .non=>Q (.bl (if neg then !decide (x=y) else decide (x=y))) H
 | .bl _=>match x with
   | .flt _=>False
   | .byt _=>False
   | .ty _=>False
   | _=>Q (.bl (if neg then !decide (x=y) else decide (x=y))) H
 | _=>False
end
mutual
inductive DatV (H:Hp):V→PyData→Prop where
 | non:DatV H .non .none
 | bl (b:Bool):DatV H (.bl b) (.bool b)
 | int (i:Int):DatV H (.int i) (.int i)
 | str (x:Str):DatV H (.str x) (.str x)
 | lst {a:Addr} {xs:List V} {ds:List PyData} (e:H a=some (.lst xs)) (r:DatAll H xs ds):DatV H (.ref a) (.list ds)
 | tup {a:Addr} {xs:List V} {ds:List PyData} (e:H a=some (.tup xs)) (r:DatAll H xs ds):DatV H (.ref a) (.tuple ds)
inductive DatAll (H:Hp):List V→List PyData→Prop where
 | nil:DatAll H [] []
 | cons {x:V} {d:PyData} {xs:List V} {ds:List PyData} (h:DatV H x d) (r:DatAll H xs ds):DatAll H (x::xs) (d::ds)
end
theorem DatAll.ints {H:Hp}:∀ ns:List Int,DatAll H (ns.map V.int) (ns.map PyData.int)
 | []=>.nil
 | n::r=>.cons (.int n) (DatAll.ints r)
section
variable {X:Cx} {pins:List (Addr×Obj)} {σ:St} {H:Hp} {s:Shared}
mutual
theorem DatV.reads (I:Inv X pins σ H s):∀ {x:V} {d:PyData} {v:Value},DatV H x d→RelV x v→∃ as,Reads s.heap v d as
 | _,_,_,.non,r=>by cases r;exact ⟨_,.none⟩
 | _,_,_,.bl b,r=>by cases r;exact ⟨_,.bool b⟩
 | _,_,_,.int i,r=>by obtain ⟨t,rfl⟩:=r;exact ⟨_,.int i t⟩
 | _,_,_,.str x,r=>by obtain ⟨t,rfl⟩:=r;exact ⟨_,.str x t⟩
 | _,_,_,.lst e q,r=>by
   cases r
   obtain ⟨_,its,n,rv,h⟩:=I.lstM e
   obtain ⟨_,h⟩:=h
   obtain ⟨as,z⟩:=DatAll.reads I q rv
   exact ⟨_,reads_list_at h rfl rfl z⟩
 | _,_,_,.tup e q,r=>by
   cases r
   obtain ⟨its,rv,⟨o,h1,h2,n,h3⟩,_⟩:=I.tuple (SqT.of e)
   obtain ⟨as,z⟩:=DatAll.reads I q rv
   exact ⟨_,reads_tuple_at h1 h2 h3 z⟩
theorem DatAll.reads (I:Inv X pins σ H s):∀ {xs:List V} {ds:List PyData} {vs:List Value},DatAll H xs ds→Vals xs vs→∃ as,ReadsAll s.heap vs ds as
 | _,_,_,.nil,r=>by cases r;exact ⟨_,.nil⟩
 | _,_,_,.cons h q,r=>by
   cases r with
   | cons r1 r2=>
     obtain ⟨as,z⟩:=DatV.reads I h r1
     obtain ⟨bs,y⟩:=DatAll.reads I q r2
     exact ⟨_,.cons z y⟩
end
end
section
variable {X:Cx} {a b c:Expr} {ta tb tc:TE} {pos:Pos}
def rEqD (neg:Bool):R2:=fun x y H Q=>match scal x y with
 | true=>Q (.bl (if neg then !decide (x=y) else decide (x=y))) H
 | false=>∃ d e,DatV H x d∧DatV H y e∧SeqAt.shaped d=true∧SeqAt.shaped e=true∧Q (.bl (if neg then !PyData.eqv d e else PyData.eqv d e)) H
theorem op_eqD (hu:X.A.units+64<cLine):OpR X (compareOp .Eq) (rEqD false):=by
 intro pins s σ H x y v u Q I rx ry h
 unfold rEqD at h
 split at h
 · exact op_eq pins s σ H x y v u Q I rx ry ⟨by assumption,h⟩
 · obtain ⟨d,e,h1,h2,h3,h4,q⟩:=h
   obtain ⟨as,r1⟩:=h1.reads I rx
   obtain ⟨bs,r2⟩:=h2.reads I ry
   exact eq_dataH r1 r2 h3 h4 hu ⟨.bl _,H,I,rfl,q⟩
theorem op_neD (hu:X.A.units+64<cLine):OpR X (compareOp .NotEq) (rEqD true):=by
 intro pins s σ H x y v u Q I rx ry h
 unfold rEqD at h
 split at h
 · exact op_ne pins s σ H x y v u Q I rx ry ⟨by assumption,h⟩
 · obtain ⟨d,e,h1,h2,h3,h4,q⟩:=h
   obtain ⟨as,r1⟩:=h1.reads I rx
   obtain ⟨bs,r2⟩:=h2.reads I ry
   exact ne_dataH r1 r2 h3 h4 hu ⟨.bl _,H,I,rfl,q⟩
theorem op_isntP:OpR X (compareOp .IsNot) (rIsP true):=by
 intro pins s σ H x y v u Q I rx ry h
 unfold rIsP at h
 split at h
 · exact op_notN pins s σ H x _ v u Q I rx ry ⟨rfl,h⟩
 · rename_i k
   cases ry
   split at h
   · exact h.elim
   · exact h.elim
   · exact h.elim
   · rename_i hf hb ht
     cases x with
     | non=>cases rx;exact wpAny_isNot_plain rfl (fin_bl I h (by simp))
     | bl j=>cases rx;exact wpAny_isNot_plain rfl (fin_bl I h (by rw [Bool.eq_iff_iff];simp))
     | int j=>obtain ⟨t,rfl⟩:=rx;exact wpAny_isNot_plain rfl (fin_bl I h (by simp))
     | str j=>obtain ⟨t,rfl⟩:=rx;exact wpAny_isNot_plain rfl (fin_bl I h (by simp))
     | byt j=>exact absurd rfl (hb j)
     | flt j=>exact absurd rfl (hf j)
     | ref j=>cases rx;exact wpAny_isNot_plain rfl (fin_bl I h (by simp))
     | ty j=>exact absurd rfl (ht j)
 · exact h.elim
def tBlP (t:TE):TT:=fun σ H Q=>t σ H fun x H1=>match x with | .bl c=>Q c H1 | _=>False
theorem blP {x:V} {P:Bool→Prop} (h:match x with | .bl c=>P c | _=>False):∃ c,x=.bl c∧P c:=by
 cases x <;> first | exact ⟨_,rfl,h⟩ | exact h.elim
theorem pt_cmpP {op:CmpOp} {r:R2} (ho:OpR X (compareOp op) r) (ha:PE X a ta) (hb:PE X b tb) (hm:behindInMarks op b=false):PT X (.Compare a [op] [b] pos) (tBlP (tOp r ta tb)):=by
 intro pins s σ H Q I h
 refine wpAny_isTrue_Compare1 (binT ha hb I h fun v u s2 x y H2 I2 rx ry q=>?_) hm
 refine thn (ho pins s2 σ H2 x y v u _ I2 rx ry q) fun z s3 ⟨w',H3,I3,r3,q3⟩=>?_
 obtain ⟨k,rfl,q3⟩:=blP q3
 cases r3
 exact wpAny_truthy_bool ⟨H3,I3,q3⟩
theorem zt_cmpP {op:CmpOp} {r:R2} (ho:OpR X (compareOp op) r) (ha:ZE X a ta) (hb:ZE X b tb) (hm:behindInMarks op b=false):ZT X (.Compare a [op] [b] pos) (tBlP (tOp r ta tb)):=by with_unfolding_all exact pt_cmpP ho ha hb hm
theorem pt_valP {e:Expr} {t:TE} (h:PE X e t) (he:∀ whole,isTrue e X.env whole=(do let v ← whole;standAt e.pos;holding [v] (truthy v)):=by intro _;rfl):PT X e (tBlP t):=by
 intro pins s σ H Q I q
 refine isTrue_plain (thn (h pins s σ H _ I q) fun v s1 ⟨x,H1,I1,r1,q1⟩=>?_) (he _)
 obtain ⟨k,rfl,q1⟩:=blP q1
 cases r1
 exact wpAny_truthy_bool ⟨H1,I1,q1⟩
theorem zt_valP {e:Expr} {t:TE} (h:ZE X e t) (he:∀ whole,isTrue e X.env whole=(do let v ← whole;standAt e.pos;holding [v] (truthy v)):=by intro _;rfl):ZT X e (tBlP t):=by with_unfolding_all exact pt_valP h he
def tAndP (ta tb:TE):TE:=fun σ H Q=>ta σ H fun x H1=>match x with | .bl c=>if c=true then tb σ H1 Q else Q (.bl false) H1 | _=>False
def tOrP (ta tb:TE):TE:=fun σ H Q=>ta σ H fun x H1=>match x with | .bl c=>if c=true then Q (.bl true) H1 else tb σ H1 Q | _=>False
variable {rest:List Expr}
theorem pe_andP (ha:PE X a ta) (hb:PE X (.BoolOp .And (b::rest) pos) tb):PE X (.BoolOp .And (a::b::rest) pos) (tAndP ta tb):=by
 intro pins s σ H Q I h
 refine BoolOp_and (thn (ha pins s σ H _ I h) fun v s1 ⟨x,H1,I1,r1,q1⟩=>?_)
 obtain ⟨c,rfl,q1⟩:=blP q1
 cases r1
 refine wpAny_truthy_bool ?_
 cases c with
 | true=>exact hb pins s1 σ H1 Q I1 q1
 | false=>exact ⟨.bl false,H1,I1,rfl,q1⟩
theorem ze_andP (ha:ZE X a ta) (hb:ZE X (.BoolOp .And (b::rest) pos) tb):ZE X (.BoolOp .And (a::b::rest) pos) (tAndP ta tb):=by with_unfolding_all exact pe_andP ha hb
theorem pe_orP (ha:PE X a ta) (hb:PE X (.BoolOp .Or (b::rest) pos) tb):PE X (.BoolOp .Or (a::b::rest) pos) (tOrP ta tb):=by
 intro pins s σ H Q I h
 refine BoolOp_or (thn (ha pins s σ H _ I h) fun v s1 ⟨x,H1,I1,r1,q1⟩=>?_)
 obtain ⟨c,rfl,q1⟩:=blP q1
 cases r1
 refine wpAny_truthy_bool ?_
 cases c with
 | false=>exact hb pins s1 σ H1 Q I1 q1
 | true=>exact ⟨.bl true,H1,I1,rfl,q1⟩
theorem ze_orP (ha:ZE X a ta) (hb:ZE X (.BoolOp .Or (b::rest) pos) tb):ZE X (.BoolOp .Or (a::b::rest) pos) (tOrP ta tb):=by with_unfolding_all exact pe_orP ha hb
def rIxP (K:PySem.W.Frag):R2:=fun x y H Q=>match x,y with
 | .ref p,.int i=>(∃ xs,(SqL K H p xs∨H p=some (.tup xs))∧∃ v,atI xs i=some v∧Q v H)
 | _,_=>False
theorem ix_P:IxR X (rIxP X.K):=by
 intro value slice pins s σ H x y v u Q I rx ry h hs
 unfold rIxP at h
 split at h
 · obtain ⟨xs,h1 | h1,w,e,q⟩:=h
   · exact ix_list value slice pins s σ H _ _ v u Q I rx ry ⟨_,xs,_,w,rfl,rfl,h1,e,q⟩ hs
   · exact ix_tup value slice pins s σ H _ _ v u Q I rx ry ⟨_,xs,_,w,rfl,rfl,SqT.of h1,e,q⟩ hs
 · exact h.elim
theorem CallR.imp {f:Value} {r r':List V→Hp→VK→Prop} (h:CallR X f r) (i:∀ xs H Q,r' xs H Q→r xs H Q):CallR X f r':=fun pins s σ H xs us Q I rs q=>h pins s σ H xs us Q I rs (i xs H Q q)
def rLenP (K:PySem.W.Frag):List V→Hp→VK→Prop:=fun xs H Q=>match xs with
 | [.ref p]=>∃ ys,(SqL K H p ys∨H p=some (.tup ys))∧Q (.int ys.length) H
 | _=>False
theorem call_lenP:CallR X (.builtin "len") (rLenP X.K):=call_len_seq.imp fun xs H Q h=>by
 unfold rLenP at h
 split at h
 · obtain ⟨ys,h1 | h1,q⟩:=h
   · exact ⟨_,ys,rfl,.inl h1,q⟩
   · exact ⟨_,ys,rfl,.inr (SqT.of h1),q⟩
 · exact h.elim
def rTupP (K:PySem.W.Frag):List V→Hp→VK→Prop:=fun xs H Q=>match xs with
 | [.ref p]=>∃ ys,(SqL K H p ys∨H p=some (.tup ys))∧∀ r H',Same H H'→H' r=some (.tup ys)→Q (.ref r) H'
 | _=>False
theorem call_tupP:CallR X (.type "tuple") (rTupP X.K):=call_tuple_of.imp fun xs H Q h=>by
 unfold rTupP at h
 split at h
 · obtain ⟨ys,h1 | h1,q⟩:=h
   · exact ⟨_,ys,rfl,.inl ⟨h1,fun l hl=>q l _ (Same.new hl _) upd_same⟩⟩
   · exact ⟨_,ys,rfl,.inr ⟨SqT.of h1,q _ H (Same.refl H) h1⟩⟩
 · exact h.elim
def rLstP (K:PySem.W.Frag):List V→Hp→VK→Prop:=fun xs H Q=>match xs with
 | [.ref p]=>∃ ys,(SqL K H p ys∨H p=some (.tup ys))∧∀ l,H l=none→Q (.ref l) (upd H l (.lst ys))
 | _=>False
theorem call_lstP:CallR X (.type "list") (rLstP X.K):=call_list_of.imp fun xs H Q h=>by
 unfold rLstP at h
 split at h
 · obtain ⟨ys,h1 | h1,q⟩:=h
   · exact ⟨_,ys,rfl,.inl h1,q⟩
   · exact ⟨_,ys,rfl,.inr (SqT.of h1),q⟩
 · exact h.elim
def rSortP (K:PySem.W.Frag):List V→Hp→VK→Prop:=fun xs H Q=>match xs with
 | [.ref p]=>∃ ns,SqL K H p (ns.map V.int)∧ns.length<64∧∀ l ns',H l=none→List.Perm ns' ns→ns'.Pairwise (·≤·)→Q (.ref l) (upd H l (.lst (ns'.map V.int)))
 | _=>False
theorem call_sortP:CallR X (.builtin "sorted") (rSortP X.K):=call_sorted.imp fun xs H Q h=>by
 unfold rSortP at h
 split at h
 · obtain ⟨ns,h1,h2,q⟩:=h
   exact ⟨_,ns,rfl,h1,h2,q⟩
 · exact h.elim
def rIntP:List V→Hp→VK→Prop:=fun xs H Q=>match xs with
 | [.int i]=>Q (.int i) H
 | [.bl k]=>Q (.int (if k then 1 else 0)) H
 | _=>False
theorem call_intP:CallR X (.type "int") rIntP:=call_int1.imp fun xs H Q h=>by
 unfold rIntP at h
 split at h
 · exact .inl ⟨_,rfl,h⟩
 · exact .inr ⟨_,rfl,h⟩
 · exact h.elim
def rMinP:List V→Hp→VK→Prop:=fun xs H Q=>match xs with
 | [.int i,.int j]=>Q (.int (if j<i then j else i)) H
 | _=>False
theorem call_minP (hc:X.calm=true):CallR X (.builtin "min") rMinP:=(call_min2 hc).imp fun xs H Q h=>by
 unfold rMinP at h
 split at h
 · exact ⟨_,_,rfl,h⟩
 · exact h.elim
structure FnA (P:Program) (w:World) (K:PySem.W.Frag) (mg:Str→Option Value) (base:Heap) (x:Str) (k:Nat) (ps:List Str) (sp:Sp):Prop where
 ex:∃ f fd,FnOk P w K mg base CX0 k f fd ps sp∧Binds K fd ps []∧PySem.W.keepIn K (.ref f)=true∧mg x=some (.ref f)
def tFn (sp:Sp) (t:TA):TE:=fun σ H Q=>t σ H fun vs H1=>sp vs H1 Q E0
theorem pe_fn {x:Str} {k k':Nat} {ps:List Str} {sp:Sp} {e:Expr} {es:List Expr} {t:TA} {p:Pos} (F:FnA X.prog X.w X.K X.mg X.base x k ps sp) (hr:Room k' X.A) (hk:k≤k') (hg:Gl X x)
 (ha:PA X (e::es) t) (hdb:(x == ("__debug__" : Str))=false:=by decide) (he:starEach (e::es) X.env=(false,eval e X.env)::starEach es X.env:=by rfl) (hpl:(backTo pos (starEach es X.env)).any (·.1)=false:=by rfl) :
 PE X (.Call (.Name x p) (e::es) [] pos) (tFn sp t):=by
 obtain ⟨f,fd,F1,b1,k1,m1⟩:=F.ex
 refine (pe_call (F1.mono hk) hr hg m1 k1 b1 .nil pass0 ha hdb he hpl).imp fun σ H Q h=>?_
 have e:(fun (vs:List V) (H1:Hp)=>sp (vs++[]) H1 Q E0)=fun vs H1=>sp vs H1 Q E0:=by
  funext vs H1
  rw [List.append_nil]
 show t σ H fun vs H1=>sp (vs++[]) H1 Q E0
 rw [e]
 exact h
theorem ze_fn {x:Str} {k k':Nat} {ps:List Str} {sp:Sp} {e:Expr} {es:List Expr} {t:TA} {p:Pos} (F:FnA X.prog X.w X.K X.mg X.base x k ps sp) (hr:Room k' X.A) (hk:k≤k') (hg:Gl X x)
 (ha:ZA X (e::es) t) (hdb:(x == ("__debug__" : Str))=false:=by decide) (he:starEach (e::es) X.env=(false,eval e X.env)::starEach es X.env:=by rfl) (hpl:(backTo pos (starEach es X.env)).any (·.1)=false:=by rfl) :
 ZE X (.Call (.Name x p) (e::es) [] pos) (tFn sp t):=by with_unfolding_all exact pe_fn F hr hk hg ha hdb he hpl
end
theorem iteD {p:Prop} [Decidable p] {A B:Prop} (h1:p→A) (h2:¬ p→B):if decide p=true then A else B:=by
 by_cases h:p
 · rw [decide_eq_true h];exact iteT (h1 h)
 · rw [decide_eq_false h];exact iteF (h2 h)
theorem iteB {b:Bool} {A B:Prop} (h1:b=true→A) (h2:b=false→B):if b=true then A else B:=by
 cases b with
 | true=>exact iteT (h1 rfl)
 | false=>exact iteF (h2 rfl)
theorem boot_sorted':bootBuiltins "sorted" = some (.builtin "sorted"):=by decide +kernel
theorem boot_min':bootBuiltins "min" = some (.builtin "min"):=by decide +kernel
theorem boot_all':bootBuiltins "all" = some (.builtin "all"):=by decide +kernel
theorem boot_int':bootBuiltins "int" = some (.type "int"):=by decide +kernel
theorem boot_tuple':bootBuiltins "tuple" = some (.type "tuple"):=by decide +kernel
theorem boot_list':bootBuiltins "list" = some (.type "list"):=by decide +kernel
def rAllP (K:PySem.W.Frag):List V→Hp→VK→Prop:=fun xs H Q=>match xs with
 | [.ref p]=>∃ bs:List Bool,SqL K H p (bs.map V.bl)∧Q (.bl (bs.all id)) H
 | _=>False
theorem call_allP {X:Cx} (hc:X.calm=true):CallR X (.builtin "all") (rAllP X.K):=by
 intro pins s σ H xs us Q I r h
 unfold rAllP at h
 split at h
 · rename_i p
   obtain ⟨bs,hq,q⟩:=h
   obtain ⟨u,rfl,rx⟩:=vals1 r
   cases rx
   obtain ⟨its,rv,pl,hz⟩:=I.list hq
   have hlen:its.length=bs.length:=by rw [← rv.length,List.length_map]
   have hlt:p<s.heap.objs.size:=by
    obtain ⟨_,e,_⟩:=pl.isList
    exact Heap.lt_size e
   refine call_all_walk (wpAny_pyIter_list pl.isList ?_)
   have W:Walks X.prog X.w X.A.in1 s.heap.objs.size [s.heap.objs.size,p] [s.heap.objs.size] its.toArray.size _ _:=Walks.list (show X.A.in1.handled=none from I.ok.hd hc) s.heap.objs.size p (Nat.ne_of_lt hlt) its.toArray
   refine ⟨s.heap.objs.size,_,_,_,_,_,fun i=>bs.getD i false,rfl,W,⟨⟨_,Heap.get?_push_size _ rfl,rfl,rfl⟩,pl.isList.push _⟩,?_,fun h' tk hk=>?_⟩
   · intro i v s' Q' E' hP hQ
     have hP':its[i]? = some v:=by simpa using hP
     have hi:i<bs.length:=by rw [← hlen];exact (List.getElem?_eq_some_iff.mp hP').1
     obtain ⟨w',e1,e2⟩:=rv.get (i:=i) (x:=.bl bs[i]) (by rw [List.getElem?_map,List.getElem?_eq_getElem hi];rfl)
     rw [hP'] at e1
     cases e1
     cases e2
     refine wpAny_truthy_bool ?_
     have e:bs.getD i false=bs[i]:=by rw [List.getD_eq_getElem?_getD,List.getElem?_eq_getElem hi];rfl
     have hQ':Q' (bs.getD i false) s':=hQ
     rw [e] at hQ'
     exact hQ'
   · have I1:Inv X pins σ H { s with heap:=h',toks:=tk }:=I.kept fun b o e=>hk b o (by simpa using Nat.ne_of_lt (Heap.lt_size e)) (Heap.get?_push_of_some _ e)
     refine ⟨.bl _,H,I1,rfl,?_⟩
     have e:(List.range its.toArray.size).all (fun i=>bs.getD i false)=bs.all id:=by
      rw [List.size_toArray,hlen]
      have key:∀ l:List Bool,(List.range l.length).all (fun i=>l.getD i false)=l.all id:=by
       intro l
       rw [Bool.eq_iff_iff,List.all_eq_true,List.all_eq_true]
       constructor
       · intro h x hx
         obtain ⟨i,hi,rfl⟩:=List.mem_iff_getElem.mp hx
         have:=h i (List.mem_range.mpr hi)
         rw [List.getD_eq_getElem?_getD,List.getElem?_eq_getElem hi] at this
         exact this
       · intro h i hi
         have hi':=List.mem_range.mp hi
         rw [List.getD_eq_getElem?_getD,List.getElem?_eq_getElem hi']
         exact h _ (List.getElem_mem hi')
      exact key bs
     rw [e]
     exact q
 · exact h.elim
def tPar3 (i j k:Nat) (ta:TA):TS:=fun D σ H=>ta σ H fun vs H1=>match vs with | [v,w,z]=>D.nx (((σ.set i (some v)).set j (some w)).set k (some z)) H1 | _=>False
theorem ps_par3 {X:Cx} {pos:Pos} {i j k:Nat} {x y z:Str} {a b c:Expr} {ta:TA} {px py pz pt:Pos} {kt k2 pt2} (hc:X.calm=true) (hN:X.N.Nodup) (hi:X.N[i]? = some x) (hj:X.N[j]? = some y) (hk:X.N[k]? = some z) (hij:i≠j) (hik:i≠k) (hjk:j≠k)
 (hx:X.env.scope.names.lookup x=some .local) (hy:X.env.scope.names.lookup y=some .local) (hz:X.env.scope.names.lookup z=some .local) (ha:PA X [a,b,c] ta)
 (hw:swappedStores [.Tuple [.Name x px,.Name y py,.Name z pz] kt pt] (.Tuple [a,b,c] k2 pt2) X.env=pure (some [x,y,z]))
 (hs:swapsWithSole [.Tuple [.Name x px,.Name y py,.Name z pz] kt pt] (.Tuple [a,b,c] k2 pt2) pos.line X.env=pure false:=by rfl) :
 PS X (.Assign [.Tuple [.Name x px,.Name y py,.Name z pz] kt pt] (.Tuple [a,b,c] k2 pt2) pos) (tPar3 i j k ta):=by
 intro pins s σ H D I h
 rw [exec_Assign_arm]
 refine wpAny_bind (wpAny_standAt ?_)
 rw [hs]
 refine wpAny_bind (wpAny_pure ?_)
 rw [if_neg (by decide)]
 refine wpAny_bind (Tuple_ (thn (ha _ pins s σ H _ I h) fun us s1 ⟨vs,H1,I1,r1,q1⟩=>?_))
 obtain ⟨v,w,t,e1,q1⟩:∃ v w t,vs=[v,w,t]∧D.nx (((σ.set i (some v)).set j (some w)).set k (some t)) H1:=by
  match vs,q1 with
  | [v,w,t],q1=>exact ⟨v,w,t,rfl,q1⟩
  | [],q1=>exact q1.elim
  | [_],q1=>exact q1.elim
  | [_,_],q1=>exact q1.elim
  | _::_::_::_::_,q1=>exact q1.elim
 subst e1
 obtain ⟨u1,u2,u3,rfl,rv,rw',rz⟩:∃ u1 u2 u3,us=[u1,u2,u3]∧RelV v u1∧RelV w u2∧RelV t u3:=by
  cases r1 with
  | cons p q=>
    cases q with
    | cons p' q'=>
      cases q' with
      | cons p2 q2=>
        cases q2
        exact ⟨_,_,_,rfl,p,p',p2⟩
 refine wpAny_newObj_type ?_ (by show 3≤sizeLine;decide)
 have I2:Inv X pins σ H1 { s1 with heap:=s1.heap.push { cls:=.type "tuple",data:=.seq [u1,u2,u3].toArray } }:=I1.kept (t':=s1.toks) fun b o e=>Heap.get?_push_of_some _ e
 rw [hw]
 refine wpAny_bind (wpAny_pure ?_)
 show wpAny (model X.prog X.w) X.A (do rule "assign.swapped-stores";let items ← unpackItems (.ref s1.heap.objs.size) 3 none;assignInOrder [fun v=>bindName X.env z v,fun v=>bindName X.env y v,fun v=>bindName X.env x v] items.reverse;pure Flow.next) _ _ _
 refine wpAny_bind (wpAny_rule (wpAny_bind (unpackItems_tuple (items:=#[u1,u2,u3]) (I.ok.hd hc) (IsTup.new s1.heap _) fun h' hx'=>?_)))
 have I3:=I2.kept (h':=h') (t':=s1.toks) fun b o e=>hx' b o (Nat.ne_of_lt (Heap.lt_size e)) e
 show wpAny _ _ (assignInOrder [fun v=>bindName X.env z v,fun v=>bindName X.env y v,fun v=>bindName X.env x v] [u3,u2,u1] >>= fun _=>pure Flow.next) _ _ _
 refine wpAny_bind (assignInOrder_cons (wpAny_bindName (store_ok I3 hN hk (.inl hz) rz (fun s2 I4=>?_) (.inr hz))))
 refine assignInOrder_cons (wpAny_bindName (store_ok I4 hN hj (.inl hy) rw' (fun s3 I5=>?_) (.inr hy)))
 refine assignInOrder_cons (wpAny_bindName (store_ok I5 hN hi (.inl hx) rv (fun s4 I6=>assignInOrder_nil (wpAny_pure ?_)) (.inr hx)))
 have e:((σ.set k (some t)).set j (some w)).set i (some v)=((σ.set i (some v)).set j (some w)).set k (some t):=by
  rw [List.set_comm _ _ (Ne.symm hij),List.set_comm _ _ (Ne.symm hik),List.set_comm _ _ (Ne.symm hjk)]
 rw [e] at I6
 exact ⟨_,H1,I6,q1⟩
theorem zs_par3 {X:Cx} {pos:Pos} {i j k:Nat} {x y z:Str} {a b c:Expr} {ta:TA} {px py pz pt:Pos} {kt k2 pt2} (hc:X.calm=true) (hN:X.N.Nodup) (hi:X.N[i]? = some x) (hj:X.N[j]? = some y) (hk:X.N[k]? = some z) (hij:i≠j) (hik:i≠k) (hjk:j≠k)
 (hx:X.env.scope.names.lookup x=some .local) (hy:X.env.scope.names.lookup y=some .local) (hz:X.env.scope.names.lookup z=some .local) (ha:ZA X [a,b,c] ta)
 (hw:swappedStores [.Tuple [.Name x px,.Name y py,.Name z pz] kt pt] (.Tuple [a,b,c] k2 pt2) X.env=pure (some [x,y,z]))
 (hs:swapsWithSole [.Tuple [.Name x px,.Name y py,.Name z pz] kt pt] (.Tuple [a,b,c] k2 pt2) pos.line X.env=pure false:=by rfl) :
 ZS X (.Assign [.Tuple [.Name x px,.Name y py,.Name z pz] kt pt] (.Tuple [a,b,c] k2 pt2) pos) (tPar3 i j k ta):=by with_unfolding_all exact ps_par3 hc hN hi hj hk hij hik hjk hx hy hz ha hw hs
section
variable {X:Cx} {e:Expr} {es:List Expr} {t:TA} {p pos:Pos}
theorem pcb_len (hg:Gl X "len") (hm:X.mg "len" = none) (ha:PA X (e::es) t) (he:starEach (e::es) X.env=(false,eval e X.env)::starEach es X.env) (hpl:(backTo pos (starEach es X.env)).any (·.1)=false) :
 PE X (.Call (.Name "len" p) (e::es) [] pos) (tCB (rLenP X.K) t):=pe_callB call_lenP hg hm PySem.boot_len ha (by decide) (by decide) he hpl
theorem zcb_len (hg:Gl X "len") (hm:X.mg "len" = none) (ha:ZA X (e::es) t) (he:starEach (e::es) X.env=(false,eval e X.env)::starEach es X.env) (hpl:(backTo pos (starEach es X.env)).any (·.1)=false) :
 ZE X (.Call (.Name "len" p) (e::es) [] pos) (tCB (rLenP X.K) t):=by with_unfolding_all exact pcb_len hg hm ha he hpl
theorem pcb_sorted (hg:Gl X "sorted") (hm:X.mg "sorted" = none) (ha:PA X (e::es) t) (he:starEach (e::es) X.env=(false,eval e X.env)::starEach es X.env) (hpl:(backTo pos (starEach es X.env)).any (·.1)=false) :
 PE X (.Call (.Name "sorted" p) (e::es) [] pos) (tCB (rSortP X.K) t):=pe_callB call_sortP hg hm boot_sorted' ha (by decide) (by decide) he hpl
theorem zcb_sorted (hg:Gl X "sorted") (hm:X.mg "sorted" = none) (ha:ZA X (e::es) t) (he:starEach (e::es) X.env=(false,eval e X.env)::starEach es X.env) (hpl:(backTo pos (starEach es X.env)).any (·.1)=false) :
 ZE X (.Call (.Name "sorted" p) (e::es) [] pos) (tCB (rSortP X.K) t):=by with_unfolding_all exact pcb_sorted hg hm ha he hpl
theorem pcb_min (hc:X.calm=true) (hg:Gl X "min") (hm:X.mg "min" = none) (ha:PA X (e::es) t) (he:starEach (e::es) X.env=(false,eval e X.env)::starEach es X.env) (hpl:(backTo pos (starEach es X.env)).any (·.1)=false) :
 PE X (.Call (.Name "min" p) (e::es) [] pos) (tCB rMinP t):=pe_callB (call_minP hc) hg hm boot_min' ha (by decide) (by decide) he hpl
theorem zcb_min (hc:X.calm=true) (hg:Gl X "min") (hm:X.mg "min" = none) (ha:ZA X (e::es) t) (he:starEach (e::es) X.env=(false,eval e X.env)::starEach es X.env) (hpl:(backTo pos (starEach es X.env)).any (·.1)=false) :
 ZE X (.Call (.Name "min" p) (e::es) [] pos) (tCB rMinP t):=by with_unfolding_all exact pcb_min hc hg hm ha he hpl
theorem pcb_all (hc:X.calm=true) (hg:Gl X "all") (hm:X.mg "all" = none) (ha:PA X (e::es) t) (he:starEach (e::es) X.env=(false,eval e X.env)::starEach es X.env) (hpl:(backTo pos (starEach es X.env)).any (·.1)=false) :
 PE X (.Call (.Name "all" p) (e::es) [] pos) (tCB (rAllP X.K) t):=pe_callB (call_allP hc) hg hm boot_all' ha (by decide) (by decide) he hpl
theorem zcb_all (hc:X.calm=true) (hg:Gl X "all") (hm:X.mg "all" = none) (ha:ZA X (e::es) t) (he:starEach (e::es) X.env=(false,eval e X.env)::starEach es X.env) (hpl:(backTo pos (starEach es X.env)).any (·.1)=false) :
 ZE X (.Call (.Name "all" p) (e::es) [] pos) (tCB (rAllP X.K) t):=by with_unfolding_all exact pcb_all hc hg hm ha he hpl
theorem pcb_int (hg:Gl X "int") (hm:X.mg "int" = none) (ha:PA X (e::es) t) (he:starEach (e::es) X.env=(false,eval e X.env)::starEach es X.env) (hpl:(backTo pos (starEach es X.env)).any (·.1)=false) :
 PE X (.Call (.Name "int" p) (e::es) [] pos) (tCB rIntP t):=pe_callTy call_intP hg hm boot_int' ha (by decide) (by decide) he hpl
theorem zcb_int (hg:Gl X "int") (hm:X.mg "int" = none) (ha:ZA X (e::es) t) (he:starEach (e::es) X.env=(false,eval e X.env)::starEach es X.env) (hpl:(backTo pos (starEach es X.env)).any (·.1)=false) :
 ZE X (.Call (.Name "int" p) (e::es) [] pos) (tCB rIntP t):=by with_unfolding_all exact pcb_int hg hm ha he hpl
theorem pcb_tuple (hg:Gl X "tuple") (hm:X.mg "tuple" = none) (ha:PA X (e::es) t) (he:starEach (e::es) X.env=(false,eval e X.env)::starEach es X.env) (hpl:(backTo pos (starEach es X.env)).any (·.1)=false) :
 PE X (.Call (.Name "tuple" p) (e::es) [] pos) (tCB (rTupP X.K) t):=pe_callTy call_tupP hg hm boot_tuple' ha (by decide) (by decide) he hpl
theorem zcb_tuple (hg:Gl X "tuple") (hm:X.mg "tuple" = none) (ha:ZA X (e::es) t) (he:starEach (e::es) X.env=(false,eval e X.env)::starEach es X.env) (hpl:(backTo pos (starEach es X.env)).any (·.1)=false) :
 ZE X (.Call (.Name "tuple" p) (e::es) [] pos) (tCB (rTupP X.K) t):=by with_unfolding_all exact pcb_tuple hg hm ha he hpl
theorem pcb_list (hg:Gl X "list") (hm:X.mg "list" = none) (ha:PA X (e::es) t) (he:starEach (e::es) X.env=(false,eval e X.env)::starEach es X.env) (hpl:(backTo pos (starEach es X.env)).any (·.1)=false) :
 PE X (.Call (.Name "list" p) (e::es) [] pos) (tCB (rLstP X.K) t):=pe_callTy call_lstP hg hm boot_list' ha (by decide) (by decide) he hpl
theorem zcb_list (hg:Gl X "list") (hm:X.mg "list" = none) (ha:ZA X (e::es) t) (he:starEach (e::es) X.env=(false,eval e X.env)::starEach es X.env) (hpl:(backTo pos (starEach es X.env)).any (·.1)=false) :
 ZE X (.Call (.Name "list" p) (e::es) [] pos) (tCB (rLstP X.K) t):=by with_unfolding_all exact pcb_list hg hm ha he hpl
end
section
variable {X:Cx}
theorem Inv.moved {wr:List Addr} {pins:List (Addr×Obj)} {σ:St} {H:Hp} {s s':Shared} {h2:Heap} {t2:Nat} (I:Inv X pins σ H s) (m:Moved wr (fun a b=>b=a) { s with heap:=h2,toks:=t2 } s') (hk:∀ b o,s.heap.get? b=some o→b∉wr∧h2.get? b=some o):Inv X pins σ H s':=by
 have e:s'={ s with heap:=s'.heap,toks:=s'.toks }:=by
  obtain ⟨_,h2,h3,h4,_⟩:=m
  cases s'
  simp only at h2 h3 h4
  subst h2 h3 h4
  rfl
 rw [e]
 exact I.kept fun b o q=>m.heap b o (hk b o q).1 (hk b o q).2
def rSumP (K:PySem.W.Frag):List V→Hp→VK→Prop:=fun xs H Q=>match xs with
 | [.ref p]=>∃ ns:List Int,(SqL K H p (ns.map V.int)∨H p=some (.tup (ns.map V.int)))∧Q (.int ns.sum) H
 | _=>False
theorem preSum_ext {f g:Nat→Int}:∀ n,(∀ i,i<n→f i=g i)→preSum f n=preSum g n
 | 0,_=>rfl
 | n+1,h=>by
   show preSum f n+f n=preSum g n+g n
   rw [preSum_ext n fun i hi=>h i (by omega),h n (by omega)]
theorem preSum_succ (f:Nat→Int):∀ n,preSum f (n+1)=f 0+preSum (fun i=>f (i+1)) n
 | 0=>by show (0:Int)+f 0=f 0+0;omega
 | n+1=>by
   show preSum f (n+1)+f (n+1)=f 0+(preSum (fun i=>f (i+1)) n+f (n+1))
   rw [preSum_succ f n];omega
theorem preSum_list:∀ ns:List Int,preSum (fun i=>ns.getD i 0) ns.length=ns.sum
 | []=>rfl
 | n::r=>by
   rw [List.length_cons,preSum_succ,List.sum_cons]
   have e:preSum (fun i=>(n::r).getD (i+1) 0) r.length=preSum (fun i=>r.getD i 0) r.length:=preSum_ext _ fun i _=>by simp
   rw [e,preSum_list r]
   rfl
theorem ints_at {ns:List Int} {its:List Value} (rv:Vals (ns.map V.int) its) {i:Nat} {v:Value} (h:its.toArray[i]? = some v):∃ t,v=.int (ns.getD i 0) t:=by
 have h':its[i]? = some v:=by simpa using h
 have hl:its.length=ns.length:=by rw [← rv.length,List.length_map]
 have hi:i<ns.length:=by rw [← hl];exact (List.getElem?_eq_some_iff.mp h').1
 obtain ⟨w',e1,t,e2⟩:=rv.get (i:=i) (x:=.int ns[i]) (by rw [List.getElem?_map,List.getElem?_eq_getElem hi];rfl)
 rw [h'] at e1
 cases e1
 refine ⟨t,?_⟩
 rw [e2,List.getD_eq_getElem?_getD,List.getElem?_eq_getElem hi]
 rfl
theorem call_sumP (hc:X.calm=true):CallR X (.builtin "sum") (rSumP X.K):=by
 intro pins s σ H xs us Q I r h
 unfold rSumP at h
 split at h
 · rename_i p
   obtain ⟨ns,hq,q⟩:=h
   obtain ⟨u,rfl,rx⟩:=vals1 r
   cases rx
   have hh:X.A.in1.handled=none:=I.ok.hd hc
   rcases hq with hq | hq
   · obtain ⟨its,rv,pl,hz⟩:=I.list hq
     have hlt:p<s.heap.objs.size:=by
      obtain ⟨_,e,_⟩:=pl.isList
      exact Heap.lt_size e
     refine call_sum_walkAnyS (wpAny_pyIter_list pl.isList ?_)
     refine ⟨s.heap.objs.size,_,_,_,_,_,_,fun i=>ns.getD i 0,rfl,(Walks.list hh s.heap.objs.size p (Nat.ne_of_lt hlt) its.toArray).toS,⟨⟨_,Heap.get?_push_size _ rfl,rfl,rfl⟩,pl.isList.push _⟩,?_,fun i v hv=>ints_at rv hv,fun s' t' m=>?_⟩
     · intro b hb
       rw [Heap.size_push]
       rcases List.mem_cons.mp hb with rfl | hb
       · exact Nat.lt_succ_self _
       · rcases List.mem_cons.mp hb with rfl | hb
         · exact Nat.lt_succ_of_lt hlt
         · cases hb
     · have I1:Inv X pins σ H s':=I.moved m fun b o e=>⟨by simpa using Nat.ne_of_lt (Heap.lt_size e),Heap.get?_push_of_some _ e⟩
       refine ⟨.int _,H,I1,⟨t',rfl⟩,?_⟩
       rw [List.size_toArray,← rv.length,List.length_map,preSum_list]
       exact q
   · obtain ⟨its,rv,pl,hz⟩:=I.tuple (SqT.of hq)
     have hlt:p<s.heap.objs.size:=pl.lt
     refine call_sum_walkAnyS (wpAny_pyIter_tuple (show s.heap.IsTuple p its.toArray from pl) ?_)
     refine ⟨s.heap.objs.size,_,_,_,_,_,_,fun i=>ns.getD i 0,rfl,(Walks.tuple hh s.heap.objs.size p (Nat.ne_of_lt hlt) its.toArray).toS,⟨⟨_,Heap.get?_push_size _ rfl,rfl,rfl⟩,?_⟩,?_,fun i v hv=>ints_at rv hv,fun s' t' m=>?_⟩
     · exact IsTup.keeps pl fun b o e=>Heap.get?_push_of_some _ e
     · intro b hb
       rw [Heap.size_push]
       rcases List.mem_cons.mp hb with rfl | hb
       · exact Nat.lt_succ_self _
       · rcases List.mem_cons.mp hb with rfl | hb
         · exact Nat.lt_succ_of_lt hlt
         · cases hb
     · have I1:Inv X pins σ H s':=I.moved m fun b o e=>⟨by simpa using Nat.ne_of_lt (Heap.lt_size e),Heap.get?_push_of_some _ e⟩
       refine ⟨.int _,H,I1,⟨t',rfl⟩,?_⟩
       rw [List.size_toArray,← rv.length,List.length_map,preSum_list]
       exact q
 · exact h.elim
def rMax1P (K:PySem.W.Frag):List V→Hp→VK→Prop:=fun xs H Q=>match xs with
 | [.int i,.int j]=>Q (.int (if j > i then j else i)) H
 | [.ref p]=>∃ ns:List Int,(SqL K H p (ns.map V.int)∨H p=some (.tup (ns.map V.int)))∧ns≠[]∧∀ M,M∈ns→(∀ n∈ns,n≤M)→Q (.int M) H
 | _=>False
theorem best_is {ns:List Int} (h:ns≠[]):ns.getD (argBest (fun i j=>decide (ns.getD i 0 > ns.getD j 0)) (ns.length - 1)) 0∈ns∧∀ n∈ns,n≤ns.getD (argBest (fun i j=>decide (ns.getD i 0 > ns.getD j 0)) (ns.length - 1)) 0:=by
 have hp:0<ns.length:=List.length_pos_iff.mpr h
 obtain ⟨h1,h2⟩:=argBest_gt (fun i=>ns.getD i 0) (ns.length - 1)
 have hlt:argBest (fun i j=>decide (ns.getD i 0 > ns.getD j 0)) (ns.length - 1)<ns.length:=by omega
 refine ⟨?_,fun n hn=>?_⟩
 · rw [List.getD_eq_getElem?_getD,List.getElem?_eq_getElem hlt]
   exact List.getElem_mem hlt
 · obtain ⟨i,hi,rfl⟩:=List.mem_iff_getElem.mp hn
   have:=h2 i (by omega)
   have e:ns.getD i 0=ns[i]:=by rw [List.getD_eq_getElem?_getD,List.getElem?_eq_getElem hi];rfl
   rw [e] at this
   exact this
theorem call_maxP (hc:X.calm=true):CallR X (.builtin "max") (rMax1P X.K):=by
 intro pins s σ H xs us Q I r h
 unfold rMax1P at h
 split at h
 · exact call_max2 hc pins s σ H _ us Q I r ⟨_,_,rfl,h⟩
 · rename_i p
   obtain ⟨ns,hq,hne,q⟩:=h
   obtain ⟨u,rfl,rx⟩:=vals1 r
   cases rx
   have hh:X.A.in1.handled=none:=I.ok.hd hc
   have hb:=best_is hne
   rcases hq with hq | hq
   · obtain ⟨its,rv,pl,hz⟩:=I.list hq
     have hlen:its.length=ns.length:=by rw [← rv.length,List.length_map]
     have hlt:p<s.heap.objs.size:=by
      obtain ⟨_,e,_⟩:=pl.isList
      exact Heap.lt_size e
     refine call_max_walk (wpAny_pyIter_list pl.isList ?_)
     refine ⟨s.heap.objs.size,_,_,_,_,_,_,rfl,Walks.list hh s.heap.objs.size p (Nat.ne_of_lt hlt) its.toArray,⟨⟨_,Heap.get?_push_size _ rfl,rfl,rfl⟩,pl.isList.push _⟩,?_,?_,CmpOf.ints_gt (fun i=>ns.getD i 0) (fun i v hv=>ints_at rv hv),fun v h' tk hv hk=>?_⟩
     · intro b hb
       rw [Heap.size_push]
       rcases List.mem_cons.mp hb with rfl | hb
       · exact Nat.lt_succ_self _
       · rcases List.mem_cons.mp hb with rfl | hb
         · exact Nat.lt_succ_of_lt hlt
         · cases hb
     · rw [List.size_toArray,hlen];exact List.length_pos_iff.mpr hne
     · obtain ⟨t,rfl⟩:=ints_at rv hv
       refine ⟨.int _,H,I.kept fun b o e=>hk b o (by simpa using Nat.ne_of_lt (Heap.lt_size e)) (Heap.get?_push_of_some _ e),⟨t,rfl⟩,?_⟩
       rw [List.size_toArray,hlen]
       exact q _ hb.1 hb.2
   · obtain ⟨its,rv,pl,hz⟩:=I.tuple (SqT.of hq)
     have hlen:its.length=ns.length:=by rw [← rv.length,List.length_map]
     have hlt:p<s.heap.objs.size:=pl.lt
     refine call_max_walk (wpAny_pyIter_tuple (show s.heap.IsTuple p its.toArray from pl) ?_)
     refine ⟨s.heap.objs.size,_,_,_,_,_,_,rfl,Walks.tuple hh s.heap.objs.size p (Nat.ne_of_lt hlt) its.toArray,⟨⟨_,Heap.get?_push_size _ rfl,rfl,rfl⟩,IsTup.keeps pl fun b o e=>Heap.get?_push_of_some _ e⟩,?_,?_,CmpOf.ints_gt (fun i=>ns.getD i 0) (fun i v hv=>ints_at rv hv),fun v h' tk hv hk=>?_⟩
     · intro b hb
       rw [Heap.size_push]
       rcases List.mem_cons.mp hb with rfl | hb
       · exact Nat.lt_succ_self _
       · rcases List.mem_cons.mp hb with rfl | hb
         · exact Nat.lt_succ_of_lt hlt
         · cases hb
     · rw [List.size_toArray,hlen];exact List.length_pos_iff.mpr hne
     · obtain ⟨t,rfl⟩:=ints_at rv hv
       refine ⟨.int _,H,I.kept fun b o e=>hk b o (by simpa using Nat.ne_of_lt (Heap.lt_size e)) (Heap.get?_push_of_some _ e),⟨t,rfl⟩,?_⟩
       rw [List.size_toArray,hlen]
       exact q _ hb.1 hb.2
 · exact h.elim
def rCountP:V→List V→Hp→VK→Prop:=fun x vs H Q=>match x,vs with
 | .ref a,[.int k]=>∃ ns:List Int,H a=some (.tup (ns.map V.int))∧Q (.int (ns.count k)) H
 | _,_=>False
def isK (k:Int):Value→Bool
 | .int i _=>i == k
 | _=>false
theorem countK (k:Int):∀ {ns:List Int} {its:List Value},Vals (ns.map V.int) its→its.countP (isK k)=ns.count k
 | [],_,r=>by cases r;rfl
 | n::ns,_,r=>by
   cases r with
   | cons r1 r2=>
     obtain ⟨t,rfl⟩:=r1
     rw [List.countP_cons,List.count_cons,countK k r2]
     rfl
theorem mt_count:MtM X "tuple.count" rCountP:=by
 intro pins s σ H x vs v us Q I rx rv h
 unfold rCountP at h
 split at h
 · rename_i a k
   obtain ⟨ns,hH,q⟩:=h
   cases rx
   obtain ⟨u,rfl,t,rfl⟩:=rv.one
   obtain ⟨z,its,r,n,e⟩:=I.hok a _ hH
   refine call_meets F.slot_tuple_count ⟨_,e,rfl⟩ F.entry_tuple_count (F.args_tuple_count_2 _ _) (MeetsSeq2.tuple_count a its.toArray n (.int k t) (isK k) (fun y hy=>?_)) ⟨e,?_⟩
   · have hy':y∈its:=by simpa using hy
     obtain ⟨i,hi,rfl⟩:=List.mem_iff_getElem.mp hy'
     obtain ⟨t',e'⟩:=ints_at r (i:=i) (v:=its[i]) (by simp [hi])
     rw [e']
     exact MeetsSeq.EqGives.int _ k t' t
   · refine ⟨.int _,H,I.tok _,⟨_,rfl⟩,?_⟩
     rw [show its.toArray.toList=its from rfl,countK k r]
     exact q
 · exact h.elim
theorem noFill_tuple_mul:fillsNumberSlot (.type "tuple") "mul" = pure false:=
 PySem.fillsNumberSlot_seq (id:="tuple.__mul__") (r:=some (.builtin "tuple.__rmul__")) F.slot_tuple_mul.lookup (by decide +kernel) F.slot_tuple_rmul.lookup (by decide +kernel)
theorem repeat_tuple:seqRepeat? (.type "tuple")=pure (some (.builtin "tuple.__mul__")):=by
 unfold seqRepeat?
 rw [PySem.seqSlot_of (T:="tuple") (name:="__mul__") (id:="tuple.__mul__") F.slot_tuple_mul.lookup (by decide +kernel),PySem.seqSlot_of (T:="tuple") (name:="__rmul__") (id:="tuple.__rmul__") F.slot_tuple_rmul.lookup (by decide +kernel)]
 rfl
theorem int_rmul_tuple (a:Int) (t:Tok) (l:Addr) (items:Array Value) (n:Nat) :
 Meets (Builtin.«int.__rmul__» ⟨[.int a t,.ref l],[]⟩) (fun _ R s=>s.heap.get? l=some { cls:=.type "tuple",dict:=none,data:=.seq items n,slots:=#[] }∧R (.ok (.ret Value.notImplemented)) s):=
 .of_wp fun prog w A R s h=>by obtain ⟨hp,g,d,tk,os⟩:=s;obtain ⟨hl,h⟩:=h;wp_walk;exact ⟨_,rfl,h⟩
theorem tuple_mul_same (l:Addr) (items:Array Value) (n:Nat) (x:Int) (u:Tok) (h1:(decide (x < -(2 ^ 63))||decide (x≥2 ^ 63))=false) (h2:(items.isEmpty||x == 1)=true) :
 Meets (Builtin.«tuple.__mul__» ⟨[.ref l,.int x u],[]⟩) (fun _ R s=>s.heap.get? l=some { cls:=.type "tuple",dict:=none,data:=.seq items n,slots:=#[] }∧R (.ok (.ret (.ref l))) s):=
 .of_wp fun prog w A R s h=>by
  obtain ⟨hp,g,d,tk,os⟩:=s;obtain ⟨hl,h⟩:=h
  wp_walk;refine wpAny_ite_false (by rw [h1];rfl) ?_;wp_walk;exact ⟨_,rfl,h⟩
theorem tuple_mul_none (l:Addr) (items:Array Value) (n:Nat) (x:Int) (u:Tok) (h1:(decide (x < -(2 ^ 63))||decide (x≥2 ^ 63))=false) (h2:(items.isEmpty||x == 1)=false) (h3:(decide (x≤0)||items.isEmpty)=true) :
 Meets (Builtin.«tuple.__mul__» ⟨[.ref l,.int x u],[]⟩) (fun _ R s=>s.heap.get? l=some { cls:=.type "tuple",dict:=none,data:=.seq items n,slots:=#[] }∧R (.ok (.ret (.ref s.heap.objs.size))) { s with heap:=s.heap.push { cls:=.type "tuple",data:=.seq #[] } }):=
 .of_wp fun prog w A R s h=>by
  obtain ⟨hp,g,d,tk,os⟩:=s;obtain ⟨hl,h⟩:=h
  wp_walk;refine wpAny_ite_false (by rw [h1];rfl) ?_;wp_walk;exact ⟨_,rfl,h⟩
theorem tuple_mul_many (l:Addr) (items:Array Value) (n:Nat) (x:Int) (u:Tok) (h1:(decide (x < -(2 ^ 63))||decide (x≥2 ^ 63))=false) (h2:(items.isEmpty||x == 1)=false) (h3:(decide (x≤0)||items.isEmpty)=false) (h4:decide ((items.size:Int)*x > (2 ^ 63 - 1) / 8)=false) (h5:Builtin.Tuple.tupleTooMany ((items.size:Int)*x)=false) (hz:((List.replicate x.toNat items).foldl (·++·) #[]).size≤sizeLine) :
 Meets (Builtin.«tuple.__mul__» ⟨[.ref l,.int x u],[]⟩) (fun _ R s=>s.heap.get? l=some { cls:=.type "tuple",dict:=none,data:=.seq items n,slots:=#[] }∧R (.ok (.ret (.ref s.heap.objs.size))) { s with heap:=s.heap.push { cls:=.type "tuple",data:=.seq ((List.replicate x.toNat items).foldl (·++·) #[]) } }):=
 .of_wp fun prog w A R s h=>by
  obtain ⟨hp,g,d,tk,os⟩:=s;obtain ⟨hl,h⟩:=h
  wp_walk;refine wpAny_ite_false (by rw [h1];rfl) ?_;wp_walk;refine wpAny_ite_false h4 ?_;wp_walk;exact ⟨_,rfl,h⟩
end
section
variable {X:Cx}
def rMulQ:R2:=fun x y H Q=>match x,y with
 | .int i,.int j=>IntMulOk i j∧Q (.int (i*j)) H
 | .ref a,.int k=>(-(2 ^ 63)≤k∧k<2 ^ 63)∧((∃ xs,H a=some (.lst xs)∧xs.length*k.toNat≤sizeLine∧∀ p,H p=none→Q (.ref p) (upd H p (.lst (List.replicate k.toNat xs).flatten))) ∨
  ∃ xs,H a=some (.tup xs)∧xs.length*k.toNat≤sizeLine∧∀ r H',Same H H'→H' r=some (.tup (List.replicate k.toNat xs).flatten)→Q (.ref r) H')
 | _,_=>False
theorem op_mulQ:OpR X (binaryOp .Mult) rMulQ:=by
 intro pins s σ H x y v u Q I rx ry h
 unfold rMulQ at h
 split at h
 · exact op_mulB pins s σ H _ _ v u Q I rx ry ⟨_,_,rfl,rfl,h⟩
 · obtain ⟨⟨hk1,hk2⟩,⟨xs,h1,h4,q⟩ | ⟨xs,hH,hz,q⟩⟩:=h
   · exact op_rep pins s σ H _ _ v u Q I rx ry ⟨_,_,xs,rfl,rfl,h1,hk1,hk2,h4,q⟩
   rename_i l k
   cases rx
   obtain ⟨t,rfl⟩:=ry
   obtain ⟨z,its,r,n,e⟩:=I.hok l _ hH
   have hl:its.length=xs.length:=r.length.symm
   have hemp:its.toArray.isEmpty=xs.isEmpty:=by
    cases r <;> rfl
   have g1:(decide (k < -(2 ^ 63))||decide (k≥2 ^ 63))=false:=by
    rw [Bool.or_eq_false_iff]
    exact ⟨decide_eq_false (by omega),decide_eq_false (by omega)⟩
   refine wpAny_binaryOp_repeat_ref (T:="tuple") (U:="int") (by decide) ⟨_,e,rfl⟩ (fun s'=>typeIs_int s' k t) noFill_tuple_mul F.fills_int_mul F.slot_int_rmul repeat_tuple F.slot_int_index.lookup
    (call_meets F.slot_int_rmul (typeIs_int s k t) F.entry_int_rmul (F.args_int_rmul_2 _ _) (int_rmul_tuple k t l its.toArray n) ⟨e,rfl,⟨_,e,rfl⟩,?_⟩)
   by_cases c1:(its.toArray.isEmpty||k == 1)=true
   · refine call_meets F.slot_tuple_mul ⟨_,e,rfl⟩ F.entry_tuple_mul (F.args_tuple_mul_2 _ _) (tuple_mul_same l its.toArray n k t g1 c1) ⟨e,?_⟩
     refine ⟨.ref l,H,I,rfl,q l H (Same.refl H) ?_⟩
     rw [hH]
     rw [Bool.or_eq_true] at c1
     rcases c1 with c1 | c1
     · rw [hemp,List.isEmpty_iff] at c1
       subst c1
       have:(List.replicate k.toNat ([]:List V)).flatten=[]:=by
        induction k.toNat with
        | zero=>rfl
        | succ m ih=>rw [List.replicate_succ,List.flatten_cons,ih];rfl
       rw [this]
     · have:k=1:=by simpa using c1
       subst this
       show some (HO.tup xs)=some (.tup (List.replicate 1 xs).flatten)
       simp
   · have c1':(its.toArray.isEmpty||k == 1)=false:=by simpa using c1
     have he:its.toArray.isEmpty=false:=(Bool.or_eq_false_iff.mp c1').1
     by_cases c2:k≤0
     · refine call_meets F.slot_tuple_mul ⟨_,e,rfl⟩ F.entry_tuple_mul (F.args_tuple_mul_2 _ _) (tuple_mul_none l its.toArray n k t g1 c1' (by rw [decide_eq_true c2];rfl)) ⟨e,?_⟩
       have e0:(List.replicate k.toNat xs).flatten=[]:=by
        have:k.toNat=0:=by omega
        rw [this];rfl
       have I2:Inv X pins σ (upd H s.heap.objs.size (.tup [])) { s with heap:=s.heap.push { cls:=.type "tuple",data:=.seq #[] } }:=
        I.laid (t':=s.toks) (o:=.tup []) (fun b ob q=>Heap.get?_push_of_some _ q) (Nat.le_refl _) ⟨Nat.zero_le _,[],.nil,TupD.new _ _⟩
       exact ⟨.ref s.heap.objs.size,_,I2,rfl,q _ _ (Same.new (I.hok.fresh (Nat.le_refl _)) _) (by rw [e0];exact upd_same)⟩
     · have hcast:(its.toArray.size:Int)*k=((xs.length*k.toNat:Nat):Int):=by
        rw [List.size_toArray,hl]
        have:k=(k.toNat:Int):=by omega
        conv=>lhs;rw [this]
        norm_cast
       have hb:(sizeLine:Nat)≤(2 ^ 63 - 1) / 8:=by decide
       have g4:decide ((its.toArray.size:Int)*k > (2 ^ 63 - 1) / 8)=false:=by
        refine decide_eq_false ?_
        rw [hcast]
        omega
       have g5:Builtin.Tuple.tupleTooMany ((its.toArray.size:Int)*k)=false:=by
        unfold Builtin.Tuple.tupleTooMany
        rw [hcast]
        exact decide_eq_false (by omega)
       have f0:List.foldl (fun x1 x2=>x1++x2) #[] (List.replicate k.toNat its.toArray)=(List.replicate k.toNat its).flatten.toArray:=by
        have:=foldl_rep its k.toNat []
        rw [List.nil_append] at this
        exact this
       refine call_meets F.slot_tuple_mul ⟨_,e,rfl⟩ F.entry_tuple_mul (F.args_tuple_mul_2 _ _) (tuple_mul_many l its.toArray n k t g1 c1' (by rw [decide_eq_false c2,he];rfl) g4 g5 (by rw [f0,List.size_toArray,len_rep,hl,Nat.mul_comm];exact hz)) ⟨e,?_⟩
       rw [f0]
       have I2:Inv X pins σ (upd H s.heap.objs.size (.tup (List.replicate k.toNat xs).flatten)) { s with heap:=s.heap.push { cls:=.type "tuple",data:=.seq (List.replicate k.toNat its).flatten.toArray } }:=
        I.laid (t':=s.toks) (o:=.tup (List.replicate k.toNat xs).flatten) (fun b ob q=>Heap.get?_push_of_some _ q) (Nat.le_refl _) ⟨by rw [len_rep,Nat.mul_comm];exact hz,_,r.rep k.toNat,TupD.new _ _⟩
       exact ⟨.ref s.heap.objs.size,_,I2,rfl,q _ _ (Same.new (I.hok.fresh (Nat.le_refl _)) _) upd_same⟩
 · exact h.elim
def tTruP (K:PySem.W.Frag) (te:TE):TT:=fun σ H Q=>te σ H fun x H1=>match x with
 | .bl c=>Q c H1
 | .int i=>Q (i != 0) H1
 | .ref p=>∃ xs,(SqL K H1 p xs∨H1 p=some (.tup xs))∧Q (!xs.isEmpty) H1
 | _=>False
theorem pt_truP {a:Expr} {ta:TE} (ha:PE X a ta) (he:∀ whole,isTrue a X.env whole=(do let v ← whole;standAt a.pos;holding [v] (truthy v)):=by intro _;rfl):PT X a (tTruP X.K ta):=by
 intro pins s σ H Q I h
 refine isTrue_plain (thn (ha pins s σ H _ I h) fun v s1 ⟨x,H1,I1,r1,q1⟩=>?_) (he _)
 refine tru_ok pins s1 σ H1 x v Q I1 r1 ?_
 dsimp only at q1
 split at q1
 · exact ⟨_,rfl,q1⟩
 · exact ⟨_,rfl,q1⟩
 · obtain ⟨xs,h1 | h1,q⟩:=q1
   · exact ⟨_,.inl ⟨xs,h1,rfl⟩,q⟩
   · exact ⟨_,.inr (.inl ⟨xs,SqT.of h1,rfl⟩),q⟩
 · exact q1.elim
theorem zt_truP {a:Expr} {ta:TE} (ha:ZE X a ta) (he:∀ whole,isTrue a X.env whole=(do let v ← whole;standAt a.pos;holding [v] (truthy v)):=by intro _;rfl):ZT X a (tTruP X.K ta):=by with_unfolding_all exact pt_truP ha he
def Itrs (lo c:Int) (n:Nat):It:=⟨fun i _=>i<n,fun i H x H'=>H'=H∧x=.int (lo+i*c),fun i _=>n≤i⟩
theorem turn_rangeS {P:Program} {w:World} {K:PySem.W.Frag} {tg:Expr} (it:Addr) (lo c:Int) (n:Nat):Turn P w K tg (Itrs lo c n) [it] it (fun i h=>IsRangeIter h it (lo+(i:Nat)*c) ((n:Int) - (i:Nat)) c) where
 mem:=by simp
 obj:=fun i h st b hb=>by
  have e:b=it:=by simpa using hb
  subst e
  exact ⟨_,st,fun v z=>by
   have z':Data.fields _=Data.cell v:=z
   cases z'⟩
 keep:=fun i h h' st k=>k it (by simp) _ st
 item:=by
  intro X hP hw hK hc i pins s σ H E I hf st hg
  subst hP hw hK
  obtain ⟨f0,f1,f2,f3,f4,f5⟩:=hf it (by simp)
  have W:=Walks.range (prog:=X.prog) (w:=X.w) (I.ok.hd hc) it lo c n
  refine W.item i s _ _ hg st fun v h' tk hv st' kk=>?_
  obtain ⟨t,rfl⟩:=hv
  have I1:Inv X pins σ H { s with heap:=h',toks:=tk }:=I.turned (fun b o hb e=>kk b o (by simpa using hb) e) f0 f1 f3 f4 f5
  exact ⟨_,rfl,go_of (s:={ s with heap:=h',toks:=tk }) (n:="range_iterator") st' rfl rfl (by decide) ⟨.int (lo+i*c),H,I1,⟨t,rfl⟩,⟨rfl,rfl⟩,st',fun b hb=>(hf b hb).1⟩⟩
 done:=by
  intro X hP hw hK hc i pins s σ H E I hf st hg
  subst hP hw hK
  obtain ⟨f0,f1,f2,f3,f4,f5⟩:=hf it (by simp)
  exact wpAny_pyNext_range_end (I.ok.hd hc) st (by have:n≤i:=hg;omega) fun h' eb=>⟨rfl,I.turned (t':=s.toks) (fun b o hb e=>eb b o hb e) f0 f1 f3 f4 f5⟩
 self:=fun _ _ _ _ _ st h=>wpAny_pyIter_rangeiter st h
theorem size_nonneg {a b c:Int} (hc:c≠0):0≤Builtin.Range.rangeSize a b c:=by
 unfold Builtin.Range.rangeSize
 split
 · split
   · have:=Int.ediv_nonneg (a:=b - a - 1) (b:=c) (by omega) (by omega);omega
   · omega
 · split
   · have:=Int.ediv_nonneg (a:=a - b - 1) (b:=-c) (by omega) (by omega);omega
   · omega
def iRng3 {tg:Expr} (ta:TA):TI:=fun σ H R=>ta σ H fun vs H1=>∃ i j c:Int,vs=[.int i,.int j,.int c]∧(c≠0∧(c<2 ^ 29∧-(2 ^ 29)<c)∧Builtin.Range.small i j c=true)∧R (Itrs i c (Builtin.Range.rangeSize i j c).toNat) H1
theorem pi_range3 {tg:Expr} {a b d:Expr} {ta:TA} {p pos:Pos} (hg:Gl X "range") (hm:X.mg "range" = none) (ha:PA X [a,b,d] ta) (hs:starEach [a,b,d] X.env=[(false,eval a X.env),(false,eval b X.env),(false,eval d X.env)]:=by rfl) (hs2:starEach [b,d] X.env=[(false,eval b X.env),(false,eval d X.env)]:=by rfl) :
 PI X tg (.Call (.Name "range" p) [a,b,d] [] pos) (iRng3 (tg:=tg) ta):=by
 intro pins s σ H R I h
 refine Call_ (ld_blt I hg hm boot_range (PyProof.Rows.callWith_type1 (thn (ha pos pins s σ H _ I h) fun us s1 ⟨vs,H1,I1,r1,q1⟩=>?_) (by rw [hs,hs2]) (by rw [hs2];rfl)))
 obtain ⟨i,j,c,e,⟨hc0,⟨hcb,hcb2⟩,hsm⟩,q⟩:=q1
 subst e
 cases r1 with
 | cons r rr=>
   cases rr with
   | cons r' rr=>
     cases rr with
     | cons r'' rr=>
       cases rr
       obtain ⟨t,rfl⟩:=r
       obtain ⟨t',rfl⟩:=r'
       obtain ⟨t'',rfl⟩:=r''
       refine PySem.call_range_3 hc0 ?_ (Or.inl (PyProof.noPylong_small (by omega)))
       refine wpAny_pyIter_range (IsRange.new ..) hsm ?_
       have I2:Inv X pins σ H1 { s1 with heap:=s1.heap.push { cls:=.type "range",data:=.fields #[.int i t,.int j t',.int c t''] } }:=I1.kept (t':=s1.toks) fun b o e=>Heap.get?_push_of_some _ e
       refine ⟨(s1.heap.push { cls:=.type "range",data:=.fields #[.int i t,.int j t',.int c t''] }).objs.size,[(s1.heap.push { cls:=.type "range",data:=.fields #[.int i t,.int j t',.int c t''] }).objs.size],_,_,H1,rfl,
        I2.kept (t':=s1.toks) fun b o e=>Heap.get?_push_of_some _ e,turn_rangeS _ i c (Builtin.Range.rangeSize i j c).toNat,?_,fun b hb=>?_,q⟩
       · have e1:i+((0:Nat):Int)*c=i:=by simp
         have e2:(((Builtin.Range.rangeSize i j c).toNat:Nat):Int) - ((0:Nat):Int)=Builtin.Range.rangeSize i j c:=by have:=size_nonneg (a:=i) (b:=j) hc0;omega
         show IsRangeIter _ _ (i+((0:Nat):Int)*c) ((((Builtin.Range.rangeSize i j c).toNat:Nat):Int) - ((0:Nat):Int)) c
         rw [e1,e2]
         exact Heap.get?_push_size _ rfl
       · have e:b=(s1.heap.push { cls:=.type "range",data:=.fields #[.int i t,.int j t',.int c t''] }).objs.size:=by simpa using hb
         subst e
         exact I2.fpOk (Nat.le_refl _) (I2.hok.fresh (Nat.le_refl _))
theorem zi_range3 {tg:Expr} {a b d:Expr} {ta:TA} {p pos:Pos} (hg:Gl X "range") (hm:X.mg "range" = none) (ha:ZA X [a,b,d] ta) (hs:starEach [a,b,d] X.env=[(false,eval a X.env),(false,eval b X.env),(false,eval d X.env)]:=by rfl) (hs2:starEach [b,d] X.env=[(false,eval b X.env),(false,eval d X.env)]:=by rfl) :
 ZI X tg (.Call (.Name "range" p) [a,b,d] [] pos) (iRng3 (tg:=tg) ta):=by with_unfolding_all exact pi_range3 hg hm ha hs hs2
theorem for_rangeS {lo c:Int} {n:Nat} {g:TG} {tb:TS} {D:Ends} {σ:St} {H:Hp} (Pv:Nat→St→Hp→Prop) (h0:Pv 0 σ H)
 (hs:∀ i σ H,i<n→Pv i σ H→g (.int (lo+i*c)) σ H fun σ2 H2=>tb { D with nx:=Pv (i+1),ct:=Pv (i+1),bk:=D.nx } σ2 H2) (hd:∀ σ H,Pv n σ H→D.nx σ H) :
 ∃ W:Nat→Nat→St→Hp→Prop,(∃ m,W 0 m σ H)∧∀ i m σ H,W i m σ H →
   ((Itrs lo c n).stop i H∧D.nx σ H)∨((Itrs lo c n).go i H∧∃ N:St→Hp→Prop,(∀ σ' H',N σ' H'→∃ m',m' < m∧W (i+1) m' σ' H')∧∀ x H',(Itrs lo c n).yld i H x H'→g x σ H' fun σ2 H2=>tb { D with nx:=N,ct:=N,bk:=D.nx } σ2 H2):=by
 refine ⟨fun i m σ H=>m=n - i∧i≤n∧Pv i σ H,⟨n,by simp,Nat.zero_le _,h0⟩,?_⟩
 rintro i m σ H ⟨rfl,hi,p⟩
 by_cases hlt:i<n
 · refine .inr ⟨hlt,Pv (i+1),fun σ' H' p'=>⟨n - (i+1),by omega,rfl,hlt,p'⟩,fun x H' y=>?_⟩
   obtain ⟨e,y⟩:=y
   subst e y
   exact hs i σ _ hlt p
 · have e:i=n:=by omega
   subst e
   exact .inl ⟨Nat.le_refl _,hd σ H p⟩
theorem size_down {a b:Int}:(Builtin.Range.rangeSize a b (-1)).toNat=(a - b).toNat:=by
 unfold Builtin.Range.rangeSize
 rw [if_neg (by decide)]
 split
 · have:(- -1:Int)=1:=by decide
   rw [this,Int.ediv_one];omega
 · omega
theorem small_down {a b:Int} (ha:-(2 ^ 62)≤a) (ha':a<2 ^ 62) (hb:-(2 ^ 62)≤b) (hb':b<2 ^ 62):Builtin.Range.small a b (-1)=true:=by
 have e:Builtin.Range.rangeSize a b (-1)=if a > b then a - b else 0:=by
  unfold Builtin.Range.rangeSize
  rw [if_neg (by decide)]
  have:(- -1:Int)=1:=by decide
  rw [this]
  split
  · rw [Int.ediv_one];omega
  · rfl
 unfold Builtin.Range.small
 rw [e]
 simp only [Builtin.Range.rangeFitsLong,Bool.and_eq_true,Bool.or_eq_true,decide_eq_true_eq,beq_iff_eq,show ¬ ((-1:Int) > 0) by decide,if_false]
 split <;> omega
end
section
variable {X:Cx} {e:Expr} {es:List Expr} {t:TA} {p pos:Pos}
theorem boot_sum':bootBuiltins "sum" = some (.builtin "sum"):=by decide +kernel
theorem boot_max':bootBuiltins "max" = some (.builtin "max"):=by decide +kernel
theorem boot_abs':bootBuiltins "abs" = some (.builtin "abs"):=by decide +kernel
theorem pcb_sum (hc:X.calm=true) (hg:Gl X "sum") (hm:X.mg "sum" = none) (ha:PA X (e::es) t) (he:starEach (e::es) X.env=(false,eval e X.env)::starEach es X.env) (hpl:(backTo pos (starEach es X.env)).any (·.1)=false) :
 PE X (.Call (.Name "sum" p) (e::es) [] pos) (tCB (rSumP X.K) t):=pe_callB (call_sumP hc) hg hm boot_sum' ha (by decide) (by decide) he hpl
theorem zcb_sum (hc:X.calm=true) (hg:Gl X "sum") (hm:X.mg "sum" = none) (ha:ZA X (e::es) t) (he:starEach (e::es) X.env=(false,eval e X.env)::starEach es X.env) (hpl:(backTo pos (starEach es X.env)).any (·.1)=false) :
 ZE X (.Call (.Name "sum" p) (e::es) [] pos) (tCB (rSumP X.K) t):=by with_unfolding_all exact pcb_sum hc hg hm ha he hpl
theorem pcb_max (hc:X.calm=true) (hg:Gl X "max") (hm:X.mg "max" = none) (ha:PA X (e::es) t) (he:starEach (e::es) X.env=(false,eval e X.env)::starEach es X.env) (hpl:(backTo pos (starEach es X.env)).any (·.1)=false) :
 PE X (.Call (.Name "max" p) (e::es) [] pos) (tCB (rMax1P X.K) t):=pe_callB (call_maxP hc) hg hm boot_max' ha (by decide) (by decide) he hpl
theorem zcb_max (hc:X.calm=true) (hg:Gl X "max") (hm:X.mg "max" = none) (ha:ZA X (e::es) t) (he:starEach (e::es) X.env=(false,eval e X.env)::starEach es X.env) (hpl:(backTo pos (starEach es X.env)).any (·.1)=false) :
 ZE X (.Call (.Name "max" p) (e::es) [] pos) (tCB (rMax1P X.K) t):=by with_unfolding_all exact pcb_max hc hg hm ha he hpl
def rAbsP:List V→Hp→VK→Prop:=fun xs H Q=>match xs with
 | [.int i]=>Q (.int (if i<0 then -i else i)) H
 | _=>False
theorem call_absP:CallR X (.builtin "abs") rAbsP:=call_abs.imp fun xs H Q h=>by
 unfold rAbsP at h
 split at h
 · exact ⟨_,rfl,h⟩
 · exact h.elim
theorem pcb_abs (hg:Gl X "abs") (hm:X.mg "abs" = none) (ha:PA X (e::es) t) (he:starEach (e::es) X.env=(false,eval e X.env)::starEach es X.env) (hpl:(backTo pos (starEach es X.env)).any (·.1)=false) :
 PE X (.Call (.Name "abs" p) (e::es) [] pos) (tCB rAbsP t):=pe_callB call_absP hg hm boot_abs' ha (by decide) (by decide) he hpl
theorem zcb_abs (hg:Gl X "abs") (hm:X.mg "abs" = none) (ha:ZA X (e::es) t) (he:starEach (e::es) X.env=(false,eval e X.env)::starEach es X.env) (hpl:(backTo pos (starEach es X.env)).any (·.1)=false) :
 ZE X (.Call (.Name "abs" p) (e::es) [] pos) (tCB rAbsP t):=by with_unfolding_all exact pcb_abs hg hm ha he hpl
def rAppP:V→List V→Hp→VK→Prop:=fun x vs H Q=>match x,vs with
 | .ref l,[y]=>∃ xs,H l=some (.lst xs)∧xs.length<sizeLine∧Q .non (upd H l (.lst (xs++[y])))
 | _,_=>False
theorem mt_appP:MtM X "list.append" rAppP:=fun pins s σ H x vs v us Q I rx rv h=>by
 unfold rAppP at h
 split at h
 · obtain ⟨xs,h1,h2,q⟩:=h
   exact mt_append pins s σ H _ _ v us Q I rx rv ⟨_,xs,_,rfl,rfl,h1,h2,q⟩
 · exact h.elim
variable {o:Expr} {to:TE} {apos cpos:Pos}
theorem pm_append (ho:PE X o to) (ha:PA X (e::es) t) (hbase:attributeBase o "append" X.env (eval o X.env)=eval o X.env:=by rfl)
 (hfew:((backTo cpos (starEach (e::es) X.env)).all (fun x=>!x.1)&&(backToKw cpos (keywordEach [] X.env)).all (fun x=>x.1.isSome)
   && decide ((e::es).length+([]:List Keyword).length+(if ([]:List Keyword).isEmpty then 0 else 1)<30))=true:=by rfl)
 (hline:(apos.endLine == cpos.line)=true:=by rfl) (hs:starEach (e::es) X.env=(false,eval e X.env)::starEach es X.env:=by rfl) (hplain:(backTo cpos (starEach es X.env)).any (·.1)=false:=by rfl) :
 PE X (.Call (.Attribute o "append" apos) (e::es) [] cpos) (fun σ H Q=>to σ H fun x H1=>tyV X.K "list" x H1∧t σ H1 fun xs H2=>rAppP x xs H2 Q):=
 pe_bm PySem.F.plainAttrs_list PySem.F.slot_list_append PySem.F.type_list_append mt_appP ho ha hbase hfew hline hs hplain
theorem zm_append (ho:ZE X o to) (ha:ZA X (e::es) t) (hbase:attributeBase o "append" X.env (eval o X.env)=eval o X.env:=by rfl)
 (hfew:((backTo cpos (starEach (e::es) X.env)).all (fun x=>!x.1)&&(backToKw cpos (keywordEach [] X.env)).all (fun x=>x.1.isSome)
   && decide ((e::es).length+([]:List Keyword).length+(if ([]:List Keyword).isEmpty then 0 else 1)<30))=true:=by rfl)
 (hline:(apos.endLine == cpos.line)=true:=by rfl) (hs:starEach (e::es) X.env=(false,eval e X.env)::starEach es X.env:=by rfl) (hplain:(backTo cpos (starEach es X.env)).any (·.1)=false:=by rfl) :
 ZE X (.Call (.Attribute o "append" apos) (e::es) [] cpos) (fun σ H Q=>to σ H fun x H1=>tyV X.K "list" x H1∧t σ H1 fun xs H2=>rAppP x xs H2 Q):=by with_unfolding_all exact pm_append ho ha hbase hfew hline hs hplain
theorem pm_count (ho:PE X o to) (ha:PA X (e::es) t) (hbase:attributeBase o "count" X.env (eval o X.env)=eval o X.env:=by rfl)
 (hfew:((backTo cpos (starEach (e::es) X.env)).all (fun x=>!x.1)&&(backToKw cpos (keywordEach [] X.env)).all (fun x=>x.1.isSome)
   && decide ((e::es).length+([]:List Keyword).length+(if ([]:List Keyword).isEmpty then 0 else 1)<30))=true:=by rfl)
 (hline:(apos.endLine == cpos.line)=true:=by rfl) (hs:starEach (e::es) X.env=(false,eval e X.env)::starEach es X.env:=by rfl) (hplain:(backTo cpos (starEach es X.env)).any (·.1)=false:=by rfl) :
 PE X (.Call (.Attribute o "count" apos) (e::es) [] cpos) (fun σ H Q=>to σ H fun x H1=>tyV X.K "tuple" x H1∧t σ H1 fun xs H2=>rCountP x xs H2 Q):=
 pe_bm PySem.F.plainAttrs_tuple PySem.F.slot_tuple_count PySem.F.type_tuple_count mt_count ho ha hbase hfew hline hs hplain
theorem tyL {K:PySem.W.Frag} {H:Hp} {l:Addr} {xs:List V} (h:H l=some (.lst xs)):tyV K "list" (.ref l) H:=.inl ⟨rfl,xs,SqL.of h⟩
theorem tyT {K:PySem.W.Frag} {H:Hp} {l:Addr} {xs:List V} (h:H l=some (.tup xs)):tyV K "tuple" (.ref l) H:=.inr (.inr (.inr (.inr ⟨rfl,xs,h⟩)))
end
theorem DatV.ints {H:Hp} {a:Addr} {ns:List Int} (e:H a=some (.tup (ns.map V.int))):DatV H (.ref a) (.tuple (ns.map PyData.int)):=.tup e (DatAll.ints ns)
def PrAt (H:Hp) (v:V) (p:Int×Int):Prop:=∃ b,v=.ref b∧H b=some (.tup [.int p.1,.int p.2])
inductive Prs (H:Hp):List V→List (Int×Int)→Prop where
 | nil:Prs H [] []
 | cons {v p vs ps}:PrAt H v p→Prs H vs ps→Prs H (v::vs) (p::ps)
theorem Prs.same {H H':Hp} (y:Same H H'):∀ {vs ps},Prs H vs ps→Prs H' vs ps
 | _,_,.nil=>.nil
 | _,_,.cons ⟨b,e,h⟩ r=>.cons ⟨b,e,y _ _ h⟩ (Prs.same y r)
theorem Prs.length {H:Hp}:∀ {vs ps},Prs H vs ps→vs.length=ps.length
 | _,_,.nil=>rfl
 | _,_,.cons _ r=>by rw [List.length_cons,List.length_cons,Prs.length r]
theorem Prs.get {H:Hp}:∀ {vs ps} {i:Nat} {v:V},Prs H vs ps→vs[i]? = some v→∃ p,ps[i]? = some p∧PrAt H v p
 | _,_,_,_,.nil,h=>by simp at h
 | _,_,0,_,.cons h _,e=>by simp at e;subst e;exact ⟨_,rfl,h⟩
 | _,_,i+1,_,.cons _ r,e=>by
   obtain ⟨p,h1,h2⟩:=Prs.get (i:=i) r (by simpa using e)
   exact ⟨p,by simpa using h1,h2⟩
theorem Prs.snoc {H:Hp} {v:V} {p:Int×Int} (h:PrAt H v p):∀ {vs ps},Prs H vs ps→Prs H (vs++[v]) (ps++[p])
 | _,_,.nil=>.cons h .nil
 | _,_,.cons q r=>.cons q (Prs.snoc h r)
theorem Prs.set {H:Hp} {v:V} {p:Int×Int} (h:PrAt H v p):∀ {vs ps} (i:Nat),Prs H vs ps→Prs H (vs.set i v) (ps.set i p)
 | _,_,_,.nil=>.nil
 | _,_,0,.cons _ r=>.cons h r
 | _,_,i+1,.cons q r=>.cons q (Prs.set h i r)
theorem Same.updN {H H':Hp} {t:Addr} {o:HO} (y:Same H H') (h:H t=none):Same H (upd H' t o):=fun b u e=>by
 rw [upd_ne (ne_of_none e h)]
 exact y b u e
theorem Prs.updL {H:Hp} {t:Addr} {xs ys:List V} (h:H t=some (.lst xs)):∀ {us ps},Prs H us ps→Prs (upd H t (.lst ys)) us ps
 | _,_,.nil=>.nil
 | _,_,.cons ⟨b,e,hb⟩ r=>.cons ⟨b,e,by rw [upd_ne (ne_of hb h (by intro z;cases z))];exact hb⟩ (Prs.updL h r)
theorem Prs.nilOf {H:Hp} {us ps} (r:Prs H us ps):us.isEmpty=ps.isEmpty:=by cases r <;> rfl
theorem Prs.split {H:Hp} {us:List V} {i:List (Int×Int)} {q:Int×Int} (r:Prs H us (i++[q])):∃ vs b,us=vs++[.ref b]∧vs.length=i.length∧H b=some (.tup [.int q.1,.int q.2]):=by
 have hl:=r.length
 rw [List.length_append,List.length_singleton] at hl
 have hne:us≠[]:=by intro e;subst e;simp at hl
 have e:=List.dropLast_concat_getLast hne
 have hd:us.dropLast.length=i.length:=by rw [List.length_dropLast];omega
 obtain ⟨p,h1,b,h2,h3⟩:=r.get (i:=i.length) (v:=us.getLast hne) (by
  rw [List.getLast_eq_getElem,List.getElem?_eq_getElem (by omega)]
  congr 2
  omega)
 have:p=q:=by simpa using h1.symm
 subst this
 exact ⟨us.dropLast,b,by rw [← h2];exact e.symm,hd,h3⟩
theorem canInts:∀ ns:List Int,PyData.canLayAll0 (ns.map PyData.int)=true∧PyData.depthAll (ns.map PyData.int)≤1
 | []=>⟨by simp [PyData.canLayAll0],by simp [PyData.depthAll]⟩
 | n::r=>by
   obtain ⟨h1,h2⟩:=canInts r
   refine ⟨by simp only [List.map_cons,PyData.canLayAll0,PyData.canLay0,h1,Bool.and_self],?_⟩
   simp only [List.map_cons,PyData.depthAll,PyData.depth]
   omega
theorem shaped_ints (ns:List Int):SeqAt.shaped (.tuple (ns.map PyData.int))=true:=by
 obtain ⟨h1,h2⟩:=canInts ns
 unfold SeqAt.shaped
 rw [Bool.and_eq_true]
 exact ⟨by simp only [PyData.canLay0];exact h1,decide_eq_true (by simp only [PyData.depth];omega)⟩
theorem shaped_list_ints (ns:List Int):SeqAt.shaped (.list (ns.map PyData.int))=true:=by
 obtain ⟨h1,h2⟩:=canInts ns
 unfold SeqAt.shaped
 rw [Bool.and_eq_true]
 exact ⟨by simp only [PyData.canLay0];exact h1,decide_eq_true (by simp only [PyData.depth];omega)⟩
theorem eqv_self {d:PyData} (h:SeqAt.shaped d=true):PyData.eqv d d=true:=SeqAt.eqv_refl d (SeqAt.canLay_of_shaped h)
theorem SqL.same {K:PySem.W.Frag} {H H':Hp} {a:Addr} {xs:List V} (e:Same H H') (h:SqL K H a xs):SqL K H' a xs:=by
 rcases h with (h | ⟨o,h⟩) | h
 · exact .inl (.inl (e _ _ h))
 · exact .inl (.inr ⟨o,e _ _ h⟩)
 · exact .inr h
theorem while_by2 {c:TT} {tb:TS} {D:Ends} {σ:St} {H:Hp} (Pv:Nat→St→Hp→Prop) (m0:Nat) (h0:Pv m0 σ H)
 (hs:∀ m σ H,Pv m σ H→c σ H fun b H1=>if b=true then ∃ N:St→Hp→Prop,(∀ σ' H',N σ' H'→∃ m',m' < m∧Pv m' σ' H')∧tb { D with nx:=N,ct:=N,bk:=D.nx } σ H1 else D.nx σ H1):tWhile c tb D σ H:=⟨Pv,⟨m0,h0⟩,hs⟩
section
variable {X:Cx}
def rGetL (K:PySem.W.Frag):V→V→Hp→VK→Prop:=fun x y H Q=>match x,y with
 | .ref p,.int i=>∃ xs v,SqL K H p xs∧0≤i∧xs[i.toNat]? = some v∧Q v H
 | _,_=>False
theorem get_list:PGet X (rGetL X.K):=by
 intro pins s σ H x y v u Q I rx ry h
 unfold rGetL at h
 split at h
 · rename_i p i
   obtain ⟨xs,z,hq,h0,he,q⟩:=h
   cases rx
   obtain ⟨t,rfl⟩:=ry
   obtain ⟨its,r,pl,hz⟩:=I.list hq
   obtain ⟨w,ew,rw'⟩:=r.get he
   have hl:=r.length
   have hn:=line63
   have hi:i.toNat<its.length:=(List.getElem?_eq_some_iff.mp ew).1
   exact wpAny_getItem_list pl.isList h0 (by omega) (by simpa using ew) ⟨z,H,I,rw',q⟩
 · exact h.elim
def ipP (f:Int→Int→Int):TIp:=fun x y H Q=>match x,y with
 | .int i,.int j=>Q (.int (f i j)) H
 | _,_=>False
theorem ipP_I {f:Int→Int→Int} {x y:V} {H:Hp} {Q:VK} (h:ipP f x y H Q):ipI f x y H Q:=by
 unfold ipP at h
 split at h
 · exact ⟨_,_,rfl,rfl,h⟩
 · exact h.elim
theorem ip_addP:PIp X .Add (ipP fun i j=>i+j):=fun pins s σ H x y v u Q I r1 r2 h=>ip_add pins s σ H x y v u Q I r1 r2 (ipP_I h)
theorem ip_subP:PIp X .Sub (ipP fun i j=>i - j):=fun pins s σ H x y v u Q I r1 r2 h=>ip_sub pins s σ H x y v u Q I r1 r2 (ipP_I h)
def rSetP:V→V→V→Hp→(Hp→Prop)→Prop:=fun o i v H Q=>match o,i with
 | .ref p,.int k=>∃ xs,H p=some (.lst xs)∧0≤k∧k.toNat<xs.length∧Q (upd H p (.lst (xs.set k.toNat v)))
 | _,_=>False
theorem set_listP:PSet X rSetP:=fun pins s σ H o i v ov iv u Q I r1 r2 r3 h=>by
 unfold rSetP at h
 split at h
 · obtain ⟨xs,h1,h2,h3,q⟩:=h
   refine set_list pins s σ H _ _ v ov iv u Q I r1 r2 r3 ⟨_,xs,_,_,rfl,rfl,h1,?_,q⟩
   unfold ixN
   rw [if_pos h2,if_pos (by omega)]
 · exact h.elim
end
inductive Tps (H:Hp):List V→List (List Int)→Prop where
 | nil:Tps H [] []
 | cons {b:Addr} {ls:List Int} {vs lss}:H b=some (.tup (ls.map V.int))→Tps H vs lss→Tps H (.ref b::vs) (ls::lss)
theorem Tps.same {H H':Hp} (y:Same H H'):∀ {vs ps},Tps H vs ps→Tps H' vs ps
 | _,_,.nil=>.nil
 | _,_,.cons h r=>.cons (y _ _ h) (Tps.same y r)
theorem Tps.length {H:Hp}:∀ {vs ps},Tps H vs ps→vs.length=ps.length
 | _,_,.nil=>rfl
 | _,_,.cons _ r=>by rw [List.length_cons,List.length_cons,Tps.length r]
theorem Tps.snoc {H:Hp} {b:Addr} {ls:List Int} (h:H b=some (.tup (ls.map V.int))):∀ {vs ps},Tps H vs ps→Tps H (vs++[.ref b]) (ps++[ls])
 | _,_,.nil=>.cons h .nil
 | _,_,.cons q r=>.cons q (Tps.snoc h r)
section
variable {X:Cx} {e:Expr} {es:List Expr} {t:TA} {p pos:Pos} {K:PySem.W.Frag} {o:Expr} {to:TE} {apos cpos:Pos}
theorem pcb_len' (hg:Gl X "len") (hm:X.mg "len" = none) (ha:PA X (e::es) t) (he:starEach (e::es) X.env=(false,eval e X.env)::starEach es X.env) (hpl:(backTo pos (starEach es X.env)).any (·.1)=false) (hK:X.K=K) :
 PE X (.Call (.Name "len" p) (e::es) [] pos) (tCB (rLenP K) t):=by subst hK;exact pcb_len hg hm ha he hpl
theorem zcb_len' (hg:Gl X "len") (hm:X.mg "len" = none) (ha:ZA X (e::es) t) (he:starEach (e::es) X.env=(false,eval e X.env)::starEach es X.env) (hpl:(backTo pos (starEach es X.env)).any (·.1)=false) (hK:X.K=K) :
 ZE X (.Call (.Name "len" p) (e::es) [] pos) (tCB (rLenP K) t):=by with_unfolding_all exact pcb_len' hg hm ha he hpl hK
theorem pm_count' (ho:PE X o to) (ha:PA X (e::es) t) (hK:X.K=K) (hbase:attributeBase o "count" X.env (eval o X.env)=eval o X.env:=by rfl)
 (hfew:((backTo cpos (starEach (e::es) X.env)).all (fun x=>!x.1)&&(backToKw cpos (keywordEach [] X.env)).all (fun x=>x.1.isSome)
   && decide ((e::es).length+([]:List Keyword).length+(if ([]:List Keyword).isEmpty then 0 else 1)<30))=true:=by rfl)
 (hline:(apos.endLine == cpos.line)=true:=by rfl) (hs:starEach (e::es) X.env=(false,eval e X.env)::starEach es X.env:=by rfl) (hplain:(backTo cpos (starEach es X.env)).any (·.1)=false:=by rfl) :
 PE X (.Call (.Attribute o "count" apos) (e::es) [] cpos) (fun σ H Q=>to σ H fun x H1=>tyV K "tuple" x H1∧t σ H1 fun xs H2=>rCountP x xs H2 Q):=by subst hK;exact pm_count ho ha hbase hfew hline hs hplain
theorem zm_count' (ho:ZE X o to) (ha:ZA X (e::es) t) (hK:X.K=K) (hbase:attributeBase o "count" X.env (eval o X.env)=eval o X.env:=by rfl)
 (hfew:((backTo cpos (starEach (e::es) X.env)).all (fun x=>!x.1)&&(backToKw cpos (keywordEach [] X.env)).all (fun x=>x.1.isSome)
   && decide ((e::es).length+([]:List Keyword).length+(if ([]:List Keyword).isEmpty then 0 else 1)<30))=true:=by rfl)
 (hline:(apos.endLine == cpos.line)=true:=by rfl) (hs:starEach (e::es) X.env=(false,eval e X.env)::starEach es X.env:=by rfl) (hplain:(backTo cpos (starEach es X.env)).any (·.1)=false:=by rfl) :
 ZE X (.Call (.Attribute o "count" apos) (e::es) [] cpos) (fun σ H Q=>to σ H fun x H1=>tyV K "tuple" x H1∧t σ H1 fun xs H2=>rCountP x xs H2 Q):=by with_unfolding_all exact pm_count' ho ha hK hbase hfew hline hs hplain
end
section
variable {M:Model} {A:Around} {E:Value→Shared→Prop} {s:Shared}
theorem newEnv1 {scope:Scope} {globals:Addr} {cl:List (Str×Addr)} {qual:Str} {env:Env} {x:Str} {Q:Env→Shared→Prop}
 (hcl:∀ n acc,cellsFrom n scope.names acc=(x,n)::acc) (hpc:∀ h:Heap,pushCells h scope.names=h.push { cls:=.type "cell",data:=.cell none })
 (h:Q { scope,locals:=s.heap.objs.size,globals,cells:=(x,s.heap.objs.size+1)::cl,qual,func:=none,code:=env.code,frame:=env.frame,builtins:=env.builtins }
   { s with heap:=(s.heap.push { cls:=.type "dict",data:=.dict #[] }).push { cls:=.type "cell",data:=.cell none } }) :
 wpAny M A (newFunctionEnv scope globals cl [] qual none .none (some env)) Q E s:=by
 simp only [newFunctionEnv,Option.isSome_some,if_true]
 refine wpAny_bind (wpAny_alloc ?_)
 refine wpAny_bind (wpAny_layCells _ (fun name kind cells=>by cases hkc:kind == NameKind.cell <;> simp [hkc]) _ _ _ _ ?_)
 rw [hcl,hpc,show ({ s with heap:=s.heap.push { cls:=.type "dict",data:=.dict #[] } }:Shared).heap.objs.size=s.heap.objs.size+1 from Heap.size_push ..]
 rw [List.forIn_nil]
 exact wpAny_bind (wpAny_pure (wpAny_pure h))
end
def cells1 (X:Cx) (x:Str) (scope:Scope) (C:Addr):List (Str×Addr):=(x,C+1)::clsOf X.env scope.names []
def cmpX1 (X:Cx) (x:Str) (nv:List Str) (ix:List (Str×Nat)) (scope:Scope) (C:Addr) (s₀:Shared) (H₀:Hp) (fp:List Addr):Cx:=
 { X with N:=nv++ix.map (·.1),s₀:=s₀,H₀:=H₀,env:={ compEnvC scope (clsOf X.env scope.names []) C X.env with cells:=cells1 X x scope C },outer:=X.stack,stack:=X.stack,ex:=fp,fn:=fun y=>y == x,pn:=[],xe:=fun _ _=>False }
structure CompOk1 (X:Cx) (x:Str) (nv:List Str) (ix:List (Str×Nat)) (scope:Scope):Prop where
 kind:scope.kind=.function
 names:∀ y∈scope.names,y.2=.local→scope.names.lookup y.1=some .local
 free:(scope.names.all fun y=>!(y.2 == NameKind.free)||((X.env.kindOf y.1 == some NameKind.cell||X.env.kindOf y.1 == some NameKind.free)&&!(y.1 == x)))=true
 ix:(ix.all fun p=>(scope.names.lookup p.1 == some NameKind.free)&&(X.N[p.2]? == some p.1))=true
 cl:∀ n acc,cellsFrom n scope.names acc=(x,n)::acc
 pc:∀ h:Heap,pushCells h scope.names=h.push { cls:=.type "cell",data:=.cell none }
 own:(scope.names.all fun y=>!(y.2 == NameKind.cell)||(y.1 == x))=true
section
variable {X:Cx} {x:Str} {nv:List Str} {ix:List (Str×Nat)} {scope:Scope} {pins:List (Addr×Obj)} {σ:St} {H:Hp} {s:Shared}
theorem CompOk1.fk (co:CompOk1 X x nv ix scope) {y:Str×NameKind} (hy:y∈scope.names) (hf:y.2=.free):(X.env.kindOf y.1=some .cell∨X.env.kindOf y.1=some .free)∧y.1≠x:=by
 have q:=List.all_eq_true.mp co.free y hy
 rw [hf] at q
 simpa using q
theorem CompOk1.cells (co:CompOk1 X x nv ix scope) (ok:X.Ok):∀ y∈scope.names,y.2=.free→∃ c,X.env.cells.lookup y.1=some c:=fun y hy hf=>ok.has y.1 (co.fk hy hf).1
theorem CompOk1.look0 (co:CompOk1 X x nv ix scope) (ok:X.Ok) {n:Str} {c:Addr} (h:(clsOf X.env scope.names []).lookup n=some c):X.env.cells.lookup n=some c:=
 clsOf_look _ _ (co.cells ok) (fun _ _ e=>by cases e) n c h
theorem CompOk1.look (co:CompOk1 X x nv ix scope) (ok:X.Ok) {n:Str} {c C:Addr} (h:(cells1 X x scope C).lookup n=some c):(n=x∧c=C+1)∨X.env.cells.lookup n=some c:=by
 unfold cells1 at h
 rw [List.lookup_cons] at h
 cases e:n == x with
 | true=>rw [e] at h;cases h;exact .inl ⟨by simpa using e,rfl⟩
 | false=>rw [e] at h;exact .inr (co.look0 ok h)
theorem CompOk1.ixp (co:CompOk1 X x nv ix scope) {p:Str×Nat} (hp:p∈ix):scope.names.lookup p.1=some .free∧X.N[p.2]? = some p.1:=by
 have q:=Bool.and_eq_true_iff.mp (List.all_eq_true.mp co.ix p hp)
 exact ⟨by simpa using q.1,by simpa using q.2⟩
theorem CompOk1.isx (co:CompOk1 X x nv ix scope) {y:Str} (hy:(y,NameKind.cell)∈scope.names):y=x:=by
 have q:=List.all_eq_true.mp co.own _ hy
 simpa using q
theorem cells1_has (co:CompOk1 X x nv ix scope) {y:Str} {C:Addr} (hy:(y,NameKind.free)∈scope.names):∃ c,(cells1 X x scope C).lookup y=some c:=by
 unfold cells1
 rw [List.lookup_cons]
 cases e:y == x with
 | true=>exact ⟨_,rfl⟩
 | false=>exact clsOf_has _ _ y (.inl hy)
theorem cmpX1_ok (co:CompOk1 X x nv ix scope) (I:Inv X pins σ H s) {fp:List Addr} {C:Addr} (hC:s.heap.objs.size≤C) (hf:∀ b∈fp,FpOk X pins H b) (hlt:∀ b∈fp,b<s.heap.objs.size):(cmpX1 X x nv ix scope C s H fp).Ok where
 mod:=I.mod
 kind:=co.kind
 glob:=I.ok.glob
 blt:=I.ok.blt
 above:=hC
 inj:=fun y z c a b=>by
  have low:∀ {n:Str},X.env.cells.lookup n=some c→c=C+1→False:=fun {n} e q=>by
   obtain ⟨v,o,e1,_⟩:=I.cell n c e
   have:=Heap.lt_size e1
   rw [q] at this
   exact Nat.lt_irrefl _ (Nat.lt_of_lt_of_le (Nat.lt_of_succ_lt this) hC)
  rcases co.look I.ok a with ⟨h1,h2⟩ | h1 <;> rcases co.look I.ok b with ⟨g1,g2⟩ | g1
  · rw [h1,g1]
  · exact (low g1 h2).elim
  · exact (low h1 g2).elim
  · exact I.ok.inj y z c h1 g1
 has:=fun y hk=>by
  have z:(y,NameKind.free)∈scope.names∨y=x:=by
   rcases hk with hk | hk
   · obtain ⟨k,h1,_,h3⟩:=rl_look (env:=X.env) (names:=scope.names) hk
     rcases h3 with h3 | ⟨h3,_⟩
     · rw [← h3] at h1;exact .inr (co.isx h1)
     · rw [h3] at h1;exact .inl h1
   · obtain ⟨k,h1,_,h3⟩:=rl_look (env:=X.env) (names:=scope.names) hk
     rcases h3 with h3 | ⟨_,h3⟩
     · rw [← h3] at h1;exact .inl h1
     · cases h3
  rcases z with z | rfl
  · exact cells1_has co z
  · refine ⟨C+1,?_⟩
    show (cells1 X y scope C).lookup y=_
    unfold cells1
    simp
 cab:=fun y c h e=>by
  rcases co.look I.ok e with ⟨_,h2⟩ | h2
  · rw [h2];exact Nat.le_succ_of_le hC
  · have hy:y=x:=by simpa [cmpX1] using h
    have e':(cells1 X x scope C).lookup y=some c:=e
    unfold cells1 at e'
    rw [hy] at e'
    have:c=C+1:=by simpa using e'.symm
    rw [this];exact Nat.le_succ_of_le hC
 hd:=I.ok.hd
 frames:=I.ok.frames
 stk:=.inl rfl
 exf:=fun b hb=>⟨Nat.ne_of_lt (Nat.lt_of_lt_of_le (hlt b hb) hC),fun y c e=>by
  rcases co.look I.ok e with ⟨_,h2⟩ | h2
  · have:=hlt b hb
    intro z
    rw [← z,h2] at this
    exact Nat.lt_irrefl _ (Nat.lt_of_lt_of_le (Nat.lt_of_succ_lt this) hC)
  · exact (hf b hb).2.2.2.2.1 y c h2⟩
 bs:=fun b o e=>I.bs b o e
 bsz:=Nat.le_trans I.ok.bsz I.sz
 noex:=fun b o e hb=>by
  rcases (hf b hb).2.2.2.1 with z | z
  · exact I.ok.noex b o e z
  · exact absurd (Nat.lt_of_lt_of_le (Heap.lt_size e) (Nat.le_trans I.ok.bsz z)) (Nat.lt_irrefl _)
 exfs:=fun b hb hs=>by
  rcases List.mem_cons.mp (I.stkSub b hs) with e | h
  · exact (hf b hb).2.1 e
  · exact (hf b hb).2.2.1 h
 funs:=I.stack
 frf:=I.stkFree
theorem cmp_start1 (co:CompOk1 X x nv ix scope) (I:Inv X pins σ H s) {fp:List Addr} {h₁:Heap} {tk:Nat} {m:Str→Option Value} (hf:∀ b∈fp,FpOk X pins H b) (hlt:∀ b∈fp,b<s.heap.objs.size)
 (hn:h₁.Ns (s.heap.objs.size+1) m) (old:∀ b o,s.heap.get? b=some o→h₁.get? b=some o) (hD:h₁.get? s.heap.objs.size=some (lobj [] 0)) (hce:h₁.IsCell (s.heap.objs.size+1+1) none) :
 Inv (cmpX1 X x nv ix scope (s.heap.objs.size+1) s H fp) [(s.heap.objs.size,lobj [] 0)] (st0 nv ix σ) H { s with heap:=h₁,toks:=tk } where
 ok:=cmpX1_ok co I (Nat.le_succ _) hf hlt
 os:=rfl
 bare:=I.bare
 base:=Un.kept old
 loc:=by
  refine ⟨m,hn,fun i y v e1 e2 hv=>?_⟩
  obtain ⟨m₀,_,hl⟩:=I.loc
  have e1':(nv++ix.map (·.1))[i]? = some y:=e1
  unfold st0 at e2
  by_cases hi:i<nv.length
  · rw [List.getElem?_append_left (by rw [List.length_map];exact hi),List.getElem?_map] at e2
    cases q:nv[i]? with
    | none=>rw [q] at e2;cases e2
    | some z=>rw [q] at e2;cases e2
  · have hi':nv.length≤i:=Nat.not_lt.mp hi
    rw [List.getElem?_append_right hi',List.getElem?_map] at e1'
    rw [List.getElem?_append_right (by rw [List.length_map];exact hi'),List.length_map] at e2
    unfold frV at e2
    rw [List.getElem?_map] at e2
    cases q:ix[i - nv.length]? with
    | none=>rw [q] at e1';cases e1'
    | some p=>
      rw [q] at e1' e2
      have hp:p∈ix:=List.mem_of_getElem? q
      have ex:p.1=y:=Option.some.inj e1'
      have ev:σ[p.2]? = some (some v):=join_some (Option.some.inj e2)
      obtain ⟨f1,f2⟩:=co.ixp hp
      obtain ⟨hk,hpx⟩:=co.fk (lookup_mem f1) rfl
      obtain ⟨u,r,l⟩:=hl p.2 p.1 v f2 ev (hk.elim (fun z=>.inr (.inl z)) fun z=>.inr (.inr z))
      refine ⟨u,r,.inr ⟨?_,?_⟩⟩
      · obtain ⟨k',hk'⟩:=rl_has (env:=X.env) f1
        obtain ⟨k,h1,h2,h3⟩:=rl_look hk'
        rw [f1] at h2
        cases h2
        rw [← ex]
        rcases h3 with h3 | ⟨_,h3⟩
        · exact .inr (hk'.trans (congrArg some h3))
        · exact .inl (hk'.trans (congrArg some h3))
      · obtain ⟨c,hc⟩:=cells1_has (C:=s.heap.objs.size+1) co (lookup_mem f1)
        refine ⟨c,by rw [← ex];exact hc,?_⟩
        have hc':X.env.cells.lookup p.1=some c:=by
         rcases co.look I.ok hc with ⟨z,_⟩ | z
         · exact absurd z hpx
         · exact z
        rcases l with ⟨z,_⟩ | ⟨_,c',z1,o,z2,z3⟩
        · have z':X.env.kindOf p.1=some .local:=z
          rcases hk with hk | hk
          · have hk':X.env.kindOf p.1=some .cell:=hk
            rw [z'] at hk';cases hk'
          · have hk':X.env.kindOf p.1=some .free:=hk
            rw [z'] at hk';cases hk'
        · rw [hc'] at z1
          cases z1
          exact ⟨o,old _ _ z2,z3⟩
 cell:=fun y c e=>by
  rcases co.look I.ok e with ⟨_,h2⟩ | h2
  · rw [h2];exact ⟨_,hce⟩
  · obtain ⟨v,o,h1,h2⟩:=I.cell y c h2
    exact ⟨v,o,old _ _ h1,h2⟩
 free:=I.hok.fresh (Nat.le_succ _)
 freeC:=fun y c e=>by
  rcases co.look I.ok e with ⟨_,h2⟩ | h2
  · rw [h2];exact I.hok.fresh (by omega)
  · exact I.freeC y c h2
 pin:=fun p hp=>by
  have e:p=(s.heap.objs.size,lobj [] 0):=by simpa [cmpX1] using hp
  subst e
  refine ⟨hD,I.hok.fresh (Nat.le_refl _),Nat.ne_of_lt (Nat.lt_succ_self _),fun hb=>?_,fun v z=>by cases z⟩
  rcases List.mem_cons.mp (I.stkSub _ hb) with e | h
  · exact absurd I.lt (by rw [← e];exact Nat.lt_irrefl _)
  · exact I.nofs (Nat.le_refl _) h
 hok:=I.hok.kept old
 len:=by
  show (nv.map (fun _=>none)++frV σ ix).length=(nv++ix.map (·.1)).length
  unfold frV
  simp
theorem cmp_end1 {ps2:List (Addr×Obj)} {σ2:St} {H':Hp} {s':Shared} {fp:List Addr} {C:Addr} (I:Inv X pins σ H s) (hf:∀ b∈fp,FpOk X pins H b) (Ic:Inv (cmpX1 X x nv ix scope C s H fp) ps2 σ2 H' s'):Inv X pins σ H' s':=
 I.call' (ch:=fp) Ic.os Ic.base Ic.hok Ic.bare fun b hb=>⟨(hf b hb).2.2.2.1,(hf b hb).2.1,(hf b hb).2.2.2.2.1,(hf b hb).2.2.2.2.2⟩
end
section
variable {X:Cx} {x:Str} {nv:List Str} {ix:List (Str×Nat)} {scope:Scope} {pins:List (Addr×Obj)} {σ:St} {H:Hp} {s:Shared} {elt tg iter:Expr} {ifs:List Expr} {pos:Pos}
theorem comp_run1 {J:It} {fp:List Addr} {it:Addr} {tn:Nat→Heap→Prop} {g:TG} {ti:TT} {te:TE} {Fin:List V→Hp→Prop} {E:Value→Shared→Prop} {RR:Value→Addr→Result→Shared→Prop}
 (co:CompOk1 X x nv ix scope) (hc:X.calm=true) (I:Inv X pins σ H s) (T:Turn X.prog X.w X.K tg J fp it tn) (st:tn 0 s.heap) (hf:∀ b∈fp,FpOk X pins H b)
 (kg:KpG nv g) (hg:∀ C s₀ H₀ fp,PG (cmpX1 X x nv ix scope C s₀ H₀ fp) tg g) (hi:∀ C s₀ H₀ fp,PIf (cmpX1 X x nv ix scope C s₀ H₀ fp) ifs ti) (he:∀ C s₀ H₀ fp,PE (cmpX1 X x nv ix scope C s₀ H₀ fp) elt te)
 (q:CmpW nv ix g ti te σ J Fin H)
 (fin:∀ D C s' H' ys,Inv X pins σ (upd H' D (.lst ys)) s'→H' D=none→Fin ys H'→(∃ m,s'.heap.Ns C m)→FpOk X pins (upd H' D (.lst ys)) C→RR (.ref D) C (.ok .next) s') :
 wpAny (model X.prog X.w) X.A (newList []) (fun acc s₃=>wpAny (model X.prog X.w) X.A (newFunctionEnv scope X.env.globals (clsOf X.env scope.names []) [] X.env.qual none .none (some X.env)) (fun cenv s₄=>
  codeAny (model X.prog X.w) X.A (.compStart (.ListComp elt [⟨tg,iter,ifs,0⟩] scope pos) 0 (.ref it) acc { cenv with scope:=relabel scope X.env }) (RR acc cenv.locals) s₄) E s₃) E s:=by
 obtain ⟨W,⟨m0,w0⟩,turn⟩:=q
 refine wpAny_newObj_type (newEnv1 (x:=x) co.cl co.pc ?_)
 dsimp only
 generalize hH2:s.heap.push { cls:=.type "list",dict:=none,data:=.seq ([]:List Value).toArray }=H2
 have hC:H2.objs.size=s.heap.objs.size+1:=by rw [← hH2,Heap.size_push]
 rw [hC]
 generalize hh1:(H2.push { cls:=.type "dict",data:=.dict #[] }).push { cls:=.type "cell",data:=.cell none }=h₁
 have hns₁:h₁.Ns (s.heap.objs.size+1) (fun _=>none):=by
  rw [← hh1,← hC]
  exact (Heap.Ns.new H2 (.type "dict")).keeps fun b o e=>Heap.get?_push_of_some _ e
 have hcell:h₁.IsCell (s.heap.objs.size+1+1) none:=by
  rw [← hh1,← hC]
  have e:(H2.push { cls:=.type "dict",data:=.dict #[] }).objs.size=H2.objs.size+1:=Heap.size_push ..
  rw [← e]
  exact ⟨_,Heap.get?_push_size _ rfl,rfl⟩
 have hDC:s.heap.objs.size≠s.heap.objs.size+1:=Nat.ne_of_lt (Nat.lt_succ_self _)
 have below:∀ b,b<s.heap.objs.size→b≠s.heap.objs.size+1∧b≠s.heap.objs.size:=fun b hb=>⟨Nat.ne_of_lt (Nat.lt_succ_of_lt hb),Nat.ne_of_lt hb⟩
 have old:∀ b o,s.heap.get? b=some o→h₁.get? b=some o:=fun b o e=>by
  rw [← hh1,← hH2]
  exact Heap.get?_push_of_some _ (Heap.get?_push_of_some _ (Heap.get?_push_of_some _ e))
 have hacc:h₁.get? s.heap.objs.size=some (lobj [] 0):=by
  rw [← hh1,← hH2]
  exact Heap.get?_push_of_some _ (Heap.get?_push_of_some _ (Heap.get?_push_size _ rfl))
 have hlt:∀ b∈fp,b<s.heap.objs.size:=fun b hb=>by
  obtain ⟨o,e,_⟩:=T.obj 0 _ st b hb
  exact Heap.lt_size e
 have I₁:=fun tk=>cmp_start1 (tk:=tk) co I hf hlt hns₁ old hacc hcell
 have st₁:tn 0 h₁:=T.keep 0 _ _ st fun b _ o e=>old b o e
 have fpD:∀ {H':Hp},H' s.heap.objs.size=none→FpOk X pins H' s.heap.objs.size:=fun hn=>I.fpOk (Nat.le_refl _) hn
 have loop:∀ tk:Nat,codeAny (model X.prog X.w) X.A (.compLoop (.ListComp elt [⟨tg,iter,ifs,0⟩] scope pos) 0 (.ref it) (.ref s.heap.objs.size) (cmpX1 X x nv ix scope (s.heap.objs.size+1) s H fp).env)
  (RR (.ref s.heap.objs.size) (s.heap.objs.size+1)) { s with heap:=h₁,toks:=tk }:=by
  intro tk
  refine compLoop_go (fun n s'=>∃ i H' ys its k,Inv (cmpX1 X x nv ix scope (s.heap.objs.size+1) s H fp) [(s.heap.objs.size,lobj its k)] (st0 nv ix σ) H' s'∧Vals ys its∧ys.length≤sizeLine∧tn i s'.heap∧(∀ b∈fp,H' b=none)∧W i n ys H')
   ?_ m0 ⟨0,H,[],[],0,I₁ tk,.nil,Nat.zero_le _,st₁,fun b hb=>(hf b hb).1,w0⟩
  rintro n s3 ⟨i,H3,ys,its,k,I3,rv,hz,st3,fr3,w3⟩
  have fpc:∀ {H':Hp} {its:List Value} {k:Nat},(∀ b∈fp,H' b=none)→∀ b∈fp,FpOk (cmpX1 X x nv ix scope (s.heap.objs.size+1) s H fp) [(s.heap.objs.size,lobj its k)] H' b:=fun {H' its k} hn b hb=>by
   refine ⟨hn b hb,(below b (hlt b hb)).1,fun hs=>?_,.inl hb,fun y c e=>?_,fun p hp z=>?_⟩
   · rcases List.mem_cons.mp (I.stkSub b hs) with e | h
     · exact (hf b hb).2.1 e
     · exact (hf b hb).2.2.1 h
   · rcases co.look I.ok e with ⟨_,h2⟩ | h2
     · have:=hlt b hb
       intro z
       rw [← z,h2] at this
       exact Nat.lt_irrefl _ (Nat.lt_of_succ_lt (Nat.lt_of_succ_lt this))
     · exact (hf b hb).2.2.2.2.1 y c h2
   · have e:p=(s.heap.objs.size,lobj its k):=by simpa [cmpX1] using hp
     subst e
     exact (below b (hlt b hb)).2 z.symm
  have pD:=fun {ps:List (Addr×Obj)} {σ':St} {H':Hp} {s':Shared} (I':Inv (cmpX1 X x nv ix scope (s.heap.objs.size+1) s H fp) ((s.heap.objs.size,lobj its k)::ps) σ' H' s')=>
   I'.pin (s.heap.objs.size,lobj its k) (List.mem_append_right _ List.mem_cons_self)
  rcases turn i n ys H3 w3 with ⟨stop,fin0⟩ | ⟨go,hlt',N,hN,step⟩
  · refine thn (T.done (cmpX1 X x nv ix scope (s.heap.objs.size+1) s H fp) rfl rfl rfl hc i _ s3 _ H3 _ I3 (fpc fr3) st3 stop) fun r s4 ⟨hr,I4⟩=>?_
    subst hr
    obtain ⟨p1,p2,_⟩:=pD I4
    have I5:=(cmp_end1 I hf I4).track rv hz p1 p2 (fpD p2)
    obtain ⟨mC,hmC,_⟩:=I4.loc
    exact fin _ _ s4 H3 ys I5 p2 fin0 ⟨mC,hmC⟩ (I.fpOk (Nat.le_succ _) (by rw [upd_ne (Ne.symm hDC)];exact I4.free))
  · refine thn (T.item (cmpX1 X x nv ix scope (s.heap.objs.size+1) s H fp) rfl rfl rfl hc i _ s3 _ H3 _ I3 (fpc fr3) st3 go) fun r s4 ⟨u,hr,h4⟩=>?_
    subst hr
    refine thn h4 fun _ s5 ⟨z,H5,I5,r5,y5,st5,fr5⟩=>?_
    have I5':=I5.pinned (fpc fr5) (T.obj _ _ st5)
    refine thn (hg _ _ _ _ _ s5 _ H5 z u _ I5' r5 (kg _ _ _ _ (step z H5 y5))) fun _ s6 ⟨σ6,H6,I6,kp,q6⟩=>?_
    refine thn (hi _ _ _ _ _ s6 σ6 H6 _ I6 q6) fun b s7 ⟨H7,I7,q7⟩=>?_
    have again:∀ {s7:Shared} {H7:Hp} {ys' its':List _} {k':Nat},Inv (cmpX1 X x nv ix scope (s.heap.objs.size+1) s H fp) ([(s.heap.objs.size,lobj its' k')]++pinsAt fp s5.heap) σ6 H7 s7→Vals ys' its'→ys'.length≤sizeLine→N ys' H7 →
     ∃ m,m<n∧∃ i H' ys its k,Inv (cmpX1 X x nv ix scope (s.heap.objs.size+1) s H fp) [(s.heap.objs.size,lobj its k)] (st0 nv ix σ) H' s7∧Vals ys its∧ys.length≤sizeLine∧tn i s7.heap∧(∀ b∈fp,H' b=none)∧W i m ys H':=fun {s7 H7 ys' its' k'} I8 rv' hz' n8=>by
     obtain ⟨m',hm,w8⟩:=hN _ _ n8
     have pn:=fun (b:Addr) (o:Obj) (hb:b∈fp) (e:s5.heap.get? b=some o)=>I8.pin (b,o) (List.mem_append_right _ (List.mem_append_right _ (mem_pinsAt hb e)))
     refine ⟨m',hm,i+1,H7,ys',its',k',(I8.unpinned).weak kp.1 kp.2,rv',hz',T.keep _ _ _ st5 fun b hb o e=>(pn b o hb e).1,fun b hb=>?_,w8⟩
     obtain ⟨o,e,d⟩:=T.obj _ _ st5 b hb
     exact (pn b o hb e).2.1
    cases b with
    | false=>
      rw [if_neg Bool.false_ne_true] at q7 ⊢
      exact again I7 rv hz q7
    | true=>
      rw [if_pos rfl] at q7 ⊢
      refine thn (he _ _ _ _ _ s7 σ6 H7 _ I7 q7) fun u8 s8 ⟨y,H8,I8,r8,q8⟩=>?_
      obtain ⟨p1,p2,p3,p4,p5⟩:=pD I8
      refine append_at (hsz:=by rw [List.size_toArray,← rv.length];exact Nat.le_of_lt hlt') p1 fun h9 hs9 hD9=>?_
      have I9:Inv (cmpX1 X x nv ix scope (s.heap.objs.size+1) s H fp) (pinsAt fp s5.heap) σ6 H8 { s8 with heap:=h9 }:=by
       have Iu:Inv (cmpX1 X x nv ix scope (s.heap.objs.size+1) s H fp) (pinsAt fp s5.heap) σ6 H8 s8:=I8.pins_of fun p hp=>I8.pin p (List.mem_append_right _ (List.mem_append_right _ hp))
       refine Iu.turned (t':=s8.toks) (it:=s.heap.objs.size) (fun b o hb e=>(hs9.2 b hb).trans e) p2 p3 (.inr (Nat.le_refl _)) (fun y c e z=>?_) fun p hp z=>?_
       · rcases co.look I.ok e with ⟨_,h2⟩ | h2
         · rw [h2] at z
           exact Nat.lt_irrefl s.heap.objs.size (by have:s.heap.objs.size<s.heap.objs.size+1+1:=Nat.lt_succ_of_lt (Nat.lt_succ_self _);rw [z] at this;exact this)
         · obtain ⟨v,o,e1,_⟩:=I.cell y c h2
           exact absurd (Heap.lt_size e1) (by rw [z];exact Nat.lt_irrefl _)
       · have hp':p∈pinsAt fp s5.heap:=by simpa [cmpX1] using hp
         obtain ⟨hb,_⟩:=of_pinsAt hp'
         exact (below _ (hlt _ hb)).2 z
      have I10:Inv (cmpX1 X x nv ix scope (s.heap.objs.size+1) s H fp) ([(s.heap.objs.size,lobj (its++[u8]) (k+1))]++pinsAt fp s5.heap) σ6 H8 { s8 with heap:=h9 }:=
       I9.pins_of fun p hp=>by
        rcases List.mem_append.mp hp with hp | hp
        · have e:p=(s.heap.objs.size,lobj (its++[u8]) (k+1)):=by simpa using hp
          subst e
          refine ⟨?_,p2,p3,p4,fun v z=>by cases z⟩
          rw [List.push_toArray] at hD9
          exact hD9
        · exact I9.pin p (List.mem_append_right _ hp)
      exact again I10 (rv.append (.cons r8 .nil)) (by rw [List.length_append,List.length_singleton];exact hlt') q8
 exact codeAny_compStart_list (loop _) (T.self _ 0 _ _ _ st₁ (loop _))
theorem pe_comp1 {wi:TI} {g:TG} {ti:TT} {te:TE} (x:Str) (nv:List Str) (ix:List (Str×Nat)) (hc:X.calm=true) (co:CompOk1 X x nv ix scope) (hit:PI X tg iter wi) (kg:KpG nv g) (hg:∀ C s₀ H₀ fp,PG (cmpX1 X x nv ix scope C s₀ H₀ fp) tg g)
 (hi:∀ C s₀ H₀ fp,PIf (cmpX1 X x nv ix scope C s₀ H₀ fp) ifs ti) (he:∀ C s₀ H₀ fp,PE (cmpX1 X x nv ix scope C s₀ H₀ fp) elt te)
 (hs:∀ y,foldedSetIterable iter X.env y=pure y:=by intro _;rfl):PE X (.ListComp elt [⟨tg,iter,ifs,0⟩] scope pos) (tComp nv ix wi g ti te):=by
 intro pins s σ H Q I h
 rw [eval_ListComp]
 refine wpAny_comprehension_free (use:=none) rfl hs (closure_ok (co.cells I.ok)) co.kind co.names (thn (hit pins s σ H _ I h) fun v s1 h1=>thn h1 fun itv s2 h2=>?_)
 obtain ⟨it,fp,tn,J,H2,e,I2,T,st2,f2,q⟩:=h2
 subst e
 refine comp_run1 co hc I2 T st2 f2 kg hg hi he q fun D C s' H' ys I' hD fin ⟨m,hm⟩ hC=>?_
 obtain ⟨c0,c1,c2,c3,c4,c5⟩:=hC
 exact ⟨m,hm,fun h' hs'=>⟨.ref D,_,I'.turned (t':=s'.toks) (fun b o hb e=>(hs'.2 b hb).trans e) c0 c1 c3 c4 c5,rfl,fin D hD⟩⟩
theorem ze_comp1 {wi:TI} {g:TG} {ti:TT} {te:TE} (x:Str) (nv:List Str) (ix:List (Str×Nat)) (hc:X.calm=true) (co:CompOk1 X x nv ix scope) (hit:ZI X tg iter wi) (kg:KpG nv g) (hg:∀ C s₀ H₀ fp,ZG (cmpX1 X x nv ix scope C s₀ H₀ fp) tg g)
 (hi:∀ C s₀ H₀ fp,ZIf (cmpX1 X x nv ix scope C s₀ H₀ fp) ifs ti) (he:∀ C s₀ H₀ fp,ZE (cmpX1 X x nv ix scope C s₀ H₀ fp) elt te)
 (hs:∀ y,foldedSetIterable iter X.env y=pure y:=by intro _;rfl):ZE X (.ListComp elt [⟨tg,iter,ifs,0⟩] scope pos) (tComp nv ix wi g ti te):=by with_unfolding_all exact pe_comp1 x nv ix hc co hit kg hg hi he hs
end
section
variable {X:Cx} {K:PySem.W.Frag}
theorem ix_P' (h:X.K=K):IxR X (rIxP K):=by subst h;exact ix_P
theorem pi_tup' {tg l:Expr} {tl:TE} (hl:PE X l tl) (h:X.K=K):PI X tg l (iTup K tl):=by subst h;exact pi_tup hl
theorem zi_tup' {tg l:Expr} {tl:TE} (hl:ZE X l tl) (h:X.K=K):ZI X tg l (iTup K tl):=by with_unfolding_all exact pi_tup' hl h
end
section
variable {X:Cx} {pins:List (Addr×Obj)} {σ:St} {H:Hp} {s:Shared}
def rngO (p:Addr) (i j c:Int):HO:=.ext fun h=>∃ t u v,IsRange h p i j c t u v
theorem rng_laid {pins:List (Addr×Obj)} {σ:St} {H:Hp} {s:Shared} {i j c:Int} {t u v:Tok} {tk:Nat} (I:Inv X pins σ H s):Inv X pins σ (upd H s.heap.objs.size (rngO s.heap.objs.size i j c)) { s with heap:=s.heap.push { cls:=.type "range",data:=.fields #[.int i t,.int j u,.int c v] },toks:=tk }:=by
 refine I.laid (fun b o e=>Heap.get?_push_of_some _ e) (Nat.le_refl _) ⟨⟨t,u,v,IsRange.new ..⟩,⟨_,Heap.get?_push_size _ rfl⟩,?_⟩
 rintro h1 h2 ⟨t,u,v,e⟩ k
 exact ⟨t,u,v,k _ e⟩
def rRng:List V→Hp→VK→Prop:=fun vs H1 Q=>match vs with
 | [.int i,.int j]=>∀ p,H1 p=none→Q (.ref p) (upd H1 p (rngO p i j 1))
 | [.int i,.int j,.int c]=>(c≠0∧c<2 ^ 29∧-(2 ^ 29)<c)∧∀ p,H1 p=none→Q (.ref p) (upd H1 p (rngO p i j c))
 | _=>False
theorem call_rng:CallR X (.type "range") rRng:=by
 intro pins s σ H xs us Q I r h
 unfold rRng at h
 split at h
 · obtain ⟨u1,u2,rfl,⟨t1,rfl⟩,t2,rfl⟩:=vals2 r
   exact call_range_2 ⟨.ref s.heap.objs.size,_,rng_laid I,rfl,h _ (I.hok.fresh (Nat.le_refl _))⟩
 · obtain ⟨⟨h1,h2,h3⟩,q⟩:=h
   cases r with
   | cons a1 r=>
     cases r with
     | cons a2 r=>
       cases r with
       | cons a3 r=>
         cases r
         obtain ⟨t1,rfl⟩:=a1
         obtain ⟨t2,rfl⟩:=a2
         obtain ⟨t3,rfl⟩:=a3
         exact PySem.call_range_3 h1 ⟨.ref s.heap.objs.size,_,rng_laid I,rfl,q _ (I.hok.fresh (Nat.le_refl _))⟩ (Or.inl (PyProof.noPylong_small (by omega)))
 · exact h.elim
def rLstR:List V→Hp→VK→Prop:=fun vs H Q=>match vs with
 | [.ref p]=>∃ i j c,H p=some (rngO p i j c)∧Builtin.Range.small i j c=true∧c≠0∧(Builtin.Range.rangeSize i j c).toNat≤1000000∧∀ l,H l=none→Q (.ref l) (upd H l (.lst (((List.range (Builtin.Range.rangeSize i j c).toNat).map fun (k:Nat)=>i+(k:Int)*c).map V.int)))
 | _=>False
theorem vals_of_items {F:Nat→Int}:∀ (n:Nat) {us:List Value},us.length=n→(∀ (j:Nat) (v:Value),us[j]? = some v→∃ t,v=.int (F j) t)→Vals (((List.range n).map F).map V.int) us:=by
 intro n us hl h
 have:∀ (us:List Value) (G:Nat→Int),(∀ (j:Nat) (v:Value),us[j]? = some v→∃ t,v=.int (G j) t)→Vals (((List.range us.length).map G).map V.int) us:=by
  intro us
  induction us with
  | nil=>intro G _;exact .nil
  | cons u r ih=>
    intro G hG
    rw [List.length_cons,List.range_succ_eq_map,List.map_cons,List.map_cons]
    refine .cons (hG 0 u rfl) ?_
    have:=ih (fun j=>G (j+1)) fun j v e=>hG (j+1) v (by simpa using e)
    have e:((List.range r.length).map Nat.succ).map G=(List.range r.length).map (fun j=>G (j+1)):=by rw [List.map_map];rfl
    rw [e]
    exact this
 have:=this us F h
 rw [hl] at this
 exact this
theorem call_lrng (hc:X.calm=true):CallR X (.type "list") rLstR:=by
 intro pins s σ H xs us Q I r h
 unfold rLstR at h
 split at h
 · rename_i p
   obtain ⟨i,j,c,hp,hs,hc0,hn,q⟩:=h
   obtain ⟨u,rfl,rx⟩:=vals1 r
   cases rx
   obtain ⟨⟨t,u,v,hr⟩,_⟩:=I.hok p _ hp
   have h0:=size_nonneg (a:=i) (b:=j) hc0
   refine call_list_range (I.ok.hd hc) hr hs (n:=(Builtin.Range.rangeSize i j c).toNat) (by omega) (by omega) fun h' tk acc' c' hk hS hit=>?_
   have rv:Vals (((List.range (Builtin.Range.rangeSize i j c).toNat).map fun (k:Nat)=>i+(k:Int)*c).map V.int) acc'.toList:=vals_of_items _ (by rw [Array.length_toList];exact hit.1) fun k v e=>hit.2 k v (by simpa using e)
   refine ⟨.ref s.heap.objs.size,_,I.laid (t':=tk) hk (Nat.le_refl _) (show ObjOk X.prog X.w _ h' _ (.lst (((List.range (Builtin.Range.rangeSize i j c).toNat).map fun (k:Nat)=>i+(k:Int)*c).map V.int)) from ⟨?_,acc'.toList,c',rv,hS⟩),rfl,q _ (I.hok.fresh (Nat.le_refl _))⟩
   rw [List.length_map,List.length_map,List.length_range,sizeLine_eq]
   omega
 · exact h.elim
theorem boot_list'':bootBuiltins "list" = some (.type "list"):=by decide +kernel
variable {e:Expr} {es:List Expr} {t:TA} {p pos:Pos}
theorem pcb_range (hg:Gl X "range") (hm:X.mg "range" = none) (ha:PA X (e::es) t) (he:starEach (e::es) X.env=(false,eval e X.env)::starEach es X.env) (hpl:(backTo pos (starEach es X.env)).any (·.1)=false) :
 PE X (.Call (.Name "range" p) (e::es) [] pos) (tCB rRng t):=pe_callTy call_rng hg hm boot_range ha (by decide) (by decide) he hpl
theorem zcb_range (hg:Gl X "range") (hm:X.mg "range" = none) (ha:ZA X (e::es) t) (he:starEach (e::es) X.env=(false,eval e X.env)::starEach es X.env) (hpl:(backTo pos (starEach es X.env)).any (·.1)=false) :
 ZE X (.Call (.Name "range" p) (e::es) [] pos) (tCB rRng t):=by with_unfolding_all exact pcb_range hg hm ha he hpl
theorem pcb_lrange (hc:X.calm=true) (hg:Gl X "list") (hm:X.mg "list" = none) (ha:PA X (e::es) t) (he:starEach (e::es) X.env=(false,eval e X.env)::starEach es X.env) (hpl:(backTo pos (starEach es X.env)).any (·.1)=false) :
 PE X (.Call (.Name "list" p) (e::es) [] pos) (tCB rLstR t):=pe_callTy (call_lrng hc) hg hm boot_list'' ha (by decide) (by decide) he hpl
theorem zcb_lrange (hc:X.calm=true) (hg:Gl X "list") (hm:X.mg "list" = none) (ha:ZA X (e::es) t) (he:starEach (e::es) X.env=(false,eval e X.env)::starEach es X.env) (hpl:(backTo pos (starEach es X.env)).any (·.1)=false) :
 ZE X (.Call (.Name "list" p) (e::es) [] pos) (tCB rLstR t):=by with_unfolding_all exact pcb_lrange hc hg hm ha he hpl
end
section
variable {X:Cx} {pins:List (Addr×Obj)} {σ:St} {H:Hp} {s:Shared}
theorem kpg_two {K:PySem.W.Frag} {x y:Str}:KpG [x,y] (gTup K 2 (gCons (gName 0) (gCons (gName 1) gNil))):=fun fr v H Q h=>by
 obtain ⟨a,xs,e,hq,hl,v1,r1,e1,v2,r2,e2,e3,q⟩:=h
 refine ⟨a,xs,e,hq,hl,v1,r1,e1,v2,r2,e2,e3,⟨by simp,fun i w e=>?_⟩,q⟩
 match i,e with
 | 0,e=>cases e
 | 1,e=>cases e
 | i+2,e=>exact e
end
end L2
namespace SRT
open PySem PyProof.Rows
def kv (p:Keyed):Int:=numOf p.1
def IsI (p:Keyed):Prop:=∃ t,p.1=.int (kv p) t
def AllI (xs:Array Keyed):Prop:=∀ p∈xs.toList,IsI p
section
variable {prog:Program} {w:World} {A:Around} {E:Value→Shared→Prop} {s:Shared}
theorem s_lt {st:SortSt} {x y:Keyed} {Q:Option Bool→SortSt→Prop} (hk:kindOf st=oneType') (hx:IsI x) (hy:IsI y) (h:Q (some (decide (kv x<kv y))) st):wpS (model prog w) A E s (lt' x y) Q st:=by
 obtain ⟨t,e⟩:=hx;obtain ⟨u,e'⟩:=hy
 rw [lt'_eq];refine wpS_bind (wpS_get ?_)
 rw [hk,keyLt'_oneType,e,e'];exact wpS_bind (wpS_lift (wpAny_attempt (oneLt_int ⟨rfl,wpS_pure h⟩)))
theorem s_elem {st:SortSt} {xs:Array Keyed} {i:Nat} {p:Keyed} {Q:Keyed→SortSt→Prop} (e:xs[i]? = some p) (h:Q p st):wpS (model prog w) A E s (elem' xs i) Q st:=by
 rw [elem'_eq,e];exact wpS_pure h
def gal:Bool→Keyed→Array Keyed→Nat→Nat→Nat→StateT SortSt Sem (Option Nat):=sortPriv% PySem.Builtin.gallop
theorem gal_eq (lf:Bool) (ky:Keyed) (ar:Array Keyed) (bs n ht:Nat):gal lf ky ar bs n ht=(do
 let byd (i:Nat):StateT SortSt Sem (Option Bool):=do
  let x ← elem' ar (bs+i)
  if lf then lt' x ky else return (← lt' ky x).map (!·)
 let mut la:=0
 let mut os:=1
 let mut lo:=0
 let mut hi:=0
 let some rt ← byd ht | return none
 if rt then
  let mo:=n - ht
  for _ in [0:n] do
   if os≥mo then break
   let some mr ← byd (ht+os) | return none
   if !mr then break
   la:=os
   os:=2*os+1
  lo:=ht+la+1
  hi:=ht+min os mo
 else
  let mo:=ht+1
  for _ in [0:n] do
   if os≥mo then break
   let some fd ← byd (ht - os) | return none
   if fd then break
   la:=os
   os:=2*os+1
  lo:=ht+1 - min os mo
  hi:=ht - la
 for _ in [0:n] do
  if lo≥hi then break
  let m:=lo+(hi - lo) / 2
  let some mr ← byd m | return none
  if mr then lo:=m+1 else hi:=m
 return some hi):=rfl
def Byd (lf:Bool) (ky:Keyed) (ar:Array Keyed) (bs i:Nat):Bool:=if lf then decide (K ar (bs+i)<kv ky) else !decide (kv ky<K ar (bs+i))
theorem K_of {ar:Array Keyed} {i:Nat} {p:Keyed} (e:ar[i]? = some p):K ar i=kv p:=by unfold K kv;rw [e]
theorem at_of {ar:Array Keyed} {i:Nat} (h:i<ar.size) (hI:AllI ar):∃ p,ar[i]? = some p∧IsI p:=⟨ar[i],getElem?_pos ar i h,hI _ (by simp)⟩
theorem s_byd {st:SortSt} {lf:Bool} {ky:Keyed} {ar:Array Keyed} {bs i:Nat} {Q:Option Bool→SortSt→Prop} (hk:kindOf st=oneType') (hI:AllI ar) (hy:IsI ky) (hi:bs+i<ar.size) (h:Q (some (Byd lf ky ar bs i)) st) :
 wpS (model prog w) A E s (do let x ← elem' ar (bs+i);if lf then lt' x ky else return (← lt' ky x).map (!·)) Q st:=by
 obtain ⟨p,e,hp⟩:=at_of hi hI
 have hK:=K_of e
 unfold Byd at h
 refine wpS_bind (s_elem e ?_)
 cases lf with
 | true=>
   simp only [if_true] at h ⊢
   rw [hK] at h
   exact s_lt hk hp hy h
 | false=>
   simp only [Bool.false_eq_true,if_false] at h ⊢
   rw [hK] at h
   exact wpS_bind (s_lt hk hy hp (wpS_pure h))
theorem s_gal {st:SortSt} {lf:Bool} {ky:Keyed} {ar:Array Keyed} {bs n ht c:Nat} {Q:Option Nat→SortSt→Prop} (hk:kindOf st=oneType') (hI:AllI ar) (hy:IsI ky) (hn:bs+n≤ar.size) (hh:ht<n) (hc:c≤n)
 (cut:∀ i,i<n→Byd lf ky ar bs i=decide (i<c)) (h:Q (some c) st):wpS (model prog w) A E s (gal lf ky ar bs n ht) Q st:=by
 have byd:∀ {i:Nat} {R:Option Bool→SortSt→Prop},i<n→R (some (decide (i<c))) st→wpS (model prog w) A E s (do let x ← elem' ar (bs+i);if lf then lt' x ky else return (← lt' ky x).map (!·)) R st:=fun {i R} hi hR=>
  s_byd hk hI hy (by omega) (by rw [cut i hi];exact hR)
 rw [gal_eq]
 dsimp only
 refine wpS_bind (byd hh ?_)
 by_cases hr:ht<c
 · simp only [hr,decide_true,if_true]
   refine wpS_bind (wpS_mono (wpS_forRange (I:=fun x r st'=>st=st'∧∃ l o,r=(none,l,o)∧ht+l<c∧l<o∧x+1≤o) (Q:=fun r st'=>st=st'∧∃ l o,r=(none,l,o)∧ht+l<c∧l<o∧c≤ht+min o (n - ht)) ?_ ?_ ⟨rfl,0,1,rfl,by omega,by omega,by omega⟩) ?_)
   · rintro x r st' _ hx ⟨rfl,l,o,rfl,g1,g2,g3⟩
     dsimp only
     by_cases hge:o≥n - ht
     · rw [if_pos hge]
       exact wpS_pure ⟨rfl,l,o,rfl,g1,g2,by omega⟩
     · rw [if_neg hge]
       refine wpS_bind (byd (by omega) ?_)
       by_cases hm:ht+o<c
       · simp only [hm,decide_true,Bool.not_true,Bool.false_eq_true,if_false]
         exact wpS_pure ⟨rfl,_,_,rfl,hm,by omega,by omega⟩
       · simp only [hm,decide_false,Bool.not_false,if_true]
         exact wpS_pure ⟨rfl,l,o,rfl,g1,g2,by omega⟩
   · rintro r st' ⟨rfl,l,o,rfl,g1,g2,g3⟩
     exact ⟨rfl,l,o,rfl,g1,g2,by omega⟩
   · rintro r st' ⟨rfl,l,o,rfl,g1,g2,g3⟩
     dsimp only
     refine wpS_bind (wpS_mono (wpS_forRange (I:=fun x r st'=>st=st'∧∃ l u,r=(none,l,u)∧l≤c∧c≤u∧u≤n∧u - l≤n - x) (Q:=fun r st'=>st=st'∧∃ l,r=(none,l,c)) ?_ ?_ ⟨rfl,(ht+l+1),(ht+min o (n - ht)),rfl,(by omega),g3,(by omega),by omega⟩) ?_)
     · rintro x r st' _ hx ⟨rfl,l,u,rfl,g1,g2,g3,g4⟩
       dsimp only
       by_cases hge:l≥u
       · rw [if_pos hge]
         have:u=c:=by omega
         subst this
         exact wpS_pure ⟨rfl,l,rfl⟩
       · rw [if_neg hge]
         refine wpS_bind (byd (by omega) ?_)
         by_cases hm:l+(u - l) / 2<c
         · simp only [hm,decide_true,if_true]
           exact wpS_pure ⟨rfl,_,_,rfl,by omega,g2,g3,by omega⟩
         · simp only [hm,decide_false,Bool.false_eq_true,if_false]
           exact wpS_pure ⟨rfl,_,_,rfl,g1,by omega,by omega,by omega⟩
     · rintro r st' ⟨rfl,l,u,rfl,g1,g2,g3,g4⟩
       have:u=c:=by
        have:max 0 n=n:=by omega
        omega
       subst this
       exact ⟨rfl,l,rfl⟩
     · rintro r st' ⟨rfl,l,rfl⟩
       exact wpS_pure h
 · simp only [hr,decide_false,Bool.false_eq_true,if_false]
   refine wpS_bind (wpS_mono (wpS_forRange (I:=fun x r st'=>st=st'∧∃ l o,r=(none,l,o)∧c≤ht - l∧l≤ht∧l<o∧x+1≤o) (Q:=fun r st'=>st=st'∧∃ l o,r=(none,l,o)∧c≤ht - l∧l≤ht∧l<o∧ht+1 - min o (ht+1)≤c) ?_ ?_ ⟨rfl,0,1,rfl,by omega,by omega,by omega,by omega⟩) ?_)
   · rintro x r st' _ hx ⟨rfl,l,o,rfl,g1,g0,g2,g3⟩
     dsimp only
     by_cases hge:o≥ht+1
     · rw [if_pos hge]
       exact wpS_pure ⟨rfl,l,o,rfl,g1,g0,g2,by omega⟩
     · rw [if_neg hge]
       refine wpS_bind (byd (by omega) ?_)
       by_cases hm:ht - o<c
       · simp only [hm,decide_true,if_true]
         exact wpS_pure ⟨rfl,l,o,rfl,g1,g0,g2,by omega⟩
       · simp only [hm,decide_false,Bool.false_eq_true,if_false]
         exact wpS_pure ⟨rfl,_,_,rfl,by omega,by omega,by omega,by omega⟩
   · rintro r st' ⟨rfl,l,o,rfl,g1,g0,g2,g3⟩
     exact ⟨rfl,l,o,rfl,g1,g0,g2,by omega⟩
   · rintro r st' ⟨rfl,l,o,rfl,g1,g0,g2,g3⟩
     dsimp only
     refine wpS_bind (wpS_mono (wpS_forRange (I:=fun x r st'=>st=st'∧∃ l u,r=(none,l,u)∧l≤c∧c≤u∧u≤n∧u - l≤n - x) (Q:=fun r st'=>st=st'∧∃ l,r=(none,l,c)) ?_ ?_ ⟨rfl,(ht+1 - min o (ht+1)),(ht - l),rfl,g3,g1,(by omega),by omega⟩) ?_)
     · rintro x r st' _ hx ⟨rfl,l,u,rfl,g1,g2,g3,g4⟩
       dsimp only
       by_cases hge:l≥u
       · rw [if_pos hge]
         have:u=c:=by omega
         subst this
         exact wpS_pure ⟨rfl,l,rfl⟩
       · rw [if_neg hge]
         refine wpS_bind (byd (by omega) ?_)
         by_cases hm:l+(u - l) / 2<c
         · simp only [hm,decide_true,if_true]
           exact wpS_pure ⟨rfl,_,_,rfl,by omega,g2,g3,by omega⟩
         · simp only [hm,decide_false,Bool.false_eq_true,if_false]
           exact wpS_pure ⟨rfl,_,_,rfl,g1,by omega,by omega,by omega⟩
     · rintro r st' ⟨rfl,l,u,rfl,g1,g2,g3,g4⟩
       have:u=c:=by
        have:max 0 n=n:=by omega
        omega
       subst this
       exact ⟨rfl,l,rfl⟩
     · rintro r st' ⟨rfl,l,rfl⟩
       exact wpS_pure h
end
def Le (x y:Keyed):Prop:=kv x≤kv y
structure MI (A B:List Keyed) (o:List Keyed) (ia ib:Nat):Prop where
 perm:o.Perm (A.take ia++B.take ib)
 srt:o.Pairwise Le
 lea:∀ x∈o,∀ y∈A.drop ia,kv x≤kv y
 leb:∀ x∈o,∀ y∈B.drop ib,kv x≤kv y
structure Mer (A B:List Keyed) (o:List Keyed):Prop where
 perm:o.Perm (A++B)
 srt:o.Pairwise Le
theorem pw_drop {l:List Keyed} (h:l.Pairwise Le) {i:Nat} (hi:i<l.length):∀ y∈l.drop (i+1),kv l[i]≤kv y:=by
 have e:l.drop i=l[i]::l.drop (i+1):=List.drop_eq_getElem_cons hi
 have h2:(l.drop i).Pairwise Le:=h.sublist (List.drop_sublist i l)
 rw [e] at h2
 exact (List.pairwise_cons.mp h2).1
theorem mem_drop_succ {l:List Keyed} {i:Nat} {y:Keyed} (h:y∈l.drop (i+1)):y∈l.drop i:=by
 rw [← List.drop_drop] at h
 exact List.mem_of_mem_drop h
theorem MI.pushB {A B o:List Keyed} {ia ib:Nat} (m:MI A B o ia ib) (hB:B.Pairwise Le) (hi:ib<B.length) (h:∀ z∈A.drop ia,kv B[ib]≤kv z):MI A B (o++[B[ib]]) ia (ib+1):=by
 have hm:B[ib]∈B.drop ib:=by rw [List.drop_eq_getElem_cons hi];exact List.mem_cons_self
 refine ⟨?_,?_,fun x hx y hy=>?_,fun x hx y hy=>?_⟩
 · have e:B.take (ib+1)=B.take ib++[B[ib]]:=by rw [List.take_succ,List.getElem?_eq_getElem hi];rfl
   rw [e,← List.append_assoc]
   exact m.perm.append_right _
 · refine List.pairwise_append.mpr ⟨m.srt,List.pairwise_singleton _ _,fun x hx y hy=>?_⟩
   rw [List.mem_singleton.mp hy]
   exact m.leb x hx _ hm
 · rcases List.mem_append.mp hx with hx | hx
   · exact m.lea x hx y hy
   · rw [List.mem_singleton.mp hx];exact h y hy
 · rcases List.mem_append.mp hx with hx | hx
   · exact m.leb x hx y (mem_drop_succ hy)
   · rw [List.mem_singleton.mp hx];exact pw_drop hB hi y hy
theorem MI.pushA {A B o:List Keyed} {ia ib:Nat} (m:MI A B o ia ib) (hA:A.Pairwise Le) (hi:ia<A.length) (h:∀ z∈B.drop ib,kv A[ia]≤kv z):MI A B (o++[A[ia]]) (ia+1) ib:=by
 have hm:A[ia]∈A.drop ia:=by rw [List.drop_eq_getElem_cons hi];exact List.mem_cons_self
 refine ⟨?_,?_,fun x hx y hy=>?_,fun x hx y hy=>?_⟩
 · have e:A.take (ia+1)=A.take ia++[A[ia]]:=by rw [List.take_succ,List.getElem?_eq_getElem hi];rfl
   rw [e,List.append_assoc]
   refine (m.perm.append_right _).trans ?_
   rw [List.append_assoc]
   exact List.Perm.append_left _ List.perm_append_comm
 · refine List.pairwise_append.mpr ⟨m.srt,List.pairwise_singleton _ _,fun x hx y hy=>?_⟩
   rw [List.mem_singleton.mp hy]
   exact m.lea x hx _ hm
 · rcases List.mem_append.mp hx with hx | hx
   · exact m.lea x hx y (mem_drop_succ hy)
   · rw [List.mem_singleton.mp hx];exact pw_drop hA hi y hy
 · rcases List.mem_append.mp hx with hx | hx
   · exact m.leb x hx y hy
   · rw [List.mem_singleton.mp hx];exact h y hy
theorem MI.extA {A B o:List Keyed} {ia ib:Nat} (m:MI A B o ia ib) (hA:A.Pairwise Le):∀ (k:Nat),ia+k≤A.length→(∀ i (hi:ia+i<A.length),i<k→∀ z∈B.drop ib,kv A[ia+i]≤kv z)→MI A B (o++(A.drop ia).take k) (ia+k) ib
 | 0,_,_=>by rw [List.take_zero,List.append_nil];exact m
 | k+1,hk,h=>by
   have ih:=MI.extA m hA k (by omega) fun i hi hik=>h i hi (by omega)
   have hi:ia+k<A.length:=by omega
   have e:(A.drop ia).take (k+1)=(A.drop ia).take k++[A[ia+k]]:=by rw [List.take_succ,List.getElem?_drop,List.getElem?_eq_getElem hi];rfl
   rw [e,← List.append_assoc]
   exact ih.pushA hA hi (h k hi (by omega))
theorem MI.extB {A B o:List Keyed} {ia ib:Nat} (m:MI A B o ia ib) (hB:B.Pairwise Le):∀ (k:Nat),ib+k≤B.length→(∀ i (hi:ib+i<B.length),i<k→∀ z∈A.drop ia,kv B[ib+i]≤kv z)→MI A B (o++(B.drop ib).take k) ia (ib+k)
 | 0,_,_=>by rw [List.take_zero,List.append_nil];exact m
 | k+1,hk,h=>by
   have ih:=MI.extB m hB k (by omega) fun i hi hik=>h i hi (by omega)
   have hi:ib+k<B.length:=by omega
   have e:(B.drop ib).take (k+1)=(B.drop ib).take k++[B[ib+k]]:=by rw [List.take_succ,List.getElem?_drop,List.getElem?_eq_getElem hi];rfl
   rw [e,← List.append_assoc]
   exact ih.pushB hB hi (h k hi (by omega))
theorem perm_mid (a b c d:List Keyed):(a++b++(c++d)).Perm (a++c++(b++d)):=by
 rw [List.append_assoc,List.append_assoc]
 refine List.Perm.append_left a ?_
 rw [← List.append_assoc,← List.append_assoc]
 exact List.Perm.append_right d List.perm_append_comm
theorem MI.finAB {A B o:List Keyed} {ia ib:Nat} (m:MI A B o ia ib) (hA:A.Pairwise Le) (hB:B.Pairwise Le) (h:∀ x∈A.drop ia,∀ y∈B.drop ib,kv x≤kv y):Mer A B (o++A.drop ia++B.drop ib):=by
 refine ⟨?_,?_⟩
 · have e:=(m.perm.append_right (A.drop ia++B.drop ib)).trans (perm_mid (A.take ia) (B.take ib) (A.drop ia) (B.drop ib))
   rw [List.take_append_drop,List.take_append_drop] at e
   rw [List.append_assoc];exact e
 · refine List.pairwise_append.mpr ⟨List.pairwise_append.mpr ⟨m.srt,hA.sublist (List.drop_sublist _ _),fun x hx y hy=>m.lea x hx y hy⟩,hB.sublist (List.drop_sublist _ _),fun x hx y hy=>?_⟩
   rcases List.mem_append.mp hx with hx | hx
   · exact m.leb x hx y hy
   · exact h x hx y hy
theorem MI.finBA {A B o:List Keyed} {ia ib:Nat} (m:MI A B o ia ib) (hA:A.Pairwise Le) (hB:B.Pairwise Le) (h:∀ x∈A.drop ia,∀ y∈B.drop ib,kv y≤kv x):Mer A B (o++B.drop ib++A.drop ia):=by
 refine ⟨?_,?_⟩
 · have e:=(m.perm.append_right (A.drop ia++B.drop ib)).trans (perm_mid (A.take ia) (B.take ib) (A.drop ia) (B.drop ib))
   rw [List.take_append_drop,List.take_append_drop] at e
   rw [List.append_assoc]
   exact (List.Perm.append_left o List.perm_append_comm).trans e
 · refine List.pairwise_append.mpr ⟨List.pairwise_append.mpr ⟨m.srt,hB.sublist (List.drop_sublist _ _),fun x hx y hy=>m.leb x hx y hy⟩,hA.sublist (List.drop_sublist _ _),fun x hx y hy=>?_⟩
   rcases List.mem_append.mp hx with hx | hx
   · exact m.lea x hx y hy
   · exact h y hy x hx
def mlo:Array Keyed→Array Keyed→StateT SortSt Sem (Array Keyed):=sortPriv% PySem.Builtin.mergeLo
def setG:Nat→StateT SortSt Sem Unit:=sortPriv% PySem.Builtin.setMinGallop
theorem setG_eq (g:Nat):setG g=modify fun z=>SortSt.mk' (kindOf z) (arrOf z) (pendingOf z) g (failedOf z):=rfl
theorem mlo_eq (xa xb:Array Keyed):mlo xa xb=(do
 rule "list.sort.merge-lo"
 let tot:=xa.size+xb.size
 let dn (ou:Array Keyed) (i j:Nat):=ou++xa.extract i xa.size++xb.extract j xb.size
 let la (ou:Array Keyed) (i j:Nat):=ou++xb.extract j xb.size++xa.extract i xa.size
 let mut ou:Array Keyed:=#[← elem' xb 0]
 let mut i:=0
 let mut j:=1
 if j == xb.size then return dn ou i j
 if i+1 == xa.size then return la ou i j
 let mut mg:=gallopOf (← get)
 for _ in [0:tot] do
  let mut ac:=0
  let mut bc:=0
  for _ in [0:tot] do
   let some bw ← lt' (← elem' xb j) (← elem' xa i) | return dn ou i j
   if bw then
    ou:=ou.push (← elem' xb j);j:=j+1;bc:=bc+1;ac:=0
    if j == xb.size then return dn ou i j
    if bc≥mg then break
   else
    ou:=ou.push (← elem' xa i);i:=i+1;ac:=ac+1;bc:=0
    if i+1 == xa.size then return la ou i j
    if ac≥mg then break
  rule "list.sort.gallop"
  mg:=mg+1
  for _ in [0:tot] do
   if mg > 1 then mg:=mg - 1
   setG mg
   let some k ← gal false (← elem' xb j) xa i (xa.size - i) 0 | return dn ou i j
   ac:=k
   if k > 0 then
    ou:=ou++xa.extract i (i+k);i:=i+k
    if i+1 == xa.size then return la ou i j
    if i == xa.size then return dn ou i j
   ou:=ou.push (← elem' xb j);j:=j+1
   if j == xb.size then return dn ou i j
   let some k ← gal true (← elem' xa i) xb j (xb.size - j) 0 | return dn ou i j
   bc:=k
   if k > 0 then
    ou:=ou++xb.extract j (j+k);j:=j+k
    if j == xb.size then return dn ou i j
   ou:=ou.push (← elem' xa i);i:=i+1
   if i+1 == xa.size then return la ou i j
   if ac<7&&bc<7 then break
  mg:=mg+1
  setG mg
 unsupported "internal:list.sort.merge-bound"):=rfl
structure SameSt (a b:SortSt):Prop where
 kind:kindOf b=kindOf a
 arr:arrOf b=arrOf a
 pend:pendingOf b=pendingOf a
 fail:failedOf b=failedOf a
theorem SameSt.refl (a:SortSt):SameSt a a:=⟨rfl,rfl,rfl,rfl⟩
theorem SameSt.setG {a b:SortSt} (h:SameSt a b) (g:Nat):SameSt a (SortSt.mk' (kindOf b) (arrOf b) (pendingOf b) g (failedOf b)):=⟨h.kind,h.arr,h.pend,h.fail⟩
theorem toL_end (o x y:Array Keyed) (i j:Nat):(o++x.extract i x.size++y.extract j y.size).toList=o.toList++x.toList.drop i++y.toList.drop j:=by
 have e:∀ (z:Array Keyed) (k:Nat),(z.extract k z.size).toList=z.toList.drop k:=fun z k=>by
  rw [Array.toList_extract,List.extract_eq_drop_take,List.take_of_length_le]
  rw [List.length_drop,Array.length_toList]
  exact Nat.le_refl _
 rw [Array.toList_append,Array.toList_append,e,e]
theorem toL_ext (o x:Array Keyed) (i k:Nat):(o++x.extract i (i+k)).toList=o.toList++(x.toList.drop i).take k:=by
 rw [Array.toList_append,Array.toList_extract,List.extract_eq_drop_take,Nat.add_sub_cancel_left]
section
variable {A B:List Keyed} {o:List Keyed} {ia ib:Nat}
theorem drop_len {l:List Keyed} {i:Nat} (h:i=l.length):l.drop i=[]:=List.drop_of_length_le (by omega)
theorem one_left {l:List Keyed} {i:Nat} (h:i+1=l.length):∀ x∈l.drop i,kv x=kv (l[l.length - 1]'(by omega)):=fun x hx=>by
 have e:l.drop i=l[i]::l.drop (i+1):=List.drop_eq_getElem_cons (by omega)
 rw [e,drop_len h] at hx
 have:x=l[i]:=by simpa using hx
 subst this
 congr 2
 omega
end
section
variable {prog:Program} {w:World} {A:Around} {E:Value→Shared→Prop} {s:Shared}
theorem s_elemL {st:SortSt} {xs:Array Keyed} {i:Nat} {Q:Keyed→SortSt→Prop} (hi:i<xs.toList.length) (h:Q xs.toList[i] st):wpS (model prog w) A E s (elem' xs i) Q st:=
 s_elem (by rw [← Array.getElem?_toList,List.getElem?_eq_getElem hi]) h
theorem s_setG {st:SortSt} {g:Nat} {Q:Unit→SortSt→Prop} (h:Q () (SortSt.mk' (kindOf st) (arrOf st) (pendingOf st) g (failedOf st))):wpS (model prog w) A E s (setG g) Q st:=by
 rw [setG_eq];exact wpS_modify h
theorem cut_of {xs:Array Keyed} (hs:xs.toList.Pairwise Le) (ky:Keyed) (lf:Bool) (bs n:Nat) (hn:bs+n≤xs.size):∃ c,c≤n∧∀ i,i<n→Byd lf ky xs bs i=decide (i<c):=by
 have mono:∀ i j,i≤j→bs+j<xs.size→K xs (bs+i)≤K xs (bs+j):=fun i j hij hj=>by
  have e1:xs[bs+i]? = some (xs.toList[bs+i]'(by rw [Array.length_toList];omega)):=by rw [← Array.getElem?_toList,List.getElem?_eq_getElem]
  have e2:xs[bs+j]? = some (xs.toList[bs+j]'(by rw [Array.length_toList];omega)):=by rw [← Array.getElem?_toList,List.getElem?_eq_getElem]
  rw [K_of e1,K_of e2]
  by_cases h:i=j
  · subst h;exact Int.le_refl _
  · exact List.pairwise_iff_getElem.mp hs _ _ _ _ (by omega)
 have down:∀ i j,i≤j→j<n→Byd lf ky xs bs j=true→Byd lf ky xs bs i=true:=fun i j hij hj h=>by
  have:=mono i j hij (by omega)
  unfold Byd at h ⊢
  cases lf with
  | true=>simp only [if_true,decide_eq_true_eq] at h ⊢;omega
  | false=>simp only [Bool.false_eq_true,if_false,Bool.not_eq_true',decide_eq_false_iff_not] at h ⊢;omega
 induction n with
 | zero=>exact ⟨0,Nat.le_refl _,fun i hi=>absurd hi (Nat.not_lt_zero _)⟩
 | succ n ih=>
   obtain ⟨c,hc,hd⟩:=ih (by omega) (fun i j hij hj h=>down i j hij (by omega) h)
   by_cases hb:Byd lf ky xs bs n=true
   · refine ⟨n+1,Nat.le_refl _,fun i hi=>?_⟩
     rw [decide_eq_true hi]
     exact down i n (by omega) (by omega) hb
   · refine ⟨c,by omega,fun i hi=>?_⟩
     by_cases h:i=n
     · subst h
       rw [decide_eq_false (by omega)]
       exact Bool.not_eq_true _▸(by simpa using hb)
     · exact hd i (by omega)
theorem K_at {xs:Array Keyed} {i:Nat} (hi:i<xs.toList.length):K xs i=kv xs.toList[i]:=K_of (by rw [← Array.getElem?_toList,List.getElem?_eq_getElem hi])
end
theorem mem_dropE {l:List Keyed} {k:Nat} {z:Keyed} (h:z∈l.drop k):∃ u,∃ h:k+u<l.length,z=l[k+u]:=by
 obtain ⟨u,hu,rfl⟩:=List.mem_iff_getElem.mp h
 rw [List.length_drop] at hu
 exact ⟨u,by omega,by rw [List.getElem_drop]⟩
theorem head_le {l:List Keyed} (h:l.Pairwise Le) {i:Nat} (hi:i<l.length):∀ z∈l.drop i,kv l[i]≤kv z:=fun z hz=>by
 rw [List.drop_eq_getElem_cons hi] at hz
 rcases List.mem_cons.mp hz with rfl | hz
 · exact Int.le_refl _
 · exact pw_drop h hi z hz
theorem gfalse {xs:Array Keyed} {ky:Keyed} {bs n c:Nat} (hn:bs+n=xs.toList.length) (cut:∀ i,i<n→Byd false ky xs bs i=decide (i<c)) :
 (∀ t (h:bs+t<xs.toList.length),t<c→kv xs.toList[bs+t]≤kv ky)∧(∀ z∈xs.toList.drop (bs+c),kv ky<kv z):=by
 constructor
 · intro t h ht
   have:=cut t (by omega)
   rw [decide_eq_true ht] at this
   unfold Byd at this
   rw [K_at h] at this
   simp only [Bool.false_eq_true,if_false,Bool.not_eq_true',decide_eq_false_iff_not] at this
   omega
 · intro z hz
   obtain ⟨u,hu,rfl⟩:=mem_dropE hz
   have:=cut (c+u) (by omega)
   rw [decide_eq_false (by omega)] at this
   unfold Byd at this
   have e:bs+(c+u)=bs+c+u:=by omega
   rw [e,K_at hu] at this
   simpa using this
theorem gtrue {xs:Array Keyed} {ky:Keyed} {bs n c:Nat} (hn:bs+n=xs.toList.length) (cut:∀ i,i<n→Byd true ky xs bs i=decide (i<c)) :
 (∀ t (h:bs+t<xs.toList.length),t<c→kv xs.toList[bs+t]<kv ky)∧(∀ z∈xs.toList.drop (bs+c),kv ky≤kv z):=by
 constructor
 · intro t h ht
   have:=cut t (by omega)
   rw [decide_eq_true ht] at this
   unfold Byd at this
   rw [K_at h] at this
   simpa using this
 · intro z hz
   obtain ⟨u,hu,rfl⟩:=mem_dropE hz
   have:=cut (c+u) (by omega)
   rw [decide_eq_false (by omega)] at this
   unfold Byd at this
   have e:bs+(c+u)=bs+c+u:=by omega
   rw [e,K_at hu] at this
   simpa using this
theorem MI.start {A B:List Keyed} (hB:B.Pairwise Le) (hb:0<B.length) (h0:∀ z∈A,kv B[0]≤kv z):MI A B [B[0]] 0 1:=by
 have m:MI A B [] 0 0:=⟨by simp,List.Pairwise.nil,fun x hx=>(nomatch hx),fun x hx=>(nomatch hx)⟩
 exact m.pushB hB hb fun z hz=>h0 z (by simpa using hz)
theorem MI.doneB {xa xb ou:Array Keyed} {i j:Nat} (m:MI xa.toList xb.toList ou.toList i j) (hA:xa.toList.Pairwise Le) (hB:xb.toList.Pairwise Le) (h:j=xb.toList.length):Mer xa.toList xb.toList (ou++xa.extract i xa.size++xb.extract j xb.size).toList:=by
 rw [toL_end]
 exact m.finAB hA hB fun x _ y hy=>by rw [drop_len h] at hy;cases hy
theorem MI.doneA {xa xb ou:Array Keyed} {i j:Nat} (m:MI xa.toList xb.toList ou.toList i j) (hA:xa.toList.Pairwise Le) (hB:xb.toList.Pairwise Le) (h:i=xa.toList.length):Mer xa.toList xb.toList (ou++xa.extract i xa.size++xb.extract j xb.size).toList:=by
 rw [toL_end]
 exact m.finAB hA hB fun x hx y _=>by rw [drop_len h] at hx;cases hx
theorem MI.last {xa xb ou:Array Keyed} {i j:Nat} (m:MI xa.toList xb.toList ou.toList i j) (hA:xa.toList.Pairwise Le) (hB:xb.toList.Pairwise Le) (h:i+1=xa.toList.length) (hl:∀ z∈xb.toList,kv z≤kv (xa.toList[xa.toList.length - 1]'(by omega))):Mer xa.toList xb.toList (ou++xb.extract j xb.size++xa.extract i xa.size).toList:=by
 rw [toL_end]
 exact m.finBA hA hB fun x hx y hy=>by rw [one_left h x hx];exact hl y (List.mem_of_mem_drop hy)
section
variable {prog:Program} {w:World} {A:Around} {E:Value→Shared→Prop} {s:Shared}
theorem s_mlo {st:SortSt} {xa xb:Array Keyed} {Q:Array Keyed→SortSt→Prop} (hk:kindOf st=oneType') (hIa:AllI xa) (hIb:AllI xb) (hA:xa.toList.Pairwise Le) (hB:xb.toList.Pairwise Le) (ha:0<xa.toList.length) (hb:0<xb.toList.length)
 (h0:∀ z∈xa.toList,kv (xb.toList[0])≤kv z) (hl:∀ z∈xb.toList,kv z≤kv (xa.toList[xa.toList.length - 1]'(by omega)))
 (h:∀ o st',SameSt st st'→Mer xa.toList xb.toList o.toList→Q o st'):wpS (model prog w) A E s (mlo xa xb) Q st:=by
 have hsa:xa.size=xa.toList.length:=(Array.length_toList ..).symm
 have hsb:xb.size=xb.toList.length:=(Array.length_toList ..).symm
 rw [mlo_eq]
 refine wpS_bind (wpS_lift (wpAny_rule ⟨rfl,?_⟩))
 dsimp only
 refine wpS_bind (s_elemL hb ?_)
 have m0:MI xa.toList xb.toList (#[xb.toList[0]]:Array Keyed).toList 0 1:=MI.start hB hb h0
 by_cases c1:1=xb.size
 · rw [if_pos (by simpa using c1)]
   exact wpS_pure (h _ _ (SameSt.refl _) (m0.doneB hA hB (by omega)))
 rw [if_neg (by simpa using c1)]
 by_cases c2:0+1=xa.size
 · rw [if_pos (by simpa using c2)]
   exact wpS_pure (h _ _ (SameSt.refl _) (m0.last hA hB (by omega) hl))
 rw [if_neg (by simpa using c2)]
 refine wpS_bind (wpS_get ?_)
 refine wpS_bind (wpS_mono (wpS_forRange (I:=fun x c st'=>SameSt st st'∧∃ ou i j mg,c=(none,ou,i,j,mg)∧MI xa.toList xb.toList ou.toList i j∧i+1<xa.size∧j<xb.toList.length∧x+1≤i+j) (Q:=fun c st'=>SameSt st st'∧∃ res rest,c=(some res,rest)∧Mer xa.toList xb.toList res.toList) ?step ?fin ⟨SameSt.refl _,_,_,_,_,rfl,m0,by omega,by omega,by omega⟩) ?post)
 case post=>
  rintro c st' ⟨sm,res,rest,rfl,me⟩
  exact wpS_pure (h _ _ sm me)
 case fin=>
  rintro c st' ⟨sm,ou,i,j,mg,rfl,m,hi,hj,hx⟩
  exfalso
  omega
 case step=>
  rintro x c st1 _ hx ⟨sm,ou,i,j,mg,rfl,m,hi,hj,hx2⟩
  dsimp only
  refine wpS_bind (wpS_mono (wpS_forRange (I:=fun y c st'=>SameSt st st'∧∃ ou i j ac bc,c=(none,ou,i,j,ac,bc)∧MI xa.toList xb.toList ou.toList i j∧i+1<xa.size∧j<xb.toList.length∧x+1+min y 1≤i+j)
   (Q:=fun c st'=>SameSt st st'∧((∃ res rest,c=(some res,rest)∧Mer xa.toList xb.toList res.toList)∨∃ ou i j ac bc,c=(none,ou,i,j,ac,bc)∧MI xa.toList xb.toList ou.toList i j∧i+1<xa.size∧j<xb.toList.length∧x+2≤i+j)) ?s1 ?f1 ⟨sm,_,_,_,_,_,rfl,m,hi,hj,by omega⟩) ?p1)
  case f1=>
   rintro c st2 ⟨sm2,ou,i,j,ac,bc,rfl,m,hi,hj,hx3⟩
   exact ⟨sm2,.inr ⟨_,_,_,_,_,rfl,m,hi,hj,by omega⟩⟩
  case s1=>
   rintro y c st2 _ hy ⟨sm2,ou,i,j,ac,bc,rfl,m,hi,hj,hx3⟩
   dsimp only
   refine wpS_bind (s_elemL hj (wpS_bind (s_elemL (i:=i) (by omega) ?_)))
   refine wpS_bind (s_lt (sm2.kind.trans hk) (hIb _ (List.getElem_mem _)) (hIa _ (List.getElem_mem _)) ?_)
   by_cases bw:kv xb.toList[j]<kv (xa.toList[i]'(by omega))
   · simp only [bw,decide_true,if_true]
     refine wpS_bind (s_elemL hj ?_)
     have m2:MI xa.toList xb.toList (ou.push xb.toList[j]).toList i (j+1):=by
      rw [Array.toList_push]
      exact m.pushB hB hj fun z hz=>Int.le_trans (Int.le_of_lt bw) (head_le hA (by omega) z hz)
     by_cases e1:j+1=xb.size
     · rw [if_pos (by simpa using e1)]
       exact wpS_pure ⟨sm2,.inl ⟨_,_,rfl,m2.doneB hA hB (by omega)⟩⟩
     · rw [if_neg (by simpa using e1)]
       split
       · exact wpS_pure ⟨sm2,.inr ⟨_,_,_,_,_,rfl,m2,hi,by omega,by omega⟩⟩
       · exact wpS_pure ⟨sm2,_,_,_,_,_,rfl,m2,hi,by omega,by omega⟩
   · simp only [bw,decide_false,Bool.false_eq_true,if_false]
     refine wpS_bind (s_elemL (i:=i) (by omega) ?_)
     have m2:MI xa.toList xb.toList (ou.push (xa.toList[i]'(by omega))).toList (i+1) j:=by
      rw [Array.toList_push]
      exact m.pushA hA (by omega) fun z hz=>Int.le_trans (Int.not_lt.mp bw) (head_le hB hj z hz)
     by_cases e1:i+1+1=xa.size
     · rw [if_pos (by simpa using e1)]
       exact wpS_pure ⟨sm2,.inl ⟨_,_,rfl,m2.last hA hB (by omega) hl⟩⟩
     · rw [if_neg (by simpa using e1)]
       split
       · exact wpS_pure ⟨sm2,.inr ⟨_,_,_,_,_,rfl,m2,by omega,hj,by omega⟩⟩
       · exact wpS_pure ⟨sm2,_,_,_,_,_,rfl,m2,by omega,hj,by omega⟩
  case p1=>
   rintro c st2 ⟨sm2,⟨res,rest,rfl,me⟩ | ⟨ou,i,j,ac,bc,rfl,m,hi,hj,hx3⟩⟩
   · exact wpS_pure ⟨sm2,_,_,rfl,me⟩
   dsimp only
   refine wpS_bind (wpS_lift (wpAny_rule ⟨rfl,?_⟩))
   refine wpS_bind (wpS_mono (wpS_forRange (I:=fun y c st'=>SameSt st st'∧∃ ou i j mg ac bc,c=(none,ou,i,j,mg,ac,bc)∧MI xa.toList xb.toList ou.toList i j∧i+1<xa.size∧j<xb.toList.length∧x+2≤i+j)
    (Q:=fun c st'=>SameSt st st'∧((∃ res rest,c=(some res,rest)∧Mer xa.toList xb.toList res.toList)∨∃ ou i j mg ac bc,c=(none,ou,i,j,mg,ac,bc)∧MI xa.toList xb.toList ou.toList i j∧i+1<xa.size∧j<xb.toList.length∧x+2≤i+j)) ?s2 ?f2 ⟨sm2,_,_,_,_,_,_,rfl,m,hi,hj,hx3⟩) ?p2)
   case f2=>
    rintro c st3 ⟨sm3,ou,i,j,mg,ac,bc,rfl,m,hi,hj,hx4⟩
    exact ⟨sm3,.inr ⟨_,_,_,_,_,_,rfl,m,hi,hj,hx4⟩⟩
   case p2=>
    rintro c st3 ⟨sm3,⟨res,rest,rfl,me⟩ | ⟨ou,i,j,mg,ac,bc,rfl,m,hi,hj,hx4⟩⟩
    · exact wpS_pure ⟨sm3,_,_,rfl,me⟩
    · dsimp only
      refine wpS_bind (s_setG ?_)
      exact wpS_pure ⟨sm3.setG _,_,_,_,_,rfl,m,hi,hj,by omega⟩
   case s2=>
    rintro y c st3 _ hy ⟨sm3',ou,i,j,mg,ac,bc,rfl,m,hi,hj,hx4⟩
    dsimp only
    have sm3:=fun g=>sm3'.setG g
    obtain ⟨c1,hc1,cut1⟩:=cut_of hA xb.toList[j] false i (xa.size - i) (by omega)
    obtain ⟨le1,gt1⟩:=gfalse (by omega) cut1
    have m1:MI xa.toList xb.toList (ou++xa.extract i (i+c1)).toList (i+c1) j:=by
     rw [toL_ext]
     exact m.extA hA c1 (by omega) fun t ht htc z hz=>Int.le_trans (le1 t ht htc) (head_le hB hj z hz)
    by_cases hmg:mg > 1
    · rw [if_pos hmg]
      refine wpS_bind (s_setG (wpS_bind (s_elemL hj ?_)))
      refine wpS_bind (s_gal (c:=c1) ((sm3 _).kind.trans hk) hIa (hIb _ (List.getElem_mem _)) (by omega) (by omega) hc1 cut1 ?_)
      dsimp only
      by_cases k0:c1 > 0
      · rw [if_pos k0]
        by_cases e1:i+c1+1=xa.size
        · rw [if_pos (by simpa using e1)]
          exact wpS_pure ⟨sm3 _,.inl ⟨_,_,rfl,m1.last hA hB (by omega) hl⟩⟩
        · rw [if_neg (by simpa using e1)]
          by_cases e2:i+c1=xa.size
          · rw [if_pos (by simpa using e2)]
            exact wpS_pure ⟨sm3 _,.inl ⟨_,_,rfl,m1.doneA hA hB (by omega)⟩⟩
          · rw [if_neg (by simpa using e2)]
            refine wpS_bind (s_elemL hj ?_)
            have M2:MI xa.toList xb.toList (Array.push (ou++xa.extract i (i+c1)) xb.toList[j]).toList (i+c1) (j+1):=by rw [Array.toList_push];exact MI.pushB m1 hB hj (fun z hz=>Int.le_of_lt (gt1 z hz))
            by_cases e3:j+1=xb.size
            · rw [if_pos (by simpa using e3)]
              exact wpS_pure ⟨sm3 _,.inl ⟨_,_,rfl,M2.doneB hA hB (by omega)⟩⟩
            · rw [if_neg (by simpa using e3)]
              refine wpS_bind (s_elemL (i:=(i+c1)) (by omega) ?_)
              obtain ⟨c2,hc2,cut2⟩:=cut_of hB (xa.toList[(i+c1)]'(by omega)) true (j+1) (xb.size - (j+1)) (by omega)
              obtain ⟨lt2,ge2⟩:=gtrue (by omega) cut2
              refine wpS_bind (s_gal (c:=c2) ((sm3 _).kind.trans hk) hIb (hIa _ (List.getElem_mem _)) (by omega) (by omega) hc2 cut2 ?_)
              dsimp only
              by_cases k1:c2 > 0
              · rw [if_pos k1]
                have M3:MI xa.toList xb.toList (Array.push (ou++xa.extract i (i+c1)) xb.toList[j]++xb.extract (j+1) (j+1+c2)).toList (i+c1) (j+1+c2):=by
                 rw [toL_ext]
                 exact M2.extB hB c2 (by omega) fun t ht htc z hz=>Int.le_trans (Int.le_of_lt (lt2 t ht htc)) (head_le hA (by omega) z hz)
                by_cases e4:j+1+c2=xb.size
                · rw [if_pos (by simpa using e4)]
                  exact wpS_pure ⟨sm3 _,.inl ⟨_,_,rfl,M3.doneB hA hB (by omega)⟩⟩
                · rw [if_neg (by simpa using e4)]
                  refine wpS_bind (s_elemL (i:=(i+c1)) (by omega) ?_)
                  have M4:MI xa.toList xb.toList (Array.push (Array.push (ou++xa.extract i (i+c1)) xb.toList[j]++xb.extract (j+1) (j+1+c2)) (xa.toList[(i+c1)]'(by omega))).toList ((i+c1)+1) (j+1+c2):=by rw [Array.toList_push];exact MI.pushA M3 hA (by omega) ge2
                  by_cases e5:(i+c1)+1+1=xa.size
                  · rw [if_pos (by simpa using e5)]
                    exact wpS_pure ⟨sm3 _,.inl ⟨_,_,rfl,M4.last hA hB (by omega) hl⟩⟩
                  · rw [if_neg (by simpa using e5)]
                    split
                    · exact wpS_pure ⟨sm3 _,.inr ⟨_,_,_,_,_,_,rfl,M4,by omega,by omega,by omega⟩⟩
                    · exact wpS_pure ⟨sm3 _,_,_,_,_,_,_,rfl,M4,by omega,by omega,by omega⟩
              · rw [if_neg k1]
                have c20:c2=0:=by omega
                refine wpS_bind (s_elemL (i:=(i+c1)) (by omega) ?_)
                have M4:MI xa.toList xb.toList (Array.push (Array.push (ou++xa.extract i (i+c1)) xb.toList[j]) (xa.toList[(i+c1)]'(by omega))).toList ((i+c1)+1) (j+1):=by rw [Array.toList_push];exact MI.pushA M2 hA (by omega) (fun z hz=>ge2 z (by rw [c20,Nat.add_zero];exact hz))
                by_cases e5:(i+c1)+1+1=xa.size
                · rw [if_pos (by simpa using e5)]
                  exact wpS_pure ⟨sm3 _,.inl ⟨_,_,rfl,M4.last hA hB (by omega) hl⟩⟩
                · rw [if_neg (by simpa using e5)]
                  split
                  · exact wpS_pure ⟨sm3 _,.inr ⟨_,_,_,_,_,_,rfl,M4,by omega,by omega,by omega⟩⟩
                  · exact wpS_pure ⟨sm3 _,_,_,_,_,_,_,rfl,M4,by omega,by omega,by omega⟩
      · rw [if_neg k0]
        have c10:c1=0:=by omega
        refine wpS_bind (s_elemL hj ?_)
        have M2:MI xa.toList xb.toList (Array.push ou xb.toList[j]).toList i (j+1):=by rw [Array.toList_push];exact MI.pushB m hB hj (fun z hz=>Int.le_of_lt (gt1 z (by rw [c10,Nat.add_zero];exact hz)))
        by_cases e3:j+1=xb.size
        · rw [if_pos (by simpa using e3)]
          exact wpS_pure ⟨sm3 _,.inl ⟨_,_,rfl,M2.doneB hA hB (by omega)⟩⟩
        · rw [if_neg (by simpa using e3)]
          refine wpS_bind (s_elemL (i:=i) (by omega) ?_)
          obtain ⟨c2,hc2,cut2⟩:=cut_of hB (xa.toList[i]'(by omega)) true (j+1) (xb.size - (j+1)) (by omega)
          obtain ⟨lt2,ge2⟩:=gtrue (by omega) cut2
          refine wpS_bind (s_gal (c:=c2) ((sm3 _).kind.trans hk) hIb (hIa _ (List.getElem_mem _)) (by omega) (by omega) hc2 cut2 ?_)
          dsimp only
          by_cases k1:c2 > 0
          · rw [if_pos k1]
            have M3:MI xa.toList xb.toList (Array.push ou xb.toList[j]++xb.extract (j+1) (j+1+c2)).toList i (j+1+c2):=by
             rw [toL_ext]
             exact M2.extB hB c2 (by omega) fun t ht htc z hz=>Int.le_trans (Int.le_of_lt (lt2 t ht htc)) (head_le hA (by omega) z hz)
            by_cases e4:j+1+c2=xb.size
            · rw [if_pos (by simpa using e4)]
              exact wpS_pure ⟨sm3 _,.inl ⟨_,_,rfl,M3.doneB hA hB (by omega)⟩⟩
            · rw [if_neg (by simpa using e4)]
              refine wpS_bind (s_elemL (i:=i) (by omega) ?_)
              have M4:MI xa.toList xb.toList (Array.push (Array.push ou xb.toList[j]++xb.extract (j+1) (j+1+c2)) (xa.toList[i]'(by omega))).toList (i+1) (j+1+c2):=by rw [Array.toList_push];exact MI.pushA M3 hA (by omega) ge2
              by_cases e5:i+1+1=xa.size
              · rw [if_pos (by simpa using e5)]
                exact wpS_pure ⟨sm3 _,.inl ⟨_,_,rfl,M4.last hA hB (by omega) hl⟩⟩
              · rw [if_neg (by simpa using e5)]
                split
                · exact wpS_pure ⟨sm3 _,.inr ⟨_,_,_,_,_,_,rfl,M4,by omega,by omega,by omega⟩⟩
                · exact wpS_pure ⟨sm3 _,_,_,_,_,_,_,rfl,M4,by omega,by omega,by omega⟩
          · rw [if_neg k1]
            have c20:c2=0:=by omega
            refine wpS_bind (s_elemL (i:=i) (by omega) ?_)
            have M4:MI xa.toList xb.toList (Array.push (Array.push ou xb.toList[j]) (xa.toList[i]'(by omega))).toList (i+1) (j+1):=by rw [Array.toList_push];exact MI.pushA M2 hA (by omega) (fun z hz=>ge2 z (by rw [c20,Nat.add_zero];exact hz))
            by_cases e5:i+1+1=xa.size
            · rw [if_pos (by simpa using e5)]
              exact wpS_pure ⟨sm3 _,.inl ⟨_,_,rfl,M4.last hA hB (by omega) hl⟩⟩
            · rw [if_neg (by simpa using e5)]
              split
              · exact wpS_pure ⟨sm3 _,.inr ⟨_,_,_,_,_,_,rfl,M4,by omega,by omega,by omega⟩⟩
              · exact wpS_pure ⟨sm3 _,_,_,_,_,_,_,rfl,M4,by omega,by omega,by omega⟩
    · rw [if_neg hmg]
      refine wpS_bind (s_setG (wpS_bind (s_elemL hj ?_)))
      refine wpS_bind (s_gal (c:=c1) ((sm3 _).kind.trans hk) hIa (hIb _ (List.getElem_mem _)) (by omega) (by omega) hc1 cut1 ?_)
      dsimp only
      by_cases k0:c1 > 0
      · rw [if_pos k0]
        by_cases e1:i+c1+1=xa.size
        · rw [if_pos (by simpa using e1)]
          exact wpS_pure ⟨sm3 _,.inl ⟨_,_,rfl,m1.last hA hB (by omega) hl⟩⟩
        · rw [if_neg (by simpa using e1)]
          by_cases e2:i+c1=xa.size
          · rw [if_pos (by simpa using e2)]
            exact wpS_pure ⟨sm3 _,.inl ⟨_,_,rfl,m1.doneA hA hB (by omega)⟩⟩
          · rw [if_neg (by simpa using e2)]
            refine wpS_bind (s_elemL hj ?_)
            have M2:MI xa.toList xb.toList (Array.push (ou++xa.extract i (i+c1)) xb.toList[j]).toList (i+c1) (j+1):=by rw [Array.toList_push];exact MI.pushB m1 hB hj (fun z hz=>Int.le_of_lt (gt1 z hz))
            by_cases e3:j+1=xb.size
            · rw [if_pos (by simpa using e3)]
              exact wpS_pure ⟨sm3 _,.inl ⟨_,_,rfl,M2.doneB hA hB (by omega)⟩⟩
            · rw [if_neg (by simpa using e3)]
              refine wpS_bind (s_elemL (i:=(i+c1)) (by omega) ?_)
              obtain ⟨c2,hc2,cut2⟩:=cut_of hB (xa.toList[(i+c1)]'(by omega)) true (j+1) (xb.size - (j+1)) (by omega)
              obtain ⟨lt2,ge2⟩:=gtrue (by omega) cut2
              refine wpS_bind (s_gal (c:=c2) ((sm3 _).kind.trans hk) hIb (hIa _ (List.getElem_mem _)) (by omega) (by omega) hc2 cut2 ?_)
              dsimp only
              by_cases k1:c2 > 0
              · rw [if_pos k1]
                have M3:MI xa.toList xb.toList (Array.push (ou++xa.extract i (i+c1)) xb.toList[j]++xb.extract (j+1) (j+1+c2)).toList (i+c1) (j+1+c2):=by
                 rw [toL_ext]
                 exact M2.extB hB c2 (by omega) fun t ht htc z hz=>Int.le_trans (Int.le_of_lt (lt2 t ht htc)) (head_le hA (by omega) z hz)
                by_cases e4:j+1+c2=xb.size
                · rw [if_pos (by simpa using e4)]
                  exact wpS_pure ⟨sm3 _,.inl ⟨_,_,rfl,M3.doneB hA hB (by omega)⟩⟩
                · rw [if_neg (by simpa using e4)]
                  refine wpS_bind (s_elemL (i:=(i+c1)) (by omega) ?_)
                  have M4:MI xa.toList xb.toList (Array.push (Array.push (ou++xa.extract i (i+c1)) xb.toList[j]++xb.extract (j+1) (j+1+c2)) (xa.toList[(i+c1)]'(by omega))).toList ((i+c1)+1) (j+1+c2):=by rw [Array.toList_push];exact MI.pushA M3 hA (by omega) ge2
                  by_cases e5:(i+c1)+1+1=xa.size
                  · rw [if_pos (by simpa using e5)]
                    exact wpS_pure ⟨sm3 _,.inl ⟨_,_,rfl,M4.last hA hB (by omega) hl⟩⟩
                  · rw [if_neg (by simpa using e5)]
                    split
                    · exact wpS_pure ⟨sm3 _,.inr ⟨_,_,_,_,_,_,rfl,M4,by omega,by omega,by omega⟩⟩
                    · exact wpS_pure ⟨sm3 _,_,_,_,_,_,_,rfl,M4,by omega,by omega,by omega⟩
              · rw [if_neg k1]
                have c20:c2=0:=by omega
                refine wpS_bind (s_elemL (i:=(i+c1)) (by omega) ?_)
                have M4:MI xa.toList xb.toList (Array.push (Array.push (ou++xa.extract i (i+c1)) xb.toList[j]) (xa.toList[(i+c1)]'(by omega))).toList ((i+c1)+1) (j+1):=by rw [Array.toList_push];exact MI.pushA M2 hA (by omega) (fun z hz=>ge2 z (by rw [c20,Nat.add_zero];exact hz))
                by_cases e5:(i+c1)+1+1=xa.size
                · rw [if_pos (by simpa using e5)]
                  exact wpS_pure ⟨sm3 _,.inl ⟨_,_,rfl,M4.last hA hB (by omega) hl⟩⟩
                · rw [if_neg (by simpa using e5)]
                  split
                  · exact wpS_pure ⟨sm3 _,.inr ⟨_,_,_,_,_,_,rfl,M4,by omega,by omega,by omega⟩⟩
                  · exact wpS_pure ⟨sm3 _,_,_,_,_,_,_,rfl,M4,by omega,by omega,by omega⟩
      · rw [if_neg k0]
        have c10:c1=0:=by omega
        refine wpS_bind (s_elemL hj ?_)
        have M2:MI xa.toList xb.toList (Array.push ou xb.toList[j]).toList i (j+1):=by rw [Array.toList_push];exact MI.pushB m hB hj (fun z hz=>Int.le_of_lt (gt1 z (by rw [c10,Nat.add_zero];exact hz)))
        by_cases e3:j+1=xb.size
        · rw [if_pos (by simpa using e3)]
          exact wpS_pure ⟨sm3 _,.inl ⟨_,_,rfl,M2.doneB hA hB (by omega)⟩⟩
        · rw [if_neg (by simpa using e3)]
          refine wpS_bind (s_elemL (i:=i) (by omega) ?_)
          obtain ⟨c2,hc2,cut2⟩:=cut_of hB (xa.toList[i]'(by omega)) true (j+1) (xb.size - (j+1)) (by omega)
          obtain ⟨lt2,ge2⟩:=gtrue (by omega) cut2
          refine wpS_bind (s_gal (c:=c2) ((sm3 _).kind.trans hk) hIb (hIa _ (List.getElem_mem _)) (by omega) (by omega) hc2 cut2 ?_)
          dsimp only
          by_cases k1:c2 > 0
          · rw [if_pos k1]
            have M3:MI xa.toList xb.toList (Array.push ou xb.toList[j]++xb.extract (j+1) (j+1+c2)).toList i (j+1+c2):=by
             rw [toL_ext]
             exact M2.extB hB c2 (by omega) fun t ht htc z hz=>Int.le_trans (Int.le_of_lt (lt2 t ht htc)) (head_le hA (by omega) z hz)
            by_cases e4:j+1+c2=xb.size
            · rw [if_pos (by simpa using e4)]
              exact wpS_pure ⟨sm3 _,.inl ⟨_,_,rfl,M3.doneB hA hB (by omega)⟩⟩
            · rw [if_neg (by simpa using e4)]
              refine wpS_bind (s_elemL (i:=i) (by omega) ?_)
              have M4:MI xa.toList xb.toList (Array.push (Array.push ou xb.toList[j]++xb.extract (j+1) (j+1+c2)) (xa.toList[i]'(by omega))).toList (i+1) (j+1+c2):=by rw [Array.toList_push];exact MI.pushA M3 hA (by omega) ge2
              by_cases e5:i+1+1=xa.size
              · rw [if_pos (by simpa using e5)]
                exact wpS_pure ⟨sm3 _,.inl ⟨_,_,rfl,M4.last hA hB (by omega) hl⟩⟩
              · rw [if_neg (by simpa using e5)]
                split
                · exact wpS_pure ⟨sm3 _,.inr ⟨_,_,_,_,_,_,rfl,M4,by omega,by omega,by omega⟩⟩
                · exact wpS_pure ⟨sm3 _,_,_,_,_,_,_,rfl,M4,by omega,by omega,by omega⟩
          · rw [if_neg k1]
            have c20:c2=0:=by omega
            refine wpS_bind (s_elemL (i:=i) (by omega) ?_)
            have M4:MI xa.toList xb.toList (Array.push (Array.push ou xb.toList[j]) (xa.toList[i]'(by omega))).toList (i+1) (j+1):=by rw [Array.toList_push];exact MI.pushA M2 hA (by omega) (fun z hz=>ge2 z (by rw [c20,Nat.add_zero];exact hz))
            by_cases e5:i+1+1=xa.size
            · rw [if_pos (by simpa using e5)]
              exact wpS_pure ⟨sm3 _,.inl ⟨_,_,rfl,M4.last hA hB (by omega) hl⟩⟩
            · rw [if_neg (by simpa using e5)]
              split
              · exact wpS_pure ⟨sm3 _,.inr ⟨_,_,_,_,_,_,rfl,M4,by omega,by omega,by omega⟩⟩
              · exact wpS_pure ⟨sm3 _,_,_,_,_,_,_,rfl,M4,by omega,by omega,by omega⟩
end
structure MH (A B:List Keyed) (o:List Keyed) (na nb:Nat):Prop where
 perm:o.Perm (A.drop na++B.drop nb)
 srt:o.Pairwise Le
 lea:∀ x∈o,∀ y∈A.take na,kv y≤kv x
 leb:∀ x∈o,∀ y∈B.take nb,kv y≤kv x
theorem pw_take {l:List Keyed} (h:l.Pairwise Le) {i:Nat} (hi:i<l.length):∀ y∈l.take i,kv y≤kv l[i]:=fun y hy=>by
 obtain ⟨u,hu,rfl⟩:=List.mem_iff_getElem.mp hy
 rw [List.length_take] at hu
 rw [List.getElem_take]
 exact List.pairwise_iff_getElem.mp h _ _ _ _ (by omega)
theorem mem_take_succ {l:List Keyed} {i:Nat} {y:Keyed} (h:y∈l.take i):y∈l.take (i+1):=(List.take_sublist_take_left (Nat.le_succ i)).mem h
theorem mem_take_at {l:List Keyed} {i:Nat} (hi:i<l.length):l[i]∈l.take (i+1):=by
 rw [List.take_succ,List.getElem?_eq_getElem hi]
 exact List.mem_append_right _ (List.mem_singleton.mpr rfl)
theorem MH.pushA {A B o:List Keyed} {na nb:Nat} (m:MH A B o (na+1) nb) (hA:A.Pairwise Le) (hi:na<A.length) (h:∀ z∈B.take nb,kv z≤kv A[na]):MH A B (A[na]::o) na nb:=by
 refine ⟨?_,?_,fun x hx y hy=>?_,fun x hx y hy=>?_⟩
 · rw [List.drop_eq_getElem_cons hi,List.cons_append]
   exact List.Perm.cons _ m.perm
 · exact List.pairwise_cons.mpr ⟨fun x hx=>m.lea x hx _ (mem_take_at hi),m.srt⟩
 · rcases List.mem_cons.mp hx with rfl | hx
   · exact pw_take hA hi y hy
   · exact m.lea x hx y (mem_take_succ hy)
 · rcases List.mem_cons.mp hx with rfl | hx
   · exact h y hy
   · exact m.leb x hx y hy
theorem MH.pushB {A B o:List Keyed} {na nb:Nat} (m:MH A B o na (nb+1)) (hB:B.Pairwise Le) (hi:nb<B.length) (h:∀ z∈A.take na,kv z≤kv B[nb]):MH A B (B[nb]::o) na nb:=by
 refine ⟨?_,?_,fun x hx y hy=>?_,fun x hx y hy=>?_⟩
 · rw [List.drop_eq_getElem_cons hi]
   exact (List.Perm.cons _ m.perm).trans List.perm_middle.symm
 · exact List.pairwise_cons.mpr ⟨fun x hx=>m.leb x hx _ (mem_take_at hi),m.srt⟩
 · rcases List.mem_cons.mp hx with rfl | hx
   · exact h y hy
   · exact m.lea x hx y hy
 · rcases List.mem_cons.mp hx with rfl | hx
   · exact pw_take hB hi y hy
   · exact m.leb x hx y (mem_take_succ hy)
theorem MH.extA {A B o:List Keyed} {nb:Nat} (hA:A.Pairwise Le):∀ (k c:Nat),MH A B o (c+k) nb→c+k≤A.length→(∀ i (hi:i<A.length),c≤i→i<c+k→∀ z∈B.take nb,kv z≤kv A[i])→MH A B ((A.drop c).take k++o) c nb
 | 0,c,m,_,_=>by rw [List.take_zero];exact m
 | k+1,c,m,hk,h=>by
   have m':MH A B o (c+1+k) nb:=by rw [show c+1+k=c+(k+1) by omega];exact m
   have ih:=MH.extA hA k (c+1) m' (by omega) fun i hi h1 h2=>h i hi (by omega) (by omega)
   have hi:c<A.length:=by omega
   rw [List.drop_eq_getElem_cons hi,List.take_succ_cons,List.cons_append]
   exact ih.pushA hA hi (h c hi (Nat.le_refl _) (by omega))
theorem MH.extB {A B o:List Keyed} {na:Nat} (hB:B.Pairwise Le):∀ (k c:Nat),MH A B o na (c+k)→c+k≤B.length→(∀ i (hi:i<B.length),c≤i→i<c+k→∀ z∈A.take na,kv z≤kv B[i])→MH A B ((B.drop c).take k++o) na c
 | 0,c,m,_,_=>by rw [List.take_zero];exact m
 | k+1,c,m,hk,h=>by
   have m':MH A B o na (c+1+k):=by rw [show c+1+k=c+(k+1) by omega];exact m
   have ih:=MH.extB hB k (c+1) m' (by omega) fun i hi h1 h2=>h i hi (by omega) (by omega)
   have hi:c<B.length:=by omega
   rw [List.drop_eq_getElem_cons hi,List.take_succ_cons,List.cons_append]
   exact ih.pushB hB hi (h c hi (Nat.le_refl _) (by omega))
theorem MH.finAB {A B o:List Keyed} {na nb:Nat} (m:MH A B o na nb) (hA:A.Pairwise Le) (hB:B.Pairwise Le) (h:∀ x∈A.take na,∀ y∈B.take nb,kv x≤kv y):Mer A B (A.take na++B.take nb++o):=by
 refine ⟨?_,?_⟩
 · have e:=(List.Perm.append_left (A.take na++B.take nb) m.perm).trans (perm_mid (A.take na) (B.take nb) (A.drop na) (B.drop nb))
   rw [List.take_append_drop,List.take_append_drop] at e
   exact e
 · refine List.pairwise_append.mpr ⟨List.pairwise_append.mpr ⟨hA.sublist (List.take_sublist _ _),hB.sublist (List.take_sublist _ _),fun x hx y hy=>h x hx y hy⟩,m.srt,fun x hx y hy=>?_⟩
   rcases List.mem_append.mp hx with hx | hx
   · exact m.lea y hy x hx
   · exact m.leb y hy x hx
theorem MH.finBA {A B o:List Keyed} {na nb:Nat} (m:MH A B o na nb) (hA:A.Pairwise Le) (hB:B.Pairwise Le) (h:∀ x∈A.take na,∀ y∈B.take nb,kv y≤kv x):Mer A B (B.take nb++A.take na++o):=by
 refine ⟨?_,?_⟩
 · have e:=(List.Perm.append_left (A.take na++B.take nb) m.perm).trans (perm_mid (A.take na) (B.take nb) (A.drop na) (B.drop nb))
   rw [List.take_append_drop,List.take_append_drop] at e
   exact (List.Perm.append_right o List.perm_append_comm).trans e
 · refine List.pairwise_append.mpr ⟨List.pairwise_append.mpr ⟨hB.sublist (List.take_sublist _ _),hA.sublist (List.take_sublist _ _),fun x hx y hy=>h y hy x hx⟩,m.srt,fun x hx y hy=>?_⟩
   rcases List.mem_append.mp hx with hx | hx
   · exact m.leb y hy x hx
   · exact m.lea y hy x hx
theorem toL_front (o x y:Array Keyed) (i j:Nat):(x.extract 0 i++y.extract 0 j++o.reverse).toList=x.toList.take i++y.toList.take j++o.toList.reverse:=by
 have e:∀ (z:Array Keyed) (k:Nat),(z.extract 0 k).toList=z.toList.take k:=fun z k=>by
  rw [Array.toList_extract,List.extract_eq_drop_take,List.drop_zero,Nat.sub_zero]
 rw [Array.toList_append,Array.toList_append,e,e,Array.toList_reverse]
theorem toL_pushR (o:Array Keyed) (z:Keyed):(o.push z).toList.reverse=z::o.toList.reverse:=by
 rw [Array.toList_push,List.reverse_append];rfl
theorem toL_extR (o x:Array Keyed) (c n:Nat):(o++(x.extract c n).reverse).toList.reverse=(x.toList.drop c).take (n - c)++o.toList.reverse:=by
 rw [Array.toList_append,List.reverse_append,Array.toList_reverse,List.reverse_reverse,Array.toList_extract,List.extract_eq_drop_take]
def MHa (xa xb ou:Array Keyed) (na nb:Nat):Prop:=MH xa.toList xb.toList ou.toList.reverse na nb
section
variable {xa xb ou:Array Keyed} {na nb:Nat}
theorem MHa.done0 (m:MHa xa xb ou na nb) (hA:xa.toList.Pairwise Le) (hB:xb.toList.Pairwise Le) (h:na=0∨nb=0):Mer xa.toList xb.toList (xa.extract 0 na++xb.extract 0 nb++ou.reverse).toList:=by
 rw [toL_front]
 refine MH.finAB m hA hB fun x hx y hy=>?_
 rcases h with h | h
 · rw [h] at hx;simp at hx
 · rw [h] at hy;simp at hy
theorem MHa.first (m:MHa xa xb ou na nb) (hA:xa.toList.Pairwise Le) (hB:xb.toList.Pairwise Le) (hb:0<xb.toList.length) (h:nb=1) (h0:∀ z∈xa.toList,kv xb.toList[0]≤kv z):Mer xa.toList xb.toList (xb.extract 0 nb++xa.extract 0 na++ou.reverse).toList:=by
 rw [toL_front]
 refine MH.finBA m hA hB fun x hx y hy=>?_
 rw [h,List.take_succ,List.getElem?_eq_getElem hb] at hy
 have:y=xb.toList[0]:=by simpa using hy
 rw [this]
 exact h0 x (List.mem_of_mem_take hx)
theorem MHa.pushA (m:MHa xa xb ou (na+1) nb) (hA:xa.toList.Pairwise Le) (hi:na<xa.toList.length) (h:∀ z∈xb.toList.take nb,kv z≤kv xa.toList[na]):MHa xa xb (ou.push xa.toList[na]) na nb:=by
 unfold MHa;rw [toL_pushR];exact MH.pushA m hA hi h
theorem MHa.pushB (m:MHa xa xb ou na (nb+1)) (hB:xb.toList.Pairwise Le) (hi:nb<xb.toList.length) (h:∀ z∈xa.toList.take na,kv z≤kv xb.toList[nb]):MHa xa xb (ou.push xb.toList[nb]) na nb:=by
 unfold MHa;rw [toL_pushR];exact MH.pushB m hB hi h
theorem MHa.extA {c:Nat} (m:MHa xa xb ou na nb) (hA:xa.toList.Pairwise Le) (hc:c≤na) (hn:na≤xa.toList.length) (h:∀ i (hi:i<xa.toList.length),c≤i→i<na→∀ z∈xb.toList.take nb,kv z≤kv xa.toList[i]):MHa xa xb (ou++(xa.extract c na).reverse) c nb:=by
 unfold MHa;rw [toL_extR]
 exact MH.extA hA (na - c) c (by rw [show c+(na - c)=na by omega];exact m) (by omega) fun i hi h1 h2=>h i hi h1 (by omega)
theorem MHa.extB {c:Nat} (m:MHa xa xb ou na nb) (hB:xb.toList.Pairwise Le) (hc:c≤nb) (hn:nb≤xb.toList.length) (h:∀ i (hi:i<xb.toList.length),c≤i→i<nb→∀ z∈xa.toList.take na,kv z≤kv xb.toList[i]):MHa xa xb (ou++(xb.extract c nb).reverse) na c:=by
 unfold MHa;rw [toL_extR]
 exact MH.extB hB (nb - c) c (by rw [show c+(nb - c)=nb by omega];exact m) (by omega) fun i hi h1 h2=>h i hi h1 (by omega)
end
theorem ffalse {xs:Array Keyed} {ky:Keyed} {n c:Nat} (hn:n≤xs.toList.length) (hc:c≤n) (cut:∀ i,i<n→Byd false ky xs 0 i=decide (i<c)) :
 (∀ z∈xs.toList.take c,kv z≤kv ky)∧(∀ i (h:i<xs.toList.length),c≤i→i<n→kv ky<kv xs.toList[i]):=by
 have key:∀ i (h:i<xs.toList.length),i<n→(!decide (kv ky<kv xs.toList[i]))=decide (i<c):=fun i h hi=>by
  have:=cut i hi
  unfold Byd at this
  rw [Nat.zero_add,K_at h] at this
  simpa using this
 constructor
 · intro z hz
   obtain ⟨u,hu,rfl⟩:=List.mem_iff_getElem.mp hz
   rw [List.length_take] at hu
   have:=key u (by omega) (by omega)
   rw [List.getElem_take]
   rw [decide_eq_true (show u<c by omega)] at this
   simpa using this
 · intro i h h1 h2
   have:=key i h h2
   rw [decide_eq_false (show ¬ i<c by omega)] at this
   simpa using this
theorem ftrue {xs:Array Keyed} {ky:Keyed} {n c:Nat} (hn:n≤xs.toList.length) (hc:c≤n) (cut:∀ i,i<n→Byd true ky xs 0 i=decide (i<c)) :
 (∀ z∈xs.toList.take c,kv z<kv ky)∧(∀ i (h:i<xs.toList.length),c≤i→i<n→kv ky≤kv xs.toList[i]):=by
 have key:∀ i (h:i<xs.toList.length),i<n→decide (kv xs.toList[i]<kv ky)=decide (i<c):=fun i h hi=>by
  have:=cut i hi
  unfold Byd at this
  rw [Nat.zero_add,K_at h] at this
  simpa using this
 constructor
 · intro z hz
   obtain ⟨u,hu,rfl⟩:=List.mem_iff_getElem.mp hz
   rw [List.length_take] at hu
   have:=key u (by omega) (by omega)
   rw [List.getElem_take]
   rw [decide_eq_true (show u<c by omega)] at this
   simpa using this
 · intro i h h1 h2
   have:=key i h h2
   rw [decide_eq_false (show ¬ i<c by omega)] at this
   simpa using this
theorem take_le {l:List Keyed} (h:l.Pairwise Le) {n:Nat} (hn:n<l.length):∀ z∈l.take (n+1),kv z≤kv l[n]:=fun z hz=>by
 rw [List.take_succ,List.getElem?_eq_getElem hn] at hz
 rcases List.mem_append.mp hz with hz | hz
 · exact pw_take h hn z hz
 · have:z=l[n]:=by simpa using hz
   rw [this];exact Int.le_refl _
def mhi:Array Keyed→Array Keyed→StateT SortSt Sem (Array Keyed):=sortPriv% PySem.Builtin.mergeHi
theorem mhi_eq (xa xb:Array Keyed):mhi xa xb=(do
 rule "list.sort.merge-hi"
 let tot:=xa.size+xb.size
 let dn (ou:Array Keyed) (i j:Nat):=xa.extract 0 i++xb.extract 0 j++ou.reverse
 let fb (ou:Array Keyed) (i j:Nat):=xb.extract 0 j++xa.extract 0 i++ou.reverse
 let mut i:=xa.size - 1
 let mut j:=xb.size
 let mut ou:Array Keyed:=#[← elem' xa i]
 if i == 0 then return dn ou i j
 if j == 1 then return fb ou i j
 let mut mg:=gallopOf (← get)
 for _ in [0:tot] do
  let mut ac:=0
  let mut bc:=0
  for _ in [0:tot] do
   let some aw ← lt' (← elem' xb (j - 1)) (← elem' xa (i - 1)) | return dn ou i j
   if aw then
    i:=i - 1;ou:=ou.push (← elem' xa i);ac:=ac+1;bc:=0
    if i == 0 then return dn ou i j
    if ac≥mg then break
   else
    j:=j - 1;ou:=ou.push (← elem' xb j);bc:=bc+1;ac:=0
    if j == 1 then return fb ou i j
    if bc≥mg then break
  rule "list.sort.gallop"
  mg:=mg+1
  for _ in [0:tot] do
   if mg > 1 then mg:=mg - 1
   setG mg
   let some t ← gal false (← elem' xb (j - 1)) xa 0 i (i - 1) | return dn ou i j
   let k:=i - t
   ac:=k
   if k > 0 then
    ou:=ou++(xa.extract t i).reverse;i:=t
    if i == 0 then return dn ou i j
   j:=j - 1;ou:=ou.push (← elem' xb j)
   if j == 1 then return fb ou i j
   let some t ← gal true (← elem' xa (i - 1)) xb 0 j (j - 1) | return dn ou i j
   let k:=j - t
   bc:=k
   if k > 0 then
    ou:=ou++(xb.extract t j).reverse;j:=t
    if j == 1 then return fb ou i j
    if j == 0 then return dn ou i j
   i:=i - 1;ou:=ou.push (← elem' xa i)
   if i == 0 then return dn ou i j
   if ac<7&&bc<7 then break
  mg:=mg+1
  setG mg
 unsupported "internal:list.sort.merge-bound"):=rfl
section
variable {prog:Program} {w:World} {A:Around} {E:Value→Shared→Prop} {s:Shared}
theorem s_mhi {st:SortSt} {xa xb:Array Keyed} {Q:Array Keyed→SortSt→Prop} (hk:kindOf st=oneType') (hIa:AllI xa) (hIb:AllI xb) (hA:xa.toList.Pairwise Le) (hB:xb.toList.Pairwise Le) (ha:0<xa.toList.length) (hb:0<xb.toList.length)
 (h0:∀ z∈xa.toList,kv (xb.toList[0])≤kv z) (hl:∀ z∈xb.toList,kv z≤kv (xa.toList[xa.toList.length - 1]'(by omega)))
 (h:∀ o st',SameSt st st'→Mer xa.toList xb.toList o.toList→Q o st'):wpS (model prog w) A E s (mhi xa xb) Q st:=by
 have hsa:xa.size=xa.toList.length:=(Array.length_toList ..).symm
 have hsb:xb.size=xb.toList.length:=(Array.length_toList ..).symm
 rw [mhi_eq]
 refine wpS_bind (wpS_lift (wpAny_rule ⟨rfl,?_⟩))
 dsimp only
 refine wpS_bind (s_elemL (i:=xa.size - 1) (by omega) ?_)
 have m0:MHa xa xb #[xa.toList[xa.size - 1]'(by omega)] (xa.size - 1) xb.size:=by
  have mm:MHa xa xb #[] (xa.size - 1+1) xb.size:=by
   refine ⟨?_,List.Pairwise.nil,fun x hx=>(nomatch hx),fun x hx=>(nomatch hx)⟩
   rw [drop_len (show xa.size - 1+1=xa.toList.length by omega),drop_len hsb]
   exact List.Perm.refl _
  refine mm.pushA hA (by omega) fun z hz=>?_
  have:=hl z (List.mem_of_mem_take hz)
  have e:xa.toList[xa.toList.length - 1]'(by omega)=xa.toList[xa.size - 1]'(by omega):=by congr 1
  rw [← e];exact this
 by_cases c1:xa.size - 1=0
 · rw [if_pos (by simpa using c1)]
   exact wpS_pure (h _ _ (SameSt.refl _) (m0.done0 hA hB (.inl c1)))
 rw [if_neg (by simpa using c1)]
 by_cases c2:xb.size=1
 · rw [if_pos (by simpa using c2)]
   exact wpS_pure (h _ _ (SameSt.refl _) (m0.first hA hB hb c2 h0))
 rw [if_neg (by simpa using c2)]
 refine wpS_bind (wpS_get ?_)
 refine wpS_bind (wpS_mono (wpS_forRange (I:=fun x c st'=>SameSt st st'∧∃ i j ou mg,c=(none,i,j,ou,mg)∧MHa xa xb ou i j∧0<i∧i<xa.size∧1<j∧j≤xb.size∧i+j+x+1≤xa.size+xb.size) (Q:=fun c st'=>SameSt st st'∧∃ res rest,c=(some res,rest)∧Mer xa.toList xb.toList res.toList) ?step ?fin ⟨SameSt.refl _,_,_,_,_,rfl,m0,by omega,by omega,by omega,by omega,by omega⟩) ?post)
 case post=>
  rintro c st' ⟨sm,res,rest,rfl,me⟩
  exact wpS_pure (h _ _ sm me)
 case fin=>
  rintro c st' ⟨sm,i,j,ou,mg,rfl,m,hi,hi2,hj,hj2,hx⟩
  exfalso
  omega
 case step=>
  rintro x c st1 _ hx ⟨sm,i,j,ou,mg,rfl,m,hi,hi2,hj,hj2,hx2⟩
  dsimp only
  refine wpS_bind (wpS_mono (wpS_forRange (I:=fun y c st'=>SameSt st st'∧∃ i j ou ac bc,c=(none,i,j,ou,ac,bc)∧MHa xa xb ou i j∧0<i∧i<xa.size∧1<j∧j≤xb.size∧i+j+x+1+min y 1≤xa.size+xb.size)
   (Q:=fun c st'=>SameSt st st'∧((∃ res rest,c=(some res,rest)∧Mer xa.toList xb.toList res.toList)∨∃ i j ou ac bc,c=(none,i,j,ou,ac,bc)∧MHa xa xb ou i j∧0<i∧i<xa.size∧1<j∧j≤xb.size∧i+j+x+2≤xa.size+xb.size)) ?s1 ?f1 ⟨sm,_,_,_,_,_,rfl,m,hi,hi2,hj,hj2,by omega⟩) ?p1)
  case f1=>
   rintro c st2 ⟨sm2,i,j,ou,ac,bc,rfl,m,hi,hi2,hj,hj2,hx3⟩
   exact ⟨sm2,.inr ⟨_,_,_,_,_,rfl,m,hi,hi2,hj,hj2,by omega⟩⟩
  case s1=>
   rintro y c st2 _ hy ⟨sm2,i,j,ou,ac,bc,rfl,m,hi,hi2,hj,hj2,hx3⟩
   dsimp only
   refine wpS_bind (s_elemL (i:=j - 1) (by omega) (wpS_bind (s_elemL (i:=i - 1) (by omega) ?_)))
   refine wpS_bind (s_lt (sm2.kind.trans hk) (hIb _ (List.getElem_mem _)) (hIa _ (List.getElem_mem _)) ?_)
   by_cases aw:kv (xb.toList[j - 1]'(by omega))<kv (xa.toList[i - 1]'(by omega))
   · simp only [aw,decide_true,if_true]
     refine wpS_bind (s_elemL (i:=i - 1) (by omega) ?_)
     have m2:MHa xa xb (ou.push (xa.toList[i - 1]'(by omega))) (i - 1) j:=MHa.pushA (by rw [show i - 1+1=i by omega];exact m) hA (by omega) fun z hz=>by
      refine Int.le_trans ?_ (Int.le_of_lt aw)
      exact take_le hB (n:=j - 1) (by omega) z (by rw [show j - 1+1=j by omega];exact hz)
     by_cases e1:i - 1=0
     · rw [if_pos (by simpa using e1)]
       exact wpS_pure ⟨sm2,.inl ⟨_,_,rfl,m2.done0 hA hB (.inl e1)⟩⟩
     · rw [if_neg (by simpa using e1)]
       split
       · exact wpS_pure ⟨sm2,.inr ⟨_,_,_,_,_,rfl,m2,by omega,by omega,hj,hj2,by omega⟩⟩
       · exact wpS_pure ⟨sm2,_,_,_,_,_,rfl,m2,by omega,by omega,hj,hj2,by omega⟩
   · simp only [aw,decide_false,Bool.false_eq_true,if_false]
     refine wpS_bind (s_elemL (i:=j - 1) (by omega) ?_)
     have m2:MHa xa xb (ou.push (xb.toList[j - 1]'(by omega))) i (j - 1):=MHa.pushB (by rw [show j - 1+1=j by omega];exact m) hB (by omega) fun z hz=>by
      refine Int.le_trans ?_ (Int.not_lt.mp aw)
      exact take_le hA (n:=i - 1) (by omega) z (by rw [show i - 1+1=i by omega];exact hz)
     by_cases e1:j - 1=1
     · rw [if_pos (by simpa using e1)]
       exact wpS_pure ⟨sm2,.inl ⟨_,_,rfl,m2.first hA hB hb e1 h0⟩⟩
     · rw [if_neg (by simpa using e1)]
       split
       · exact wpS_pure ⟨sm2,.inr ⟨_,_,_,_,_,rfl,m2,hi,hi2,by omega,by omega,by omega⟩⟩
       · exact wpS_pure ⟨sm2,_,_,_,_,_,rfl,m2,hi,hi2,by omega,by omega,by omega⟩
  case p1=>
   rintro c st2 ⟨sm2,⟨res,rest,rfl,me⟩ | ⟨i,j,ou,ac,bc,rfl,m,hi,hi2,hj,hj2,hx3⟩⟩
   · exact wpS_pure ⟨sm2,_,_,rfl,me⟩
   dsimp only
   refine wpS_bind (wpS_lift (wpAny_rule ⟨rfl,?_⟩))
   refine wpS_bind (wpS_mono (wpS_forRange (I:=fun y c st'=>SameSt st st'∧∃ i j ou mg ac bc,c=(none,i,j,ou,mg,ac,bc)∧MHa xa xb ou i j∧0<i∧i<xa.size∧1<j∧j≤xb.size∧i+j+x+2≤xa.size+xb.size)
    (Q:=fun c st'=>SameSt st st'∧((∃ res rest,c=(some res,rest)∧Mer xa.toList xb.toList res.toList)∨∃ i j ou mg ac bc,c=(none,i,j,ou,mg,ac,bc)∧MHa xa xb ou i j∧0<i∧i<xa.size∧1<j∧j≤xb.size∧i+j+x+2≤xa.size+xb.size)) ?s2 ?f2 ⟨sm2,_,_,_,_,_,_,rfl,m,hi,hi2,hj,hj2,hx3⟩) ?p2)
   case f2=>
    rintro c st3 ⟨sm3,i,j,ou,mg,ac,bc,rfl,m,hi,hi2,hj,hj2,hx4⟩
    exact ⟨sm3,.inr ⟨_,_,_,_,_,_,rfl,m,hi,hi2,hj,hj2,hx4⟩⟩
   case p2=>
    rintro c st3 ⟨sm3,⟨res,rest,rfl,me⟩ | ⟨i,j,ou,mg,ac,bc,rfl,m,hi,hi2,hj,hj2,hx4⟩⟩
    · exact wpS_pure ⟨sm3,_,_,rfl,me⟩
    · dsimp only
      refine wpS_bind (s_setG ?_)
      exact wpS_pure ⟨sm3.setG _,_,_,_,_,rfl,m,hi,hi2,hj,hj2,by omega⟩
   case s2=>
    rintro y c st3 _ hy ⟨sm3',i,j,ou,mg,ac,bc,rfl,m,hi,hi2,hj,hj2,hx4⟩
    dsimp only
    have sm3:=fun g=>sm3'.setG g
    obtain ⟨c1,hc1,cut1⟩:=cut_of hA (xb.toList[j - 1]'(by omega)) false 0 i (by omega)
    obtain ⟨le1,gt1⟩:=ffalse (by omega) hc1 cut1
    have m1:MHa xa xb (ou++(xa.extract c1 i).reverse) c1 j:=m.extA hA hc1 (by omega) fun t ht h1 h2 z hz=>by
     refine Int.le_trans ?_ (Int.le_of_lt (gt1 t ht h1 h2))
     exact take_le hB (n:=j - 1) (by omega) z (by rw [show j - 1+1=j by omega];exact hz)
    by_cases hmg:mg > 1
    · rw [if_pos hmg]
      refine wpS_bind (s_setG (wpS_bind (s_elemL (i:=j - 1) (by omega) ?_)))
      refine wpS_bind (s_gal (c:=c1) ((sm3 _).kind.trans hk) hIa (hIb _ (List.getElem_mem _)) (by omega) (by omega) hc1 cut1 ?_)
      dsimp only
      by_cases k0:i - c1 > 0
      · rw [if_pos k0]
        by_cases e1:c1=0
        · rw [if_pos (by simpa using e1)]
          exact wpS_pure ⟨sm3 _,.inl ⟨_,_,rfl,m1.done0 hA hB (.inl e1)⟩⟩
        · rw [if_neg (by simpa using e1)]
          refine wpS_bind (s_elemL (i:=j - 1) (by omega) ?_)
          have M2:MHa xa xb (Array.push (ou++(xa.extract c1 i).reverse) (xb.toList[j - 1]'(by omega))) c1 (j - 1):=MHa.pushB (by rw [show j - 1+1=j by omega];exact m1) hB (by omega) (fun z hz=>le1 z hz)
          by_cases e3:j - 1=1
          · rw [if_pos (by simpa using e3)]
            exact wpS_pure ⟨sm3 _,.inl ⟨_,_,rfl,M2.first hA hB hb e3 h0⟩⟩
          · rw [if_neg (by simpa using e3)]
            refine wpS_bind (s_elemL (i:=c1 - 1) (by omega) ?_)
            obtain ⟨c2,hc2,cut2⟩:=cut_of hB (xa.toList[c1 - 1]'(by omega)) true 0 (j - 1) (by omega)
            obtain ⟨lt2,ge2⟩:=ftrue (by omega) hc2 cut2
            refine wpS_bind (s_gal (c:=c2) ((sm3 _).kind.trans hk) hIb (hIa _ (List.getElem_mem _)) (by omega) (by omega) hc2 cut2 ?_)
            dsimp only
            by_cases k1:j - 1 - c2 > 0
            · rw [if_pos k1]
              have M3:MHa xa xb (Array.push (ou++(xa.extract c1 i).reverse) (xb.toList[j - 1]'(by omega))++(xb.extract c2 (j - 1)).reverse) c1 c2:=M2.extB hB hc2 (by omega) fun t ht h1 h2 z hz=>by
               refine Int.le_trans ?_ (ge2 t ht h1 h2)
               exact take_le hA (n:=c1 - 1) (by omega) z (by rw [show c1 - 1+1=c1 by omega];exact hz)
              by_cases e4:c2=1
              · rw [if_pos (by simpa using e4)]
                exact wpS_pure ⟨sm3 _,.inl ⟨_,_,rfl,M3.first hA hB hb e4 h0⟩⟩
              · rw [if_neg (by simpa using e4)]
                by_cases e6:c2=0
                · rw [if_pos (by simpa using e6)]
                  exact wpS_pure ⟨sm3 _,.inl ⟨_,_,rfl,M3.done0 hA hB (.inr e6)⟩⟩
                · rw [if_neg (by simpa using e6)]
                  refine wpS_bind (s_elemL (i:=c1 - 1) (by omega) ?_)
                  have M4:MHa xa xb (Array.push (Array.push (ou++(xa.extract c1 i).reverse) (xb.toList[j - 1]'(by omega))++(xb.extract c2 (j - 1)).reverse) (xa.toList[c1 - 1]'(by omega))) (c1 - 1) c2:=MHa.pushA (by rw [show c1 - 1+1=c1 by omega];exact M3) hA (by omega) (fun z hz=>Int.le_of_lt (lt2 z hz))
                  by_cases e5:c1 - 1=0
                  · rw [if_pos (by simpa using e5)]
                    exact wpS_pure ⟨sm3 _,.inl ⟨_,_,rfl,M4.done0 hA hB (.inl e5)⟩⟩
                  · rw [if_neg (by simpa using e5)]
                    split
                    · exact wpS_pure ⟨sm3 _,.inr ⟨_,_,_,_,_,_,rfl,M4,by omega,by omega,by omega,by omega,by omega⟩⟩
                    · exact wpS_pure ⟨sm3 _,_,_,_,_,_,_,rfl,M4,by omega,by omega,by omega,by omega,by omega⟩
            · rw [if_neg k1]
              have c20:c2=j - 1:=by omega
              refine wpS_bind (s_elemL (i:=c1 - 1) (by omega) ?_)
              have M4:MHa xa xb (Array.push (Array.push (ou++(xa.extract c1 i).reverse) (xb.toList[j - 1]'(by omega))) (xa.toList[c1 - 1]'(by omega))) (c1 - 1) (j - 1):=MHa.pushA (by rw [show c1 - 1+1=c1 by omega];exact M2) hA (by omega) (fun z hz=>Int.le_of_lt (lt2 z (by rw [c20];exact hz)))
              by_cases e5:c1 - 1=0
              · rw [if_pos (by simpa using e5)]
                exact wpS_pure ⟨sm3 _,.inl ⟨_,_,rfl,M4.done0 hA hB (.inl e5)⟩⟩
              · rw [if_neg (by simpa using e5)]
                split
                · exact wpS_pure ⟨sm3 _,.inr ⟨_,_,_,_,_,_,rfl,M4,by omega,by omega,by omega,by omega,by omega⟩⟩
                · exact wpS_pure ⟨sm3 _,_,_,_,_,_,_,rfl,M4,by omega,by omega,by omega,by omega,by omega⟩
      · rw [if_neg k0]
        have c10:c1=i:=by omega
        refine wpS_bind (s_elemL (i:=j - 1) (by omega) ?_)
        have M2:MHa xa xb (Array.push ou (xb.toList[j - 1]'(by omega))) i (j - 1):=MHa.pushB (by rw [show j - 1+1=j by omega];exact m) hB (by omega) (fun z hz=>le1 z (by rw [c10];exact hz))
        by_cases e3:j - 1=1
        · rw [if_pos (by simpa using e3)]
          exact wpS_pure ⟨sm3 _,.inl ⟨_,_,rfl,M2.first hA hB hb e3 h0⟩⟩
        · rw [if_neg (by simpa using e3)]
          refine wpS_bind (s_elemL (i:=i - 1) (by omega) ?_)
          obtain ⟨c2,hc2,cut2⟩:=cut_of hB (xa.toList[i - 1]'(by omega)) true 0 (j - 1) (by omega)
          obtain ⟨lt2,ge2⟩:=ftrue (by omega) hc2 cut2
          refine wpS_bind (s_gal (c:=c2) ((sm3 _).kind.trans hk) hIb (hIa _ (List.getElem_mem _)) (by omega) (by omega) hc2 cut2 ?_)
          dsimp only
          by_cases k1:j - 1 - c2 > 0
          · rw [if_pos k1]
            have M3:MHa xa xb (Array.push ou (xb.toList[j - 1]'(by omega))++(xb.extract c2 (j - 1)).reverse) i c2:=M2.extB hB hc2 (by omega) fun t ht h1 h2 z hz=>by
             refine Int.le_trans ?_ (ge2 t ht h1 h2)
             exact take_le hA (n:=i - 1) (by omega) z (by rw [show i - 1+1=i by omega];exact hz)
            by_cases e4:c2=1
            · rw [if_pos (by simpa using e4)]
              exact wpS_pure ⟨sm3 _,.inl ⟨_,_,rfl,M3.first hA hB hb e4 h0⟩⟩
            · rw [if_neg (by simpa using e4)]
              by_cases e6:c2=0
              · rw [if_pos (by simpa using e6)]
                exact wpS_pure ⟨sm3 _,.inl ⟨_,_,rfl,M3.done0 hA hB (.inr e6)⟩⟩
              · rw [if_neg (by simpa using e6)]
                refine wpS_bind (s_elemL (i:=i - 1) (by omega) ?_)
                have M4:MHa xa xb (Array.push (Array.push ou (xb.toList[j - 1]'(by omega))++(xb.extract c2 (j - 1)).reverse) (xa.toList[i - 1]'(by omega))) (i - 1) c2:=MHa.pushA (by rw [show i - 1+1=i by omega];exact M3) hA (by omega) (fun z hz=>Int.le_of_lt (lt2 z hz))
                by_cases e5:i - 1=0
                · rw [if_pos (by simpa using e5)]
                  exact wpS_pure ⟨sm3 _,.inl ⟨_,_,rfl,M4.done0 hA hB (.inl e5)⟩⟩
                · rw [if_neg (by simpa using e5)]
                  split
                  · exact wpS_pure ⟨sm3 _,.inr ⟨_,_,_,_,_,_,rfl,M4,by omega,by omega,by omega,by omega,by omega⟩⟩
                  · exact wpS_pure ⟨sm3 _,_,_,_,_,_,_,rfl,M4,by omega,by omega,by omega,by omega,by omega⟩
          · rw [if_neg k1]
            have c20:c2=j - 1:=by omega
            refine wpS_bind (s_elemL (i:=i - 1) (by omega) ?_)
            have M4:MHa xa xb (Array.push (Array.push ou (xb.toList[j - 1]'(by omega))) (xa.toList[i - 1]'(by omega))) (i - 1) (j - 1):=MHa.pushA (by rw [show i - 1+1=i by omega];exact M2) hA (by omega) (fun z hz=>Int.le_of_lt (lt2 z (by rw [c20];exact hz)))
            by_cases e5:i - 1=0
            · rw [if_pos (by simpa using e5)]
              exact wpS_pure ⟨sm3 _,.inl ⟨_,_,rfl,M4.done0 hA hB (.inl e5)⟩⟩
            · rw [if_neg (by simpa using e5)]
              split
              · exact wpS_pure ⟨sm3 _,.inr ⟨_,_,_,_,_,_,rfl,M4,by omega,by omega,by omega,by omega,by omega⟩⟩
              · exact wpS_pure ⟨sm3 _,_,_,_,_,_,_,rfl,M4,by omega,by omega,by omega,by omega,by omega⟩
    · rw [if_neg hmg]
      refine wpS_bind (s_setG (wpS_bind (s_elemL (i:=j - 1) (by omega) ?_)))
      refine wpS_bind (s_gal (c:=c1) ((sm3 _).kind.trans hk) hIa (hIb _ (List.getElem_mem _)) (by omega) (by omega) hc1 cut1 ?_)
      dsimp only
      by_cases k0:i - c1 > 0
      · rw [if_pos k0]
        by_cases e1:c1=0
        · rw [if_pos (by simpa using e1)]
          exact wpS_pure ⟨sm3 _,.inl ⟨_,_,rfl,m1.done0 hA hB (.inl e1)⟩⟩
        · rw [if_neg (by simpa using e1)]
          refine wpS_bind (s_elemL (i:=j - 1) (by omega) ?_)
          have M2:MHa xa xb (Array.push (ou++(xa.extract c1 i).reverse) (xb.toList[j - 1]'(by omega))) c1 (j - 1):=MHa.pushB (by rw [show j - 1+1=j by omega];exact m1) hB (by omega) (fun z hz=>le1 z hz)
          by_cases e3:j - 1=1
          · rw [if_pos (by simpa using e3)]
            exact wpS_pure ⟨sm3 _,.inl ⟨_,_,rfl,M2.first hA hB hb e3 h0⟩⟩
          · rw [if_neg (by simpa using e3)]
            refine wpS_bind (s_elemL (i:=c1 - 1) (by omega) ?_)
            obtain ⟨c2,hc2,cut2⟩:=cut_of hB (xa.toList[c1 - 1]'(by omega)) true 0 (j - 1) (by omega)
            obtain ⟨lt2,ge2⟩:=ftrue (by omega) hc2 cut2
            refine wpS_bind (s_gal (c:=c2) ((sm3 _).kind.trans hk) hIb (hIa _ (List.getElem_mem _)) (by omega) (by omega) hc2 cut2 ?_)
            dsimp only
            by_cases k1:j - 1 - c2 > 0
            · rw [if_pos k1]
              have M3:MHa xa xb (Array.push (ou++(xa.extract c1 i).reverse) (xb.toList[j - 1]'(by omega))++(xb.extract c2 (j - 1)).reverse) c1 c2:=M2.extB hB hc2 (by omega) fun t ht h1 h2 z hz=>by
               refine Int.le_trans ?_ (ge2 t ht h1 h2)
               exact take_le hA (n:=c1 - 1) (by omega) z (by rw [show c1 - 1+1=c1 by omega];exact hz)
              by_cases e4:c2=1
              · rw [if_pos (by simpa using e4)]
                exact wpS_pure ⟨sm3 _,.inl ⟨_,_,rfl,M3.first hA hB hb e4 h0⟩⟩
              · rw [if_neg (by simpa using e4)]
                by_cases e6:c2=0
                · rw [if_pos (by simpa using e6)]
                  exact wpS_pure ⟨sm3 _,.inl ⟨_,_,rfl,M3.done0 hA hB (.inr e6)⟩⟩
                · rw [if_neg (by simpa using e6)]
                  refine wpS_bind (s_elemL (i:=c1 - 1) (by omega) ?_)
                  have M4:MHa xa xb (Array.push (Array.push (ou++(xa.extract c1 i).reverse) (xb.toList[j - 1]'(by omega))++(xb.extract c2 (j - 1)).reverse) (xa.toList[c1 - 1]'(by omega))) (c1 - 1) c2:=MHa.pushA (by rw [show c1 - 1+1=c1 by omega];exact M3) hA (by omega) (fun z hz=>Int.le_of_lt (lt2 z hz))
                  by_cases e5:c1 - 1=0
                  · rw [if_pos (by simpa using e5)]
                    exact wpS_pure ⟨sm3 _,.inl ⟨_,_,rfl,M4.done0 hA hB (.inl e5)⟩⟩
                  · rw [if_neg (by simpa using e5)]
                    split
                    · exact wpS_pure ⟨sm3 _,.inr ⟨_,_,_,_,_,_,rfl,M4,by omega,by omega,by omega,by omega,by omega⟩⟩
                    · exact wpS_pure ⟨sm3 _,_,_,_,_,_,_,rfl,M4,by omega,by omega,by omega,by omega,by omega⟩
            · rw [if_neg k1]
              have c20:c2=j - 1:=by omega
              refine wpS_bind (s_elemL (i:=c1 - 1) (by omega) ?_)
              have M4:MHa xa xb (Array.push (Array.push (ou++(xa.extract c1 i).reverse) (xb.toList[j - 1]'(by omega))) (xa.toList[c1 - 1]'(by omega))) (c1 - 1) (j - 1):=MHa.pushA (by rw [show c1 - 1+1=c1 by omega];exact M2) hA (by omega) (fun z hz=>Int.le_of_lt (lt2 z (by rw [c20];exact hz)))
              by_cases e5:c1 - 1=0
              · rw [if_pos (by simpa using e5)]
                exact wpS_pure ⟨sm3 _,.inl ⟨_,_,rfl,M4.done0 hA hB (.inl e5)⟩⟩
              · rw [if_neg (by simpa using e5)]
                split
                · exact wpS_pure ⟨sm3 _,.inr ⟨_,_,_,_,_,_,rfl,M4,by omega,by omega,by omega,by omega,by omega⟩⟩
                · exact wpS_pure ⟨sm3 _,_,_,_,_,_,_,rfl,M4,by omega,by omega,by omega,by omega,by omega⟩
      · rw [if_neg k0]
        have c10:c1=i:=by omega
        refine wpS_bind (s_elemL (i:=j - 1) (by omega) ?_)
        have M2:MHa xa xb (Array.push ou (xb.toList[j - 1]'(by omega))) i (j - 1):=MHa.pushB (by rw [show j - 1+1=j by omega];exact m) hB (by omega) (fun z hz=>le1 z (by rw [c10];exact hz))
        by_cases e3:j - 1=1
        · rw [if_pos (by simpa using e3)]
          exact wpS_pure ⟨sm3 _,.inl ⟨_,_,rfl,M2.first hA hB hb e3 h0⟩⟩
        · rw [if_neg (by simpa using e3)]
          refine wpS_bind (s_elemL (i:=i - 1) (by omega) ?_)
          obtain ⟨c2,hc2,cut2⟩:=cut_of hB (xa.toList[i - 1]'(by omega)) true 0 (j - 1) (by omega)
          obtain ⟨lt2,ge2⟩:=ftrue (by omega) hc2 cut2
          refine wpS_bind (s_gal (c:=c2) ((sm3 _).kind.trans hk) hIb (hIa _ (List.getElem_mem _)) (by omega) (by omega) hc2 cut2 ?_)
          dsimp only
          by_cases k1:j - 1 - c2 > 0
          · rw [if_pos k1]
            have M3:MHa xa xb (Array.push ou (xb.toList[j - 1]'(by omega))++(xb.extract c2 (j - 1)).reverse) i c2:=M2.extB hB hc2 (by omega) fun t ht h1 h2 z hz=>by
             refine Int.le_trans ?_ (ge2 t ht h1 h2)
             exact take_le hA (n:=i - 1) (by omega) z (by rw [show i - 1+1=i by omega];exact hz)
            by_cases e4:c2=1
            · rw [if_pos (by simpa using e4)]
              exact wpS_pure ⟨sm3 _,.inl ⟨_,_,rfl,M3.first hA hB hb e4 h0⟩⟩
            · rw [if_neg (by simpa using e4)]
              by_cases e6:c2=0
              · rw [if_pos (by simpa using e6)]
                exact wpS_pure ⟨sm3 _,.inl ⟨_,_,rfl,M3.done0 hA hB (.inr e6)⟩⟩
              · rw [if_neg (by simpa using e6)]
                refine wpS_bind (s_elemL (i:=i - 1) (by omega) ?_)
                have M4:MHa xa xb (Array.push (Array.push ou (xb.toList[j - 1]'(by omega))++(xb.extract c2 (j - 1)).reverse) (xa.toList[i - 1]'(by omega))) (i - 1) c2:=MHa.pushA (by rw [show i - 1+1=i by omega];exact M3) hA (by omega) (fun z hz=>Int.le_of_lt (lt2 z hz))
                by_cases e5:i - 1=0
                · rw [if_pos (by simpa using e5)]
                  exact wpS_pure ⟨sm3 _,.inl ⟨_,_,rfl,M4.done0 hA hB (.inl e5)⟩⟩
                · rw [if_neg (by simpa using e5)]
                  split
                  · exact wpS_pure ⟨sm3 _,.inr ⟨_,_,_,_,_,_,rfl,M4,by omega,by omega,by omega,by omega,by omega⟩⟩
                  · exact wpS_pure ⟨sm3 _,_,_,_,_,_,_,rfl,M4,by omega,by omega,by omega,by omega,by omega⟩
          · rw [if_neg k1]
            have c20:c2=j - 1:=by omega
            refine wpS_bind (s_elemL (i:=i - 1) (by omega) ?_)
            have M4:MHa xa xb (Array.push (Array.push ou (xb.toList[j - 1]'(by omega))) (xa.toList[i - 1]'(by omega))) (i - 1) (j - 1):=MHa.pushA (by rw [show i - 1+1=i by omega];exact M2) hA (by omega) (fun z hz=>Int.le_of_lt (lt2 z (by rw [c20];exact hz)))
            by_cases e5:i - 1=0
            · rw [if_pos (by simpa using e5)]
              exact wpS_pure ⟨sm3 _,.inl ⟨_,_,rfl,M4.done0 hA hB (.inl e5)⟩⟩
            · rw [if_neg (by simpa using e5)]
              split
              · exact wpS_pure ⟨sm3 _,.inr ⟨_,_,_,_,_,_,rfl,M4,by omega,by omega,by omega,by omega,by omega⟩⟩
              · exact wpS_pure ⟨sm3 _,_,_,_,_,_,_,rfl,M4,by omega,by omega,by omega,by omega,by omega⟩
end
def PM:List (Nat×Nat×Nat)→List (List Keyed)→Nat→Prop
 | [],[],_=>True
 | p::r,l::ls,lo=>p.1=lo∧p.2.1=l.length∧PM r ls (lo+l.length)
 | _,_,_=>False
theorem PM.len:∀ {ps:List (Nat×Nat×Nat)} {ls:List (List Keyed)} {lo:Nat},PM ps ls lo→ps.length=ls.length
 | [],[],_,_=>rfl
 | _::r,_::ls,lo,h=>by rw [List.length_cons,List.length_cons,PM.len h.2.2]
 | [],_::_,_,h=>h.elim
 | _::_,[],_,h=>h.elim
theorem PM.at:∀ {ps:List (Nat×Nat×Nat)} {a:List (List Keyed)} {l:List Keyed} {b:List (List Keyed)} {lo:Nat},PM ps (a++l::b) lo→∃ pw,ps[a.length]? = some (lo+a.flatten.length,l.length,pw)
 | (s,n,p)::r,[],l,b,lo,h=>⟨p,by have h1:=h.1;have h2:=h.2.1;simp only at h1 h2;subst h1 h2;rfl⟩
 | p::r,x::a,l,b,lo,h=>by
   obtain ⟨pw,e⟩:=PM.at (a:=a) h.2.2
   refine ⟨pw,?_⟩
   rw [List.length_cons,List.getElem?_cons_succ,e,List.flatten_cons,List.length_append,Nat.add_assoc]
 | [],[],_,_,_,h=>h.elim
 | [],_::_,_,_,_,h=>h.elim
theorem PM.merge:∀ {ps:List (Nat×Nat×Nat)} {a:List (List Keyed)} {l m:List Keyed} {b:List (List Keyed)} {lo:Nat} {x:List Keyed} {pw:Nat},PM ps (a++l::m::b) lo→x.length=l.length+m.length →
 PM ((ps.set a.length (lo+a.flatten.length,l.length+m.length,pw)).eraseIdx (a.length+1)) (a++x::b) lo
 | p::q::r,[],l,m,b,lo,x,pw,h,hx=>by
   obtain ⟨h1,h2,h3,h4,h5⟩:=h
   show PM ((lo+0,l.length+m.length,pw)::r) (x::b) lo
   refine ⟨rfl,hx.symm,?_⟩
   rw [hx,← Nat.add_assoc]
   exact h5
 | p::r,y::a,l,m,b,lo,x,pw,h,hx=>by
   obtain ⟨h1,h2,h3⟩:=h
   have ih:=PM.merge (pw:=pw) h3 hx
   show PM (p::((r.set a.length _).eraseIdx (a.length+1))) (y::(a++x::b)) lo
   refine ⟨h1,h2,?_⟩
   rw [List.flatten_cons,List.length_append,← Nat.add_assoc]
   exact ih
 | [],[],_,_,_,_,_,_,h,_=>h.elim
 | [_],[],_,_,_,_,_,_,h,_=>h.2.2.elim
 | [],_::_,_,_,_,_,_,_,h,_=>h.elim
theorem seg_at {xs:Array Keyed} {pre R post:List Keyed} (e:xs.toList=pre++R++post) {t:Nat} (ht:t<R.length):xs[pre.length+t]? = some R[t]:=by
 rw [← Array.getElem?_toList,e,List.append_assoc,List.getElem?_append_right (by omega),Nat.add_sub_cancel_left,List.getElem?_append_left ht,List.getElem?_eq_getElem ht]
theorem cut_seg {xs:Array Keyed} {R:List Keyed} (hs:R.Pairwise Le) (ky:Keyed) (lf:Bool) (bs:Nat) (hK:∀ t (h:t<R.length),K xs (bs+t)=kv R[t]):∃ c,c≤R.length∧∀ i,i<R.length→Byd lf ky xs bs i=decide (i<c):=by
 have down:∀ i j,i≤j→j<R.length→Byd lf ky xs bs j=true→Byd lf ky xs bs i=true:=fun i j hij hj h=>by
  have hm:kv (R[i]'(by omega))≤kv R[j]:=by
   by_cases e:i=j
   · subst e;exact Int.le_refl _
   · exact List.pairwise_iff_getElem.mp hs _ _ _ _ (by omega)
  unfold Byd at h ⊢
  rw [hK j hj] at h
  rw [hK i (by omega)]
  cases lf with
  | true=>simp only [if_true,decide_eq_true_eq] at h ⊢;omega
  | false=>simp only [Bool.false_eq_true,if_false,Bool.not_eq_true',decide_eq_false_iff_not] at h ⊢;omega
 have main:∀ n,n≤R.length→∃ c,c≤n∧∀ i,i<n→Byd lf ky xs bs i=decide (i<c):=by
  intro n
  induction n with
  | zero=>exact fun _=>⟨0,Nat.le_refl _,fun i hi=>absurd hi (Nat.not_lt_zero _)⟩
  | succ n ih=>
    intro hn
    obtain ⟨c,hc,hd⟩:=ih (by omega)
    by_cases hb:Byd lf ky xs bs n=true
    · refine ⟨n+1,Nat.le_refl _,fun i hi=>?_⟩
      rw [decide_eq_true hi]
      exact down i n (by omega) (by omega) hb
    · refine ⟨c,by omega,fun i hi=>?_⟩
      by_cases h:i=n
      · subst h
        rw [decide_eq_false (by omega)]
        exact Bool.not_eq_true _▸(by simpa using hb)
      · exact hd i (by omega)
 exact main _ (Nat.le_refl _)
theorem write_back:∀ (l:List Keyed) (k off:Nat) (xs:Array Keyed),off+k+l.length≤xs.size→((l.zipIdx k).foldl (fun a (x:Keyed×Nat)=>a.setIfInBounds (off+x.2) x.1) xs).toList=xs.toList.take (off+k)++l++xs.toList.drop (off+k+l.length)
 | [],k,off,xs,_=>by simp
 | p::l,k,off,xs,h=>by
   rw [List.zipIdx_cons,List.foldl_cons]
   rw [List.length_cons] at h
   rw [write_back l (k+1) off _ (by rw [Array.size_setIfInBounds];omega)]
   rw [Array.toList_setIfInBounds]
   have hlen:off+k<xs.toList.length:=by rw [Array.length_toList];omega
   rw [List.drop_set_of_lt (by omega),List.length_cons]
   have e1:(xs.toList.set (off+k) p).take (off+(k+1))=xs.toList.take (off+k)++[p]:=by
    rw [← Nat.add_assoc,List.take_succ,List.take_set_of_le (by omega),List.getElem?_set_self hlen]
    rfl
   have e2:off+(k+1)+l.length=off+k+(l.length+1):=by omega
   rw [e1,e2]
   simp
theorem pw3 {a b c:List Keyed} (ha:a.Pairwise Le) (hb:b.Pairwise Le) (hc:c.Pairwise Le) (hab:∀ x∈a,∀ y∈b,kv x≤kv y) (hac:∀ x∈a,∀ y∈c,kv x≤kv y) (hbc:∀ x∈b,∀ y∈c,kv x≤kv y):(a++b++c).Pairwise Le:=by
 refine List.pairwise_append.mpr ⟨List.pairwise_append.mpr ⟨ha,hb,hab⟩,hc,fun x hx y hy=>?_⟩
 rcases List.mem_append.mp hx with hx | hx
 · exact hac x hx y hy
 · exact hbc x hx y hy
def mat:Nat→StateT SortSt Sem Bool:=sortPriv% PySem.Builtin.mergeAt
theorem mat_is:mergeAt'=mat:=rfl
theorem mat_eq (i:Nat):mat i=(do
 let z ← get
 let (some (p,n,pw),some (q,m,_)):=((pendingOf z)[i]?,(pendingOf z)[i+1]?) | unsupported "internal:list.sort.pending"
 set (setPending z (((pendingOf z).setIfInBounds i (p,n+m,pw)).eraseIdxIfInBounds (i+1)))
 let some k ← gal false (← elem' (arrOf z) q) (arrOf z) p n 0 | return false
 let (p,n):=(p+k,n - k)
 if n == 0 then return true
 let some m ← gal true (← elem' (arrOf z) (p+n - 1)) (arrOf z) q m (m - 1) | return false
 if m == 0 then return true
 let x:=(arrOf z).extract p q
 let y:=(arrOf z).extract q (q+m)
 let mg ← if n≤m then mlo x y else mhi x y
 modify fun v=>setArr v (mg.toList.zipIdx.foldl (fun a (u,j)=>a.setIfInBounds (p+j) u) (arrOf v))
 return (failedOf (← get)).isNone):=rfl
theorem s_set {prog:Program} {w:World} {A:Around} {E:Value→Shared→Prop} {s:Shared} {st v:SortSt} {Q:PUnit→SortSt→Prop} (h:Q ⟨⟩ v):wpS (model prog w) A E s (set v:StateT SortSt Sem PUnit) Q st:=by
 unfold wpS
 rw [StateT.run_set]
 exact wpAny_pure ⟨rfl,h⟩
theorem drop_pre:∀ (p z:List Keyed) (c:Nat),(p++z).drop (p.length+c)=z.drop c
 | [],z,c=>by simp
 | x::p,z,c=>by
   rw [List.length_cons,show p.length+1+c=p.length+c+1 by omega,List.cons_append,List.drop_succ_cons]
   exact drop_pre p z c
theorem ext_seg {xs:Array Keyed} {pre R post:List Keyed} (e:xs.toList=pre++R++post) (c d:Nat) (hd:d≤R.length) (hc:c≤d):(xs.extract (pre.length+c) (pre.length+d)).toList=(R.drop c).take (d - c):=by
 rw [Array.toList_extract,List.extract_eq_drop_take,e,List.append_assoc,drop_pre]
 have:(R++post).drop c=R.drop c++post:=List.drop_append_of_le_length (by omega)
 rw [this,show pre.length+d - (pre.length+c)=d - c by omega,List.take_append_of_le_length (by rw [List.length_drop];omega)]
theorem AllI.sub {xs ys:Array Keyed} (h:AllI xs) (hs:∀ p∈ys.toList,p∈xs.toList):AllI ys:=fun p hp=>h p (hs p hp)
section
variable {prog:Program} {w:World} {A:Around} {E:Value→Shared→Prop} {s:Shared}
structure Kept (a b:SortSt):Prop where
 kind:kindOf b=kindOf a
 fail:failedOf b=failedOf a
theorem s_mat {st:SortSt} {L1 L2:List (List Keyed)} {R1 R2 rest:List Keyed} {Q:Bool→SortSt→Prop} (hk:kindOf st=oneType') (hf:failedOf st=none) (hI:AllI (arrOf st))
 (ha:(arrOf st).toList=(L1++R1::R2::L2).flatten++rest) (pm:PM (pendingOf st).toList (L1++R1::R2::L2) 0) (n1:R1≠[]) (n2:R2≠[]) (s1:R1.Pairwise Le) (s2:R2.Pairwise Le)
 (h:∀ st' R,Kept st st'→R.Perm (R1++R2)→R.Pairwise Le→(arrOf st').toList=(L1++R::L2).flatten++rest→PM (pendingOf st').toList (L1++R::L2) 0→Q true st'):wpS (model prog w) A E s (mat L1.length) Q st:=by
 have p1:0<R1.length:=List.length_pos_iff.mpr n1
 have p2:0<R2.length:=List.length_pos_iff.mpr n2
 obtain ⟨pw,e1⟩:=pm.at
 have e2':=(show PM (pendingOf st).toList ((L1++[R1])++R2::L2) 0 by rw [List.append_assoc];exact pm).at
 obtain ⟨pw2,e2⟩:=e2'
 rw [List.length_append,List.length_singleton,List.flatten_append,List.flatten_cons,List.flatten_nil,List.append_nil,List.length_append] at e2
 rw [Array.getElem?_toList] at e1 e2
 have ea:(arrOf st).toList=L1.flatten++R1++(R2++L2.flatten++rest):=by rw [ha];simp
 have eb:(arrOf st).toList=(L1.flatten++R1)++R2++(L2.flatten++rest):=by rw [ha];simp
 have hsz:(arrOf st).size=L1.flatten.length+R1.length+R2.length+L2.flatten.length+rest.length:=by
  rw [← Array.length_toList,ha]
  simp only [List.flatten_append,List.flatten_cons,List.length_append]
  omega
 have pmR:∀ R:List Keyed,R.length=R1.length+R2.length→PM (((pendingOf st).setIfInBounds L1.length (0+L1.flatten.length,R1.length+R2.length,pw)).eraseIdxIfInBounds (L1.length+1)).toList (L1++R::L2) 0:=fun R hR=>by
  have:=PM.merge (pw:=pw) pm hR
  rw [Array.toList_eraseIdxIfInBounds,Array.toList_setIfInBounds]
  exact this
 have join:(L1++(R1++R2)::L2).flatten++rest=(arrOf st).toList:=by rw [ha];simp
 rw [mat_eq]
 refine wpS_bind (wpS_get ?_)
 rw [e1,e2]
 dsimp only
 refine wpS_bind (s_set ?_)
 have g2:(arrOf st)[0+(L1.flatten.length+R1.length)]? = some R2[0]:=by
  have:=seg_at eb p2
  rw [List.length_append,Nat.add_zero] at this
  rw [Nat.zero_add];exact this
 refine wpS_bind (s_elem g2 ?_)
 have hK1:∀ t (ht:t<R1.length),K (arrOf st) (0+L1.flatten.length+t)=kv R1[t]:=fun t ht=>by
  rw [Nat.zero_add];exact K_of (seg_at ea ht)
 have hK2:∀ t (ht:t<R2.length),K (arrOf st) (0+(L1.flatten.length+R1.length)+t)=kv R2[t]:=fun t ht=>by
  have:=K_of (seg_at eb ht)
  rw [List.length_append] at this
  rw [Nat.zero_add];exact this
 have hI2:IsI R2[0]:=hI _ (by rw [eb];exact List.mem_append_left _ (List.mem_append_right _ (List.getElem_mem _)))
 obtain ⟨c,hc,cut⟩:=cut_seg s1 R2[0] false (0+L1.flatten.length) hK1
 have lo:∀ t (ht:t<R1.length),t<c→kv R1[t]≤kv R2[0]:=fun t ht htc=>by
  have:=cut t ht
  unfold Byd at this
  rw [hK1 t ht,decide_eq_true htc] at this
  simp only [Bool.false_eq_true,if_false,Bool.not_eq_true',decide_eq_false_iff_not] at this
  omega
 have up:∀ t (ht:t<R1.length),c≤t→kv R2[0]<kv R1[t]:=fun t ht htc=>by
  have:=cut t ht
  unfold Byd at this
  rw [hK1 t ht,decide_eq_false (show ¬ t<c by omega)] at this
  simpa using this
 refine wpS_bind (s_gal (st:=setPending st _) (c:=c) hk hI hI2 (by omega) p1 hc cut ?_)
 dsimp only
 have b0:∀ y∈R2,kv R2[0]≤kv y:=fun y hy=>head_le s2 p2 y (by simpa using hy)
 by_cases c1:R1.length - c=0
 · rw [if_pos (by simpa using c1)]
   refine wpS_pure (h _ (R1++R2) ⟨rfl,rfl⟩ (List.Perm.refl _) ?_ join.symm (pmR _ (by rw [List.length_append])))
   refine List.pairwise_append.mpr ⟨s1,s2,fun x hx y hy=>?_⟩
   obtain ⟨t,ht,rfl⟩:=List.mem_iff_getElem.mp hx
   exact Int.le_trans (lo t ht (by omega)) (b0 y hy)
 rw [if_neg (by simpa using c1)]
 have gl:(arrOf st)[0+L1.flatten.length+c+(R1.length - c) - 1]? = some (R1[R1.length - 1]'(by omega)):=by
  have:=seg_at ea (t:=R1.length - 1) (by omega)
  rw [show 0+L1.flatten.length+c+(R1.length - c) - 1=L1.flatten.length+(R1.length - 1) by omega];exact this
 refine wpS_bind (s_elem gl ?_)
 have hI1:IsI (R1[R1.length - 1]'(by omega)):=hI _ (by rw [ea];exact List.mem_append_left _ (List.mem_append_right _ (List.getElem_mem _)))
 obtain ⟨d,hd,cut2⟩:=cut_seg s2 (R1[R1.length - 1]'(by omega)) true (0+(L1.flatten.length+R1.length)) hK2
 have lo2:∀ t (ht:t<R2.length),t<d→kv R2[t]<kv (R1[R1.length - 1]'(by omega)):=fun t ht htc=>by
  have:=cut2 t ht
  unfold Byd at this
  rw [hK2 t ht,decide_eq_true htc] at this
  simpa using this
 have up2:∀ t (ht:t<R2.length),d≤t→kv (R1[R1.length - 1]'(by omega))≤kv R2[t]:=fun t ht htc=>by
  have:=cut2 t ht
  unfold Byd at this
  rw [hK2 t ht,decide_eq_false (show ¬ t<d by omega)] at this
  simpa using this
 refine wpS_bind (s_gal (st:=setPending st _) (c:=d) hk hI hI1 (by omega) (by omega) hd cut2 ?_)
 dsimp only
 have lastA:∀ x∈R1,kv x≤kv (R1[R1.length - 1]'(by omega)):=fun x hx=>by
  refine take_le s1 (n:=R1.length - 1) (by omega) x ?_
  rw [List.take_of_length_le (by omega)];exact hx
 by_cases c2:d=0
 · rw [if_pos (by simpa using c2)]
   refine wpS_pure (h _ (R1++R2) ⟨rfl,rfl⟩ (List.Perm.refl _) ?_ join.symm (pmR _ (by rw [List.length_append])))
   refine List.pairwise_append.mpr ⟨s1,s2,fun x hx y hy=>?_⟩
   exact Int.le_trans (lastA x hx) (Int.le_trans (up2 0 p2 (by omega)) (b0 y hy))
 rw [if_neg (by simpa using c2)]
 have ex:((arrOf st).extract (0+L1.flatten.length+c) (0+(L1.flatten.length+R1.length))).toList=R1.drop c:=by
  have:=ext_seg ea c R1.length (Nat.le_refl _) hc
  rw [Nat.zero_add,Nat.zero_add,this,List.take_of_length_le (by rw [List.length_drop];exact Nat.le_refl _)]
 have ey:((arrOf st).extract (0+(L1.flatten.length+R1.length)) (0+(L1.flatten.length+R1.length)+d)).toList=R2.take d:=by
  have:=ext_seg eb 0 d hd (Nat.zero_le _)
  rw [List.length_append,Nat.add_zero,List.drop_zero,Nat.sub_zero] at this
  rw [Nat.zero_add];exact this
 generalize hx:(arrOf st).extract (0+L1.flatten.length+c) (0+(L1.flatten.length+R1.length))=xx at ex ⊢
 generalize hy:(arrOf st).extract (0+(L1.flatten.length+R1.length)) (0+(L1.flatten.length+R1.length)+d)=yy at ey ⊢
 have Ix:AllI xx:=hI.sub fun p hp=>by rw [ex] at hp;rw [ea];exact List.mem_append_left _ (List.mem_append_right _ (List.mem_of_mem_drop hp))
 have Iy:AllI yy:=hI.sub fun p hp=>by rw [ey] at hp;rw [eb];exact List.mem_append_left _ (List.mem_append_right _ (List.mem_of_mem_take hp))
 have Sx:xx.toList.Pairwise Le:=by rw [ex];exact s1.sublist (List.drop_sublist _ _)
 have Sy:yy.toList.Pairwise Le:=by rw [ey];exact s2.sublist (List.take_sublist _ _)
 have lx:xx.toList.length=R1.length - c:=by rw [ex,List.length_drop]
 have ly:yy.toList.length=d:=by rw [ey,List.length_take];omega
 have y0:yy.toList[0]'(by omega)=R2[0]:=by simp only [ey,List.getElem_take]
 have xl:xx.toList[xx.toList.length - 1]'(by omega)=R1[R1.length - 1]'(by omega):=by
  simp only [ex,List.getElem_drop,List.length_drop]
  congr 1
  omega
 have h0:∀ z∈xx.toList,kv (yy.toList[0]'(by omega))≤kv z:=fun z hz=>by
  rw [y0]
  rw [ex] at hz
  obtain ⟨u,hu,rfl⟩:=mem_dropE hz
  exact Int.le_of_lt (up _ hu (by omega))
 have hl:∀ z∈yy.toList,kv z≤kv (xx.toList[xx.toList.length - 1]'(by omega)):=fun z hz=>by
  rw [xl]
  rw [ey] at hz
  obtain ⟨u,hu,rfl⟩:=List.mem_iff_getElem.mp hz
  rw [List.length_take] at hu
  rw [List.getElem_take]
  exact Int.le_of_lt (lo2 u (by omega) (by omega))
 have fin:∀ (o:Array Keyed) (st2:SortSt),SameSt (setPending st (((pendingOf st).setIfInBounds L1.length (0+L1.flatten.length,R1.length+R2.length,pw)).eraseIdxIfInBounds (L1.length+1))) st2→Mer xx.toList yy.toList o.toList →
  wpS (model prog w) A E s (do modify fun v=>setArr v (o.toList.zipIdx.foldl (fun a (u,j)=>a.setIfInBounds (0+L1.flatten.length+c+j) u) (arrOf v));return (failedOf (← get)).isNone) Q st2:=by
  intro o st2 sm me
  refine wpS_bind (wpS_modify (wpS_bind (wpS_get ?_)))
  have hf2:failedOf st2=none:=sm.fail.trans hf
  show wpS _ _ _ _ (pure (failedOf st2).isNone) Q _
  rw [hf2]
  have harr:arrOf st2=arrOf st:=sm.arr
  have lo':o.toList.length=R1.length - c+d:=by rw [me.perm.length_eq,List.length_append,lx,ly]
  have hwb:=write_back o.toList 0 (0+L1.flatten.length+c) (arrOf st) (by rw [lo'];omega)
  refine wpS_pure (h _ (R1.take c++o.toList++R2.drop d) ⟨sm.kind,sm.fail⟩ ?_ ?_ ?_ ?_)
  · have e:=me.perm
    rw [ex,ey] at e
    have e3:(R1.take c++o.toList++R2.drop d).Perm (R1.take c++(R1.drop c++R2.take d)++R2.drop d):=List.Perm.append_right _ (List.Perm.append_left _ e)
    have e4:R1.take c++(R1.drop c++R2.take d)++R2.drop d=R1++R2:=by
     rw [← List.append_assoc,List.take_append_drop,List.append_assoc,List.take_append_drop]
    rw [e4] at e3
    exact e3
  · have om:∀ z∈o.toList,z∈R1.drop c∨z∈R2.take d:=fun z hz=>by
     have:=me.perm.mem_iff.mp hz
     rw [ex,ey] at this
     exact List.mem_append.mp this
    have ta:∀ x∈R1.take c,kv x≤kv R2[0]:=fun x hx=>by
     obtain ⟨u,hu,rfl⟩:=List.mem_iff_getElem.mp hx
     rw [List.length_take] at hu
     rw [List.getElem_take]
     exact lo u (by omega) (by omega)
    have td:∀ y∈R2.drop d,kv (R1[R1.length - 1]'(by omega))≤kv y:=fun y hy=>by
     obtain ⟨u,hu,rfl⟩:=mem_dropE hy
     exact up2 _ hu (by omega)
    refine pw3 (s1.sublist (List.take_sublist _ _)) me.srt (s2.sublist (List.drop_sublist _ _)) (fun x hx y hy=>?_) (fun x hx y hy=>?_) (fun x hx y hy=>?_)
    · rcases om y hy with hy | hy
      · obtain ⟨u,hu,rfl⟩:=mem_dropE hy
        exact Int.le_trans (ta x hx) (Int.le_of_lt (up _ hu (by omega)))
      · exact Int.le_trans (ta x hx) (b0 y (List.mem_of_mem_take hy))
    · exact Int.le_trans (ta x hx) (b0 y (List.mem_of_mem_drop hy))
    · rcases om x hx with hx | hx
      · exact Int.le_trans (lastA x (List.mem_of_mem_drop hx)) (td y hy)
      · obtain ⟨u,hu,rfl⟩:=List.mem_iff_getElem.mp hx
        rw [List.length_take] at hu
        rw [List.getElem_take]
        exact Int.le_trans (Int.le_of_lt (lo2 u (by omega) (by omega))) (td y hy)
  · show (o.toList.zipIdx.foldl (fun a (x:Keyed×Nat)=>a.setIfInBounds (0+L1.flatten.length+c+x.2) x.1) (arrOf st2)).toList=_
    rw [harr]
    refine hwb.trans ?_
    rw [Nat.add_zero,lo']
    have t1:(arrOf st).toList.take (0+L1.flatten.length+c)=L1.flatten++R1.take c:=by
     rw [ea,List.append_assoc,Nat.zero_add,List.take_append,List.take_of_length_le (by omega),Nat.add_sub_cancel_left,List.take_append_of_le_length (by omega)]
    have t2:(arrOf st).toList.drop (0+L1.flatten.length+c+(R1.length - c+d))=R2.drop d++(L2.flatten++rest):=by
     rw [eb,List.append_assoc,show 0+L1.flatten.length+c+(R1.length - c+d)=(L1.flatten++R1).length+d by rw [List.length_append];omega,drop_pre,List.drop_append_of_le_length (by omega)]
    rw [t1,t2]
    simp only [List.flatten_append,List.flatten_cons,List.append_assoc]
  · show PM (pendingOf st2).toList _ _
    rw [sm.pend]
    refine pmR _ ?_
    rw [List.length_append,List.length_append,List.length_take,List.length_drop,lo']
    omega
 by_cases c3:R1.length - c≤d
 · rw [if_pos c3]
   exact wpS_bind (s_mlo hk Ix Iy Sx Sy (by omega) (by omega) h0 hl fun o st2 sm me=>fin o st2 sm me)
 · rw [if_neg c3]
   exact wpS_bind (s_mhi hk Ix Iy Sx Sy (by omega) (by omega) h0 hl fun o st2 sm me=>fin o st2 sm me)
end
structure SX (a₀:Array Keyed) (lo:Nat) (st₀ st:SortSt):Prop where
 perm:(arrOf st).Perm a₀
 kind:kindOf st=oneType'
 fail:failedOf st=none
 pend:pendingOf st=pendingOf st₀
 pre:∀ k,k<lo→(arrOf st)[k]? = a₀[k]?
theorem SX.size {a₀:Array Keyed} {lo:Nat} {st₀ st:SortSt} (h:SX a₀ lo st₀ st):(arrOf st).size=a₀.size:=h.perm.size_eq
theorem SX.setA {a₀:Array Keyed} {lo:Nat} {st₀ st:SortSt} (h:SX a₀ lo st₀ st) {xs:Array Keyed} (hp:xs.Perm (arrOf st)) (he:∀ k,k<lo→xs[k]? = (arrOf st)[k]?):SX a₀ lo st₀ (setArr st xs):=
 ⟨hp.trans h.perm,h.kind,h.fail,h.pend,fun k hk=>(he k hk).trans (h.pre k hk)⟩
def SrtL (xs:Array Keyed) (lo n:Nat):Prop:=∀ i j,i≤j→j<n→K xs (lo+i)≤K xs (lo+j)
def NonL (xs:Array Keyed) (lo n:Nat):Prop:=∀ i j,i≤j→j<n→K xs (lo+j)≤K xs (lo+i)
section
variable {prog:Program} {w:World} {A:Around} {E:Value→Shared→Prop} {s:Shared} {a₀:Array Keyed} {lo:Nat} {st₀:SortSt}
theorem sx_lt {st:SortSt} {i j:Nat} {Q:Option Bool→SortSt→Prop} (hX:SX a₀ lo st₀ st) (h0:AllI a₀) (hi:i<a₀.size) (hj:j<a₀.size) (h:Q (some (decide (K (arrOf st) i<K (arrOf st) j))) st):wpS (model prog w) A E s (ltAt' i j) Q st:=by
 have get:∀ k,k<a₀.size→∃ t q,(arrOf st)[k]? = some (.int (K (arrOf st) k) t,q):=fun k hk=>by
  have hk':k<(arrOf st).size:=by rw [hX.size];exact hk
  have hm:(arrOf st)[k]∈a₀.toList:=(Array.perm_iff_toList_perm.mp hX.perm).mem_iff.mp (by simp)
  obtain ⟨t,ht⟩:=h0 _ hm
  have e:=getElem?_pos (arrOf st) k hk'
  refine ⟨t,(arrOf st)[k].2,?_⟩
  rw [K_of e,e]
  exact congrArg some (Prod.ext ht rfl)
 obtain ⟨t,p,e1⟩:=get i hi
 obtain ⟨u,q,e2⟩:=get j hj
 exact wpS_ltAt hX.kind e1 e2 h
theorem sx_mirror {st:SortSt} {i j:Nat} (hX:SX a₀ lo st₀ st) (hi:lo≤i) (hj:j≤a₀.size):SX a₀ lo st₀ (setArr st (mirror (arrOf st) i j ((j - i) / 2))):=
 hX.setA (mirror_perm _ _ _ _) fun k hk=>by
  rw [getElem?_mirror_all (by rw [hX.size];exact hj),if_neg (by omega)]
theorem s_bin {st:SortSt} {n ok:Nat} {Q:Bool→SortSt→Prop} (h0:AllI a₀) (hn:lo+n≤a₀.size) (hok:ok≤n) (hX:SX a₀ lo st₀ st) (hs:SrtL (arrOf st) lo ok)
 (h:∀ st',SX a₀ lo st₀ st'→SrtL (arrOf st') lo n→Q true st'):wpS (model prog w) A E s (binarySort' lo n ok) Q st:=by
 rw [binarySort'_eq]
 refine wpS_bind (wpS_mono (wpS_forRange (I:=fun k c z=>c=(none,())∧SX a₀ lo st₀ z∧SrtL (arrOf z) lo (min k n)) (Q:=fun c z=>c=(none,())∧SX a₀ lo st₀ z∧SrtL (arrOf z) lo n) ?st1 ?fi1 ?in1) ?po1)
 case po1=>rintro c z ⟨rfl,zX,zs⟩;exact wpS_pure (h z zX zs)
 case in1=>
  refine ⟨rfl,hX,fun i j hij hj=>?_⟩
  by_cases h1:ok=0
  · have:i=j:=by omega
    subst this;exact Int.le_refl _
  · exact hs i j hij (by omega)
 case fi1=>
  rintro c z ⟨hc,zX,zs⟩
  refine ⟨hc,zX,?_⟩
  rwa [show min (max (max ok 1) n) n=n by omega] at zs
 case st1=>
  rintro k c z hak hkn ⟨rfl,zX,zs⟩
  rw [show min k n=k by omega] at zs
  refine wpS_bind (wpS_mono (wpS_forRange (I:=fun x c v=>z=v∧∃ l r,c=(none,l,r)∧l≤r∧r≤k∧r - l≤k - x∧(∀ i,i<l→K (arrOf z) (lo+i)≤K (arrOf z) (lo+k))∧(∀ i,r≤i→i<k→K (arrOf z) (lo+k)<K (arrOf z) (lo+i)))
   (Q:=fun c v=>z=v∧∃ l r,c=(none,l,r)∧l≤k∧(∀ i,i<l→K (arrOf z) (lo+i)≤K (arrOf z) (lo+k))∧(∀ i,l≤i→i<k→K (arrOf z) (lo+k)<K (arrOf z) (lo+i))) ?ist ?ifi ⟨rfl,0,k,rfl,by omega,by omega,by omega,fun i hi=>by omega,fun i g1 g2=>by omega⟩) ?ipo)
  case ifi=>
   rintro c v ⟨rfl,l,r,rfl,hlr,hrk,hm,hlo,hhi⟩
   have:l=r:=by omega
   subst this
   exact ⟨rfl,l,l,rfl,hrk,hlo,hhi⟩
  case ist=>
   rintro x c v _ hxk ⟨rfl,l,r,rfl,hlr,hrk,hm,hlo,hhi⟩
   dsimp only
   by_cases hge:l≥r
   · rw [if_pos hge]
     have:l=r:=by omega
     subst this
     exact wpS_pure ⟨rfl,l,l,rfl,hrk,hlo,hhi⟩
   · rw [if_neg hge]
     refine wpS_bind (sx_lt zX h0 (by omega) (by omega) ?_)
     by_cases hz:K (arrOf z) (lo+k)<K (arrOf z) (lo+(l+r) / 2)
     · simp only [hz,decide_true,if_true]
       exact wpS_pure ⟨rfl,l,(l+r) / 2,rfl,by omega,by omega,by omega,hlo,fun i g1 g2=>Int.lt_of_lt_of_le hz (zs _ _ g1 g2)⟩
     · simp only [hz,decide_false,Bool.false_eq_true,if_false]
       exact wpS_pure ⟨rfl,(l+r) / 2+1,r,rfl,by omega,by omega,by omega,fun i g1=>Int.le_trans (zs i ((l+r) / 2) (by omega) (by omega)) (Int.not_lt.mp hz),hhi⟩
  case ipo=>
   rintro c v ⟨rfl,l,r,rfl,hlk,hlo,hhi⟩
   show wpS _ _ _ _ (do moveDown' (lo+k) (lo+l);pure (ForInStep.yield (none,()))) _ _
   rw [moveDown'_eq]
   have hks:lo+k<(arrOf z).size:=by rw [zX.size];omega
   have hd:lo+k - (lo+k - (lo+l))=lo+l:=by omega
   refine wpS_bind (wpS_modify (wpS_pure ⟨rfl,zX.setA (bubble_perm _ _ _) fun q hq=>?_,?_⟩))
   · rw [getElem?_bubble hks _ (by omega),hd,if_neg (by omega),if_neg (by omega)]
   · rw [show min (k+1) n=k+1 by omega]
     intro i j hij hj
     show K (bubble (arrOf z) (lo+k) (lo+k - (lo+l))) (lo+i)≤K (bubble (arrOf z) (lo+k) (lo+k - (lo+l))) (lo+j)
     rw [K_bubble hks (by omega),K_bubble hks (by omega),hd]
     have back:∀ q,0<q→lo+q - 1=lo+(q - 1):=fun q hq=>by omega
     repeat' split
     all_goals first
      | (exfalso;omega)
      | exact Int.le_refl _
      | exact hlo _ (by omega)
      | (rw [back j (by omega)];exact Int.le_of_lt (hhi _ (by omega) (by omega)))
      | exact Int.le_of_lt (hhi _ (by omega) (by omega))
      | (rw [back i (by omega),back j (by omega)];exact zs _ _ (by omega) (by omega))
      | (rw [back i (by omega)];exact zs _ _ (by omega) (by omega))
      | (rw [back j (by omega)];exact zs _ _ (by omega) (by omega))
      | exact zs _ _ (by omega) (by omega)
end
def upL (lo a m:Nat):StateT SortSt Sem (Option (Option Nat)×Nat):=
 forIn [a:m] ((none,a):Option (Option Nat)×Nat) fun _ c=>do
  let t ← ltAt' (lo+c.snd) (lo+c.snd - 1)
  match t with
  | some b=>if b=true then pure (.done (none,c.snd)) else pure (.yield (none,c.snd+1))
  | _=>pure (.done (some none,c.snd))
def dnL (lo a m:Nat):StateT SortSt Sem (Option (Option Nat)×Nat×Nat):=
 forIn [a:m] ((none,a,0):Option (Option Nat)×Nat×Nat) fun _ c=>do
  let t ← ltAt' (lo+c.snd.fst) (lo+c.snd.fst - 1)
  match t with
  | some b=>
    if b=true then
     if c.snd.snd > 0 then do
      reverseSlice' (lo+c.snd.fst - (c.snd.snd+1)) (lo+c.snd.fst)
      pure (.yield (none,c.snd.fst+1,0))
     else pure (.yield (none,c.snd.fst+1,0))
    else do
     let u ← ltAt' (lo+c.snd.fst - 1) (lo+c.snd.fst)
     match u with
     | some d=>if d=true then pure (.done (none,c.snd.fst,c.snd.snd)) else pure (.yield (none,c.snd.fst+1,c.snd.snd+1))
     | _=>pure (.done (some none,c.snd.fst,c.snd.snd))
  | _=>pure (.done (some none,c.snd.fst,c.snd.snd))
def enL (lo a m:Nat):StateT SortSt Sem (Option Nat):=do
 reverseSlice' lo (lo+a)
 let c ← upL lo a m
 match c.fst with
 | some r=>pure r
 | none=>pure (some c.snd)
def faL (lo a m:Nat):StateT SortSt Sem (Option Nat):=do
 liftM (rule "list.sort.descending-run")
 let c ← dnL lo (a+1) m
 match c.fst with
 | some r=>pure r
 | none=>
   if c.snd.snd > 0 then do
    reverseSlice' (lo+c.snd.fst - (c.snd.snd+1)) (lo+c.snd.fst)
    enL lo c.snd.fst m
   else enL lo c.snd.fst m
theorem run_eq (lo m:Nat):countRun' lo m=(do
 let c ← upL lo 1 m
 match c.fst with
 | some r=>pure r
 | none=>
   if (c.snd == m)=true then pure (some c.snd)
   else if c.snd > 1 then do
    let t ← ltAt' lo (lo+c.snd - 1)
    match t with
    | some b=>if b=true then pure (some c.snd) else do
     reverseSlice' lo (lo+c.snd)
     faL lo c.snd m
    | _=>pure none
   else faL lo c.snd m):=by
 rw [countRun'_eq]
 dsimp only
 unfold faL enL dnL upL
 congr 1
 funext c
 obtain ⟨r,k⟩:=c
 cases r with
 | some r=>rfl
 | none=>
   dsimp only
   split
   · rfl
   · split
     · congr 1
       funext t
       cases t with
       | none=>rfl
       | some b=>
         dsimp only
         split
         · rfl
         · congr 1
           funext _y
           congr 1
           funext _x
           congr 1
           congr 1
           funext y
           obtain ⟨r,k,q⟩:=y
           cases r with
           | some r=>rfl
           | none=>
             dsimp only
             split
             · congr 1
               funext _z
               congr 1
               funext _x
               congr 1
               funext y
               obtain ⟨r,k⟩:=y
               cases r <;> rfl
             · congr 1
               funext _x
               congr 1
               funext y
               obtain ⟨r,k⟩:=y
               cases r <;> rfl
     · skip
       congr 1
       funext _x
       congr 1
       congr 1
       funext y
       obtain ⟨r,k,q⟩:=y
       cases r with
       | some r=>rfl
       | none=>
         dsimp only
         split
         · congr 1
           funext _z
           congr 1
           funext _x
           congr 1
           funext y
           obtain ⟨r,k⟩:=y
           cases r <;> rfl
         · congr 1
           funext _x
           congr 1
           funext y
           obtain ⟨r,k⟩:=y
           cases r <;> rfl
section
variable {prog:Program} {w:World} {A:Around} {E:Value→Shared→Prop} {s:Shared} {a₀:Array Keyed} {lo:Nat} {st₀:SortSt}
theorem s_rev {st:SortSt} {i j:Nat} {Q:Unit→SortSt→Prop} (h:Q () (setArr st (mirror (arrOf st) i j ((j - i) / 2)))):wpS (model prog w) A E s (reverseSlice' i j) Q st:=by
 rw [reverseSlice'_eq]
 exact wpS_modify h
theorem back1 {lo x:Nat} (h:1≤x):lo+x - 1=lo+(x - 1):=by omega
theorem s_up {st:SortSt} {a m:Nat} {Q:Option (Option Nat)×Nat→SortSt→Prop} (h0:AllI a₀) (hm:lo+m≤a₀.size) (ha:1≤a) (ham:a≤m) (hX:SX a₀ lo st₀ st)
 (hs:SrtL (arrOf st) lo a)
 (h:∀ n,a≤n→n≤m→SrtL (arrOf st) lo n→(n=m∨K (arrOf st) (lo+n)<K (arrOf st) (lo+(n - 1)))→Q (none,n) st):wpS (model prog w) A E s (upL lo a m) Q st:=by
 unfold upL
 refine wpS_forRange (I:=fun x c v=>st=v∧c=(none,x)∧SrtL (arrOf st) lo x) ?s1 ?f1 ⟨rfl,rfl,hs⟩
 case f1=>
  rintro c v ⟨rfl,rfl,g⟩
  rw [show max a m=m by omega] at g ⊢
  exact h m ham (Nat.le_refl _) g (.inl rfl)
 case s1=>
  rintro x c v hax hxm ⟨rfl,rfl,g⟩
  dsimp only
  rw [back1 (by omega)]
  refine wpS_bind (sx_lt hX h0 (by omega) (by omega) ?_)
  by_cases hl:K (arrOf st) (lo+x)<K (arrOf st) (lo+(x - 1))
  · simp only [hl,decide_true,if_true]
    exact wpS_pure (h x hax (by omega) g (.inr hl))
  · simp only [hl,decide_false,Bool.false_eq_true,if_false]
    refine wpS_pure ⟨rfl,rfl,fun i j hij hj=>?_⟩
    rcases Nat.lt_or_ge j x with q | q
    · exact g i j hij q
    · obtain rfl:j=x:=by omega
      rcases Nat.eq_or_lt_of_le hij with rfl | q2
      · exact Int.le_refl _
      · exact Int.le_trans (g i (j - 1) (by omega) (by omega)) (Int.not_lt.mp hl)
theorem s_en {st:SortSt} {a m:Nat} {Q:Option Nat→SortSt→Prop} (h0:AllI a₀) (hm:lo+m≤a₀.size) (ha:1≤a) (ham:a≤m) (hX:SX a₀ lo st₀ st)
 (hs:NonL (arrOf st) lo a) (h:∀ n v,SX a₀ lo st₀ v→1≤n→n≤m→SrtL (arrOf v) lo n→Q (some n) v):wpS (model prog w) A E s (enL lo a m) Q st:=by
 unfold enL
 have hz:lo+a≤(arrOf st).size:=by rw [hX.size];omega
 refine wpS_bind (s_rev ?_)
 have hX':=sx_mirror (i:=lo) (j:=lo+a) hX (Nat.le_refl _) (by omega)
 refine wpS_bind (s_up h0 hm ha ham hX' ?_ fun n g1 g2 g3 _=>wpS_pure (h n _ hX' (by omega) g2 g3))
 intro i j hij hj
 show K (mirror (arrOf st) lo (lo+a) ((lo+a - lo) / 2)) _≤K (mirror (arrOf st) lo (lo+a) ((lo+a - lo) / 2)) _
 rw [K_mirror hz,K_mirror hz,if_pos (by omega),if_pos (by omega),show lo+(lo+a) - 1 - (lo+i)=lo+(a - 1 - i) by omega,show lo+(lo+a) - 1 - (lo+j)=lo+(a - 1 - j) by omega]
 exact hs _ _ (by omega) (by omega)
def Alike (xs:Array Keyed) (lo n q:Nat):Prop:=∀ i,lo+n - (q+1)≤i→i<lo+n→K xs i=K xs (lo+n - 1)
theorem alike0 {xs:Array Keyed} {n:Nat} (h:1≤n):Alike xs lo n 0:=fun i a b=>by
 obtain rfl:i=lo+n - 1:=by omega
 rfl
theorem s_dn {st:SortSt} {a m:Nat} {Q:Option (Option Nat)×Nat×Nat→SortSt→Prop} (h0:AllI a₀) (hm:lo+m≤a₀.size) (ha:1≤a) (ham:a≤m) (hX:SX a₀ lo st₀ st)
 (hs:NonL (arrOf st) lo a)
 (h:∀ n q v,SX a₀ lo st₀ v→a≤n→n≤m→NonL (arrOf v) lo n→q+1≤n→Alike (arrOf v) lo n q→Q (none,n,q) v):wpS (model prog w) A E s (dnL lo a m) Q st:=by
 unfold dnL
 refine wpS_forRange (I:=fun x c v=>∃ q,c=(none,x,q)∧SX a₀ lo st₀ v∧NonL (arrOf v) lo x∧q+1≤x∧Alike (arrOf v) lo x q) ?s1 ?f1 ⟨0,rfl,hX,hs,by omega,alike0 ha⟩
 case f1=>
  rintro c v ⟨q,rfl,vX,vs,vq,va⟩
  rw [show max a m=m by omega] at vs vq va ⊢
  exact h m q v vX ham (Nat.le_refl _) vs vq va
 case s1=>
  rintro x c v hax hxm ⟨q,rfl,vX,vs,vq,va⟩
  dsimp only
  have hz:lo+x≤(arrOf v).size:=by rw [vX.size];omega
  have grow:∀ xs:Array Keyed,(∀ k,K xs k=K (arrOf v) k)→K (arrOf v) (lo+x)≤K (arrOf v) (lo+(x - 1))→NonL xs lo (x+1):=by
   intro xs hk hl i j hij hj
   rw [hk,hk]
   rcases Nat.lt_or_ge j x with g | g
   · exact vs i j hij g
   · obtain rfl:j=x:=by omega
     rcases Nat.eq_or_lt_of_le hij with rfl | g2
     · exact Int.le_refl _
     · exact Int.le_trans hl (vs i (j - 1) (by omega) (by omega))
  rw [back1 (by omega)]
  refine wpS_bind (sx_lt vX h0 (by omega) (by omega) ?_)
  by_cases hl:K (arrOf v) (lo+x)<K (arrOf v) (lo+(x - 1))
  · simp only [hl,decide_true,if_true]
    by_cases hq:q > 0
    · rw [if_pos hq]
      exact wpS_bind (s_rev (wpS_pure ⟨0,rfl,sx_mirror vX (by omega) (by omega),grow _ (K_mirror_equal hz va) (Int.le_of_lt hl),by omega,alike0 (by omega)⟩))
    · rw [if_neg hq]
      exact wpS_pure ⟨0,rfl,vX,grow _ (fun _=>rfl) (Int.le_of_lt hl),by omega,alike0 (by omega)⟩
  · simp only [hl,decide_false,Bool.false_eq_true,if_false]
    refine wpS_bind (sx_lt vX h0 (by omega) (by omega) ?_)
    by_cases hg:K (arrOf v) (lo+(x - 1))<K (arrOf v) (lo+x)
    · simp only [hg,decide_true,if_true]
      exact wpS_pure (h x q v vX hax (by omega) vs vq va)
    · simp only [hg,decide_false,Bool.false_eq_true,if_false]
      have he:K (arrOf v) (lo+x)=K (arrOf v) (lo+(x - 1)):=by omega
      refine wpS_pure ⟨q+1,rfl,vX,grow _ (fun _=>rfl) (by omega),by omega,fun i g1 g2=>?_⟩
      rw [show lo+(x+1) - 1=lo+x by omega]
      by_cases hi:i=lo+x
      · rw [hi]
      · rw [he,← back1 (by omega)]
        exact va i (by omega) (by omega)
theorem s_fa {st:SortSt} {a m:Nat} {Q:Option Nat→SortSt→Prop} (h0:AllI a₀) (hm:lo+m≤a₀.size) (ham:a+1≤m) (hX:SX a₀ lo st₀ st)
 (hs:NonL (arrOf st) lo (a+1)) (h:∀ n v,SX a₀ lo st₀ v→1≤n→n≤m→SrtL (arrOf v) lo n→Q (some n) v):wpS (model prog w) A E s (faL lo a m) Q st:=by
 unfold faL
 refine wpS_bind (wpS_lift (wpAny_rule ⟨rfl,?_⟩))
 refine wpS_bind (s_dn h0 hm (by omega) ham hX hs fun n q v vX g1 g2 vs vq va=>?_)
 dsimp only
 have hz:lo+n≤(arrOf v).size:=by rw [vX.size];omega
 by_cases hq:q > 0
 · rw [if_pos hq]
   refine wpS_bind (s_rev (s_en h0 hm (by omega) g2 (sx_mirror vX (by omega) (by omega)) ?_ h))
   intro i j hij hj
   show K (mirror (arrOf v) _ _ _) _≤K (mirror (arrOf v) _ _ _) _
   rw [K_mirror_equal hz va,K_mirror_equal hz va]
   exact vs i j hij hj
 · rw [if_neg hq]
   exact s_en h0 hm (by omega) g2 vX vs h
theorem s_run {st:SortSt} {m:Nat} {Q:Option Nat→SortSt→Prop} (h0:AllI a₀) (hm:lo+m≤a₀.size) (h1:1≤m) (hX:SX a₀ lo st₀ st)
 (h:∀ n v,SX a₀ lo st₀ v→1≤n→n≤m→SrtL (arrOf v) lo n→Q (some n) v):wpS (model prog w) A E s (countRun' lo m) Q st:=by
 rw [run_eq]
 have one:SrtL (arrOf st) lo 1:=fun i j hij hj=>by
  obtain rfl:i=j:=by omega
  exact Int.le_refl _
 refine wpS_bind (s_up h0 hm (Nat.le_refl 1) h1 hX one fun n g1 g2 gs go=>?_)
 dsimp only
 by_cases hn:n=m
 · rw [if_pos (by simpa using hn)]
   exact wpS_pure (h n st hX g1 g2 gs)
 · rw [if_neg (by simpa using hn)]
   have hl:=go.resolve_left hn
   by_cases hg:n > 1
   · rw [if_pos hg]
     rw [back1 (by omega)]
     refine wpS_bind (sx_lt (i:=lo) hX h0 (by omega) (by omega) ?_)
     by_cases hr:K (arrOf st) lo<K (arrOf st) (lo+(n - 1))
     · simp only [hr,decide_true,if_true]
       exact wpS_pure (h n st hX g1 g2 gs)
     · simp only [hr,decide_false,Bool.false_eq_true,if_false]
       have hz:lo+n≤(arrOf st).size:=by rw [hX.size];omega
       have al:∀ k,lo≤k→k<lo+n→K (arrOf st) k=K (arrOf st) (lo+n - 1):=by
        intro k k1 k2
        obtain ⟨d,rfl⟩:=Nat.exists_eq_add_of_le k1
        have e1:=gs 0 d (by omega) (by omega)
        have e2:=gs d (n - 1) (by omega) (by omega)
        rw [back1 (by omega)]
        rw [Nat.add_zero] at e1
        omega
       refine wpS_bind (s_rev (s_fa h0 hm (by omega) (sx_mirror hX (Nat.le_refl _) (by omega)) ?_ h))
       intro i j hij hj
       show K (mirror (arrOf st) _ _ _) _≤K (mirror (arrOf st) _ _ _) _
       rw [K_mirror_equal hz al,K_mirror_equal hz al]
       rcases Nat.lt_or_ge j n with q | q
       · rw [al (lo+i) (by omega) (by omega),al (lo+j) (by omega) (by omega)]
         exact Int.le_refl _
       · obtain rfl:j=n:=by omega
         rcases Nat.eq_or_lt_of_le hij with rfl | q2
         · exact Int.le_refl _
         · rw [al (lo+i) (by omega) (by omega),back1 (by omega)]
           exact Int.le_of_lt hl
   · rw [if_neg hg]
     obtain rfl:n=1:=by omega
     refine s_fa h0 hm (by omega) hX ?_ h
     intro i j hij hj
     rcases Nat.eq_or_lt_of_le hij with rfl | q2
     · exact Int.le_refl _
     · obtain rfl:i=0:=by omega
       obtain rfl:j=1:=by omega
       exact Int.le_of_lt hl
end
structure RS (a₀:Array Keyed) (st:SortSt) (Ls:List (List Keyed)) (rest:List Keyed):Prop where
 kind:kindOf st=oneType'
 fail:failedOf st=none
 perm:(arrOf st).Perm a₀
 arr:(arrOf st).toList=Ls.flatten++rest
 pm:PM (pendingOf st).toList Ls 0
 runs:∀ R∈Ls,R≠[]∧R.Pairwise Le
theorem AllI.perm {xs ys:Array Keyed} (h:AllI xs) (p:ys.Perm xs):AllI ys:=fun q hq=>h q ((Array.perm_iff_toList_perm.mp p).mem_iff.mp hq)
theorem PM.alter:∀ {ps:List (Nat×Nat×Nat)} {ls:List (List Keyed)} {lo:Nat} (k:Nat) {f:Nat×Nat×Nat→Nat×Nat×Nat},(∀ p,(f p).1=p.1∧(f p).2.1=p.2.1)→PM ps ls lo→PM (ps.modify k f) ls lo
 | [],[],_,k,f,_,_=>by cases k <;> trivial
 | p::r,l::ls,lo,0,f,hf,h=>by
   show PM (f p::r) (l::ls) lo
   exact ⟨(hf p).1.trans h.1,(hf p).2.trans h.2.1,h.2.2⟩
 | p::r,l::ls,lo,k+1,f,hf,h=>by
   show PM (p::r.modify k f) (l::ls) lo
   exact ⟨h.1,h.2.1,PM.alter k hf h.2.2⟩
 | [],_::_,_,_,_,_,h=>h.elim
 | _::_,[],_,_,_,_,h=>h.elim
theorem PM.snoc:∀ {ps:List (Nat×Nat×Nat)} {ls:List (List Keyed)} {lo:Nat} {R:List Keyed} {k n:Nat},PM ps ls lo→k=lo+ls.flatten.length→n=R.length→PM (ps++[(k,n,0)]) (ls++[R]) lo
 | [],[],lo,R,k,n,_,e,e2=>⟨by simpa using e,e2,trivial⟩
 | p::r,l::ls,lo,R,k,n,h,e,e2=>by
   refine ⟨h.1,h.2.1,PM.snoc h.2.2 ?_ e2⟩
   rw [e,List.flatten_cons,List.length_append,Nat.add_assoc]
 | [],_::_,_,_,_,_,h,_,_=>h.elim
 | _::_,[],_,_,_,_,h,_,_=>h.elim
section
variable {prog:Program} {w:World} {A:Around} {E:Value→Shared→Prop} {s:Shared} {a₀:Array Keyed}
theorem s_join {st:SortSt} {Ls:List (List Keyed)} {rest:List Keyed} {i:Nat} {Q:Bool→SortSt→Prop} (h0:AllI a₀) (r:RS a₀ st Ls rest) (hi:i+1<Ls.length)
 (h:∀ v Ms,RS a₀ v Ms rest→Ms.length+1=Ls.length→Ms.flatten.length=Ls.flatten.length→Q true v):wpS (model prog w) A E s (mergeAt' i) Q st:=by
 obtain ⟨L1,R1,R2,L2,rfl,rfl⟩:∃ L1 R1 R2 L2,Ls=L1++R1::R2::L2∧i=L1.length:=by
  refine ⟨Ls.take i,Ls[i],Ls[i+1],Ls.drop (i+2),?_,by rw [List.length_take];omega⟩
  rw [← List.drop_eq_getElem_cons hi,← List.drop_eq_getElem_cons (by omega),List.take_append_drop]
 have m1:=r.runs R1 (by simp)
 have m2:=r.runs R2 (by simp)
 rw [mat_is]
 refine s_mat r.kind r.fail (h0.perm r.perm) r.arr r.pm m1.1 m2.1 m1.2 m2.2 fun v R hk hp hs ha hpm=>?_
 have hl:=hp.length_eq
 rw [List.length_append] at hl
 refine h v (L1++R::L2) ⟨hk.kind.trans r.kind,hk.fail.trans r.fail,?_,ha,hpm,?_⟩ (by simp;omega) ?_
 · refine Array.Perm.trans ?_ r.perm
   rw [Array.perm_iff_toList_perm,ha,r.arr]
   refine List.Perm.append_right _ ?_
   rw [List.flatten_append,List.flatten_append,List.flatten_cons,List.flatten_cons,List.flatten_cons,← List.append_assoc R1]
   exact List.Perm.append_left _ (List.Perm.append_right _ hp)
 · intro T hT
   rcases List.mem_append.mp hT with g | g
   · exact r.runs T (by simp [g])
   · rcases List.mem_cons.mp g with rfl | g
     · refine ⟨fun e=>?_,hs⟩
       rw [e] at hl
       have:=List.length_pos_iff.mpr m1.1
       simp at hl
       omega
     · exact r.runs T (by simp [g])
 · simp only [List.flatten_append,List.flatten_cons,List.length_append]
   omega
theorem many_runs:∀ {Ls:List (List Keyed)},(∀ R∈Ls,R≠[]∧R.Pairwise Le)→Ls.length≤Ls.flatten.length
 | [],_=>Nat.le_refl _
 | R::Ls,h=>by
   have:=many_runs (Ls:=Ls) fun T hT=>h T (List.mem_cons_of_mem _ hT)
   have:=List.length_pos_iff.mpr (h R (by simp)).1
   rw [List.length_cons,List.flatten_cons,List.length_append]
   omega
theorem RS.psize {st:SortSt} {Ls:List (List Keyed)} {rest:List Keyed} (r:RS a₀ st Ls rest):(pendingOf st).size=Ls.length:=by
 rw [← Array.length_toList];exact r.pm.len
theorem RS.total {st:SortSt} {Ls:List (List Keyed)} {rest:List Keyed} (r:RS a₀ st Ls rest):Ls.flatten.length+rest.length=a₀.size:=by
 rw [← List.length_append,← r.arr,Array.length_toList,r.perm.size_eq]
theorem RS.cut {st v:SortSt} {Ls:List (List Keyed)} {rest:List Keyed} {n:Nat} (r:RS a₀ st Ls rest) (x:SX (arrOf st) Ls.flatten.length st v) (hn:Ls.flatten.length+n≤a₀.size) (hs:SrtL (arrOf v) Ls.flatten.length n) :
 ∃ R rest',R.length=n∧R.Pairwise Le∧RS a₀ v Ls (R++rest'):=by
 have hz:(arrOf v).toList.length=a₀.size:=by rw [Array.length_toList,x.size,r.perm.size_eq]
 have ht:(arrOf v).toList.take Ls.flatten.length=Ls.flatten:=by
  have e:(arrOf v).toList.take Ls.flatten.length=(arrOf st).toList.take Ls.flatten.length:=by
   refine List.ext_getElem? fun k=>?_
   rw [List.getElem?_take,List.getElem?_take]
   split
   · rename_i g
     rw [Array.getElem?_toList,Array.getElem?_toList]
     exact x.pre k g
   · rfl
  rw [e,r.arr,List.take_left]
 refine ⟨((arrOf v).toList.drop Ls.flatten.length).take n,((arrOf v).toList.drop Ls.flatten.length).drop n,?_,?_,x.kind,x.fail,x.perm.trans r.perm,?_,?_,r.runs⟩
 · rw [List.length_take,List.length_drop,hz];omega
 · refine List.pairwise_iff_getElem.mpr fun i j hi hj hij=>?_
   rw [List.length_take,List.length_drop,hz] at hi hj
   have:=hs i j (Nat.le_of_lt hij) (by omega)
   rw [K_at (by omega),K_at (by omega)] at this
   rw [List.getElem_take,List.getElem_take,List.getElem_drop,List.getElem_drop]
   exact this
 · rw [List.take_append_drop]
   conv=>lhs;rw [← List.take_append_drop Ls.flatten.length (arrOf v).toList,ht]
 · rw [x.pend];exact r.pm
theorem RS.add {st:SortSt} {Ls:List (List Keyed)} {R rest:List Keyed} {k n:Nat} (r:RS a₀ st Ls (R++rest)) (hR:R≠[]) (hs:R.Pairwise Le) (hk:k=Ls.flatten.length) (hn:n=R.length) :
 RS a₀ (setPending st ((pendingOf st).push (k,n,0))) (Ls++[R]) rest where
 kind:=r.kind
 fail:=r.fail
 perm:=r.perm
 arr:=by show (arrOf st).toList=_;rw [r.arr];simp
 pm:=by
  show PM ((pendingOf st).push (k,n,0)).toList _ 0
  rw [Array.toList_push]
  exact r.pm.snoc (by omega) hn
 runs:=fun T hT=>by
  rcases List.mem_append.mp hT with g | g
  · exact r.runs T g
  · rw [List.mem_singleton.mp g];exact ⟨hR,hs⟩
theorem RS.alter {st:SortSt} {Ls:List (List Keyed)} {rest:List Keyed} {k:Nat} {f:Nat×Nat×Nat→Nat×Nat×Nat} (hf:∀ p,(f p).1=p.1∧(f p).2.1=p.2.1) (r:RS a₀ st Ls rest) :
 RS a₀ (setPending st ((pendingOf st).modify k f)) Ls rest where
 kind:=r.kind
 fail:=r.fail
 perm:=r.perm
 arr:=r.arr
 pm:=by
  show PM ((pendingOf st).modify k f).toList _ 0
  rw [Array.toList_modify]
  exact r.pm.alter k hf
 runs:=r.runs
theorem RS.sorted {st:SortSt} {Ls:List (List Keyed)} (r:RS a₀ st Ls []) (h1:Ls.length≤1):SortedTo (arrOf st) a₀.size:=by
 have hz:(arrOf st).toList.length=a₀.size:=by rw [Array.length_toList,r.perm.size_eq]
 have hp:(arrOf st).toList.Pairwise Le:=by
  rw [r.arr]
  match Ls,h1,r.runs with
  | [],_,_=>simp
  | [R],_,g=>simpa using (g R (by simp)).2
 intro i j hij hj
 rw [K_at (by omega),K_at (by omega)]
 rcases Nat.eq_or_lt_of_le hij with e | e
 · subst e;exact Int.le_refl _
 · exact List.pairwise_iff_getElem.mp hp i j (by omega) (by omega) e
end
section
variable {prog:Program} {w:World} {A:Around} {E:Value→Shared→Prop} {s:Shared} {a₀:Array Keyed}
def putRun (sz lo n:Nat):StateT SortSt Sem (ForInStep (Option Unit×Nat)):=do
 let z ← get
 match (pendingOf z).back? with
 | some (p,k,_)=>do
   let c ← forIn [0:sz] ((none,()):Option Unit×Unit) fun _ _=>do
    let z ← get
    match if (pendingOf z).size > 1 then (pendingOf z)[(pendingOf z).size - 2]? else none with
    | some (_,_,o)=>
      if o≤power' sz (2*p+k) (2*p+k+k+n) sz then pure (.done (none,()))
      else do
       let b ← mergeAt' ((pendingOf z).size - 2)
       if (!b)=true then pure (.done (some (),())) else pure (.yield (none,()))
    | _=>pure (.done (none,()))
   match c.fst with
   | some r=>pure (.done (some r,lo))
   | none=>do
     modify fun s=>setPending s ((pendingOf s).modify ((pendingOf s).size - 1) fun x=>(x.fst,x.2.fst,power' sz (2*p+k) (2*p+k+k+n) sz))
     modify fun s=>setPending s ((pendingOf s).push (lo,n,0))
     pure (.yield (none,lo+n))
 | _=>do
   modify fun s=>setPending s ((pendingOf s).push (lo,n,0))
   pure (.yield (none,lo+n))
theorem s_put {st:SortSt} {Ls:List (List Keyed)} {R rest:List Keyed} {sz lo n:Nat} {Q:ForInStep (Option Unit×Nat)→SortSt→Prop} (h0:AllI a₀) (r:RS a₀ st Ls (R++rest)) (hlo:lo=Ls.flatten.length) (hn:n=R.length) (hR:R≠[]) (hs:R.Pairwise Le)
 (h:∀ v Ms,RS a₀ v Ms rest→Ms.flatten.length=lo+n→Q (.yield (none,lo+n)) v):wpS (model prog w) A E s (putRun sz lo n) Q st:=by
 unfold putRun
 refine wpS_bind (wpS_get ?_)
 have fin:∀ {v:SortSt} {Ms:List (List Keyed)},RS a₀ v Ms (R++rest)→Ms.flatten.length=lo→Q (.yield (none,lo+n)) (setPending v ((pendingOf v).push (lo,n,0))):=fun {v Ms} g e=>
  h _ (Ms++[R]) (g.add hR hs e.symm hn) (by rw [List.flatten_append,List.length_append,e,List.flatten_cons,List.flatten_nil,List.append_nil,hn])
 split
 · rename_i p k _ _
   generalize power' sz (2*p+k) (2*p+k+k+n) sz=pw
   refine wpS_bind (wpS_mono (wpS_forRange (I:=fun x c v=>c=(none,())∧∃ Ms,RS a₀ v Ms (R++rest)∧Ms.flatten.length=lo) (Q:=fun c v=>c=(none,())∧∃ Ms,RS a₀ v Ms (R++rest)∧Ms.flatten.length=lo) ?s2 (fun _ _ g=>g) ⟨rfl,Ls,r,hlo.symm⟩) ?p2)
   case p2=>
    rintro c v ⟨rfl,Ms,g,e⟩
    dsimp only
    refine wpS_bind (wpS_modify (wpS_bind (wpS_modify (wpS_pure ?_))))
    exact fin (g.alter (fun _=>⟨rfl,rfl⟩)) e
   case s2=>
    rintro x c v _ _ ⟨rfl,Ms,g,e⟩
    refine wpS_bind (wpS_get ?_)
    rw [g.psize]
    split
    · rename_i o ho
      by_cases h1:Ms.length > 1
      · by_cases h2:o≤pw
        · rw [if_pos h2]
          exact wpS_pure ⟨rfl,Ms,g,e⟩
        · rw [if_neg h2]
          refine wpS_bind (s_join h0 g (by omega) fun u Ns g2 e1 e2=>?_)
          simp only [Bool.not_true,Bool.false_eq_true,if_false]
          exact wpS_pure ⟨rfl,Ns,g2,e2.trans e⟩
      · rw [if_neg h1] at ho
        cases ho
    · exact wpS_pure ⟨rfl,Ms,g,e⟩
 · exact wpS_bind (wpS_modify (wpS_pure (fin r hlo.symm)))
theorem pick_lt {c:Bool} {m:Nat} (h:¬ m≤1):(if c=true then m - 2 - 1 else m - 2)+1<m:=by
 split <;> omega
theorem s_all {st:SortSt} {Q:Unit→SortSt→Prop} (h0:AllI a₀) (hk:kindOf st=oneType') (hf:failedOf st=none) (hp:arrOf st=a₀) (he:pendingOf st=#[])
 (h:∀ v,(arrOf v).Perm a₀→failedOf v=none→SortedTo (arrOf v) a₀.size→Q () v):wpS (model prog w) A E s sortRuns' Q st:=by
 rw [sortRuns'_eq]
 refine wpS_bind (wpS_get ?_)
 dsimp only
 rw [hp]
 generalize minRun' a₀.size a₀.size 0=mr
 have r0:RS a₀ st [] a₀.toList:=⟨hk,hf,by rw [hp],by rw [hp];rfl,by rw [he];trivial,fun R hR=>by cases hR⟩
 refine wpS_bind (wpS_mono (wpS_forRange (I:=fun x c z=>∃ Ls rest,c=(none,Ls.flatten.length)∧RS a₀ z Ls rest∧x≤Ls.flatten.length)
  (Q:=fun c z=>∃ Ls k,c=(none,k)∧RS a₀ z Ls []) ?s1 ?f1 ⟨[],_,rfl,r0,Nat.le_refl _⟩) ?p1)
 case f1=>
  rintro c z ⟨Ls,rest,rfl,r,hx⟩
  have:=r.total
  have e:rest=[]:=List.length_eq_zero_iff.mp (by omega)
  subst e
  exact ⟨Ls,_,rfl,r⟩
 case p1=>
  rintro c z ⟨Ls,k,rfl,r⟩
  dsimp only
  refine wpS_bind (wpS_mono (wpS_forRange (I:=fun x c v=>c=(none,())∧∃ Ms,RS a₀ v Ms []∧Ms.length+x≤a₀.size) (Q:=fun c v=>c=(none,())∧∃ Ms,RS a₀ v Ms []∧Ms.length≤1) ?s2 ?f2 ?i2) ?p2)
  case i2=>
   have e1:=many_runs r.runs
   have e2:=r.total
   exact ⟨rfl,Ls,r,by simp only [List.length_nil] at e2;omega⟩
  case f2=>
   rintro c v ⟨rfl,Ms,g,hl⟩
   exact ⟨rfl,Ms,g,by omega⟩
  case p2=>
   rintro c v ⟨rfl,Ms,g,hl⟩
   exact wpS_pure (h v g.perm g.fail (g.sorted hl))
  case s2=>
   rintro x c v _ hx ⟨rfl,Ms,g,hl⟩
   refine wpS_bind (wpS_get ?_)
   rw [g.psize]
   by_cases h1:Ms.length≤1
   · rw [if_pos h1]
     exact wpS_pure ⟨rfl,Ms,g,h1⟩
   · rw [if_neg h1]
     refine wpS_bind (s_join h0 g (pick_lt h1) fun u Ns g2 e1 e2=>?_)
     simp only [Bool.not_true,Bool.false_eq_true,if_false]
     exact wpS_pure ⟨rfl,Ns,g2,by omega⟩
 case s1=>
  rintro x c z _ hx ⟨Ls,rest,rfl,r,hxl⟩
  dsimp only
  have tot:=r.total
  by_cases hge:Ls.flatten.length≥a₀.size
  · rw [if_pos hge]
    have e:rest=[]:=List.length_eq_zero_iff.mp (by omega)
    subst e
    exact wpS_pure ⟨Ls,_,rfl,r⟩
  · rw [if_neg hge]
    have hI:=h0.perm r.perm
    have hsz:=r.perm.size_eq
    have x0:SX (arrOf z) Ls.flatten.length z z:=⟨Array.Perm.refl _,r.kind,r.fail,rfl,fun _ _=>rfl⟩
    refine wpS_bind (s_run hI (by omega) (by omega) x0 fun n v vX g1 g2 gs=>?_)
    dsimp only
    refine Eq.mp (congrArg (fun p=>wpS (model prog w) A E s p _ v) (?_:(if n<mr then do
     liftM (rule "list.sort.binary-insertion")
     let b ← binarySort' Ls.flatten.length (min (a₀.size - Ls.flatten.length) mr) n
     if (!b)=true then pure (ForInStep.done (some (),Ls.flatten.length)) else putRun a₀.size Ls.flatten.length (min (a₀.size - Ls.flatten.length) mr)
     else putRun a₀.size Ls.flatten.length n)=_)) ?_
    · unfold putRun
      congr 1
      · congr 1
        funext _y
        congr 1
        funext b
        congr 1
        congr 1
        funext z
        cases (pendingOf z).back? with
        | none=>rfl
        | some t=>
          obtain ⟨p,k,o⟩:=t
          dsimp only
          congr 1
          funext c
          obtain ⟨r,_⟩:=c
          cases r <;> rfl
      · congr 1
        funext z
        cases (pendingOf z).back? with
        | none=>rfl
        | some t=>
          obtain ⟨p,k,o⟩:=t
          dsimp only
          congr 1
          funext c
          obtain ⟨r,_⟩:=c
          cases r <;> rfl
    have last:∀ {u:SortSt} {k:Nat},1≤k→k≤a₀.size - Ls.flatten.length→SX (arrOf z) Ls.flatten.length z u→SrtL (arrOf u) Ls.flatten.length k→wpS (model prog w) A E s (putRun a₀.size Ls.flatten.length k) (fun t st'=>∃ Ms rs,t=.yield (none,Ms.flatten.length)∧RS a₀ st' Ms rs∧x+1≤Ms.flatten.length) u:=fun {u k} k1 k2 uX us=>by
     obtain ⟨R,rest',e1,e2,e3⟩:=r.cut uX (by omega) us
     refine s_put h0 e3 rfl e1.symm (fun e=>by rw [e] at e1;simp at e1;omega) e2 fun v2 Ms g e=>?_
     exact ⟨Ms,rest',by rw [e],g,by omega⟩
    by_cases hm:n<mr
    · rw [if_pos hm]
      refine wpS_bind (wpS_lift (wpAny_rule ⟨rfl,?_⟩))
      refine wpS_bind (s_bin hI (by omega) (by omega) vX gs fun u uX us=>?_)
      simp only [Bool.not_true,Bool.false_eq_true,if_false]
      refine wpS_mono (last (by omega) (by omega) uX us) ?_
      rintro t u2 ⟨Ms,rs,rfl,g,e⟩
      exact ⟨Ms,rs,rfl,g,e⟩
    · rw [if_neg hm]
      refine wpS_mono (last g1 g2 vX gs) ?_
      rintro t u2 ⟨Ms,rs,rfl,g,e⟩
      exact ⟨Ms,rs,rfl,g,e⟩
end
def core (a:Addr) (e1:Nat) (ar:Array Value) (b:Bool):Sem Fin:=do
 let knd ← if ar.size<2 then pure general' else keyKind' ar
 let ((),z) ← (if ar.size<2 then pure () else sortRuns').run (SortSt.mk' knd (if b then (ar.zip ar).reverse else ar.zip ar) #[] 7 none)
 let srt:=(arrOf z).map (·.2)
 let tch:=(← seqEpoch a) != e1
 Builtin.List.listUpdate (.ref a) fun _=>if b then srt.reverse else srt
 if let some e:=failedOf z then rule "list.sort.comparison-raised";throw e
 if tch then rule "list.sort.modified";raiseError "ValueError" "list modified during sort"
 ret .none
theorem plain_core (a:Addr):Builtin.«list.sort» ⟨[.ref a],[]⟩=(do
 let ar ← Builtin.List.listItems (.ref a)
 Builtin.List.listUpdate (.ref a) fun _=>#[]
 let e1 ← seqEpoch a
 let t ← newTuple ar.toList
 let l ← newList []
 holding [t,l] (core a e1 ar false)):=by rw [list_sort_plain];rfl
theorem rev_core (a:Addr):Builtin.«list.sort» ⟨[.ref a],[(Str.ofString "reverse",.bool true)]⟩=(do
 let ar ← Builtin.List.listItems (.ref a)
 Builtin.List.listUpdate (.ref a) fun _=>#[]
 let e1 ← seqEpoch a
 let t ← newTuple ar.toList
 let l ← newList []
 holding [t,l] (do let _ ← rule "list.sort.reverse";core a e1 ar true)):=by rw [list_sort_rev];rfl
theorem allI_of {vs:List Value} {ns:List Int} (hI:IntsAre vs ns):AllI (pairsOf vs):=fun p hp=>by
 obtain ⟨n,t,e⟩:=hI.intKeys p hp
 refine ⟨t,?_⟩
 show p.1=.int (numOf p.1) t
 rw [e]
 rfl
section
variable {prog:Program} {w:World} {A:Around} {E:Value→Shared→Prop} {s:Shared}
theorem w_core {a:Addr} {e1:Nat} {vs:List Value} {ns:List Int} {b:Bool} {P:Fin→Shared→Prop} (hA:s.heap.get? a=some (seqObj "list" #[] e1)) (hI:IntsAre vs ns) (hz:vs.length≤sizeLine)
 (h:∀ (o:Array Value) (ns':List Int),IntsAre o.toList ns'→ns'.Perm ns→Ordered b ns'→P (.done (.ret .none)) { s with heap:=s.heap.update a (Obj.mapSeq fun _=>o) }):wpAny (model prog w) A (core a e1 vs.toArray b) P E s:=by
 unfold core
 have fin:∀ z:SortSt,(arrOf z).Perm (pairsOf vs)→failedOf z=none→SortedTo (arrOf z) (pairsOf vs).size→wpAny (model prog w) A (do
  let tch:=(← seqEpoch a) != e1
  Builtin.List.listUpdate (.ref a) fun _=>if b then ((arrOf z).map (·.2)).reverse else (arrOf z).map (·.2)
  if let some e:=failedOf z then rule "list.sort.comparison-raised";throw e
  if tch then rule "list.sort.modified";raiseError "ValueError" "list modified during sort"
  ret .none) P E s:=fun z hp hf hs=>by
  obtain ⟨ns',q1,q2,q3⟩:=sorted_out_rev hI hp hs b
  have hlen:((arrOf z).map (·.2)).size≤sizeLine+1:=by rw [Array.size_map,hp.size_eq,pairsOf_size];omega
  refine wpAny_bind (seqEpoch_at hA rfl (wpAny_bind (listUpdate_at hA rfl ?_ (hsz2:=?sz))))
  case sz=>
   split
   · rw [Array.size_reverse];exact hlen
   · exact hlen
  rw [hf]
  simp only [bne_self_eq_false,Bool.false_eq_true,if_false]
  exact wpAny_pure (h _ ns' q1 q2 q3)
 have hst:(if b=true then (vs.toArray.zip vs.toArray).reverse else vs.toArray.zip vs.toArray).Perm (pairsOf vs):=by
  cases b
  · exact Array.Perm.refl _
  · rw [if_pos rfl,Array.perm_iff_toList_perm,Array.toList_reverse]
    exact List.reverse_perm _
 by_cases h2:vs.toArray.size<2
 · rw [if_pos h2,if_pos h2]
   refine wpAny_bind (wpAny_pure ?_)
   dsimp only
   rw [StateT.run_pure]
   refine wpAny_bind (wpAny_pure (fin (SortSt.mk' general' _ #[] 7 none) hst rfl fun i j hij hj=>?_))
   rw [pairsOf_size] at hj
   rw [List.size_toArray] at h2
   obtain rfl:i=j:=by omega
   exact Int.le_refl _
 · rw [if_neg h2,if_neg h2]
   obtain ⟨x,y,r,rfl⟩:∃ x y r,vs=x::y::r:=by
    rw [List.size_toArray] at h2
    match vs,h2 with
    | [],g=>simp at g
    | [_],g=>simp at g
    | x::y::r,_=>exact ⟨x,y,r,rfl⟩
   rw [keyKind_ints hI]
   refine wpAny_bind (wpAny_pure ?_)
   generalize hL:x::y::r=L at *
   have ha0:AllI (if b=true then (L.toArray.zip L.toArray).reverse else L.toArray.zip L.toArray):=(allI_of hI).perm hst
   refine wpAny_bind (wpAny_mono (s_all (st:=SortSt.mk' oneType' (if b=true then (L.toArray.zip L.toArray).reverse else L.toArray.zip L.toArray) #[] 7 none)
    (Q:=fun _ z=>(arrOf z).Perm (pairsOf L)∧failedOf z=none∧SortedTo (arrOf z) (pairsOf L).size) ha0 rfl rfl rfl rfl fun z g1 g2 g3=>⟨g1.trans hst,g2,by rw [← hst.size_eq];exact g3⟩) ?_ fun _ _ e=>e)
   rintro ⟨⟨⟩,z⟩ s' ⟨rfl,g1,g2,g3⟩
   exact fin z g1 g2 g3
theorem w_start {a:Addr} {vs:List Value} {n:Nat} {P:Fin→Shared→Prop} {f:Nat→Array Value→Sem Fin} (hA:s.heap.get? a=some (seqObj "list" vs.toArray n)) (hz:vs.length≤sizeLine)
 (h:∀ (s':Shared) e1,s'={ s with heap:=((s.heap.update a (Obj.mapSeq fun _=>#[])).push (seqObj "tuple" vs.toArray 0)).push (seqObj "list" #[] 0) }→s'.heap.get? a=some (seqObj "list" #[] e1)→wpAny (model prog w) A (f e1 vs.toArray) P E s') :
 wpAny (model prog w) A (do
  let ar ← Builtin.List.listItems (.ref a)
  Builtin.List.listUpdate (.ref a) fun _=>#[]
  let e1 ← seqEpoch a
  let t ← newTuple ar.toList
  let l ← newList []
  holding [t,l] (f e1 ar)) P E s:=by
 have ha:a<s.heap.objs.size:=Heap.lt_size hA
 refine wpAny_bind (listItems_at hA rfl (wpAny_bind (listUpdate_at hA rfl ?_ (hsz:=by rw [List.size_toArray];exact hz))))
 obtain ⟨e1,hE⟩:∃ e1,(s.heap.update a (Obj.mapSeq fun _=>#[])).get? a=some (seqObj "list" #[] e1):=⟨_,get?_update_seq hA fun _=>#[]⟩
 refine wpAny_bind (seqEpoch_at hE rfl (wpAny_bind (wpAny_newTuple (wpAny_bind (wpAny_newList (wpAny_holding ?_)) ) ?hs)))
 case hs=>exact hz
 refine h _ e1 rfl ?_
 show (((s.heap.update a (Obj.mapSeq fun _=>#[])).push (seqObj "tuple" vs.toArray 0)).push (seqObj "list" #[] 0)).get? a=_
 rw [Heap.get?_push_ne _ _ _ (by rw [size_push',Heap.size_update];exact fun e=>absurd ha (by rw [e];exact Nat.not_lt.mpr (Nat.le_succ _))),Heap.get?_push_ne _ _ _ (by rw [Heap.size_update];exact fun e=>absurd ha (by rw [e];exact Nat.lt_irrefl _))]
 exact hE
def kwOf (b:Bool):List (Str×Value):=if b then [(Str.ofString "reverse",.bool true)] else []
theorem w_sort {a:Addr} {vs:List Value} {ns:List Int} {n:Nat} {b:Bool} {P:Fin→Shared→Prop} (hA:s.heap.get? a=some (seqObj "list" vs.toArray n)) (hI:IntsAre vs ns) (hz:vs.length≤sizeLine)
 (h:∀ (o:Array Value) (ns':List Int),IntsAre o.toList ns'→ns'.Perm ns→Ordered b ns'→P (.done (.ret .none)) { s with heap:=sortedHeap s.heap a vs o }):wpAny (model prog w) A (Builtin.«list.sort» ⟨[.ref a],kwOf b⟩) P E s:=by
 cases b with
 | false=>
   show wpAny _ _ (Builtin.«list.sort» ⟨[.ref a],[]⟩) _ _ _
   rw [plain_core]
   refine w_start hA hz fun s' e1 e hA'=>w_core hA' hI hz fun o ns' g1 g2 g3=>?_
   subst e
   exact h o ns' g1 g2 g3
 | true=>
   show wpAny _ _ (Builtin.«list.sort» ⟨[.ref a],[(Str.ofString "reverse",.bool true)]⟩) _ _ _
   rw [rev_core]
   refine w_start hA hz fun s' e1 e hA'=>wpAny_bind (wpAny_rule (w_core hA' hI hz fun o ns' g1 g2 g3=>?_))
   subst e
   exact h o ns' g1 g2 g3
theorem w_collect {l:Addr} {vs:List Value} {o:Obj} {T:String} {n:Nat} {Q:List Value→Shared→Prop} (ho:s.heap.get? l=some o) (hc:o.cls=.type T) (hd:o.data=.seq vs.toArray n) (hT:T="list"∨T="tuple") (hz:vs.length≤sizeLine)
 (h:Q vs { s with heap:=(s.heap.push (seqObj "list" #[] 0)).update s.heap.objs.size (Obj.mapSeq (·++vs.toArray)) }):wpAny (model prog w) A (collect (.ref l)) Q E s:=by
 unfold collect
 refine wpAny_bind (wpAny_runValue (codeAny_builtin entry_proto_collect' ?mk))
 case mk=>
 show wpAny _ _ (do again (.builtin "list.__iadd__" ⟨[← newList [],.ref l],[]⟩)) _ _ _
 refine wpAny_bind (wpAny_newList (wpAny_pure (And.intro (Code.quiet_builtin _ (by decide +kernel)) (codeAny_builtin entry_list_iadd' ?_))))
 show wpAny (model prog w) _ (Builtin.List.listExtendWith (.ref s.heap.objs.size) (.ref l) (.ref s.heap.objs.size)) _ _ { s with heap:=s.heap.push (seqObj "list" #[] 0) }
 unfold Builtin.List.listExtendWith
 have hO':(s.heap.push (seqObj "list" #[] 0)).get? l=some o:=Heap.get?_push_of_some _ ho
 have hN:(s.heap.push (seqObj "list" #[] 0)).get? s.heap.objs.size=some (seqObj "list" #[] 0):=Heap.get?_push_size _ rfl
 refine wpAny_bind (wpAny_typeOf (T:=T) ⟨o,hO',hc⟩ ?_)
 have e1:(Value.type "list" == Value.type "list")=true:=by rfl
 have e2:(Value.type "tuple" == Value.type "tuple")=true:=by rfl
 rw [if_pos (by rcases hT with rfl | rfl <;> simp [e1,e2])]
 refine wpAny_bind (listItems_at hO' hd (wpAny_bind (listItems_at hN rfl ?_)))
 rw [if_neg (by simp)]
 refine wpAny_bind (listUpdate_at hN rfl (wpAny_pure ?_) (Nat.zero_le _) (by rw [Array.size_append,List.size_toArray];show 0+vs.length≤_;omega))
 show wpAny (model prog w) A (do
  let z ← load s.heap.objs.size
  match z.data with
  | .seq xs _=>pure xs.toList
  | _=>unsupported "internal:collect") Q E ⟨(s.heap.push (seqObj "list" #[] 0)).update s.heap.objs.size (Obj.mapSeq (·++vs.toArray)),s.gens,s.drawn,s.toks,s.os⟩
 refine wpAny_bind (wpAny_load (get?_update_seq hN _) ?_)
 show wpAny (model prog w) _ (pure ((#[]:Array Value)++vs.toArray).toList) Q E _
 have e3:((#[]:Array Value)++vs.toArray).toList=vs:=by simp
 rw [e3]
 exact wpAny_pure h
theorem w_sorted {l:Addr} {vs:List Value} {ns:List Int} {o:Obj} {T:String} {n:Nat} {b:Bool} {Q:Value→Shared→Prop} (ho:s.heap.get? l=some o) (hc:o.cls=.type T) (hd:o.data=.seq vs.toArray n) (hT:T="list"∨T="tuple") (hI:IntsAre vs ns) (hz:vs.length≤sizeLine)
 (h:∀ (r:Array Value) (ns':List Int),IntsAre r.toList ns'→ns'.Perm ns→Ordered b ns'→Q (.ref (s.heap.objs.size+1)) { s with heap:=sortedAll s.heap vs r }):wpAny (model prog w) A (call (.builtin "sorted") [.ref l] (kwOf b)) Q E s:=by
 have ha:argsOk "sorted" ⟨[.ref l],kwOf b⟩:=by cases b;exact args_sorted1 _;exact args_sorted_rev _ _
 refine call_function_entry_kw kind_sorted plain_sorted entry_sorted ha ?_
 unfold Builtin.«sorted»
 refine wpAny_bind (m:=checkCount "sorted" 1 1 _) (wpAny_pure (wpAny_bind (w_collect ho hc hd hT hz (wpAny_bind (wpAny_newList ?_ ?hs)))))
 case hs=>exact hz
 generalize hG:(s.heap.push (seqObj "list" #[] 0)).update s.heap.objs.size (Obj.mapSeq (·++vs.toArray))=G
 have sG:G.objs.size=s.heap.objs.size+1:=by rw [← hG,Heap.size_update,size_push']
 have hL:(G.push (seqObj "list" vs.toArray 0)).get? (s.heap.objs.size+1)=some (seqObj "list" vs.toArray 0):=by rw [← sG];exact Heap.get?_push_size _ rfl
 show wpAny _ _ _ _ _ { s with heap:=G.push (seqObj "list" vs.toArray 0) }
 rw [show ({ s with heap:=G }:Shared).heap.objs.size=s.heap.objs.size+1 from sG]
 have hs:argsOk "list.sort" ⟨[.ref (s.heap.objs.size+1)],kwOf b⟩:=by cases b;exact args_list_sort _;exact args_list_sort_rev _ _
 refine wpAny_bind (wpAny_holding (wpAny_call_entry_kw slot_list_sort ⟨_,hL,rfl⟩ entry_list_sort (w_sort hL hI hz fun r ns' g1 g2 g3=>⟨_,rfl,wpAny_pure ⟨_,rfl,?_⟩⟩) hs))
 have:=h r ns' g1 g2 g3
 unfold sortedAll at this
 rw [hG] at this
 exact this
end
end SRT
namespace L2
open PySem PySem.Spec PyProof.Rows
section
variable {X:Cx}
def rSortB (K:PySem.W.Frag) (b:Bool):List V→Hp→VK→Prop:=fun xs H Q=>match xs with
 | [.ref p]=>∃ ns:List Int,(SqL K H p (ns.map V.int)∨SqT K H p (ns.map V.int))∧∀ l ns',H l=none→List.Perm ns' ns→Ordered b ns'→Q (.ref l) (upd H l (.lst (ns'.map V.int)))
 | _=>False
theorem sort_any {b:Bool} (pins:List (Addr×Obj)) (s:Shared) (σ:St) (H:Hp) (xs:List V) (us:List Value) (Q:VK) (I:Inv X pins σ H s) (r:Vals xs us) (h:rSortB X.K b xs H Q) :
 wpAny (model X.prog X.w) X.A (call (.builtin "sorted") us (SRT.kwOf b)) (EP X pins σ Q) X.xe s:=by
 unfold rSortB at h
 split at h
 · rename_i p
   obtain ⟨ns,hq,q⟩:=h
   obtain ⟨u,rfl,rx⟩:=vals1 r
   cases rx
   obtain ⟨its,T,o,n,hI,hz,hz2,ho,hc,hd,hT⟩:∃ (its:List Value) (T:String) (o:Obj) (n:Nat),IntsAre its ns∧its.length≤sizeLine∧ns.length≤sizeLine∧s.heap.get? p=some o∧o.cls=.type T∧o.data=.seq its.toArray n∧(T="list"∨T="tuple"):=by
    rcases hq with hq | hq
    · obtain ⟨its,rv,pl,hz⟩:=I.list hq
      obtain ⟨o,ho,hc,n,hd⟩:=id pl.isList
      exact ⟨its,"list",o,n,intsAre_of rv,by rw [← rv.length];exact hz,by rw [List.length_map] at hz;exact hz,ho,hc,hd,.inl rfl⟩
    · obtain ⟨its,rv,pl,hz⟩:=I.tuple hq
      obtain ⟨o,ho,hc,n,hd⟩:=id pl
      exact ⟨its,"tuple",o,n,intsAre_of rv,by rw [← rv.length];exact hz,by rw [List.length_map] at hz;exact hz,ho,hc,hd,.inr rfl⟩
   refine SRT.w_sorted ho hc hd hT hI hz fun out ns' a1 a2 a3=>?_
   obtain ⟨e,he⟩:=sortedAll_at s.heap its out
   refine ⟨.ref (s.heap.objs.size+1),_,I.laid (t':=s.toks) (a:=s.heap.objs.size+1) (o:=.lst (ns'.map V.int)) (fun c ob q=>sortedAll_old q) (Nat.le_succ _) ?_,rfl,q _ ns' (I.hok.fresh (Nat.le_succ _)) a2 a3⟩
   refine ⟨?_,out.toList,e,vals_ints a1,he⟩
   rw [List.length_map,a2.length_eq]
   exact hz2
 · exact h.elim
variable {e:Expr} {es:List Expr} {t:TA} {p pos:Pos}
theorem pcb_sortR {k:Nat} {p2 p3:Pos} (hg:Gl X "sorted") (hm:X.mg "sorted" = none) (ha:PA X [e] t) (he:starEach [e] X.env=[(false,eval e X.env)]) :
 PE X (.Call (.Name "sorted" p) [e] [⟨some "reverse",.Constant (.bool true) k p2,p3⟩] pos) (tCB (rSortB X.K true) t):=by
 intro pins s σ H Q I h
 refine wpAny_Call_Name_kw (ld_blt I hg hm boot_sorted' ?_ (by decide) (by decide))
 refine callWith_kw (thn (ha pos pins s σ H _ I h) fun us s1 ⟨vs,H1,I1,r1,q1⟩=>?_) ?_ ?_ rfl rfl
 · refine kws_cons (wpAny_Constant_bool (kws_nil ?_))
   exact sort_any (b:=true) pins s1 σ H1 vs us Q I1 r1 q1
 · rw [he]
   rfl
 · rw [he]
   rfl
theorem zcb_sortR {k:Nat} {p2 p3:Pos} (hg:Gl X "sorted") (hm:X.mg "sorted" = none) (ha:ZA X [e] t) (he:starEach [e] X.env=[(false,eval e X.env)]) :
 ZE X (.Call (.Name "sorted" p) [e] [⟨some "reverse",.Constant (.bool true) k p2,p3⟩] pos) (tCB (rSortB X.K true) t):=by with_unfolding_all exact pcb_sortR hg hm ha he
variable {o:Expr} {to:TE} {apos cpos:Pos}
end
end L2
namespace L2
open PySem PySem.Spec PyProof.Rows
section
variable {X:Cx}
variable {e:Expr} {es:List Expr} {t:TA} {p pos:Pos}
def rExtP:V→List V→Hp→VK→Prop:=fun x vs H Q=>match x,vs with
 | .ref l,[.ref b]=>∃ xs zs,H l=some (.lst xs)∧H b=some (.lst zs)∧xs.length+zs.length≤sizeLine∧Q .non (upd H l (.lst (xs++zs)))
 | _,_=>False
theorem mt_extP:MtM X "list.extend" rExtP:=fun pins s σ H x vs v us Q I rx rv h=>by
 unfold rExtP at h
 split at h
 · obtain ⟨xs,zs,h1,h2,h3,q⟩:=h
   exact mt_extend pins s σ H _ _ v us Q I rx rv ⟨_,_,xs,zs,rfl,rfl,h1,h2,h3,q⟩
 · exact h.elim
variable {o:Expr} {to:TE} {apos cpos:Pos}
theorem pm_extend (ho:PE X o to) (ha:PA X (e::es) t) (hbase:attributeBase o "extend" X.env (eval o X.env)=eval o X.env:=by rfl)
 (hfew:((backTo cpos (starEach (e::es) X.env)).all (fun x=>!x.1)&&(backToKw cpos (keywordEach [] X.env)).all (fun x=>x.1.isSome)
   && decide ((e::es).length+([]:List Keyword).length+(if ([]:List Keyword).isEmpty then 0 else 1)<30))=true:=by rfl)
 (hline:(apos.endLine == cpos.line)=true:=by rfl) (hs:starEach (e::es) X.env=(false,eval e X.env)::starEach es X.env:=by rfl) (hplain:(backTo cpos (starEach es X.env)).any (·.1)=false:=by rfl) :
 PE X (.Call (.Attribute o "extend" apos) (e::es) [] cpos) (fun σ H Q=>to σ H fun x H1=>tyV X.K "list" x H1∧t σ H1 fun xs H2=>rExtP x xs H2 Q):=
 pe_bm PySem.F.plainAttrs_list PySem.F.slot_list_extend PySem.F.type_list_extend mt_extP ho ha hbase hfew hline hs hplain
theorem zm_extend (ho:ZE X o to) (ha:ZA X (e::es) t) (hbase:attributeBase o "extend" X.env (eval o X.env)=eval o X.env:=by rfl)
 (hfew:((backTo cpos (starEach (e::es) X.env)).all (fun x=>!x.1)&&(backToKw cpos (keywordEach [] X.env)).all (fun x=>x.1.isSome)
   && decide ((e::es).length+([]:List Keyword).length+(if ([]:List Keyword).isEmpty then 0 else 1)<30))=true:=by rfl)
 (hline:(apos.endLine == cpos.line)=true:=by rfl) (hs:starEach (e::es) X.env=(false,eval e X.env)::starEach es X.env:=by rfl) (hplain:(backTo cpos (starEach es X.env)).any (·.1)=false:=by rfl) :
 ZE X (.Call (.Attribute o "extend" apos) (e::es) [] cpos) (fun σ H Q=>to σ H fun x H1=>tyV X.K "list" x H1∧t σ H1 fun xs H2=>rExtP x xs H2 Q):=by with_unfolding_all exact pm_extend ho ha hbase hfew hline hs hplain
end
section
variable {X:Cx} {e:Expr} {es:List Expr} {t:TA} {p pos:Pos} {o:Expr} {to:TE} {apos cpos:Pos}
def rPopK:V→List V→Hp→VK→Prop:=fun x vs H Q=>match x,vs with
 | .ref l,[.int i]=>∃ xs k y,H l=some (.lst xs)∧(-(2 ^ 63)≤i∧i<2 ^ 63)∧seqIndex? i xs.length=some k∧xs[k]? = some y∧Q y (upd H l (.lst (xs.eraseIdx k)))
 | _,_=>False
theorem mt_popK:MtM X "list.pop" rPopK:=fun pins s σ H x vs v us Q I rx rv h=>by
 unfold rPopK at h
 split at h
 · obtain ⟨xs,k,y,h1,⟨h2,h3⟩,h4,h5,q⟩:=h
   exact mt_popAt pins s σ H _ _ v us Q I rx rv ⟨_,xs,_,k,y,rfl,rfl,h1,h2,h3,h4,h5,q⟩
 · exact h.elim
theorem pm_popK (ho:PE X o to) (ha:PA X (e::es) t) (hbase:attributeBase o "pop" X.env (eval o X.env)=eval o X.env:=by rfl)
 (hfew:((backTo cpos (starEach (e::es) X.env)).all (fun x=>!x.1)&&(backToKw cpos (keywordEach [] X.env)).all (fun x=>x.1.isSome)
   && decide ((e::es).length+([]:List Keyword).length+(if ([]:List Keyword).isEmpty then 0 else 1)<30))=true:=by rfl)
 (hline:(apos.endLine == cpos.line)=true:=by rfl) (hs:starEach (e::es) X.env=(false,eval e X.env)::starEach es X.env:=by rfl) (hplain:(backTo cpos (starEach es X.env)).any (·.1)=false:=by rfl) :
 PE X (.Call (.Attribute o "pop" apos) (e::es) [] cpos) (fun σ H Q=>to σ H fun x H1=>tyV X.K "list" x H1∧t σ H1 fun xs H2=>rPopK x xs H2 Q):=
 pe_bm PySem.F.plainAttrs_list PySem.F.slot_list_pop PySem.F.type_list_pop mt_popK ho ha hbase hfew hline hs hplain
theorem zm_popK (ho:ZE X o to) (ha:ZA X (e::es) t) (hbase:attributeBase o "pop" X.env (eval o X.env)=eval o X.env:=by rfl)
 (hfew:((backTo cpos (starEach (e::es) X.env)).all (fun x=>!x.1)&&(backToKw cpos (keywordEach [] X.env)).all (fun x=>x.1.isSome)
   && decide ((e::es).length+([]:List Keyword).length+(if ([]:List Keyword).isEmpty then 0 else 1)<30))=true:=by rfl)
 (hline:(apos.endLine == cpos.line)=true:=by rfl) (hs:starEach (e::es) X.env=(false,eval e X.env)::starEach es X.env:=by rfl) (hplain:(backTo cpos (starEach es X.env)).any (·.1)=false:=by rfl) :
 ZE X (.Call (.Attribute o "pop" apos) (e::es) [] cpos) (fun σ H Q=>to σ H fun x H1=>tyV X.K "list" x H1∧t σ H1 fun xs H2=>rPopK x xs H2 Q):=by with_unfolding_all exact pm_popK ho ha hbase hfew hline hs hplain
def tNo:TS:=fun _ _ _=>False
theorem ps_no {st:Stmt}:PS X st tNo:=fun _ _ _ _ _ _ h=>h.elim
theorem zs_no {st:Stmt}:ZS X st tNo:=by with_unfolding_all exact ps_no
end
end L2
namespace L2
open PySem PySem.Spec PyProof.Rows
section
variable {X:Cx}
theorem least_is {ns:List Int} (h:ns≠[]):ns.getD (argBest (fun i j=>decide (ns.getD i 0<ns.getD j 0)) (ns.length - 1)) 0∈ns∧∀ n∈ns,ns.getD (argBest (fun i j=>decide (ns.getD i 0<ns.getD j 0)) (ns.length - 1)) 0≤n:=by
 have hp:0<ns.length:=List.length_pos_iff.mpr h
 obtain ⟨h1,h2⟩:=argBest_lt (fun i=>ns.getD i 0) (ns.length - 1)
 have hlt:argBest (fun i j=>decide (ns.getD i 0<ns.getD j 0)) (ns.length - 1)<ns.length:=by omega
 refine ⟨?_,fun n hn=>?_⟩
 · rw [List.getD_eq_getElem?_getD,List.getElem?_eq_getElem hlt]
   exact List.getElem_mem hlt
 · obtain ⟨i,hi,rfl⟩:=List.mem_iff_getElem.mp hn
   have:=h2 i (by omega)
   have e:ns.getD i 0=ns[i]:=by rw [List.getD_eq_getElem?_getD,List.getElem?_eq_getElem hi];rfl
   rw [e] at this
   exact this
def rMinT:List V→Hp→VK→Prop:=fun xs H Q=>match xs with
 | [.ref p]=>∃ ns:List Int,H p=some (.tup (ns.map V.int))∧ns≠[]∧∀ M,M∈ns→(∀ n∈ns,M≤n)→Q (.int M) H
 | _=>False
theorem call_minT (hc:X.calm=true):CallR X (.builtin "min") rMinT:=by
 intro pins s σ H xs us Q I r h
 unfold rMinT at h
 split at h
 · rename_i p
   obtain ⟨ns,hq,hne,q⟩:=h
   obtain ⟨u,rfl,rx⟩:=vals1 r
   cases rx
   have hh:X.A.in1.handled=none:=I.ok.hd hc
   have hb:=least_is hne
   obtain ⟨its,rv,pl,hz⟩:=I.tuple (SqT.of hq)
   have hlen:its.length=ns.length:=by rw [← rv.length,List.length_map]
   have hlt:p<s.heap.objs.size:=pl.lt
   refine call_min_walk (wpAny_pyIter_tuple pl ?_)
   refine ⟨s.heap.objs.size,_,_,_,_,_,_,rfl,Walks.tuple hh s.heap.objs.size p (Nat.ne_of_lt hlt) its.toArray,⟨⟨_,Heap.get?_push_size _ rfl,rfl,rfl⟩,pl.push _⟩,?_,?_,CmpOf.ints_lt (fun i=>ns.getD i 0) (fun i v hv=>ints_at rv hv),fun v h' tk hv hk=>?_⟩
   · intro b hb
     rw [Heap.size_push]
     rcases List.mem_cons.mp hb with rfl | hb
     · exact Nat.lt_succ_self _
     · rcases List.mem_cons.mp hb with rfl | hb
       · exact Nat.lt_succ_of_lt hlt
       · cases hb
   · rw [List.size_toArray,hlen];exact List.length_pos_iff.mpr hne
   · obtain ⟨t,rfl⟩:=ints_at rv hv
     refine ⟨.int _,H,I.kept fun b o e=>hk b o (by simpa using Nat.ne_of_lt (Heap.lt_size e)) (Heap.get?_push_of_some _ e),⟨t,rfl⟩,?_⟩
     rw [List.size_toArray,hlen]
     exact q _ hb.1 hb.2
 · exact h.elim
variable {e:Expr} {es:List Expr} {t:TA} {p pos:Pos}
end
section
variable {X:Cx}
theorem noPy61 {x y:Int} (h:y.natAbs<2 ^ 300):Builtin.divisionGoesByPylong x y=false:=by
 unfold Builtin.divisionGoesByPylong
 have h1:(if (y == 0)=true then 0 else y.natAbs.log2 / 30+1)≤300:=by
  split
  · exact Nat.zero_le _
  · rename_i hy
    have hne:y.natAbs≠0:=fun z=>hy (by simp;omega)
    have:y.natAbs.log2<300:=(Nat.log2_lt hne).mpr h
    omega
 simp only [Bool.and_eq_false_iff]
 exact .inl (decide_eq_false (by omega))
def CDivC (i j:Int):Prop:=0<j∧j<10000000000000000000000000000000000000000000000000000000000000
theorem op_fdivC:OpR X (binaryOp .FloorDiv) (rP CDivC fun i j=>.int (i / j)):=(show OpR X (binaryOp .FloorDiv) (rI CDivC fun i j=>.int (i / j)) from opI fun i j _ _ _ _ _ hc q=>by
 have h1:(0:Int)<j:=hc.1
 have h2:j<10000000000000000000000000000000000000000000000000000000000000:=hc.2
 exact floordiv_int (by omega) (by rw [Int.fdiv_eq_ediv_of_nonneg i (by omega)];exact q) (.inl (noPy61 (by omega)))).imp rP_rI
end
end L2
namespace K65
open PySem L2
def top (i:Nat):Stmt:=PySem.Challenge.pw_partrests_k65_whole_places_to_150.main.body.getD i (.Pass ⟨0,0,0,0⟩)
def Hand (H:Hp) (a L:Addr) (n:Nat):Prop:=∃ (gs:List Int) (s c:Int),H a=some (.lst [.ref L,.int s,.int c])∧H L=some (.lst (gs.map V.int))∧(∀ g∈gs,(0:Int)≤g)∧gs.length≤63∧0≤s∧s<2305843009213693951∧0≤c∧c≤n∧a≠L
def Step (a L:Addr) (n:Nat) (H H':Hp):Prop:=(∀ b o,b≠a→b≠L→H b=some o→H' b=some o)∧Hand H' a L n
theorem Hand.mono {H:Hp} {a L:Addr} {n m:Nat} (h:Hand H a L n) (k:n≤m):Hand H a L m:=let ⟨g,s,c,e,e2,h1,h2,h3,h4,h5,h6,h7⟩:=h;⟨g,s,c,e,e2,h1,h2,h3,h4,h5,by omega,h7⟩
theorem Hand.same {H H':Hp} {a L:Addr} {n:Nat} (h:Hand H a L n) (y:Same H H'):Hand H' a L n:=let ⟨g,s,c,e,e2,r⟩:=h;⟨g,s,c,y _ _ e,y _ _ e2,r⟩
theorem Hand.ne {H:Hp} {a L b:Addr} {n:Nat} (h:Hand H a L n) (hb:H b=none):b≠a∧b≠L:=by
 obtain ⟨g,s,c,e,e2,_⟩:=h
 exact ⟨fun z=>(by rw [z,e] at hb;cases hb),fun z=>(by rw [z,e2] at hb;cases hb)⟩
theorem Step.trans {a L:Addr} {n m:Nat} {H H1 H2:Hp} (x:Step a L n H H1) (y:Step a L m H1 H2):Step a L m H H2:=⟨fun b o k k2 e=>y.1 b o k k2 (x.1 b o k k2 e),y.2⟩
theorem Step.same {a L:Addr} {n:Nat} {H H1 H2:Hp} (x:Step a L n H H1) (y:Same H1 H2):Step a L n H H2:=⟨fun b o k k2 e=>y b o (x.1 b o k k2 e),x.2.same y⟩
theorem Step.refl {a L:Addr} {n:Nat} {H:Hp} (h:Hand H a L n):Step a L n H H:=⟨fun _ _ _ _ e=>e,h⟩
theorem Step.mono {a L:Addr} {n m:Nat} {H H':Hp} (x:Step a L n H H') (k:n≤m):Step a L m H H':=⟨x.1,x.2.mono k⟩
theorem Step.tup {a L b:Addr} {n m:Nat} {H H1:Hp} {xs:List V} (h:Hand H a L m) (x:Step a L n H H1) (e:H b=some (.tup xs)):H1 b=some (.tup xs):=by
 obtain ⟨g,s,c,e',e2,_⟩:=h
 exact x.1 b _ (ne_of e e' (by intro z;cases z)) (ne_of e e2 (by intro z;cases z)) e
theorem Step.updN {a L D:Addr} {n:Nat} {H H1:Hp} {o:HO} (x:Step a L n H H1) (k:D≠a∧D≠L) (e:H D=none):Step a L n H (upd H1 D o):=by
 refine ⟨fun b u nb nL eb=>?_,?_⟩
 · rw [upd_ne (ne_of_none eb e)]
   exact x.1 b u nb nL eb
 · obtain ⟨g,s,c,e1,e2,r⟩:=x.2
   exact ⟨g,s,c,by rw [upd_ne (Ne.symm k.1)];exact e1,by rw [upd_ne (Ne.symm k.2)];exact e2,r⟩
theorem Step.lst {a L b:Addr} {n:Nat} {H H1:Hp} {xs:List V} (x:Step a L n H H1) (k:b≠a∧b≠L) (e:H b=some (.lst xs)):H1 b=some (.lst xs):=x.1 b _ k.1 k.2 e
theorem Step.none {a L b:Addr} {n:Nat} {H H1:Hp} (x:Step a L n H H1) (k:b≠a∧b≠L) (e:H1 b=none):H b=none:=by
 cases q:H b with
 | none=>rfl
 | some o=>have:=x.1 b o k.1 k.2 q;rw [e] at this;cases this
theorem atI_of {xs:List V} {k:Int} {j:Nat} {v:V} (h:k=(j:Int)) (hx:xs[j]? = some v):atI xs k=some v:=by subst h;exact atI_nat hx
theorem getI {ns:List Int} {j:Nat} (h:j<ns.length):(ns.map V.int)[j]? = some (.int ns[j]):=by rw [List.getElem?_map,List.getElem?_eq_getElem h];rfl
theorem rep_flat (n:Nat) (x:Int):(List.replicate n [V.int x]).flatten=(List.replicate n x).map V.int:=by
 induction n with
 | zero=>rfl
 | succ n ih=>rw [List.replicate_succ,List.flatten_cons,ih,List.replicate_succ,List.map_cons];rfl
theorem le_line {n:Nat} (h:n≤1000):n≤sizeLine:=Nat.le_of_lt (small1000 h)
theorem mulR {a b:Int} (h1:-(2 ^ 64)<b) (h2:b<2 ^ 64):IntMulOk a b:=IntMulOk.of_right (intBits_le_64 h1 h2)
theorem mulL {a b:Int} (h1:-(2 ^ 64)<a) (h2:a<2 ^ 64):IntMulOk a b:=IntMulOk.of_left (intBits_le_64 h1 h2)
theorem ix0 {n:Nat} (h:0<n):ixN n 0=some 0:=by
 unfold ixN
 rw [if_pos (Int.le_refl _),if_pos (by omega)];rfl
theorem cut_ints (ns:List Int) (k:Int):∃ ms:List Int,cutV (ns.map V.int) none (some k)=ms.map V.int∧ms.length≤ns.length:=by
 refine ⟨(ns.drop (HT.sIx (ns.map V.int).length 0 none)).take (HT.sIx (ns.map V.int).length (ns.map V.int).length (some k) - HT.sIx (ns.map V.int).length 0 none),?_,?_⟩
 · unfold cutV
   rw [List.map_take,List.map_drop]
 · rw [List.length_take,List.length_drop]
   omega
theorem sum_ge_len:∀ {ns:List Int},(∀ n∈ns,(1:Int)≤n)→(ns.length:Int)≤ns.sum
 | [],_=>by simp
 | x::r,h=>by
   have:=sum_ge_len (ns:=r) fun n hn=>h n (List.mem_cons_of_mem _ hn)
   have:=h x List.mem_cons_self
   rw [List.length_cons,List.sum_cons]
   omega
theorem perm_sum {a b:List Int} (h:a.Perm b):a.sum=b.sum:=by
 induction h with
 | nil=>rfl
 | cons x _ ih=>rw [List.sum_cons,List.sum_cons,ih]
 | swap x y l=>simp only [List.sum_cons];omega
 | trans _ _ i1 i2=>exact i1.trans i2
section
variable {P:Program} {w:World} {K:PySem.W.Frag} {mg:Str→Option Value} {base:Heap} {f:Addr} {fd:FuncData}
theorem sc_spool:FnScope ["_law_script","_law_seed","_law_cell"] ["_law_script"] (defScope (top 33)):=⟨rfl,rfl,rfl,by decide +kernel,rfl,by decide +kernel,by decide +kernel⟩
def sp_spool (K:PySem.W.Frag):Sp:=fun vs H Q _=>∃ (a:Addr) (ns:List Int),vs=[.ref a]∧SqL K H a (ns.map V.int)∧ns.length≤63∧∀ p L H',Same H H'→Hand H' p L 0→Q (.ref p) H'
theorem ok_spool (F:Fun K "_law_spool" "_law_spool" (top 33) f fd) (m_abs:mg "abs" = none) (m_len:mg "len" = none):FnOk P w K mg base CX0 1 f fd ["_law_script"] (sp_spool K):=by
 refine F.okz sc_spool (fun vs H Q E h=>?_) (fun cdv A outer s H vs Q E hr h=>?_)
 · obtain ⟨a,ns,rfl,_⟩:=h;rfl
 obtain ⟨a,ns,rfl,hS,hl,q⟩:=h
 have nd:=sc_spool.nd
 have hu:=hr.units
 obtain ⟨ms,em,lm⟩:=cut_ints ns 63
 refine ⟨_,(zss_cons (zs_set (i:=1) nd rfl (Or.inl rfl) (ze_op op_addP (ze_op op_mulQ ze_int (zcb_len rfl m_len (za_cons (zn 0) za_nil) rfl rfl)) ze_int))
  (zss_cons (zs_for PassesOwn.never rfl (zi_list (ze_slice sl_P (zn 0) zo_none (zo_some ze_int))) (zg_name (i:=2) nd rfl (Or.inl rfl)) (zss_one (zs_set (i:=1) nd rfl (Or.inl rfl) (ze_op op_modP (ze_op op_addP (ze_op op_mulQ (zn 1) ze_int) (zn 2)) ze_int))))
  (zss_one (zs_ret (ze_lst (za_cons (ze_comp ["_law_cell"] [] rfl ⟨rfl,by decide +kernel,by decide +kernel,rfl,rfl⟩ (zi_list (ze_slice sl_P (zn 0) zo_none (zo_some ze_int))) kpg_name (fun _ _ _ _=>zg_name (i:=0) (show List.Nodup (["_law_cell"]:List Str) by decide +kernel) rfl (Or.inl rfl)) (fun _ _ _ _=>(zif_one (zt_cmpP op_geP (zcb_abs rfl m_abs (za_cons (zn 0) za_nil) rfl rfl) (ze_op op_powP ze_int ze_int) (nomark _)))) (fun _ _ _ _=>(zcb_abs rfl m_abs (za_cons (zn 0) za_nil) rfl rfl))) (za_cons (zn 1) (za_cons ze_int za_nil)))))))),?_⟩
 refine ⟨_,.inl hS,mulL (by decide) (by decide),?_⟩
 rw [List.length_map]
 refine ⟨_,rfl,a,rfl,.inr ⟨_,hS,fun d hd=>?_⟩⟩
 rw [em]
 have yd:=Same.new hd (.lst (ms.map V.int))
 refine ⟨d,rfl,⟨_,SqL.of upd_same⟩,for_list (xs:=ms.map V.int) (fun i σ H'=>H'=upd H d (.lst (ms.map V.int))∧∃ (z:Int) (x2:Option V),σ=[some (.ref a),some (.int z),x2]∧0≤z∧z<2305843009213693951) ⟨rfl,_,_,rfl,by omega,by omega⟩ ?_ ?_ ?_⟩
 · rintro i σ H' _ ⟨rfl,_⟩
   exact SqL.of upd_same
 · rintro i x σ H' hx ⟨rfl,z,x2,rfl,z0,z1⟩
   have hi:i<ms.length:=by
    have:=(List.getElem?_eq_some_iff.mp hx).1
    rw [List.length_map] at this
    exact this
   have ex:x=.int ms[i]:=by rw [getI hi] at hx;exact (Option.some.inj hx).symm
   subst ex
   refine ⟨mulR (by decide) (by decide),(show (0:Int)<2305843009213693951 by decide),?_⟩
   exact ⟨rfl,_,_,rfl,Int.emod_nonneg _ (by decide),Int.emod_lt_of_pos _ (by decide)⟩
 · rintro σ H' ⟨rfl,z,x2,rfl,z0,z1⟩
   refine ⟨_,rfl,a,rfl,.inr ⟨_,SqL.same yd hS,fun d2 hd2=>?_⟩⟩
   rw [em]
   have y2:=Same.new hd2 (.lst (ms.map V.int))
   refine ⟨d2,rfl,⟨_,SqL.of upd_same⟩,cmp_list (xs:=ms.map V.int) (fun i ys H'=>H'=upd (upd H d (.lst (ms.map V.int))) d2 (.lst (ms.map V.int))∧∃ gs:List Int,ys=gs.map V.int∧gs.length≤i∧∀ g∈gs,(0:Int)≤g) ⟨rfl,[],rfl,Nat.le_refl _,by simp⟩ ?_ ?_ ?_⟩
   · rintro i ys H' _ ⟨rfl,_⟩
     exact SqL.of upd_same
   · rintro i x ys H' hx ⟨rfl,gs,rfl,hg,h0⟩
     have hi:i<ms.length:=by
      have:=(List.getElem?_eq_some_iff.mp hx).1
      rw [List.length_map] at this
      exact this
     have ex:x=.int ms[i]:=by rw [getI hi] at hx;exact (Option.some.inj hx).symm
     subst ex
     refine ⟨by rw [List.length_map];exact small1000 (by omega),?_⟩
     refine ⟨⟨by decide,by decide,by decide⟩,?_⟩
     refine iteD (fun c=>?_) (fun c=>?_)
     · refine ⟨rfl,gs++[if ms[i]<0 then -ms[i] else ms[i]],by rw [List.map_append];rfl,by rw [List.length_append];show gs.length+1≤i+1;omega,fun g hg'=>?_⟩
       rcases List.mem_append.mp hg' with hg' | hg'
       · exact h0 g hg'
       · have:g=if ms[i]<0 then -ms[i] else ms[i]:=by simpa using hg'
         rw [this]
         split <;> omega
     · exact ⟨rfl,gs,rfl,by omega,h0⟩
   · rintro ys H' ⟨rfl,gs,rfl,hg,h0⟩ L hL
     rw [List.length_map] at hg
     refine ⟨by show 3≤sizeLine;decide,fun p hp=>?_⟩
     have yL:=Same.new hL (.lst (gs.map V.int))
     have yp:=Same.new hp (.lst [V.ref L,.int z,.int 0])
     have hpL:p≠L:=fun e=>by rw [e,upd_same] at hp;cases hp
     exact q p L _ (((yd.trans y2).trans yL).trans yp) ⟨gs,z,0,upd_same,yp _ _ upd_same,h0,by omega,z0,z1,by decide,by decide,hpL⟩
theorem sc_take:FnScope ["_law_spool_here","_law_many","_law_digit","_law_once","_law_twice"] ["_law_spool_here","_law_many"] (defScope (top 34)):=⟨rfl,rfl,rfl,by decide +kernel,rfl,by decide +kernel,by decide +kernel⟩
def sp_take:Sp:=fun vs H Q _=>∃ (a L:Addr) (m:Int) (n:Nat),vs=[.ref a,.int m]∧Hand H a L n∧n<1000000000∧0<m∧m<10000000000000000000000000000000000000000000000000000000000000∧∀ r H',0≤r→r<m→Step a L (n+1) H H'→Q (.int r) H'
theorem ok_take (F:Fun K "_law_take" "_law_take" (top 34) f fd):FnOk P w K mg base CX0 1 f fd ["_law_spool_here","_law_many"] sp_take:=by
 refine F.okz sc_take (fun vs H Q E h=>?_) (fun cdv A outer s H vs Q E hr h=>?_)
 · obtain ⟨a,L,m,n,rfl,_⟩:=h;rfl
 obtain ⟨a,L,m,n,rfl,hh,n1,m0,m1,q⟩:=h
 have nd:=sc_take.nd
 have hu:=hr.units
 obtain ⟨gs,z,c,ha,hL,g0,gl,z0,z1,c0,c1,aL⟩:=hh
 have rest:∃ t,ZSs (cxOf CX0 P w K mg base ["_law_spool_here","_law_many","_law_digit","_law_once","_law_twice"] "_law_take" (defScope (top 34)) f cdv A outer s H E).nox ((defBody (top 34)).drop 1) t ∧
  ∀ (H1:Hp) (gs:List Int),(∀ b o,b≠a→b≠L→H b=some o→H1 b=some o)→H1 a=some (.lst [.ref L,.int z,.int c])→H1 L=some (.lst (gs.map V.int))→(∀ g∈gs,(0:Int)≤g)→gs.length≤63→t { nx:=fun _ H'=>Q .non H',rt:=Q } [some (.ref a),some (.int m),none,none,none] H1:=by
  refine ⟨_,(zss_cons (zs_if (zt_cmpP (op_neD hu) (ze_ix ix_P (zn 0) ze_int (fun _ _=>rfl)) (ze_lst za_nil) (nomark _)) (zss_cons (zs_set (i:=2) nd rfl (Or.inl rfl) (ze_op op_modP (ze_ix ix_P (ze_ix ix_P (zn 0) ze_int (fun _ _=>rfl)) ze_int (fun _ _=>rfl)) (zn 1)))
   (zss_cons (zs_asg (ze_op op_fdivC (ze_ix ix_P (ze_ix ix_P (zn 0) ze_int (fun _ _=>rfl)) ze_int (fun _ _=>rfl)) (zn 1)) (zg_sub (ze_ix ix_P (zn 0) ze_int (fun _ _=>rfl)) ze_int set_list))
   (zss_one (zs_ret (zn 2))))) zss_nil)
   (zss_cons (zs_asg (ze_op op_addP (ze_ix ix_P (zn 0) ze_int (fun _ _=>rfl)) ze_int) (zg_sub (zn 0) ze_int set_list))
   (zss_cons (zs_set (i:=3) nd rfl (Or.inl rfl) (ze_op op_modP (ze_op op_addP (ze_ix ix_P (zn 0) ze_int (fun _ _=>rfl)) (ze_op op_mulQ ze_int (ze_ix ix_P (zn 0) ze_int (fun _ _=>rfl)))) ze_int))
   (zss_cons (zs_set (i:=4) nd rfl (Or.inl rfl) (ze_op op_modP (ze_op op_addP (ze_op op_powP (zn 3) ze_int) (ze_op op_mulQ ze_int (ze_ix ix_P (zn 0) ze_int (fun _ _=>rfl)))) ze_int))
   (zss_one (zs_ret (ze_op op_modP (ze_op op_fdivC (zn 4) ze_int) (zn 1)))))))),?_⟩
  intro H1 gs kp ha hL g0 gl
  refine ⟨_,.inl (SqL.of ha),.ref L,rfl,?_⟩
  refine ⟨Nat.zero_le _,fun d hd=>?_⟩
  have yd:=Same.new hd (.lst [])
  refine ⟨_,_,.lst (yd _ _ hL) (DatAll.ints gs),.lst (xs:=[]) upd_same .nil,shaped_list_ints _,shaped_list_ints [],?_⟩
  have ha':=yd _ _ ha
  have hL':=yd _ _ hL
  have kp':∀ b o,b≠a→b≠L→H b=some o→upd H1 d (.lst []) b=some o:=fun b o n1 n2 e=>yd _ _ (kp b o n1 n2 e)
  generalize upd H1 d (.lst [])=H2 at ha' hL' kp'
  cases gs with
  | nil=>
    refine ⟨_,.inl (SqL.of ha'),.int c,rfl,?_⟩
    refine ⟨a,_,_,_,rfl,rfl,ha',rfl,?_⟩
    refine ⟨_,.inl (SqL.of upd_same),.int z,rfl,?_⟩
    refine ⟨_,.inl (SqL.of upd_same),.int (c+1),rfl,mulL (by decide) (by decide),(show (0:Int)<2305843009213693951 by decide),?_⟩
    have e1:0≤(z+104729*(c+1)) % 2305843009213693951:=Int.emod_nonneg _ (by decide)
    have e2:(z+104729*(c+1)) % 2305843009213693951<2305843009213693951:=Int.emod_lt_of_pos _ (by decide)
    refine ⟨⟨by decide,by decide,by omega⟩,?_⟩
    refine ⟨_,.inl (SqL.of upd_same),.int (c+1),rfl,mulL (by decide) (by decide),(show (0:Int)<2305843009213693951 by decide),?_⟩
    refine ⟨⟨by decide,by decide⟩,m0,?_⟩
    refine q _ _ (Int.emod_nonneg _ (by omega)) (Int.emod_lt_of_pos _ m0) ⟨fun b o k1 k2 e=>?_,[],z,c+1,upd_same,?_,g0,gl,z0,z1,by omega,by omega,aL⟩
    · rw [upd_ne k1];exact kp' b o k1 k2 e
    · rw [upd_ne (Ne.symm aL)];exact hL'
  | cons g r=>
    refine ⟨_,.inl (SqL.of ha'),.ref L,rfl,?_⟩
    refine ⟨_,.inl (SqL.of hL'),.int g,atI_of (j:=0) rfl rfl,m0,?_⟩
    refine ⟨_,.inl (SqL.of ha'),.ref L,rfl,?_⟩
    refine ⟨_,.inl (SqL.of hL'),.int g,atI_of (j:=0) rfl rfl,⟨m0,m1⟩,?_⟩
    refine ⟨_,.inl (SqL.of ha'),.ref L,rfl,?_⟩
    refine ⟨L,_,_,0,rfl,rfl,hL',ix0 (by rw [List.length_map];exact Nat.succ_pos _),?_⟩
    have hg0:=g0 g List.mem_cons_self
    refine q _ _ (Int.emod_nonneg _ (by omega)) (Int.emod_lt_of_pos _ m0) ⟨fun b o k1 k2 e=>?_,(g / m)::r,z,c,?_,upd_same,fun x hx=>?_,gl,z0,z1,c0,by omega,aL⟩
    · rw [upd_ne k2];exact kp' b o k1 k2 e
    · rw [upd_ne aL];exact ha'
    · rcases List.mem_cons.mp hx with rfl | hx
      · exact Int.ediv_nonneg hg0 (by omega)
      · exact g0 x (List.mem_cons_of_mem _ hx)
 obtain ⟨t2,ht2,rest⟩:=rest
 refine ⟨_,(zss_cons (zs_while PassesOwn.never (ZW.zt (zw_and (zt_cmpP (op_neD hu) (ze_ix ix_P (zn 0) ze_int (fun _ _=>rfl)) (ze_lst za_nil) (nomark _)) (zw_and1 (zt_cmpP (op_eqD hu) (ze_ix ix_P (ze_ix ix_P (zn 0) ze_int (fun _ _=>rfl)) ze_int (fun _ _=>rfl)) ze_int (nomark _))))) (zss_one (zs_expr (zm_popK (ze_ix ix_P (zn 0) ze_int (fun _ _=>rfl)) (za_cons ze_int za_nil)))))
  ht2),?_⟩
 refine while_by2 (fun k σ H'=>∃ gs:List Int,k=gs.length∧σ=[some (.ref a),some (.int m),none,none,none]∧(∀ b o,b≠a→b≠L→H b=some o→H' b=some o)∧H' a=some (.lst [.ref L,.int z,.int c])∧H' L=some (.lst (gs.map V.int))∧(∀ g∈gs,(0:Int)≤g)∧gs.length≤63) gs.length ⟨gs,rfl,rfl,fun _ _ _ _ e=>e,ha,hL,g0,gl⟩ ?_
 rintro k σ H' ⟨gs,rfl,rfl,kp,ha,hL,g0,gl⟩
 refine ⟨_,.inl (SqL.of ha),.ref L,rfl,?_⟩
 refine ⟨Nat.zero_le _,fun d hd=>?_⟩
 have yd:=Same.new hd (.lst [])
 refine ⟨_,_,.lst (yd _ _ hL) (DatAll.ints gs),.lst (xs:=[]) upd_same .nil,shaped_list_ints _,shaped_list_ints [],?_⟩
 have ha':=yd _ _ ha
 have hL':=yd _ _ hL
 have kp':∀ b o,b≠a→b≠L→H b=some o→upd H' d (.lst []) b=some o:=fun b o n1 n2 e=>yd _ _ (kp b o n1 n2 e)
 generalize upd H' d (.lst [])=H2 at ha' hL' kp'
 cases gs with
 | nil=>exact rest H2 [] kp' ha' hL' g0 gl
 | cons g r=>
   refine ⟨_,.inl (SqL.of ha'),.ref L,rfl,?_⟩
   refine ⟨_,.inl (SqL.of hL'),.int g,atI_of (j:=0) rfl rfl,?_⟩
   refine iteD (fun cc=>?_) (fun cc=>?_)
   · refine ⟨fun σ' H'=>∃ gs':List Int,gs'.length<(g::r).length∧σ'=[some (.ref a),some (.int m),none,none,none]∧(∀ b o,b≠a→b≠L→H b=some o→H' b=some o)∧H' a=some (.lst [.ref L,.int z,.int c])∧H' L=some (.lst (gs'.map V.int))∧(∀ g∈gs',(0:Int)≤g)∧gs'.length≤63,?_,?_⟩
     · rintro σ' H' ⟨gs',hlt,r'⟩
       exact ⟨_,hlt,gs',rfl,r'⟩
     refine ⟨_,.inl (SqL.of ha'),.ref L,rfl,?_⟩
     refine ⟨tyL hL',_,0,.int g,hL',⟨by decide,by decide⟩,(ixN_seq (ix0 (by rw [List.length_map];exact Nat.succ_pos _))).1,rfl,?_⟩
     refine ⟨r,Nat.lt_succ_self _,rfl,fun b o k1 k2 e=>?_,?_,upd_same,fun x hx=>g0 x (List.mem_cons_of_mem _ hx),by have:(g::r).length=r.length+1:=rfl
                                                                                                                    omega⟩
     · rw [upd_ne k2];exact kp' b o k1 k2 e
     · rw [upd_ne aL];exact ha'
   · exact rest H2 (g::r) kp' ha' hL' g0 gl
end
section
variable {P:Program} {w:World} {K:PySem.W.Frag} {mg:Str→Option Value} {base:Heap} {f:Addr} {fd:FuncData}
def Prt (ns:List Int):Prop:=(∀ n∈ns,(1:Int)≤n)∧ns.Pairwise (·≥·)
theorem pick4 {k a b c d:Int} (h0:0≤k) (h1:k<4) {lo hi:Int} (ha:lo≤a∧a≤hi) (hb:lo≤b∧b≤hi) (hc:lo≤c∧c≤hi) (hd:lo≤d∧d≤hi):∃ m:Int,atI [V.int a,.int b,.int c,.int d] k=some (.int m)∧lo≤m∧m≤hi:=by
 have:k=0∨k=1∨k=2∨k=3:=by omega
 rcases this with rfl | rfl | rfl | rfl
 · exact ⟨a,rfl,ha⟩
 · exact ⟨b,rfl,hb⟩
 · exact ⟨c,rfl,hc⟩
 · exact ⟨d,rfl,hd⟩
theorem sc_parting:FnScope ["_law_spool_here","_law_most","_law_left","_law_way","_law_parts","_law_far","_law_part","_law_again"] ["_law_spool_here","_law_most"] (defScope (top 37)):=⟨rfl,rfl,rfl,by decide +kernel,rfl,by decide +kernel,by decide +kernel⟩
def sp_parting:Sp:=fun vs H Q _=>∃ (a L:Addr) (most:Int) (n:Nat),vs=[.ref a,.int most]∧Hand H a L n∧n<900000000∧0≤most∧most≤300 ∧
 ∀ r H' (ns:List Int),Step a L (n+1000) H H'→H' r=some (.tup (ns.map V.int))→Prt ns→ns.sum≤most→Q (.ref r) H'
theorem ok_parting (F:Fun K "_law_parting" "_law_parting" (top 37) f fd) (m_max:mg "max" = none) (m_min:mg "min" = none) (m_sorted:mg "sorted" = none) (m_tuple:mg "tuple" = none) (F_law_take:FnA P w K mg base "_law_take" 1 ["_law_spool_here","_law_many"] sp_take):FnOk P w K mg base CX0 2 f fd ["_law_spool_here","_law_most"] sp_parting:=by
 refine F.okz sc_parting (fun vs H Q E h=>?_) (fun cdv A outer s H vs Q E hr h=>?_)
 · obtain ⟨a,L,most,n,rfl,_⟩:=h;rfl
 obtain ⟨a,L,most,n,rfl,hh,hn,f0,f1,q⟩:=h
 have nd:=sc_parting.nd
 have hu:=hr.units
 refine ⟨_,(zss_cons (zs_par3 (i:=2) (j:=3) (k:=4) rfl nd rfl rfl rfl (by decide) (by decide) (by decide) rfl rfl rfl (za_cons (ze_fn F_law_take hr (by decide) rfl (za_cons (zn 0) (za_cons (ze_op op_addP (zn 1) ze_int) za_nil))) (za_cons (ze_fn F_law_take hr (by decide) rfl (za_cons (zn 0) (za_cons ze_int za_nil))) (za_cons (ze_lst za_nil) za_nil))) rfl)
  (zss_cons (zs_while PassesOwn.never (zt_cmpP op_gtP (zn 2) ze_int (nomark _)) (zss_cons (zs_set (i:=5) nd rfl (Or.inl rfl) (ze_ix ix_P (ze_lst (za_cons (zn 2) (za_cons (zcb_min rfl rfl m_min (za_cons (zn 2) (za_cons ze_int za_nil)) rfl rfl) (za_cons (zcb_min rfl rfl m_min (za_cons (zn 2) (za_cons ze_int za_nil)) rfl rfl) (za_cons (zcb_max rfl rfl m_max (za_cons ze_int (za_cons (ze_op op_fdivP (zn 2) ze_int) za_nil)) rfl rfl) za_nil))))) (zn 3) (fun _ _=>rfl)))
  (zss_cons (zs_set (i:=6) nd rfl (Or.inl rfl) (ze_op op_addP ze_int (ze_fn F_law_take hr (by decide) rfl (za_cons (zn 0) (za_cons (zn 5) za_nil)))))
  (zss_cons (zs_set (i:=7) nd rfl (Or.inl rfl) (zcb_min rfl rfl m_min (za_cons (ze_op op_fdivP (zn 2) (zn 6)) (za_cons (ze_op op_addP ze_int (ze_fn F_law_take hr (by decide) rfl (za_cons (zn 0) (za_cons (ze_ix ix_P (ze_lst (za_cons ze_int (za_cons ze_int (za_cons ze_int (za_cons ze_int za_nil))))) (zn 3) (fun _ _=>rfl)) za_nil)))) za_nil)) rfl rfl))
  (zss_cons (zs_expr (zm_extend (zn 4) (za_cons (ze_op op_mulQ (ze_lst (za_cons (zn 6) za_nil)) (zn 7)) za_nil)))
  (zss_one (zs_set (i:=2) nd rfl (Or.inl rfl) (ze_op op_subP (zn 2) (ze_op op_mulQ (zn 6) (zn 7))))))))))
  (zss_one (zs_ret (zcb_tuple rfl m_tuple (za_cons (zcb_sortR rfl m_sorted (za_cons (zn 4) za_nil) rfl) za_nil) rfl rfl))))),?_⟩
 refine ⟨a,L,most+1,n,rfl,hh,by omega,by omega,by omega,fun left H1 l0 l1 s1=>?_⟩
 refine ⟨a,L,4,n+1,rfl,s1.2,by omega,by decide,by decide,fun way H2 w0 w1 s2=>?_⟩
 have st2:=s1.trans s2
 refine ⟨Nat.zero_le _,fun D hD=>?_⟩
 have Dne:=st2.2.ne hD
 have Dnone:H D=none:=st2.none Dne hD
 have st4:Step a L (n+2) H (upd H2 D (.lst [])):=st2.same (Same.new hD _)
 have hD4:(upd H2 D (.lst [])) D=some (.lst (([]:List Int).map V.int)):=upd_same
 generalize upd H2 D (.lst [])=H4 at st4 hD4
 refine while_by2 (fun m σ H'=>∃ (lf:Int) (ns:List Int) (p5 p6 p7:Option V),Step a L (n+2+2*(left - lf).toNat) H H'∧H' D=some (.lst (ns.map V.int))∧σ=[some (.ref a),some (.int most),some (.int lf),some (.int way),some (.ref D),p5,p6,p7]∧m=lf.toNat∧0≤lf∧lf≤left∧(∀ x∈ns,(1:Int)≤x)∧ns.sum+lf≤most)
  left.toNat ⟨left,[],none,none,none,st4.mono (by omega),hD4,rfl,rfl,l0,Int.le_refl _,by simp,by simp;omega⟩ ?_
 rintro m σ H' ⟨lf,ns,p5,p6,p7,st,hDn,rfl,rfl,lf0,lfl,h1,hsum⟩
 have hlen:=sum_ge_len h1
 refine iteD (fun c=>?_) (fun c=>?_)
 · refine ⟨fun σ' H'=>∃ (lf':Int) (ns:List Int) (p5 p6 p7:Option V),Step a L (n+2+2*(left - lf').toNat) H H'∧H' D=some (.lst (ns.map V.int))∧σ'=[some (.ref a),some (.int most),some (.int lf'),some (.int way),some (.ref D),p5,p6,p7]∧lf' < lf∧0≤lf'∧lf'≤left∧(∀ x∈ns,(1:Int)≤x)∧ns.sum+lf'≤most,?_,?_⟩
   · rintro σ' H' ⟨lf',ns,p5,p6,p7,st,hDn,rfl,hlt,r⟩
     exact ⟨lf'.toNat,by omega,lf',ns,p5,p6,p7,st,hDn,rfl,rfl,r⟩
   refine ⟨⟨by decide,by decide⟩,?_⟩
   refine ⟨by show 4≤sizeLine;decide,fun d5 hd5=>?_⟩
   have hhalf:lf / 2≤lf∧0≤lf / 2:=by omega
   obtain ⟨fr,ef,fr0,fr1⟩:=pick4 (k:=way) (a:=lf) (b:=if 6<lf then 6 else lf) (c:=if 2<lf then 2 else lf) (d:=if lf / 2 > 1 then lf / 2 else 1) (lo:=1) (hi:=lf) w0 w1 (by omega) (by split <;> omega) (by split <;> omega) (by split <;> omega)
   have y5:=Same.new hd5 (.lst [V.int lf,.int (if 6<lf then 6 else lf),.int (if 2<lf then 2 else lf),.int (if lf / 2 > 1 then lf / 2 else 1)])
   refine ⟨_,.inl (SqL.of upd_same),.int fr,ef,?_⟩
   have st5:=st.same y5
   have hD5:=y5 _ _ hDn
   generalize upd H' d5 (.lst [V.int lf,.int (if 6<lf then 6 else lf),.int (if 2<lf then 2 else lf),.int (if lf / 2 > 1 then lf / 2 else 1)])=H5 at st5 hD5
   refine ⟨a,L,fr,_,rfl,st5.2,by omega,by omega,by omega,fun pr H6 pr0 pr1 st6=>?_⟩
   have hD6:=st6.lst Dne hD5
   refine ⟨⟨by omega,by omega⟩,?_⟩
   refine ⟨by show 4≤sizeLine;decide,fun d7 hd7=>?_⟩
   obtain ⟨tm,et,tm0,tm1⟩:=pick4 (k:=way) (a:=1) (b:=2) (c:=9) (d:=2) (lo:=1) (hi:=9) w0 w1 (by decide) (by decide) (by decide) (by decide)
   have y7:=Same.new hd7 (.lst [V.int 1,.int 2,.int 9,.int 2])
   refine ⟨_,.inl (SqL.of upd_same),.int tm,et,?_⟩
   have st7:=(st5.trans st6).same y7
   have hD7:=y7 _ _ hD6
   generalize upd H6 d7 (.lst [V.int 1,.int 2,.int 9,.int 2])=H7 at st7 hD7
   refine ⟨a,L,tm,_,rfl,st7.2,by omega,by omega,by omega,fun ag H8 ag0 ag1 st8=>?_⟩
   have hD8:=st8.lst Dne hD7
   have st9:=st7.trans st8
   have hdiv1:1≤lf / (1+pr):=(Int.le_ediv_iff_mul_le (by omega)).mpr (by omega)
   have hdiv2:(1+pr)*(lf / (1+pr))≤lf:=Int.mul_ediv_self_le (by omega)
   have hA:1≤(if 1+ag<lf / (1+pr) then 1+ag else lf / (1+pr))∧(if 1+ag<lf / (1+pr) then 1+ag else lf / (1+pr))≤lf / (1+pr):=by split <;> omega
   have hA9:(if 1+ag<lf / (1+pr) then 1+ag else lf / (1+pr))≤10:=by split <;> omega
   have eA:∃ A':Int,A'=(if 1+ag<lf / (1+pr) then 1+ag else lf / (1+pr)):=⟨_,rfl⟩
   obtain ⟨A',eA⟩:=eA
   rw [← eA] at hA hA9
   have hmul:(1+pr)*A'≤lf:=Int.le_trans (Int.mul_le_mul_of_nonneg_left hA.2 (by omega)) hdiv2
   have hmul0:1≤(1+pr)*A':=by
    have:=Int.mul_le_mul (show (1:Int)≤1+pr by omega) hA.1 (by decide) (by omega)
    omega
   refine ⟨tyL hD8,by show 1≤sizeLine;decide,fun d9 hd9=>?_⟩
   have y9:=Same.new hd9 (.lst [V.int (1+pr)])
   have eN:((if 1+ag<lf / (1+pr) then 1+ag else lf / (1+pr)):Int).toNat=A'.toNat:=by rw [eA]
   refine ⟨⟨by rw [← eA];omega,by rw [← eA];omega⟩,.inl ⟨_,upd_same,le_line (by rw [eN];show 1*A'.toNat≤1000;omega),fun d10 hd10=>?_⟩⟩
   rw [eN,rep_flat]
   have y10:=Same.new hd10 (.lst ((List.replicate A'.toNat (1+pr)).map V.int))
   refine ⟨_,_,y10 _ _ (y9 _ _ hD8),upd_same,le_line (by rw [List.length_map,List.length_map,List.length_replicate];omega),?_⟩
   refine ⟨mulR (by rw [← eA];omega) (by rw [← eA];omega),?_⟩
   have e8:ns.map V.int++(List.replicate A'.toNat (1+pr)).map V.int=(ns++List.replicate A'.toNat (1+pr)).map V.int:=by rw [List.map_append]
   rw [e8]
   refine ⟨lf - (1+pr)*A',ns++List.replicate A'.toNat (1+pr),some (.int fr),some (.int (1+pr)),some (.int (if 1+ag<lf / (1+pr) then 1+ag else lf / (1+pr))),(((st9.same y9).same y10).updN Dne Dnone).mono (by omega),upd_same,?_,by omega,by omega,by omega,fun x hx=>?_,?_⟩
   · rw [eA]
     rfl
   · rcases List.mem_append.mp hx with hx | hx
     · exact h1 x hx
     · have:=List.eq_of_mem_replicate hx
       omega
   · rw [List.sum_append,List.sum_replicate_int]
     have:((A'.toNat:Nat):Int)=A':=by omega
     rw [this,Int.mul_comm A' (1+pr)]
     omega
 · refine ⟨ns,.inl (SqL.of hDn),fun l ns' hl perm ord=>?_⟩
   refine ⟨_,.inl (SqL.of upd_same),fun r H9 y9 hr9=>?_⟩
   refine q r H9 ns' (((st.mono (by omega)).same (Same.new hl _)).same y9) hr9 ⟨fun x hx=>h1 x (perm.mem_iff.mp hx),ord⟩ ?_
   have:ns'.sum=ns.sum:=perm_sum perm
   omega
end
end K65
namespace M68
open PySem
inductive Kd where
 | bare (w:Str)
 | one (w:Str) (n:Int)
 | box (a b:Int)
 | rests (m:Int) (rs:List Int)
def Kd.Ok:Kd→Prop
 | .bare w=>w=Str.ofString "all"∨w=Str.ofString "own"
 | .one w n=>((w=Str.ofString "most"∨w=Str.ofString "few"∨w=Str.ofString "off")∧1≤n∧n≤600)∨(w=Str.ofString "times"∧2≤n∧n≤60)
 | .box a b=>(1≤a∧a≤600)∧1≤b∧b≤600
 | .rests m rs=>(2≤m∧m≤60)∧rs≠[]∧rs.Pairwise (· < ·)∧(∀ r∈rs,0≤r∧r<m)∧rs.length≤60
end M68
namespace K65
open PySem L2 M68
def nob:Kd→Prop
 | .bare w=>w=Str.ofString "all"
 | _=>True
def KdAt (H:Hp) (c:Addr):Kd→Prop
 | .bare w=>H c=some (.tup [.str w])
 | .one w n=>H c=some (.tup [.str w,.int n])
 | .box a b=>H c=some (.tup [.str (Str.ofString "box"),.int a,.int b])
 | .rests m rs=>∃ d,H c=some (.tup [.str (Str.ofString "rests"),.int m,.ref d])∧H d=some (.tup (rs.map V.int))
theorem pick3 {k a b c:Int} (h0:0≤k) (h1:k<3) {lo hi:Int} (ha:lo≤a∧a≤hi) (hb:lo≤b∧b≤hi) (hc:lo≤c∧c≤hi):∃ m:Int,atI [V.int a,.int b,.int c] k=some (.int m)∧lo≤m∧m≤hi:=by
 have:k=0∨k=1∨k=2:=by omega
 rcases this with rfl | rfl | rfl
 · exact ⟨a,rfl,ha⟩
 · exact ⟨b,rfl,hb⟩
 · exact ⟨c,rfl,hc⟩
section
variable {P:Program} {w:World} {K:PySem.W.Frag} {mg:Str→Option Value} {base:Heap} {f:Addr} {fd:FuncData}
theorem sc_kind:FnScope ["_law_spool_here","_law_most","_law_way","_law_far","_law_number","_law_word","_law_m","_law_some"] ["_law_spool_here","_law_most"] (defScope (top 35)):=⟨rfl,rfl,rfl,by decide +kernel,rfl,by decide +kernel,by decide +kernel⟩
def sp_kind:Sp:=fun vs H Q _=>∃ (a L:Addr) (most:Int) (n:Nat),vs=[.ref a,.int most]∧Hand H a L n∧n<900000000∧1≤most∧most≤8 ∧
 ∀ c H' (k:Kd),Step a L (n+100) H H'→KdAt H' c k→k.Ok→(most≤7→nob k)→Q (.ref c) H'
theorem ok_kind (F:Fun K "_law_kind" "_law_kind" (top 35) f fd) (m_range:mg "range" = none) (m_tuple:mg "tuple" = none) (F_law_take:FnA P w K mg base "_law_take" 1 ["_law_spool_here","_law_many"] sp_take):FnOk P w K mg base CX0 2 f fd ["_law_spool_here","_law_most"] sp_kind:=by
 refine F.okz sc_kind (fun vs H Q E h=>?_) (fun cdv A outer s H vs Q E hr h=>?_)
 · obtain ⟨a,L,m,n,rfl,_⟩:=h;rfl
 obtain ⟨a,L,most,n,rfl,hh,hn,m0,m1,q⟩:=h
 have nd:=sc_kind.nd
 have hu:=hr.units
 refine ⟨_,(zss_cons (zs_par (i:=2) (j:=3) rfl nd rfl rfl (by decide) rfl rfl (za_cons (ze_fn F_law_take hr (by decide) rfl (za_cons (zn 0) (za_cons (zn 1) za_nil))) (za_cons (ze_fn F_law_take hr (by decide) rfl (za_cons (zn 0) (za_cons ze_int za_nil))) za_nil)) rfl)
  (zss_cons (zs_set (i:=4) nd rfl (Or.inl rfl) (ze_op op_addP ze_int (ze_fn F_law_take hr (by decide) rfl (za_cons (zn 0) (za_cons (ze_ix ix_P (ze_lst (za_cons ze_int (za_cons ze_int (za_cons ze_int za_nil)))) (zn 3) (fun _ _=>rfl)) za_nil)))))
  (zss_cons (zs_if (zt_cmpP (op_eqD hu) (zn 2) ze_int (nomark _)) (zss_one (zs_ret (ze_tup (za_cons ze_str za_nil)))) zss_nil)
  (zss_cons (zs_if (zt_cmpP op_ltP (zn 2) ze_int (nomark _)) (zss_cons (zs_set (i:=5) nd rfl (Or.inl rfl) (ze_ix ix_P (ze_lst (za_cons ze_str (za_cons ze_str (za_cons ze_str (za_cons ze_str za_nil))))) (zn 2) (fun _ _=>rfl)))
  (zss_one (zs_ret (ze_tup (za_cons (zn 5) (za_cons (zn 4) za_nil)))))) zss_nil)
  (zss_cons (zs_if (zt_cmpP (op_eqD hu) (zn 2) ze_int (nomark _)) (zss_one (zs_ret (ze_tup (za_cons ze_str (za_cons (zn 4) (za_cons (ze_op op_addP ze_int (ze_fn F_law_take hr (by decide) rfl (za_cons (zn 0) (za_cons (ze_ix ix_P (ze_lst (za_cons ze_int (za_cons ze_int (za_cons ze_int za_nil)))) (ze_fn F_law_take hr (by decide) rfl (za_cons (zn 0) (za_cons ze_int za_nil))) (fun _ _=>rfl)) za_nil)))) za_nil)))))) zss_nil)
  (zss_cons (zs_if (zt_cmpP (op_eqD hu) (zn 2) ze_int (nomark _)) (zss_one (zs_ret (ze_tup (za_cons ze_str za_nil)))) zss_nil)
  (zss_cons (zs_set (i:=6) nd rfl (Or.inl rfl) (ze_op op_addP ze_int (ze_fn F_law_take hr (by decide) rfl (za_cons (zn 0) (za_cons (ze_ix ix_P (ze_lst (za_cons ze_int (za_cons ze_int (za_cons ze_int za_nil)))) (zn 3) (fun _ _=>rfl)) za_nil)))))
  (zss_cons (zs_if (zt_cmpP (op_eqD hu) (zn 2) ze_int (nomark _)) (zss_one (zs_ret (ze_tup (za_cons ze_str (za_cons (zn 6) za_nil))))) zss_nil)
  (zss_cons (zs_setcomp (i:=7) ["_law_rest"] [("_law_spool_here",0)] rfl nd rfl (Or.inl rfl) ⟨rfl,by decide +kernel,by decide +kernel,rfl,rfl⟩ (zi_range1 rfl m_range (za_cons (zn 6) za_nil)) kpg_name (fun _ _ _ _=>zg_name (i:=0) (show List.Nodup (["_law_rest","_law_spool_here"]:List Str) by decide +kernel) rfl (Or.inl rfl)) (fun _ _ _ _=>(zif_one (zt_cmpP (op_eqD hu) (ze_fn F_law_take hr (by decide) rfl (za_cons (zn 1) (za_cons ze_int za_nil))) ze_int (nomark _)))) (fun _ _ _ _=>(zn 0)))
  (zss_one (zs_ret (ze_tup (za_cons ze_str (za_cons (zn 6) (za_cons (ze_ifExp (zt_cmpP (op_neD hu) (zn 7) (ze_lst za_nil) (nomark _)) (zcb_tuple rfl m_tuple (za_cons (zn 7) za_nil) rfl rfl) (ze_tup (za_cons (ze_op op_modP (zn 4) (zn 6)) za_nil))) za_nil))))))))))))))),?_⟩
 refine ⟨a,L,most,n,rfl,hh,by omega,by omega,by omega,fun way H1 w0 w1 st1=>?_⟩
 refine ⟨a,L,3,n+1,rfl,st1.2,by omega,by decide,by decide,fun far H2 f0 f1 st2=>?_⟩
 refine ⟨_,_,rfl,?_⟩
 have t2:=st1.trans st2
 refine ⟨by show 3≤sizeLine;decide,fun d3 hd3=>?_⟩
 have y3:=Same.new hd3 (.lst [V.int 6,.int 30,.int 600])
 obtain ⟨x,ex,x0,x1⟩:=pick3 (a:=6) (b:=30) (c:=600) f0 f1 (lo:=1) (hi:=600) (by decide) (by decide) (by decide)
 refine ⟨_,.inl (SqL.of upd_same),.int x,ex,?_⟩
 refine ⟨a,L,x,n+1+1,rfl,(t2.same y3).2,by omega,by omega,by omega,fun nr H4 n0 n1 st4=>?_⟩
 have t4:=(t2.same y3).trans st4
 have hnum:1≤1+nr∧1+nr≤600:=by omega
 refine iteD (fun c=>?_) (fun c0=>?_)
 · refine ⟨by show 1≤sizeLine;decide,fun d5 hd5=>?_⟩
   exact q d5 _ (.bare (Str.ofString "all")) ((t4.same (Same.new hd5 _)).mono (by omega)) upd_same (.inl rfl) (fun _=>rfl)
 refine iteD (fun c=>?_) (fun c4=>?_)
 · refine ⟨by show 4≤sizeLine;decide,fun d5 hd5=>?_⟩
   have y5:=Same.new hd5 (.lst [V.str (Str.ofString "all"),.str (Str.ofString "most"),.str (Str.ofString "few"),.str (Str.ofString "off")])
   have:way=1∨way=2∨way=3:=by
    have:way≠0:=fun z=>c0 (by rw [z])
    omega
   obtain ⟨wd,ewd,hwd⟩:∃ wd:Str,atI [V.str (Str.ofString "all"),.str (Str.ofString "most"),.str (Str.ofString "few"),.str (Str.ofString "off")] way=some (.str wd)∧(wd=Str.ofString "most"∨wd=Str.ofString "few"∨wd=Str.ofString "off"):=by
    rcases this with rfl | rfl | rfl
    · exact ⟨_,rfl,.inl rfl⟩
    · exact ⟨_,rfl,.inr (.inl rfl)⟩
    · exact ⟨_,rfl,.inr (.inr rfl)⟩
   refine ⟨_,.inl (SqL.of upd_same),.str wd,ewd,?_⟩
   refine ⟨by show 2≤sizeLine;decide,fun d6 hd6=>?_⟩
   exact q d6 _ (.one wd (1+nr)) (((t4.same y5).same (Same.new hd6 _)).mono (by omega)) upd_same (.inl ⟨hwd,hnum⟩) (fun _=>trivial)
 refine iteD (fun c=>?_) (fun c5=>?_)
 · refine ⟨by show 3≤sizeLine;decide,fun d5 hd5=>?_⟩
   have y5:=Same.new hd5 (.lst [V.int 6,.int 30,.int 600])
   have t5:=t4.same y5
   have ne5:=t4.2.ne hd5
   refine ⟨a,L,3,_,rfl,t5.2,by omega,by decide,by decide,fun far2 H6 g0 g1 st6=>?_⟩
   obtain ⟨u,eu,u0,u1⟩:=pick3 (a:=6) (b:=30) (c:=600) g0 g1 (lo:=1) (hi:=600) (by decide) (by decide) (by decide)
   refine ⟨_,.inl (SqL.of (st6.lst ne5 upd_same)),.int u,eu,?_⟩
   refine ⟨a,L,u,_,rfl,st6.2,by omega,by omega,by omega,fun v H7 v0 v1 st7=>?_⟩
   refine ⟨by show 3≤sizeLine;decide,fun d8 hd8=>?_⟩
   exact q d8 _ (.box (1+nr) (1+v)) ((((t5.trans st6).trans st7).same (Same.new hd8 _)).mono (by omega)) upd_same ⟨hnum,by omega,by omega⟩ (fun _=>trivial)
 refine iteD (fun c=>?_) (fun c7=>?_)
 · refine ⟨by show 1≤sizeLine;decide,fun d5 hd5=>?_⟩
   exact q d5 _ (.bare (Str.ofString "own")) ((t4.same (Same.new hd5 _)).mono (by omega)) upd_same (.inr rfl) (fun h=>by have:=V.int.inj c;omega)
 refine ⟨by show 3≤sizeLine;decide,fun d5 hd5=>?_⟩
 have y5:=Same.new hd5 (.lst [V.int 4,.int 12,.int 59])
 obtain ⟨z,ez,z0,z1⟩:=pick3 (a:=4) (b:=12) (c:=59) f0 f1 (lo:=1) (hi:=59) (by decide) (by decide) (by decide)
 refine ⟨_,.inl (SqL.of upd_same),.int z,ez,?_⟩
 refine ⟨a,L,z,_,rfl,(t4.same y5).2,by omega,by omega,by omega,fun mr H6 r0 r1 st6=>?_⟩
 have t6:=(t4.same y5).trans st6
 have hm:2≤2+mr∧2+mr≤60:=by omega
 refine iteD (fun c=>?_) (fun c8=>?_)
 · refine ⟨by show 2≤sizeLine;decide,fun d7 hd7=>?_⟩
   exact q d7 _ (.one (Str.ofString "times") (2+mr)) ((t6.same (Same.new hd7 _)).mono (by omega)) upd_same (.inr ⟨rfl,hm⟩) (fun _=>trivial)
 refine ⟨(2+mr),rfl,by omega,by omega,cmp_range (fun i ys H'=>Step a L (n+1+1+1+1+i) H H'∧∃ rs:List Int,ys=rs.map V.int∧rs.length≤i∧rs.Pairwise (· < ·)∧∀ r∈rs,0≤r∧r<i) ⟨t6,[],rfl,Nat.zero_le _,List.Pairwise.nil,fun r hr=>(nomatch hr)⟩ ?_ ?_⟩
 · rintro i ys H' hi ⟨st,rs,rfl,rl,rp,rb⟩
   refine ⟨by rw [List.length_map];exact small1000 (by omega),?_⟩
   refine ⟨a,L,2,_,rfl,st.2,by omega,by decide,by decide,fun b H7 b0 b1 st7=>?_⟩
   refine iteD (fun c=>?_) (fun c=>?_)
   · refine ⟨(st.trans st7).mono (by omega),rs++[0+(i:Int)],by rw [List.map_append];rfl,by rw [List.length_append];show rs.length+1≤i+1;omega,?_,fun r hr'=>?_⟩
     · refine List.pairwise_append.mpr ⟨rp,List.pairwise_singleton _ _,fun u hu v hv=>?_⟩
       have:v=0+(i:Int):=by simpa using hv
       have:=rb u hu
       omega
     · rcases List.mem_append.mp hr' with h | h
       · have:=rb r h
         omega
       · have:r=0+(i:Int):=by simpa using h
         omega
   · refine ⟨(st.trans st7).mono (by omega),rs,rfl,by omega,rp,fun r hr'=>?_⟩
     have:=rb r hr'
     omega
 · rintro ys H' ⟨st,rs,rfl,rl,rp,rb⟩ D hD
   have yD:=Same.new hD (.lst (rs.map V.int))
   refine ⟨Nat.zero_le _,fun e he=>?_⟩
   have ye:=Same.new he (.lst [])
   refine ⟨_,_,.lst (ye _ _ upd_same) (DatAll.ints rs),.lst (xs:=[]) upd_same .nil,shaped_list_ints _,shaped_list_ints [],?_⟩
   have hD1:=ye _ _ (show (upd H' D (.lst (rs.map V.int))) D=some (.lst (rs.map V.int)) from upd_same)
   have t7:=(st.same yD).same ye
   have hm':((2+mr).toNat:Int)=2+mr:=Int.toNat_of_nonneg (by omega)
   generalize upd (upd H' D (.lst (rs.map V.int))) e (.lst [])=H7 at hD1 t7
   cases rs with
   | nil=>
     refine ⟨by show (0:Int)<(2+mr);omega,?_⟩
     refine ⟨by show 1≤sizeLine;decide,fun g hg=>?_⟩
     have yg:=Same.new hg (.tup [V.int ((1+nr) % (2+mr))])
     refine ⟨by show 3≤sizeLine;decide,fun c hc=>?_⟩
     have yc:=Same.new hc (.tup [V.str (Str.ofString "rests"),.int (2+mr),.ref g])
     refine q c _ (.rests (2+mr) [(1+nr) % (2+mr)]) (((t7.same yg).same yc).mono (by omega)) ⟨g,upd_same,yc _ _ upd_same⟩ ⟨hm,List.cons_ne_nil _ _,List.pairwise_singleton _ _,fun r hr'=>?_,by show 1≤60;decide⟩ (fun _=>trivial)
     have:r=(1+nr) % (2+mr):=by simpa using hr'
     rw [this]
     exact ⟨Int.emod_nonneg _ (by omega),Int.emod_lt_of_pos _ (by omega)⟩
   | cons r0 rr=>
     refine ⟨_,.inl (SqL.of hD1),fun g H8 y8 hg=>?_⟩
     refine ⟨by show 3≤sizeLine;decide,fun c hc=>?_⟩
     have yc:=Same.new hc (.tup [V.str (Str.ofString "rests"),.int (2+mr),.ref g])
     refine q c _ (.rests (2+mr) (r0::rr)) (((t7.same y8).same yc).mono (by omega)) ⟨g,upd_same,yc _ _ hg⟩ ⟨hm,List.cons_ne_nil _ _,rp,fun r hr'=>?_,by omega⟩ (fun _=>trivial)
     have:=rb r hr'
     omega
end
end K65
namespace L2
open PySem PySem.Spec PyProof.Rows
theorem eqv_tuple_nil (ds:List PyData):PyData.eqv (.tuple ds) (.tuple [])=ds.isEmpty:=by cases ds <;> simp [PyData.eqv,PyData.eqvAll]
end L2
namespace L2
open PySem PySem.Spec PyProof.Rows
section
variable {X:Cx}
theorem op_in_seq' {K:PySem.W.Frag} (h:X.K=K):OpR X (compareOp .In) (rIn K false):=by subst h;exact op_in_seq
variable {e:Expr} {es:List Expr} {t:TA} {p pos:Pos}
end
end L2
namespace MRow
def putN:Nat→(Nat→Int)→Nat→Nat→Int
 | 0,f,_,n=>f n
 | k+1,f,s,n=>f n+(if s≤n then putN k f s (n - s) else 0)
def put (f:Nat→Int) (s n:Nat):Int:=putN n f s n
theorem putN_more {f:Nat→Int} {s:Nat} (hs:0<s):∀ (k n:Nat),n≤k→putN k f s n=putN n f s n
 | 0,n,h=>by have:n=0:=by omega
             subst this;rfl
 | k+1,0,_=>by
   show f 0+(if s≤0 then _ else 0)=f 0
   rw [if_neg (by omega)];omega
 | k+1,n+1,h=>by
   show f (n+1)+(if s≤n+1 then putN k f s (n+1 - s) else 0)=f (n+1)+(if s≤n+1 then putN n f s (n+1 - s) else 0)
   by_cases hn:s≤n+1
   · rw [if_pos hn,if_pos hn,putN_more hs k _ (by omega),putN_more hs n _ (by omega)]
   · rw [if_neg hn,if_neg hn]
theorem put_eq (f:Nat→Int) {s:Nat} (hs:0<s) (n:Nat):put f s n=f n+(if s≤n then put f s (n - s) else 0):=by
 unfold put
 rw [← putN_more hs (n+1) n (by omega)]
 show f n+(if s≤n then putN n f s (n - s) else 0)=_
 by_cases hn:s≤n
 · rw [if_pos hn,if_pos hn,putN_more hs n _ (by omega)]
 · rw [if_neg hn,if_neg hn]
def dl:Nat→Int:=fun n=>if n=0 then 1 else 0
def tb (f:Nat→Int) (L:Nat):List Int:=(List.range L).map f
theorem tb_len (f:Nat→Int) (L:Nat):(tb f L).length=L:=by simp [tb]
theorem tb_at {f:Nat→Int} {L j:Nat} (h:j<(tb f L).length):(tb f L)[j]=f j:=by simp [tb]
theorem tb_get {f:Nat→Int} {L j:Nat} (h:j<L):(tb f L)[j]? = some (f j):=by
 rw [List.getElem?_eq_getElem (by rw [tb_len];exact h),tb_at]
theorem tb_ext {f g:Nat→Int} {L:Nat} (h:∀ j,j<L→f j=g j):tb f L=tb g L:=by
 unfold tb
 exact List.map_congr_left fun j hj=>h j (List.mem_range.mp hj)
theorem tb_dl (n:Nat):tb dl (n+1)=1::List.replicate n 0:=by
 refine List.ext_getElem (by simp [tb]) fun i h1 h2=>?_
 rw [tb_at]
 cases i with
 | zero=>rfl
 | succ i=>simp [dl]
def up (f g:Nat→Int) (k:Nat):Nat→Int:=fun j=>if j<k then g j else f j
theorem tb_set {f g:Nat→Int} {L k:Nat} (h:k<L):(tb (up f g k) L).set k (g k)=tb (up f g (k+1)) L:=by
 refine List.ext_getElem (by rw [List.length_set,tb_len,tb_len]) fun i h1 h2=>?_
 rw [List.getElem_set,tb_at h2]
 unfold up
 by_cases hk:k=i
 · subst hk;simp
 · rw [if_neg hk,tb_at]
   by_cases hi:i<k
   · rw [if_pos hi,if_pos (by omega)]
   · rw [if_neg hi,if_neg (by omega)]
theorem put_low (f:Nat→Int) {s n:Nat} (hs:0<s) (h:n<s):put f s n=f n:=by rw [put_eq f hs,if_neg (by omega)];omega
theorem up_start (f:Nat→Int) {s:Nat} (hs:0<s) (L:Nat):tb (up f (put f s) s) L=tb f L:=tb_ext fun j _=>by
 unfold up
 by_cases h:j<s
 · rw [if_pos h,put_low f hs h]
 · rw [if_neg h]
theorem up_all (f g:Nat→Int) {k L:Nat} (h:L≤k):tb (up f g k) L=tb g L:=tb_ext fun j hj=>by
 unfold up
 rw [if_pos (by omega)]
end MRow
set_option exponentiation.threshold 3000
namespace M27
open PySem L2 MRow
theorem size_up {a b m:Int} (hm:1≤m):Builtin.Range.rangeSize a b m=if a<b then (b - a - 1) / m+1 else 0:=by
 unfold Builtin.Range.rangeSize
 rw [if_pos (by omega)]
theorem small_up {a b m:Int} (hm:1≤m) (hm':m≤1000000) (ha:0≤a) (ha':a≤1000000) (hb:0≤b) (hb':b≤1000000):Builtin.Range.small a b m=true:=by
 have e:=size_up (a:=a) (b:=b) hm
 unfold Builtin.Range.small
 rw [e]
 by_cases hab:a<b
 · rw [if_pos hab]
   have h0:0≤(b - a - 1) / m:=Int.ediv_nonneg (by omega) (by omega)
   have h1:(b - a - 1) / m≤b - a - 1:=Int.ediv_le_self _ (by omega)
   simp only [Builtin.Range.rangeFitsLong,Bool.and_eq_true,Bool.or_eq_true,decide_eq_true_eq,beq_iff_eq,show m > 0 by omega,if_true]
   generalize (b - a - 1) / m=k at h0 h1
   omega
 · rw [if_neg hab]
   simp only [Builtin.Range.rangeFitsLong,Bool.and_eq_true,Bool.or_eq_true,decide_eq_true_eq,beq_iff_eq,show m > 0 by omega,if_true]
   omega
end M27
namespace M80
open MRow
def off (g:Nat→Int) (s n:Nat):Int:=g n - if s≤n then g (n - s) else 0
theorem put_of {F c:Nat→Int} {s:Nat} (hs:0<s) (h:off F s=c):F=put c s:=by
 funext n
 induction n using Nat.strongRecOn with
 | ind n ih=>
   have e:=congrFun h n
   unfold off at e
   rw [put_eq c hs]
   by_cases hn:s≤n
   · rw [if_pos hn] at e ⊢
     rw [← ih (n - s) (by omega)]
     omega
   · rw [if_neg hn] at e ⊢
     omega
theorem off_put (g:Nat→Int) {s:Nat} (hs:0<s):off (put g s) s=g:=by
 funext n
 unfold off
 rw [put_eq g hs n]
 omega
theorem put_off (g:Nat→Int) {s:Nat} (hs:0<s):put (off g s) s=g:=(put_of hs rfl).symm
theorem off_comm (g:Nat→Int) (a b:Nat):off (off g a) b=off (off g b) a:=by
 funext n
 unfold off
 by_cases ha:a≤n
 · by_cases hb:b≤n
   · by_cases hab:a+b≤n
     · rw [if_pos hb,if_pos ha,if_pos (show a≤n - b by omega),if_pos (show b≤n - a by omega),show n - b - a=n - a - b by omega]
       omega
     · rw [if_pos hb,if_pos ha,if_neg (show ¬ a≤n - b by omega),if_neg (show ¬ b≤n - a by omega)]
       omega
   · rw [if_neg hb,if_pos ha,if_neg (show ¬ b≤n - a by omega)]
     omega
 · by_cases hb:b≤n
   · rw [if_pos hb,if_neg ha,if_neg (show ¬ a≤n - b by omega)]
     omega
   · simp only [if_neg hb,if_neg ha]
theorem off_put_comm (g:Nat→Int) {a:Nat} (b:Nat) (ha:0<a):off (put g a) b=put (off g b) a:=by
 refine put_of ha ?_
 rw [off_comm,off_put g ha]
theorem put_comm (g:Nat→Int) {a b:Nat} (ha:0<a) (hb:0<b):put (put g a) b=put (put g b) a:=by
 refine put_of ha ?_
 rw [off_put_comm _ _ hb,off_put _ ha]
def PL (g:Nat→Int) (ss:List Nat):Nat→Int:=ss.foldl put g
def OL (g:Nat→Int) (ss:List Nat):Nat→Int:=ss.foldl off g
theorem PL_cons (g:Nat→Int) (s:Nat) (ss:List Nat):PL g (s::ss)=PL (put g s) ss:=rfl
theorem OL_cons (g:Nat→Int) (s:Nat) (ss:List Nat):OL g (s::ss)=OL (off g s) ss:=rfl
theorem PL_app (g:Nat→Int) (a b:List Nat):PL g (a++b)=PL (PL g a) b:=by unfold PL;rw [List.foldl_append]
theorem OL_app (g:Nat→Int) (a b:List Nat):OL g (a++b)=OL (OL g a) b:=by unfold OL;rw [List.foldl_append]
theorem PL_off:∀ (ss:List Nat) (g:Nat→Int) (s:Nat),(∀ x∈ss,0<x)→PL (off g s) ss=off (PL g ss) s
 | [],_,_,_=>rfl
 | x::ss,g,s,h=>by rw [PL_cons,PL_cons,← off_put_comm g s (h x List.mem_cons_self),PL_off ss (put g x) s fun y hy=>h y (List.mem_cons_of_mem _ hy)]
theorem PL_perm {a b:List Nat} (p:a.Perm b):∀ (g:Nat→Int),(∀ x∈a,0<x)→PL g a=PL g b:=by
 induction p with
 | nil=>intro g _;rfl
 | cons x _ ih=>intro g h;rw [PL_cons,PL_cons];exact ih _ fun y hy=>h y (List.mem_cons_of_mem _ hy)
 | swap x y l=>intro g h;rw [PL_cons,PL_cons,PL_cons,PL_cons,put_comm g (h _ List.mem_cons_self) (h _ (List.mem_cons_of_mem _ List.mem_cons_self))]
 | trans p1 _ ih1 ih2=>intro g h;rw [ih1 g h];exact ih2 g fun x hx=>h x (p1.mem_iff.mpr hx)
theorem cancel:∀ (ss:List Nat) (g:Nat→Int),(∀ x∈ss,0<x)→OL (PL g ss) ss=g
 | [],_,_=>rfl
 | x::ss,g,h=>by
   have h':∀ y∈ss,0<y:=fun y hy=>h y (List.mem_cons_of_mem _ hy)
   rw [PL_cons,OL_cons,← PL_off ss _ _ h',off_put g (h x List.mem_cons_self)]
   exact cancel ss g h'
def ups (n:Nat):List Nat:=(List.range n).map (· + 1)
theorem ups_succ (n:Nat):ups (n+1)=ups n++[n+1]:=by unfold ups;rw [List.range_succ,List.map_append];rfl
theorem ups_pos {n x:Nat} (h:x∈ups n):0<x∧x≤n:=by
 obtain ⟨i,hi,rfl⟩:=List.mem_map.mp h
 have:=List.mem_range.mp hi
 omega
def below (m:Nat) (ss:List Nat) (g:Nat→Int):Nat→Int:=ss.foldl (fun g s=>off (put g s) (m*s)) g
def Al (N:Nat) (f g:Nat→Int):Prop:=∀ j,j≤N→f j=g j
theorem Al.great {N:Nat} {f g:Nat→Int} (h:Al N f g) {s:Nat} (hs:N<s):Al N (M80.off f s) g:=fun j hj=>by
 unfold M80.off
 rw [if_neg (by omega),h j hj,Int.sub_zero]
theorem OL_great {N:Nat}:∀ (ss:List Nat) {f g:Nat→Int},Al N f g→(∀ x∈ss,N<x)→Al N (OL f ss) g
 | [],_,_,h,_=>h
 | s::ss,f,g,h,hs=>OL_great ss (h.great (hs s List.mem_cons_self)) fun y hy=>hs y (List.mem_cons_of_mem _ hy)
theorem Al.refl (N:Nat) (f:Nat→Int):Al N f f:=fun _ _=>rfl
end M80
namespace K65
open PySem L2 MRow M27 M80
section
variable {P:Program} {w:World} {K:PySem.W.Frag} {mg:Str→Option Value} {base:Heap} {f:Addr} {fd:FuncData}
theorem sc_begun:FnScope ["most"] ["most"] (defScope (top 1)):=⟨rfl,rfl,rfl,by decide +kernel,rfl,by decide +kernel,by decide +kernel⟩
def sp_begun:Sp:=fun vs H Q _=>∃ n:Nat,vs=[.int n]∧n≤1000∧∀ p H',H p=none→Same H H'→H' p=some (.lst ((tb dl (n+1)).map V.int))→Q (.ref p) H'
theorem fresh_back {H H':Hp} {p:Addr} (y:Same H H') (h:H' p=none):H p=none:=by
 cases e:H p with
 | none=>rfl
 | some o=>
   have:=y _ _ e
   rw [h] at this
   cases this
theorem ok_begun (F:Fun K "begun" "begun" (top 1) f fd)  : FnOk P w K mg base CX0 1 f fd ["most"] sp_begun:=by
 refine F.okz sc_begun (fun vs H Q E h=>?_) (fun cdv A outer s H vs Q E hr h=>?_)
 · obtain ⟨n,rfl,_⟩:=h;rfl
 obtain ⟨n,rfl,hn,q⟩:=h
 have nd:=sc_begun.nd
 refine ⟨_,(zss_one (zs_ret (ze_op op_addP (ze_lst (za_cons ze_int za_nil)) (ze_op op_mulQ (ze_lst (za_cons ze_int za_nil)) (zn 0))))),?_⟩
 refine ⟨by show 1≤sizeLine;decide,fun d hd=>?_⟩
 have g1:=Same.new hd (.lst [.int 1])
 refine ⟨by show 1≤sizeLine;decide,fun d2 hd2=>?_⟩
 have g2:=Same.new hd2 (.lst [.int 0])
 refine ⟨⟨by omega,by omega⟩,.inl ⟨_,upd_same,le_line (by show 1*(n:Int).toNat≤1000;omega),fun d3 hd3=>?_⟩⟩
 have g3:=Same.new hd3 (.lst (List.replicate (n:Int).toNat [V.int 0]).flatten)
 refine .inl ⟨_,_,g3 _ _ (g2 _ _ upd_same),upd_same,?_,fun d4 hd4=>?_⟩
 · rw [len_rep,sizeLine_eq];show 1+_*1≤_;omega
 · refine q d4 _ (fresh_back ((g1.trans g2).trans g3) hd4) (((g1.trans g2).trans g3).trans (Same.new hd4 _)) ?_
   rw [upd_same,rep_flat,tb_dl]
   rfl
theorem sc_put_on:FnScope ["row","size","told","n"] ["row","size"] (defScope (top 2)):=⟨rfl,rfl,rfl,by decide +kernel,rfl,by decide +kernel,by decide +kernel⟩
def sp_put_on:Sp:=fun vs H Q _=>∃ (a:Addr) (s L:Nat) (g:Nat→Int),vs=[.ref a,.int s]∧0<s∧s≤1000000∧L≤1000∧H a=some (.lst ((tb g L).map V.int))∧∀ p H',H p=none→Same H H'→H' p=some (.lst ((tb (put g s) L).map V.int))→Q (.ref p) H'
theorem ok_put_on (F:Fun K "put_on" "put_on" (top 2) f fd) (m_len:mg "len" = none) (m_list:mg "list" = none) (m_range:mg "range" = none):FnOk P w K mg base CX0 1 f fd ["row","size"] sp_put_on:=by
 refine F.okz sc_put_on (fun vs H Q E h=>?_) (fun cdv A outer s H vs Q E hr h=>?_)
 · obtain ⟨a,z,L,g,rfl,_⟩:=h;rfl
 obtain ⟨a,z,L,g,rfl,hz,hz2,hL,ha,q⟩:=h
 have nd:=sc_put_on.nd
 refine ⟨_,(zss_cons (zs_set (i:=2) nd rfl (Or.inl rfl) (zcb_list rfl m_list (za_cons (zn 0) za_nil) rfl rfl))
  (zss_cons (zs_for PassesOwn.never rfl (zi_range2 rfl m_range (za_cons (zn 1) (za_cons (zcb_len rfl m_len (za_cons (zn 0) za_nil) rfl rfl) za_nil))) (zg_name (i:=3) nd rfl (Or.inl rfl)) (zss_one (zs_augS (zn 2) (zn 3) get_list (ze_ix ix_P (zn 2) (ze_op op_subP (zn 3) (zn 1)) (fun _ _=>rfl)) ip_addP set_listP)))
  (zss_one (zs_ret (zn 2))))),?_⟩
 refine ⟨_,.inl (SqL.of ha),fun p hp=>?_⟩
 have y0:=Same.new hp (.lst ((tb g L).map V.int))
 refine ⟨_,.inl (SqL.of (y0 _ _ ha)),?_⟩
 rw [List.length_map,tb_len]
 refine ⟨(z:Int),(L:Int),rfl,⟨by omega,by omega,by omega,by omega⟩,?_⟩
 refine for_range (fun i σ H'=>Same H H'∧H' p=some (.lst ((tb (up g (put g z) (z+i)) L).map V.int))∧∃ pp,σ=[some (.ref a),some (.int z),some (.ref p),pp]) ⟨y0,by rw [Nat.add_zero,up_start g hz];exact upd_same,none,rfl⟩ ?_ ?_
 · rintro i σ H' hi ⟨y,hp',pp,rfl⟩
   have hn:z+i<L:=by omega
   have hget:∀ j,j<L→((tb (up g (put g z) (z+i)) L).map V.int)[j]? = some (.int (up g (put g z) (z+i) j)):=fun j hj=>by rw [List.getElem?_map,tb_get hj];rfl
   have e1:((z:Int)+(i:Int)).toNat=z+i:=by omega
   refine ⟨_,_,SqL.of hp',by omega,by rw [e1];exact hget _ hn,?_⟩
   refine ⟨_,.inl (SqL.of hp'),.int (up g (put g z) (z+i) i),atI_of (j:=i) (by omega) (hget i (by omega)),?_⟩
   refine ⟨_,hp',by omega,by rw [e1,List.length_map,tb_len];exact hn,Same.updN y hp,?_,_,rfl⟩
   rw [upd_same,e1]
   have e2:up g (put g z) (z+i) (z+i)+up g (put g z) (z+i) i=put g z (z+i):=by
    unfold up
    rw [if_neg (Nat.lt_irrefl _),if_pos (by omega),put_eq g hz (z+i),if_pos (by omega),Nat.add_sub_cancel_left]
   dsimp only
   rw [e2,← List.map_set,tb_set hn]
   rfl
 · rintro σ H' ⟨y,hp',pp,rfl⟩
   refine q p H' hp y ?_
   rw [hp',up_all _ _ (by omega)]
end
theorem tb_put {f:Nat→Int} {L n:Nat} (v:Int) (h:n<L):(tb f L).set n v=tb (fun j=>if j=n then v else f j) L:=by
 refine List.ext_getElem (by rw [List.length_set,tb_len,tb_len]) fun j h1 h2=>?_
 rw [List.getElem_set]
 by_cases e:n=j
 · rw [if_pos e,tb_at h2,if_pos e.symm]
 · rw [if_neg e,tb_at,tb_at,if_neg (Ne.symm e)]
section
variable {P:Program} {w:World} {K:PySem.W.Frag} {mg:Str→Option Value} {base:Heap} {f:Addr} {fd:FuncData}
theorem sc_to:FnScope ["row","size","told","n"] ["row","size"] (defScope (top 3)):=⟨rfl,rfl,rfl,by decide +kernel,rfl,by decide +kernel,by decide +kernel⟩
def sp_to:Sp:=fun vs H Q _=>∃ (a:Addr) (s L:Nat) (g:Nat→Int),vs=[.ref a,.int s]∧0<s∧s≤1000000∧L≤1000∧(H a=some (.lst ((tb g L).map V.int))∨H a=some (.tup ((tb g L).map V.int)))∧∀ p H',H p=none→Same H H'→H' p=some (.lst ((tb (off g s) L).map V.int))→Q (.ref p) H'
theorem ok_to (F:Fun K "taken_off" "taken_off" (top 3) f fd) (m_len:mg "len" = none) (m_list:mg "list" = none) (m_range:mg "range" = none):FnOk P w K mg base CX0 1 f fd ["row","size"] sp_to:=by
 refine F.okz sc_to (fun vs H Q E h=>?_) (fun cdv A outer s H vs Q E hr h=>?_)
 · obtain ⟨a,z,L,g,rfl,_⟩:=h;rfl
 obtain ⟨a,z,L,g,rfl,hz,hz2,hL,ha,q⟩:=h
 have nd:=sc_to.nd
 refine ⟨_,(zss_cons (zs_set (i:=2) nd rfl (Or.inl rfl) (zcb_list rfl m_list (za_cons (zn 0) za_nil) rfl rfl))
  (zss_cons (zs_for PassesOwn.never rfl (zi_range3 rfl m_range (za_cons (ze_op op_subP (zcb_len rfl m_len (za_cons (zn 0) za_nil) rfl rfl) ze_int) (za_cons (ze_op op_subP (zn 1) ze_int) (za_cons (ze_un un_neg ze_int) za_nil)))) (zg_name (i:=3) nd rfl (Or.inl rfl)) (zss_one (zs_augS (zn 2) (zn 3) get_list (ze_ix ix_P (zn 2) (ze_op op_subP (zn 3) (zn 1)) (fun _ _=>rfl)) ip_subP set_listP)))
  (zss_one (zs_ret (zn 2))))),?_⟩
 refine ⟨_,ha.elim (fun h=>.inl (SqL.of h)) .inr,fun p hp=>?_⟩
 have y0:=Same.new hp (.lst ((tb g L).map V.int))
 refine ⟨_,ha.elim (fun h=>.inl (SqL.of (y0 _ _ h))) (fun h=>.inr (y0 _ _ h)),?_⟩
 rw [List.length_map,tb_len]
 refine ⟨1,rfl,?_⟩
 refine ⟨(L:Int) - 1,(z:Int) - 1,-1,rfl,⟨by decide,⟨by decide,by decide⟩,small_down (by omega) (by omega) (by omega) (by omega)⟩,?_⟩
 rw [size_down]
 have eN:((L:Int) - 1 - ((z:Int) - 1)).toNat=L - z:=by omega
 rw [eN]
 refine for_rangeS (fun i σ H'=>i≤L - z∧Same H H'∧H' p=some (.lst ((tb (fun n=>if L≤n+i then off g z n else g n) L).map V.int))∧∃ pp,σ=[some (.ref a),some (.int z),some (.ref p),pp]) ⟨Nat.zero_le _,y0,?_,none,rfl⟩ ?_ ?_
 · rw [upd_same]
   congr 3
   exact tb_ext fun j hj=>by rw [if_neg (by omega)]
 · rintro i σ H' hi ⟨_,y,hp',pp,rfl⟩
   obtain ⟨n,en⟩:∃ n,L=n+1+i:=⟨L - 1 - i,by omega⟩
   have e0:(L:Int) - 1+(i:Int) * -1=(n:Int):=by omega
   rw [e0]
   have hnz:z≤n:=by omega
   have hget:∀ j,j<L→((tb (fun n=>if L≤n+i then off g z n else g n) L).map V.int)[j]? = some (.int (if L≤j+i then off g z j else g j)):=fun j hj=>by rw [List.getElem?_map,tb_get hj];rfl
   have e1:((n:Int)).toNat=n:=Int.toNat_natCast n
   refine ⟨_,_,SqL.of hp',by omega,by rw [e1];exact hget n (by omega),?_⟩
   refine ⟨_,.inl (SqL.of hp'),.int (if L≤(n - z)+i then off g z (n - z) else g (n - z)),atI_of (j:=n - z) (by omega) (hget (n - z) (by omega)),?_⟩
   refine ⟨_,hp',by omega,by rw [e1,List.length_map,tb_len];omega,by omega,Same.updN y hp,?_,_,rfl⟩
   rw [upd_same,e1]
   dsimp only
   rw [if_neg (by omega),if_neg (by omega),← List.map_set,tb_put _ (by omega)]
   congr 3
   refine tb_ext fun j hj=>?_
   by_cases ej:j=n
   · rw [if_pos ej,if_pos (by omega),ej]
     unfold off
     rw [if_pos hnz]
   · rw [if_neg ej]
     by_cases h:L≤j+i
     · rw [if_pos h,if_pos (by omega)]
     · rw [if_neg h,if_neg (by omega)]
 · rintro σ H' ⟨_,y,hp',pp,rfl⟩
   refine q p H' hp y ?_
   rw [hp']
   congr 3
   refine tb_ext fun j hj=>?_
   by_cases h:L≤j+(L - z)
   · rw [if_pos h]
   · rw [if_neg h]
     unfold off
     rw [if_neg (by omega),Int.sub_zero]
def nI (ss:List Nat):List V:=(ss.map fun (k:Nat)=>(k:Int)).map V.int
theorem nI_len (ss:List Nat):(nI ss).length=ss.length:=by unfold nI;rw [List.length_map,List.length_map]
theorem nI_at {ss:List Nat} {i:Nat} {x:V} (h:(nI ss)[i]? = some x):∃ s,ss[i]? = some s∧x=.int (s:Int):=by
 unfold nI at h
 rw [List.getElem?_map,List.getElem?_map] at h
 cases e:ss[i]? with
 | none=>rw [e] at h;cases h
 | some s=>rw [e] at h;exact ⟨s,rfl,(Option.some.inj h).symm⟩
theorem sc_of_sizes:FnScope ["some","most","row","size"] ["some","most"] (defScope (top 5)):=⟨rfl,rfl,rfl,by decide +kernel,rfl,by decide +kernel,by decide +kernel⟩
def sp_of_sizes:Sp:=fun vs H Q _=>∃ (l:Addr) (ss:List Nat) (n:Nat),vs=[.ref l,.int n]∧(∀ x∈ss,0<x∧x≤1000000)∧n≤600∧H l=some (.lst (nI ss))∧∀ p H',Same H H'→H' p=some (.lst ((tb (PL dl ss) (n+1)).map V.int))→Q (.ref p) H'
theorem ok_of_sizes (F:Fun K "of_sizes" "of_sizes" (top 5) f fd)  (F_begun:FnA P w K mg base "begun" 1 ["most"] sp_begun) (F_put_on:FnA P w K mg base "put_on" 1 ["row","size"] sp_put_on):FnOk P w K mg base CX0 2 f fd ["some","most"] sp_of_sizes:=by
 refine F.okz sc_of_sizes (fun vs H Q E h=>?_) (fun cdv A outer s H vs Q E hr h=>?_)
 · obtain ⟨l,ss,n,rfl,_⟩:=h;rfl
 obtain ⟨l,ss,n,rfl,hk,hn,hl,q⟩:=h
 have nd:=sc_of_sizes.nd
 refine ⟨_,(zss_cons (zs_set (i:=2) nd rfl (Or.inl rfl) (ze_fn F_begun hr (by decide) rfl (za_cons (zn 1) za_nil)))
  (zss_cons (zs_for PassesOwn.never rfl (zi_list (zn 0)) (zg_name (i:=3) nd rfl (Or.inl rfl)) (zss_one (zs_set (i:=2) nd rfl (Or.inl rfl) (ze_fn F_put_on hr (by decide) rfl (za_cons (zn 2) (za_cons (zn 3) za_nil))))))
  (zss_one (zs_ret (zn 2))))),?_⟩
 refine ⟨n,rfl,by omega,fun p H1 hp y1 hp1=>?_⟩
 refine ⟨l,rfl,⟨_,SqL.of (y1 _ _ hl)⟩,for_list (xs:=nI ss) (fun i σ H'=>Same H H'∧∃ r p3,σ=[some (.ref l),some (.int n),some (.ref r),p3]∧H' r=some (.lst ((tb (PL dl (ss.take i)) (n+1)).map V.int))) ⟨y1,p,_,rfl,hp1⟩ ?_ ?_ ?_⟩
 · rintro i σ H' _ ⟨y,_⟩
   exact SqL.of (y _ _ hl)
 · rintro i x σ H' hx ⟨y,r,p3,rfl,hr'⟩
   obtain ⟨z,hz,rfl⟩:=nI_at hx
   have hz2:=hk z (List.mem_of_getElem? hz)
   refine ⟨r,z,n+1,PL dl (ss.take i),rfl,hz2.1,hz2.2,by omega,hr',fun p2 H2 hp2 y2 hp2'=>?_⟩
   refine ⟨y.trans y2,p2,_,rfl,?_⟩
   rw [List.take_succ,hz,PL_app]
   exact hp2'
 · rintro σ H' ⟨y,r,p3,rfl,hr'⟩
   rw [nI_len,List.take_of_length_le (Nat.le_refl _)] at hr'
   exact q r H' y hr'
theorem sc_osb:FnScope ["some","m","most","row","size"] ["some","m","most"] (defScope (top 6)):=⟨rfl,rfl,rfl,by decide +kernel,rfl,by decide +kernel,by decide +kernel⟩
def sp_osb:Sp:=fun vs H Q _=>∃ (l:Addr) (ss:List Nat) (m n:Nat),vs=[.ref l,.int m,.int n]∧0<m∧m≤1000∧(∀ x∈ss,0<x∧x≤1000)∧n≤600∧H l=some (.lst (nI ss))∧∀ p H',Same H H'→H' p=some (.lst ((tb (below m ss dl) (n+1)).map V.int))→Q (.ref p) H'
theorem below_app (m:Nat) (g:Nat→Int) (a b:List Nat):below m (a++b) g=below m b (below m a g):=by unfold below;rw [List.foldl_append]
theorem ok_osb (F:Fun K "of_sizes_below" "of_sizes_below" (top 6) f fd)  (F_begun:FnA P w K mg base "begun" 1 ["most"] sp_begun) (F_put_on:FnA P w K mg base "put_on" 1 ["row","size"] sp_put_on) (F_taken_off:FnA P w K mg base "taken_off" 1 ["row","size"] sp_to):FnOk P w K mg base CX0 2 f fd ["some","m","most"] sp_osb:=by
 refine F.okz sc_osb (fun vs H Q E h=>?_) (fun cdv A outer s H vs Q E hr h=>?_)
 · obtain ⟨l,ss,m,n,rfl,_⟩:=h;rfl
 obtain ⟨l,ss,m,n,rfl,hm,hm2,hk,hn,hl,q⟩:=h
 have nd:=sc_osb.nd
 refine ⟨_,(zss_cons (zs_set (i:=3) nd rfl (Or.inl rfl) (ze_fn F_begun hr (by decide) rfl (za_cons (zn 2) za_nil)))
  (zss_cons (zs_for PassesOwn.never rfl (zi_list (zn 0)) (zg_name (i:=4) nd rfl (Or.inl rfl)) (zss_one (zs_set (i:=3) nd rfl (Or.inl rfl) (ze_fn F_taken_off hr (by decide) rfl (za_cons (ze_fn F_put_on hr (by decide) rfl (za_cons (zn 3) (za_cons (zn 4) za_nil))) (za_cons (ze_op op_mulQ (zn 1) (zn 4)) za_nil))))))
  (zss_one (zs_ret (zn 3))))),?_⟩
 refine ⟨n,rfl,by omega,fun p H1 hp y1 hp1=>?_⟩
 refine ⟨l,rfl,⟨_,SqL.of (y1 _ _ hl)⟩,for_list (xs:=nI ss) (fun i σ H'=>Same H H'∧∃ r p4,σ=[some (.ref l),some (.int m),some (.int n),some (.ref r),p4]∧H' r=some (.lst ((tb (below m (ss.take i) dl) (n+1)).map V.int))) ⟨y1,p,_,rfl,hp1⟩ ?_ ?_ ?_⟩
 · rintro i σ H' _ ⟨y,_⟩
   exact SqL.of (y _ _ hl)
 · rintro i x σ H' hx ⟨y,r,p4,rfl,hr'⟩
   obtain ⟨z,hz,rfl⟩:=nI_at hx
   have hz2:=hk z (List.mem_of_getElem? hz)
   refine ⟨r,z,n+1,_,rfl,hz2.1,by omega,by omega,hr',fun p2 H2 hp2 y2 hp2'=>?_⟩
   refine ⟨mulL (by omega) (by omega),?_⟩
   have e3:(m:Int)*(z:Int)=((m*z:Nat):Int):=by rw [Int.natCast_mul]
   have h1:m*z≤1000*1000:=Nat.mul_le_mul hm2 hz2.2
   refine ⟨p2,m*z,n+1,_,by rw [← e3],Nat.mul_pos hm hz2.1,by omega,by omega,.inl hp2',fun p3 H3 hp3 y3 hp3'=>?_⟩
   refine ⟨y.trans (y2.trans y3),p3,_,rfl,?_⟩
   rw [List.take_succ,hz,below_app]
   exact hp3'
 · rintro σ H' ⟨y,r,p4,rfl,hr'⟩
   rw [nI_len,List.take_of_length_le (Nat.le_refl _)] at hr'
   exact q r H' y hr'
end
end K65
namespace M17
open MRow M80
def bx (l k:Nat):Nat→Int:=(ups k).foldl (fun g i=>off (put g i) (l+i)) dl
theorem bx_succ (l k:Nat):bx l (k+1)=off (put (bx l k) (k+1)) (l+(k+1)):=by unfold bx;rw [ups_succ,List.foldl_append];rfl
theorem fold_is (f:Nat→Nat):∀ (ss:List Nat) (g:Nat→Int),(∀ x∈ss,0<x)→ss.foldl (fun g s=>off (put g s) (f s)) g=OL (PL g ss) (ss.map f)
 | [],_,_=>rfl
 | s::ss,g,h=>by
   have h1:=fun x hx=>h x (List.mem_cons_of_mem s hx)
   rw [List.foldl_cons,fold_is f ss _ h1,PL_cons,List.map_cons,OL_cons,PL_off ss _ _ h1]
theorem bx_is (l k:Nat):bx l k=OL (PL dl (ups k)) ((ups k).map (l + ·)):=fold_is (l + ·) (ups k) dl fun x hx=>(ups_pos hx).1
theorem ups_add (l:Nat):∀ k,ups (l+k)=ups l++(ups k).map (l + ·)
 | 0=>by simp [ups]
 | k+1=>by rw [← Nat.add_assoc,ups_succ,ups_add l k,ups_succ,List.map_append,List.append_assoc];rfl
theorem bx_both (l k:Nat):bx l k=OL (PL (PL dl (ups k)) (ups l)) (ups (l+k)):=by
 rw [ups_add,OL_app,cancel (ups l) _ fun x hx=>(ups_pos hx).1,bx_is]
theorem bx_turn (l k:Nat):bx l k=bx k l:=by
 rw [bx_both,bx_both,← PL_app,← PL_app,PL_perm List.perm_append_comm dl fun x hx=>?_,Nat.add_comm]
 rcases List.mem_append.mp hx with h | h <;> exact (ups_pos h).1
theorem bx_big {l k j:Nat} (h:j≤l):bx l k j=PL dl (ups k) j:=by
 rw [bx_is]
 exact OL_great _ (Al.refl l _) (fun x hx=>by obtain ⟨y,hy,rfl⟩:=List.mem_map.mp hx;have:=ups_pos hy;show l<l+y;omega) j h
theorem R_succ (k:Nat):PL dl (ups (k+1))=put (PL dl (ups k)) (k+1):=by rw [ups_succ,PL_app];rfl
theorem R_low {k j:Nat} (h:j≤k):PL dl (ups (k+1)) j=PL dl (ups k) j:=by rw [R_succ,put_low _ (by omega) (by omega)]
theorem R_far {n j:Nat} (h:j≤n):∀ e,PL dl (ups (n+e)) j=PL dl (ups n) j
 | 0=>rfl
 | e+1=>by rw [← Nat.add_assoc,R_low (by omega),R_far h e]
theorem R_min {k n j:Nat} (h:j≤n):PL dl (ups (min k n)) j=PL dl (ups k) j:=by
 by_cases c:k≤n
 · rw [Nat.min_eq_left c]
 · rw [Nat.min_eq_right (by omega),← R_far h (k - n),show n+(k - n)=k by omega]
theorem R_zero:∀ k,PL dl (ups k) 0=1
 | 0=>rfl
 | k+1=>by rw [R_low (Nat.zero_le _),R_zero k]
def Ls (d:Nat):Nat→Nat
 | 0=>0
 | m+1=>Ls d m+1+d*m
theorem Ls_ge (d:Nat):∀ m,m≤Ls d m
 | 0=>Nat.le_refl _
 | m+1=>by have:=Ls_ge d m;show m+1≤Ls d m+1+d*m;omega
theorem Ls_up (d:Nat) (m:Nat):∀ e,Ls d m≤Ls d (m+e)
 | 0=>Nat.le_refl _
 | e+1=>Nat.le_trans (Ls_up d m e) (by show Ls d (m+e)≤Ls d (m+e)+1+d*(m+e);omega)
def fq (d:Nat):Nat→Nat→Int
 | 0,_=>0
 | m+1,j=>fq d m j+if Ls d m≤j then PL dl (ups m) (j - Ls d m) else 0
theorem fq_far {d m n j:Nat} (hm:n<Ls d m) (h:j≤n):∀ e,fq d (m+e) j=fq d m j
 | 0=>rfl
 | e+1=>by
   show (fq d (m+e) j+if Ls d (m+e)≤j then PL dl (ups (m+e)) (j - Ls d (m+e)) else 0)=_
   have:=Ls_up d m e
   rw [if_neg (show ¬ Ls d (m+e)≤j by omega),fq_far hm h e,Int.add_zero]
def fow (d:Nat):Nat→Int:=fq d 602
theorem fow_is {d m n j:Nat} (hm:n<Ls d m) (hm2:m≤602) (h:j≤n):fq d m j=fow d j:=by
 have:=fq_far hm h (602 - m)
 rw [show m+(602 - m)=602 by omega] at this
 exact this.symm
def rsz (m:Nat) (rs:List Int) (n:Nat):List Nat:=(ups n).filter fun s=>decide ((s:Int) % (m:Int)∈rs)
end M17
namespace M12
open MRow M80 M17
def sh (e:Nat) (g:Nat→Int) (i:Nat):Int:=if e≤i then g (i - e) else 0
theorem sh_sh (a b:Nat) (g:Nat→Int) (i:Nat):sh a (sh b g) i=sh (a+b) g i:=by
 unfold sh
 by_cases h1:a≤i
 · rw [if_pos h1]
   by_cases h2:a+b≤i
   · rw [if_pos (by omega),if_pos h2,Nat.sub_sub]
   · rw [if_neg (by omega),if_neg h2]
 · rw [if_neg h1,if_neg (by omega)]
def ex (d m j:Nat):Nat:=m*j+d*(m*(m - 1) / 2)
theorem tri (m:Nat):(m+1)*(m+1 - 1) / 2=m*(m - 1) / 2+m:=by
 cases m with
 | zero=>rfl
 | succ k=>
   rw [Nat.add_sub_cancel,Nat.add_sub_cancel]
   have:(k+1+1)*(k+1)=(k+1)*k+(k+1)*2:=by grind
   rw [this,Nat.add_mul_div_right _ _ (by decide)]
theorem ex_up (d m j:Nat):ex d m (j+1)=ex d m j+m:=by unfold ex;rw [Nat.mul_add];omega
theorem ex_in (d m j:Nat):ex d (m+1) j=j+ex d m (j+d):=by
 unfold ex
 rw [tri,Nat.mul_add d,Nat.mul_add m,Nat.add_mul,Nat.mul_comm m d]
 omega
theorem ls_ex (d:Nat):∀ m,Ls d m=ex d m 1
 | 0=>by unfold ex;simp [Ls]
 | m+1=>by
   show Ls d m+1+d*m=_
   rw [ls_ex d m]
   unfold ex
   rw [tri,Nat.mul_add d]
   omega
end M12
namespace M12
open MRow M80 M17
def odds (n:Nat):List Nat:=(List.range ((n+1) / 2)).map fun k=>2*k+1
theorem odds_pos {n x:Nat} (h:x∈odds n):0<x∧x≤n:=by
 unfold odds at h
 obtain ⟨k,hk,rfl⟩:=List.mem_map.mp h
 have:=List.mem_range.mp hk
 omega
theorem below_app (m:Nat) (a b:List Nat) (g:Nat→Int):below m (a++b) g=below m b (below m a g):=by unfold below;rw [List.foldl_append]
def fl (p:Nat→Bool) (n:Nat):List Nat:=(ups n).filter p
theorem fl_succ (p:Nat→Bool) (n:Nat):fl p (n+1)=fl p n++if p (n+1)=true then [n+1] else []:=by
 unfold fl
 rw [ups_succ,List.filter_append]
 congr 1
 by_cases h:p (n+1)=true
 · rw [if_pos h,List.filter_cons_of_pos h];rfl
 · rw [if_neg h,List.filter_cons_of_neg h];rfl
theorem fl_most (k:Nat):∀ n,fl (fun s=>decide (s≤k)) n=ups (min k n)
 | 0=>by rw [Nat.min_zero];rfl
 | n+1=>by
   rw [fl_succ,fl_most k n]
   by_cases h:n+1≤k
   · rw [if_pos (decide_eq_true h),Nat.min_eq_right h,Nat.min_eq_right (by omega),ups_succ]
   · rw [if_neg (by simpa using h),List.append_nil,Nat.min_eq_left (by omega),Nat.min_eq_left (by omega)]
theorem fl_all (n:Nat):fl (fun _=>true) n=ups n:=by
 unfold fl
 exact List.filter_eq_self.mpr fun _ _=>rfl
end M12
namespace K65
open PySem L2 MRow M27 M80 M17 M12
theorem zss_never {X:Cx} {sts:List Stmt}:ZSs X sts tNever:=by with_unfolding_all exact pss_never
inductive Kn where
 | all
 | most (k:Nat)
 | times (m:Nat)
 | rests (m:Nat) (rs:List Int)
 | few (k:Nat)
 | box (k l:Nat)
 | off (d:Nat)
 | own
def Kn.Ok:Kn→Prop
 | .all=>True
 | .most k=>k≤600
 | .times m=>0<m∧m≤1000
 | .rests m _=>0<m∧m≤1000
 | .few k=>k≤600
 | .box k l=>k≤600∧l≤600
 | .off d=>1≤d∧d≤600
 | .own=>True
def KnAt (H:Hp) (c:Addr):Kn→Prop
 | .all=>H c=some (.tup [.str "all"])
 | .most k=>H c=some (.tup [.str "most",.int k])
 | .times m=>H c=some (.tup [.str "times",.int m])
 | .few k=>H c=some (.tup [.str "few",.int k])
 | .box k l=>H c=some (.tup [.str "box",.int k,.int l])
 | .off d=>H c=some (.tup [.str "off",.int d])
 | .own=>H c=some (.tup [.str "own"])
 | .rests m rs=>∃ d,H c=some (.tup [.str "rests",.int m,.ref d])∧H d=some (.tup (rs.map V.int))
theorem KnAt.same {H H':Hp} {c:Addr} {k:Kn} (h:KnAt H c k) (y:Same H H'):KnAt H' c k:=by
 cases k with
 | all=>exact y _ _ h
 | most k=>exact y _ _ h
 | times m=>exact y _ _ h
 | rests m rs=>obtain ⟨d,h1,h2⟩:=h;exact ⟨d,y _ _ h1,y _ _ h2⟩
 | few k=>exact y _ _ h
 | box k l=>exact y _ _ h
 | off d=>exact y _ _ h
 | own=>exact y _ _ h
def cf:Kn→Nat→Nat→Int
 | .all,n=>PL dl (ups n)
 | .most k,n=>PL dl (ups (min k n))
 | .times m,n=>below m (ups n) dl
 | .rests m rs,n=>PL dl (rsz m rs n)
 | .few k,n=>PL dl (ups (min k n))
 | .box k l,n=>bx l (min k n)
 | .off d,_=>fow d
 | .own,n=>below 2 (odds n) dl
theorem in_ints (p:Int) (ns:List Int):inV (.int p) (ns.map V.int)=decide (p∈ns):=by
 unfold inV
 rw [List.any_map]
 induction ns with
 | nil=>rfl
 | cons n r ih=>
   rw [List.any_cons,ih]
   show (n == p||decide (p∈r))=_
   by_cases h:n=p
   · subst h;simp
   · have:(n == p)=false:=by simpa using h
     rw [this,Bool.false_or]
     have h':¬ p=n:=fun e=>h e.symm
     simp [h']
theorem flat_ints (ns:List Int):(ns.map V.int).all flatV=true:=by
 rw [List.all_map]
 exact List.all_eq_true.mpr fun _ _=>rfl
theorem ups_nI (n:Nat):((List.range n).map fun (k:Nat)=>(1:Int)+(k:Int)*1).map V.int=nI (ups n):=by
 unfold nI ups
 rw [List.map_map,List.map_map,List.map_map]
 refine List.map_congr_left fun k _=>?_
 show V.int (1+(k:Int)*1)=V.int ((k+1:Nat):Int)
 congr 1
 omega
theorem ups_len (n:Nat):(ups n).length=n:=by unfold ups;simp
theorem rsz_succ (m:Nat) (rs:List Int) (n:Nat):rsz m rs (n+1)=rsz m rs n++if ((n+1:Nat):Int) % (m:Int)∈rs then [n+1] else []:=by
 unfold rsz
 rw [ups_succ,List.filter_append]
 congr 1
 by_cases h:((n+1:Nat):Int) % (m:Int)∈rs
 · rw [if_pos h,List.filter_cons_of_pos (p:=fun s:Nat=>decide ((s:Int) % (m:Int)∈rs)) (decide_eq_true h)];rfl
 · rw [if_neg h,List.filter_cons_of_neg (p:=fun s:Nat=>decide ((s:Int) % (m:Int)∈rs)) (by simpa using h)];rfl
theorem rsz_len (m:Nat) (rs:List Int) (n:Nat):(rsz m rs n).length≤n:=by
 have:=List.length_filter_le (fun s:Nat=>decide ((s:Int) % (m:Int)∈rs)) (ups n)
 rw [ups_len] at this
 exact this
theorem odds_nI (n:Nat):((List.range ((n+1) / 2)).map fun (k:Nat)=>(1:Int)+(k:Int)*2).map V.int=nI (odds n):=by
 unfold nI odds
 rw [List.map_map,List.map_map,List.map_map]
 refine List.map_congr_left fun k _=>?_
 show V.int (1+(k:Int)*2)=V.int ((2*k+1:Nat):Int)
 congr 1
 omega
theorem size_two (n:Nat):(Builtin.Range.rangeSize 1 ((n:Int)+1) 2).toNat=(n+1) / 2:=by
 rw [size_up (by decide)]
 split <;> omega
theorem size_one (c:Nat):(Builtin.Range.rangeSize 1 ((c:Int)+1) 1).toNat=c:=by
 rw [size_up (by decide)]
 by_cases h:(1:Int)<(c:Int)+1
 · rw [if_pos h,Int.ediv_one];omega
 · rw [if_neg h];omega
section
variable {P:Program} {w:World} {K:PySem.W.Frag} {mg:Str→Option Value} {base:Heap} {f:Addr} {fd:FuncData}
theorem sc_ib:FnScope ["k","l","most","row","i"] ["k","l","most"] (defScope (top 7)):=⟨rfl,rfl,rfl,by decide +kernel,rfl,by decide +kernel,by decide +kernel⟩
def sp_ib:Sp:=fun vs H Q _=>∃ k l n:Nat,vs=[.int k,.int l,.int n]∧k≤600∧l≤600∧n≤600∧∀ p H',Same H H'→H' p=some (.lst ((tb (bx l (min k n)) (n+1)).map V.int))→Q (.ref p) H'
theorem ok_ib (F:Fun K "in_box" "in_box" (top 7) f fd) (m_min:mg "min" = none) (m_range:mg "range" = none) (F_begun:FnA P w K mg base "begun" 1 ["most"] sp_begun) (F_put_on:FnA P w K mg base "put_on" 1 ["row","size"] sp_put_on) (F_taken_off:FnA P w K mg base "taken_off" 1 ["row","size"] sp_to):FnOk P w K mg base CX0 2 f fd ["k","l","most"] sp_ib:=by
 refine F.okz sc_ib (fun vs H Q E h=>?_) (fun cdv A outer s H vs Q E hr h=>?_)
 · obtain ⟨k,l,n,rfl,_⟩:=h;rfl
 obtain ⟨k,l,n,rfl,hk,hl,hn,q⟩:=h
 have nd:=sc_ib.nd
 refine ⟨_,(zss_cons (zs_set (i:=3) nd rfl (Or.inl rfl) (ze_fn F_begun hr (by decide) rfl (za_cons (zn 2) za_nil)))
  (zss_cons (zs_for PassesOwn.never rfl (zi_range2 rfl m_range (za_cons ze_int (za_cons (ze_op op_addP (zcb_min rfl rfl m_min (za_cons (zn 0) (za_cons (zn 2) za_nil)) rfl rfl) ze_int) za_nil))) (zg_name (i:=4) nd rfl (Or.inl rfl)) (zss_one (zs_set (i:=3) nd rfl (Or.inl rfl) (ze_fn F_taken_off hr (by decide) rfl (za_cons (ze_fn F_put_on hr (by decide) rfl (za_cons (zn 3) (za_cons (zn 4) za_nil))) (za_cons (ze_op op_addP (zn 1) (zn 4)) za_nil))))))
  (zss_one (zs_ret (zn 3))))),?_⟩
 refine ⟨n,rfl,by omega,fun p0 H1 hp0 y1 hr1=>?_⟩
 have ec:(if (n:Int)<(k:Int) then (n:Int) else (k:Int))=((min k n:Nat):Int):=by split <;> omega
 refine ⟨1,(if (n:Int)<(k:Int) then (n:Int) else (k:Int))+1,rfl,⟨by omega,by omega,by omega,by omega⟩,?_⟩
 have eN:((if (n:Int)<(k:Int) then (n:Int) else (k:Int))+1 - 1).toNat=min k n:=by omega
 rw [eN]
 refine for_range (fun i σ H'=>i≤min k n∧Same H H'∧∃ (r:Addr) (x4:Option V),σ=[some (.int k),some (.int l),some (.int n),some (.ref r),x4]∧H' r=some (.lst ((tb (bx l i) (n+1)).map V.int))) ⟨Nat.zero_le _,y1,p0,_,rfl,hr1⟩ ?_ ?_
 · rintro i σ H' hi ⟨_,y,r,x4,rfl,hr'⟩
   have ek:(1:Int)+(i:Int)=((i+1:Nat):Int):=by omega
   rw [ek]
   refine ⟨r,i+1,n+1,bx l i,rfl,by omega,by omega,by omega,hr',fun p2 H2 _ y2 hp2=>?_⟩
   refine ⟨p2,l+(i+1),n+1,_,congrArg (fun z=>[V.ref p2,V.int z]) (Int.natCast_add l (i+1)).symm,by omega,by omega,by omega,.inl hp2,fun p3 H3 _ y3 hp3=>?_⟩
   exact ⟨by omega,(y.trans y2).trans y3,p3,_,rfl,by rw [bx_succ];exact hp3⟩
 · rintro σ H' ⟨_,y,r,x4,rfl,hr'⟩
   exact q r H' y hr'
theorem sc_fb:FnScope ["d","most","told","row","many","least","n"] ["d","most"] (defScope (top 8)):=⟨rfl,rfl,rfl,by decide +kernel,rfl,by decide +kernel,by decide +kernel⟩
def sp_fb:Sp:=fun vs H Q _=>∃ d n:Nat,vs=[.int d,.int n]∧d≤600∧n≤600∧∀ p H',Same H H'→H' p=some (.lst ((tb (fow d) (n+1)).map V.int))→Q (.ref p) H'
theorem ok_fb (F:Fun K "falling_by" "falling_by" (top 8) f fd) (m_range:mg "range" = none) (F_begun:FnA P w K mg base "begun" 1 ["most"] sp_begun) (F_put_on:FnA P w K mg base "put_on" 1 ["row","size"] sp_put_on):FnOk P w K mg base CX0 2 f fd ["d","most"] sp_fb:=by
 refine F.okz sc_fb (fun vs H Q E h=>?_) (fun cdv A outer s H vs Q E hr h=>?_)
 · obtain ⟨d,n,rfl,_⟩:=h;rfl
 obtain ⟨dd,n,rfl,hd6,hn,q⟩:=h
 have nd:=sc_fb.nd
 refine ⟨_,(zss_cons (zs_set (i:=2) nd rfl (Or.inl rfl) (ze_op op_mulQ (ze_lst (za_cons ze_int za_nil)) (ze_op op_addP (zn 1) ze_int)))
  (zss_cons (zs_set (i:=3) nd rfl (Or.inl rfl) (ze_fn F_begun hr (by decide) rfl (za_cons (zn 1) za_nil)))
  (zss_cons (zs_set (i:=4) nd rfl (Or.inl rfl) ze_int)
  (zss_cons (zs_set (i:=5) nd rfl (Or.inl rfl) ze_int)
  (zss_cons (zs_while PassesOwn.never (zt_cmpP op_leP (zn 5) (zn 1) (nomark _)) (zss_cons (zs_for PassesOwn.never rfl (zi_range2 rfl m_range (za_cons (zn 5) (za_cons (ze_op op_addP (zn 1) ze_int) za_nil))) (zg_name (i:=6) nd rfl (Or.inl rfl)) (zss_one (zs_augS (zn 2) (zn 6) get_list (ze_ix ix_P (zn 3) (ze_op op_subP (zn 6) (zn 5)) (fun _ _=>rfl)) ip_addP set_listP)))
  (zss_cons (zs_aug (i:=5) nd rfl (Or.inl rfl) (ze_op op_addP ze_int (ze_op op_mulQ (zn 0) (zn 4))) ip_addP)
  (zss_cons (zs_aug (i:=4) nd rfl (Or.inl rfl) ze_int ip_addP)
  (zss_one (zs_set (i:=3) nd rfl (Or.inl rfl) (ze_fn F_put_on hr (by decide) rfl (za_cons (zn 3) (za_cons (zn 4) za_nil)))))))))
  (zss_one (zs_ret (zn 2)))))))),?_⟩
 refine ⟨by show 1≤sizeLine;decide,fun d hd=>?_⟩
 have yd:=Same.new hd (.lst [V.int 0])
 have e1:((n:Int)+1).toNat=n+1:=by omega
 refine ⟨⟨by omega,by omega⟩,.inl ⟨_,upd_same,le_line (by show 1*((n:Int)+1).toNat≤1000;omega),fun T hT=>?_⟩⟩
 rw [rep_flat,e1]
 have yT:=Same.new hT (.lst ((List.replicate (n+1) (0:Int)).map V.int))
 have hTH:H T=none:=fresh_back yd hT
 have yT2:=yd.trans yT
 have gT:upd (upd H d (.lst [V.int 0])) T (.lst ((List.replicate (n+1) (0:Int)).map V.int)) T=some (.lst ((tb (fq dd 0) (n+1)).map V.int)):=by
  rw [upd_same]
  congr 3
  show _=(List.range (n+1)).map fun _=>(0:Int)
  rw [List.map_const',List.length_range]
 generalize upd (upd H d (.lst [V.int 0])) T (.lst ((List.replicate (n+1) (0:Int)).map V.int))=H1 at yT yT2 gT
 refine ⟨n,rfl,by omega,fun R0 H2 hR0 y2 hR2=>?_⟩
 have RT:R0≠T:=fun z=>by rw [z,gT] at hR0;cases hR0
 refine while_by2 (fun m σ H'=>∃ (k:Nat) (R:Addr) (x6:Option V),m=n+1 - Ls dd k∧k≤602∧Same H H'∧R≠T∧H' T=some (.lst ((tb (fq dd k) (n+1)).map V.int))∧H' R=some (.lst ((tb (PL dl (ups k)) (n+1)).map V.int))∧σ=[some (.int dd),some (.int n),some (.ref T),some (.ref R),some (.int k),some (.int (Ls dd k)),x6]) (n+1)
  ⟨0,R0,none,rfl,by decide,yT2.trans y2,RT,y2 _ _ gT,hR2,rfl⟩ ?_
 rintro m σ H' ⟨k,R,x6,rfl,hk,y,RT',hT',hR',rfl⟩
 have lk:=Ls_ge dd k
 refine iteD (fun c=>?_) (fun c=>?_)
 · have hl:Ls dd k≤n:=by have c':(Ls dd k:Int)≤(n:Int):=c;omega
   refine ⟨fun σ' H'=>∃ m',m' < n+1 - Ls dd k∧∃ (k:Nat) (R:Addr) (x6:Option V),m'=n+1 - Ls dd k∧k≤602∧Same H H'∧R≠T∧H' T=some (.lst ((tb (fq dd k) (n+1)).map V.int))∧H' R=some (.lst ((tb (PL dl (ups k)) (n+1)).map V.int))∧σ'=[some (.int dd),some (.int n),some (.ref T),some (.ref R),some (.int k),some (.int (Ls dd k)),x6],fun σ' H' h=>h,?_⟩
   have eft:∀ j,fq dd (k+1) j=fq dd k j+if Ls dd k≤j then PL dl (ups k) (j - Ls dd k) else 0:=fun j=>rfl
   have el1:Ls dd (k+1)=Ls dd k+1+dd*k:=rfl
   generalize Ls dd k=l at hl lk eft el1
   generalize fq dd k=ft at hT' eft
   generalize eft2:fq dd (k+1)=ft2 at eft
   refine ⟨(l:Int),(n:Int)+1,rfl,⟨by omega,by omega,by omega,by omega⟩,?_⟩
   have eN:((n:Int)+1 - (l:Int)).toNat=n+1 - l:=by omega
   rw [eN]
   refine for_range (fun i σ H'=>i≤n+1 - l∧Same H H'∧H' T=some (.lst ((tb (up ft ft2 (l+i)) (n+1)).map V.int))∧H' R=some (.lst ((tb (PL dl (ups k)) (n+1)).map V.int))∧∃ x6,σ=[some (.int dd),some (.int n),some (.ref T),some (.ref R),some (.int k),some (.int l),x6]) ⟨Nat.zero_le _,y,?_,hR',_,rfl⟩ ?_ ?_
   · rw [hT']
     congr 3
     refine tb_ext fun j _=>?_
     unfold up
     rw [Nat.add_zero]
     split
     · rw [eft,if_neg (by omega),Int.add_zero]
     · rfl
   · rintro i σ H3 hi ⟨_,y3,hT3,hR3,x6,rfl⟩
     have e2:((l:Int)+(i:Int)).toNat=l+i:=by omega
     have hli:l+i<n+1:=by omega
     refine ⟨_,.int (up ft ft2 (l+i) (l+i)),SqL.of hT3,by omega,by rw [e2,List.getElem?_map,tb_get hli];rfl,?_⟩
     refine ⟨_,.inl (SqL.of hR3),.int (PL dl (ups k) i),atI_of (j:=i) (by omega) (by rw [List.getElem?_map,tb_get (by omega)];rfl),?_⟩
     refine ⟨_,hT3,by omega,by rw [e2,List.length_map,tb_len];exact hli,by omega,Same.updN y3 hTH,?_,by rw [upd_ne RT'];exact hR3,_,rfl⟩
     rw [upd_same,e2]
     have e3:up ft ft2 (l+i) (l+i)+PL dl (ups k) i=ft2 (l+i):=by
      unfold up
      rw [if_neg (Nat.lt_irrefl _),eft,if_pos (by omega),Nat.add_sub_cancel_left]
     dsimp only
     rw [e3,← List.map_set,tb_set hli]
     rfl
   · rintro σ H3 ⟨_,y3,hT3,hR3,x6,rfl⟩
     rw [up_all _ _ (by omega)] at hT3
     refine ⟨_,rfl,mulL (by omega) (by omega),?_⟩
     refine ⟨_,rfl,?_⟩
     have ek:(k:Int)+1=((k+1:Nat):Int):=by omega
     refine ⟨R,k+1,n+1,PL dl (ups k),by rw [← ek],by omega,by omega,by omega,hR3,fun R2 H4 hR2' y4 hR4=>?_⟩
     have e5:(l:Int)+(1+(dd:Int)*(k:Int))=((Ls dd (k+1):Nat):Int):=by rw [el1,Int.natCast_add,Int.natCast_add,Int.natCast_mul];omega
     refine ⟨n+1 - Ls dd (k+1),by rw [el1];omega,k+1,R2,x6,rfl,by omega,y3.trans y4,(fun z=>by rw [z,hT3] at hR2';cases hR2'),by rw [eft2];exact y4 _ _ hT3,by rw [R_succ];exact hR4,?_⟩
     show [some (V.int dd),some (.int n),some (.ref T),some (.ref R2),some (.int ((k:Int)+1)),some (.int ((l:Int)+(1+(dd:Int)*(k:Int)))),x6]=_
     rw [e5,ek]
 · refine q T H' y ?_
   rw [hT']
   congr 3
   exact tb_ext fun j hj=>fow_is (n:=n) (by have c':¬ ((Ls dd k:Nat):Int)≤(n:Int):=c;omega) hk (by omega)
theorem sc_counted:FnScope ["kind","most","word"] ["kind","most"] (defScope (top 9)):=⟨rfl,rfl,rfl,by decide +kernel,rfl,by decide +kernel,by decide +kernel⟩
def sp_counted:Sp:=fun vs H Q _=>∃ (c:Addr) (n:Nat) (k:Kn),vs=[.ref c,.int n]∧n≤600∧KnAt H c k∧k.Ok∧∀ p H',Same H H'→H' p=some (.lst ((tb (cf k n) (n+1)).map V.int))→Q (.ref p) H'
theorem ok_counted (F:Fun K "counted" "counted" (top 9) f fd) (m_list:mg "list" = none) (m_min:mg "min" = none) (m_range:mg "range" = none) (F_falling_by:FnA P w K mg base "falling_by" 2 ["d","most"] sp_fb) (F_in_box:FnA P w K mg base "in_box" 2 ["k","l","most"] sp_ib) (F_of_sizes:FnA P w K mg base "of_sizes" 2 ["some","most"] sp_of_sizes) (F_of_sizes_below:FnA P w K mg base "of_sizes_below" 2 ["some","m","most"] sp_osb):FnOk P w K mg base CX0 3 f fd ["kind","most"] sp_counted:=by
 refine F.okz sc_counted (fun vs H Q E h=>?_) (fun cdv A outer s H vs Q E hr h=>?_)
 · obtain ⟨k,n,kd,rfl,_⟩:=h;rfl
 obtain ⟨c,n,k,rfl,hn,hk,hok,q⟩:=h
 have nd:=sc_counted.nd
 have hu:=hr.units
 cases k with
 | all=>
   refine ⟨_,(zss_cons (zs_set (i:=2) nd rfl (Or.inl rfl) (ze_ix ix_P (zn 0) ze_int (fun _ _=>rfl)))
    (zss_cons (zs_if (zt_cmpP (op_eqD hu) (zn 2) ze_str (nomark _)) zss_never zss_nil)
    (zss_cons (zs_if (zt_cmpP (op_eqD hu) (zn 2) ze_str (nomark _)) zss_never zss_nil)
    (zss_cons (zs_if (zt_cmpP (op_eqD hu) (zn 2) ze_str (nomark _)) zss_never zss_nil)
    (zss_cons (zs_if (zt_cmpP (op_eqD hu) (zn 2) ze_str (nomark _)) zss_never zss_nil)
    (zss_cons (zs_if (zt_cmpP (op_eqD hu) (zn 2) ze_str (nomark _)) zss_never zss_nil)
    (zss_cons (zs_if (zt_cmpP (op_eqD hu) (zn 2) ze_str (nomark _)) (zss_one (zs_ret (ze_fn F_of_sizes hr (by decide) rfl (za_cons (zcb_lrange rfl rfl m_list (za_cons (zcb_range rfl m_range (za_cons ze_int (za_cons (ze_op op_addP (zn 1) ze_int) za_nil)) rfl rfl) za_nil) rfl rfl) (za_cons (zn 1) za_nil))))) zss_nil)
    zss_never))))))),?_⟩
   refine ⟨_,.inr hk,.str "all",rfl,?_⟩
   refine fun rp hrp=>?_
   have g1:=Same.new hrp (rngO rp 1 ((n:Int)+1) 1)
   refine ⟨1,(n:Int)+1,1,upd_same,small_up (by decide) (by decide) (by decide) (by decide) (by omega) (by omega),by decide,by rw [size_one];omega,fun l hl=>?_⟩
   rw [size_one,ups_nI]
   have g2:=Same.new hl (.lst (nI (ups n)))
   exact ⟨l,ups n,n,rfl,fun x hx=>by have:=ups_pos hx;omega,hn,upd_same,fun p H' y hp=>q p H' ((g1.trans g2).trans y) hp⟩
 | times m=>
   refine ⟨_,(zss_cons (zs_set (i:=2) nd rfl (Or.inl rfl) (ze_ix ix_P (zn 0) ze_int (fun _ _=>rfl)))
    (zss_cons (zs_if (zt_cmpP (op_eqD hu) (zn 2) ze_str (nomark _)) zss_never zss_nil)
    (zss_cons (zs_if (zt_cmpP (op_eqD hu) (zn 2) ze_str (nomark _)) zss_never zss_nil)
    (zss_cons (zs_if (zt_cmpP (op_eqD hu) (zn 2) ze_str (nomark _)) zss_never zss_nil)
    (zss_cons (zs_if (zt_cmpP (op_eqD hu) (zn 2) ze_str (nomark _)) (zss_one (zs_ret (ze_fn F_of_sizes_below hr (by decide) rfl (za_cons (zcb_lrange rfl rfl m_list (za_cons (zcb_range rfl m_range (za_cons ze_int (za_cons (ze_op op_addP (zn 1) ze_int) za_nil)) rfl rfl) za_nil) rfl rfl) (za_cons (ze_ix ix_P (zn 0) ze_int (fun _ _=>rfl)) (za_cons (zn 1) za_nil)))))) zss_nil)
    (zss_cons (zs_if (zt_cmpP (op_eqD hu) (zn 2) ze_str (nomark _)) zss_never zss_nil)
    (zss_cons (zs_if (zt_cmpP (op_eqD hu) (zn 2) ze_str (nomark _)) zss_never zss_nil)
    zss_never))))))),?_⟩
   refine ⟨_,.inr hk,.str "times",rfl,?_⟩
   refine fun rp hrp=>?_
   have g1:=Same.new hrp (rngO rp 1 ((n:Int)+1) 1)
   refine ⟨1,(n:Int)+1,1,upd_same,small_up (by decide) (by decide) (by decide) (by decide) (by omega) (by omega),by decide,by rw [size_one];omega,fun l hl=>?_⟩
   rw [size_one,ups_nI]
   have g2:=Same.new hl (.lst (nI (ups n)))
   refine ⟨_,.inr ((g1.trans g2) _ _ hk),.int m,rfl,?_⟩
   exact ⟨l,ups n,m,n,rfl,hok.1,hok.2,fun x hx=>by have:=ups_pos hx;omega,hn,upd_same,fun p H' y hp=>q p H' ((g1.trans g2).trans y) hp⟩
 | rests m rs=>
   obtain ⟨d,hk,hd⟩:=hk
   refine ⟨_,(zss_cons (zs_set (i:=2) nd rfl (Or.inl rfl) (ze_ix ix_P (zn 0) ze_int (fun _ _=>rfl)))
    (zss_cons (zs_if (zt_cmpP (op_eqD hu) (zn 2) ze_str (nomark _)) zss_never zss_nil)
    (zss_cons (zs_if (zt_cmpP (op_eqD hu) (zn 2) ze_str (nomark _)) zss_never zss_nil)
    (zss_cons (zs_if (zt_cmpP (op_eqD hu) (zn 2) ze_str (nomark _)) zss_never zss_nil)
    (zss_cons (zs_if (zt_cmpP (op_eqD hu) (zn 2) ze_str (nomark _)) zss_never zss_nil)
    (zss_cons (zs_if (zt_cmpP (op_eqD hu) (zn 2) ze_str (nomark _)) (zss_one (zs_ret (ze_fn F_of_sizes hr (by decide) rfl (za_cons (ze_comp ["size"] [("kind",0)] rfl ⟨rfl,by decide +kernel,by decide +kernel,rfl,rfl⟩ (zi_range2 rfl m_range (za_cons ze_int (za_cons (ze_op op_addP (zn 1) ze_int) za_nil))) kpg_name (fun _ _ _ _=>zg_name (i:=0) (show List.Nodup (["size","kind"]:List Str) by decide +kernel) rfl (Or.inl rfl)) (fun _ _ _ _=>(zif_one (zt_cmpP (op_in_seq' rfl) (ze_op op_modP (zn 0) (ze_ix (ix_P' rfl) (zn 1) ze_int (fun _ _=>rfl))) (ze_ix (ix_P' rfl) (zn 1) ze_int (fun _ _=>rfl)) (by with_unfolding_all rfl)))) (fun _ _ _ _=>(zn 0))) (za_cons (zn 1) za_nil))))) zss_nil)
    (zss_cons (zs_if (zt_cmpP (op_eqD hu) (zn 2) ze_str (nomark _)) zss_never zss_nil)
    zss_never))))))),?_⟩
   refine ⟨_,.inr hk,.str "rests",rfl,?_⟩
   refine ⟨1,(n:Int)+1,rfl,⟨by omega,by omega,by omega,by omega⟩,?_⟩
   have eN:((n:Int)+1 - 1).toNat=n:=by omega
   rw [eN]
   refine cmp_range (fun i zs H'=>i≤n∧H'=H∧zs=nI (rsz m rs i)) ⟨Nat.zero_le _,rfl,rfl⟩ ?_ ?_
   · rintro i zs H' hi ⟨_,rfl,rfl⟩
     have e1:(1:Int)+(i:Int)=((i+1:Nat):Int):=by omega
     have:=rsz_len m rs i
     refine ⟨by rw [nI_len];exact small1000 (by omega),?_⟩
     refine ⟨_,.inr hk,.int m,rfl,(show (0:Int)<(m:Int) by have:=hok.1;omega),?_⟩
     refine ⟨_,.inr hk,.ref d,rfl,?_⟩
     refine ⟨d,_,rfl,.inr (SqT.of hd),rfl,flat_ints rs,?_⟩
     rw [in_ints,e1]
     show if (decide (((i+1:Nat):Int) % (m:Int)∈rs))=true then _ else _
     refine iteB (fun c=>?_) (fun c=>?_)
     · refine ⟨by omega,rfl,?_⟩
       rw [rsz_succ,if_pos (of_decide_eq_true c)]
       unfold nI
       rw [List.map_append,List.map_append]
       rfl
     · refine ⟨by omega,rfl,?_⟩
       rw [rsz_succ,if_neg (by simpa using c),List.append_nil]
   · rintro zs H' ⟨_,rfl,rfl⟩ D hD
     exact ⟨D,rsz m rs n,n,rfl,fun x hx=>by have:=ups_pos (List.mem_filter.mp hx).1;omega,hn,upd_same,fun p H2 y hp=>q p H2 ((Same.new hD _).trans y) hp⟩
 | most k=>
   refine ⟨_,(zss_cons (zs_set (i:=2) nd rfl (Or.inl rfl) (ze_ix ix_P (zn 0) ze_int (fun _ _=>rfl)))
    (zss_cons (zs_if (zt_cmpP (op_eqD hu) (zn 2) ze_str (nomark _)) zss_never zss_nil)
    (zss_cons (zs_if (zt_cmpP (op_eqD hu) (zn 2) ze_str (nomark _)) zss_never zss_nil)
    (zss_cons (zs_if (zt_cmpP (op_eqD hu) (zn 2) ze_str (nomark _)) zss_never zss_nil)
    (zss_cons (zs_if (zt_cmpP (op_eqD hu) (zn 2) ze_str (nomark _)) zss_never zss_nil)
    (zss_cons (zs_if (zt_cmpP (op_eqD hu) (zn 2) ze_str (nomark _)) zss_never zss_nil)
    (zss_cons (zs_if (zt_cmpP (op_eqD hu) (zn 2) ze_str (nomark _)) zss_never zss_nil)
    (zss_one (zs_ret (ze_fn F_of_sizes hr (by decide) rfl (za_cons (zcb_lrange rfl rfl m_list (za_cons (zcb_range rfl m_range (za_cons ze_int (za_cons (ze_op op_addP (zcb_min rfl rfl m_min (za_cons (ze_ix ix_P (zn 0) ze_int (fun _ _=>rfl)) (za_cons (zn 1) za_nil)) rfl rfl) ze_int) za_nil)) rfl rfl) za_nil) rfl rfl) (za_cons (zn 1) za_nil)))))))))))),?_⟩
   refine ⟨_,.inr hk,.str "most",rfl,?_⟩
   refine ⟨_,.inr hk,.int k,rfl,?_⟩
   have ec:(if (n:Int)<(k:Int) then (n:Int) else (k:Int))=((min k n:Nat):Int):=by split <;> omega
   refine fun rp hrp=>?_
   have g1:=Same.new hrp (rngO rp 1 ((if (n:Int)<(k:Int) then (n:Int) else (k:Int))+1) 1)
   refine ⟨1,(if (n:Int)<(k:Int) then (n:Int) else (k:Int))+1,1,upd_same,by rw [ec];exact small_up (by decide) (by decide) (by decide) (by decide) (by omega) (by omega),by decide,by rw [ec,size_one];omega,fun l hl=>?_⟩
   rw [ec] at g1 hl
   rw [ec,size_one,ups_nI]
   have g2:=Same.new hl (.lst (nI (ups (min k n))))
   exact ⟨l,ups (min k n),n,rfl,fun x hx=>by have:=ups_pos hx;omega,hn,upd_same,fun p H' y hp=>q p H' ((g1.trans g2).trans y) hp⟩
 | few k=>
   refine ⟨_,(zss_cons (zs_set (i:=2) nd rfl (Or.inl rfl) (ze_ix ix_P (zn 0) ze_int (fun _ _=>rfl)))
    (zss_cons (zs_if (zt_cmpP (op_eqD hu) (zn 2) ze_str (nomark _)) zss_never zss_nil)
    (zss_cons (zs_if (zt_cmpP (op_eqD hu) (zn 2) ze_str (nomark _)) zss_never zss_nil)
    (zss_cons (zs_if (zt_cmpP (op_eqD hu) (zn 2) ze_str (nomark _)) zss_never zss_nil)
    (zss_cons (zs_if (zt_cmpP (op_eqD hu) (zn 2) ze_str (nomark _)) zss_never zss_nil)
    (zss_cons (zs_if (zt_cmpP (op_eqD hu) (zn 2) ze_str (nomark _)) zss_never zss_nil)
    (zss_cons (zs_if (zt_cmpP (op_eqD hu) (zn 2) ze_str (nomark _)) zss_never zss_nil)
    (zss_one (zs_ret (ze_fn F_of_sizes hr (by decide) rfl (za_cons (zcb_lrange rfl rfl m_list (za_cons (zcb_range rfl m_range (za_cons ze_int (za_cons (ze_op op_addP (zcb_min rfl rfl m_min (za_cons (ze_ix ix_P (zn 0) ze_int (fun _ _=>rfl)) (za_cons (zn 1) za_nil)) rfl rfl) ze_int) za_nil)) rfl rfl) za_nil) rfl rfl) (za_cons (zn 1) za_nil)))))))))))),?_⟩
   refine ⟨_,.inr hk,.str "few",rfl,?_⟩
   refine ⟨_,.inr hk,.int k,rfl,?_⟩
   have ec:(if (n:Int)<(k:Int) then (n:Int) else (k:Int))=((min k n:Nat):Int):=by split <;> omega
   refine fun rp hrp=>?_
   have g1:=Same.new hrp (rngO rp 1 ((if (n:Int)<(k:Int) then (n:Int) else (k:Int))+1) 1)
   refine ⟨1,(if (n:Int)<(k:Int) then (n:Int) else (k:Int))+1,1,upd_same,by rw [ec];exact small_up (by decide) (by decide) (by decide) (by decide) (by omega) (by omega),by decide,by rw [ec,size_one];omega,fun l hl=>?_⟩
   rw [ec] at g1 hl
   rw [ec,size_one,ups_nI]
   have g2:=Same.new hl (.lst (nI (ups (min k n))))
   exact ⟨l,ups (min k n),n,rfl,fun x hx=>by have:=ups_pos hx;omega,hn,upd_same,fun p H' y hp=>q p H' ((g1.trans g2).trans y) hp⟩
 | box k l=>
   refine ⟨_,(zss_cons (zs_set (i:=2) nd rfl (Or.inl rfl) (ze_ix ix_P (zn 0) ze_int (fun _ _=>rfl)))
    (zss_cons (zs_if (zt_cmpP (op_eqD hu) (zn 2) ze_str (nomark _)) (zss_one (zs_ret (ze_fn F_in_box hr (by decide) rfl (za_cons (ze_ix ix_P (zn 0) ze_int (fun _ _=>rfl)) (za_cons (ze_ix ix_P (zn 0) ze_int (fun _ _=>rfl)) (za_cons (zn 1) za_nil)))))) zss_nil)
    (zss_cons (zs_if (zt_cmpP (op_eqD hu) (zn 2) ze_str (nomark _)) zss_never zss_nil)
    (zss_cons (zs_if (zt_cmpP (op_eqD hu) (zn 2) ze_str (nomark _)) zss_never zss_nil)
    (zss_cons (zs_if (zt_cmpP (op_eqD hu) (zn 2) ze_str (nomark _)) zss_never zss_nil)
    (zss_cons (zs_if (zt_cmpP (op_eqD hu) (zn 2) ze_str (nomark _)) zss_never zss_nil)
    (zss_cons (zs_if (zt_cmpP (op_eqD hu) (zn 2) ze_str (nomark _)) zss_never zss_nil)
    zss_never))))))),?_⟩
   refine ⟨_,.inr hk,.str "box",rfl,?_⟩
   refine ⟨_,.inr hk,.int k,rfl,?_⟩
   refine ⟨_,.inr hk,.int l,rfl,?_⟩
   exact ⟨k,l,n,rfl,hok.1,hok.2,hn,q⟩
 | off d=>
   refine ⟨_,(zss_cons (zs_set (i:=2) nd rfl (Or.inl rfl) (ze_ix ix_P (zn 0) ze_int (fun _ _=>rfl)))
    (zss_cons (zs_if (zt_cmpP (op_eqD hu) (zn 2) ze_str (nomark _)) zss_never zss_nil)
    (zss_cons (zs_if (zt_cmpP (op_eqD hu) (zn 2) ze_str (nomark _)) (zss_one (zs_ret (ze_fn F_falling_by hr (by decide) rfl (za_cons (ze_ix ix_P (zn 0) ze_int (fun _ _=>rfl)) (za_cons (zn 1) za_nil))))) zss_nil)
    (zss_cons (zs_if (zt_cmpP (op_eqD hu) (zn 2) ze_str (nomark _)) zss_never zss_nil)
    (zss_cons (zs_if (zt_cmpP (op_eqD hu) (zn 2) ze_str (nomark _)) zss_never zss_nil)
    (zss_cons (zs_if (zt_cmpP (op_eqD hu) (zn 2) ze_str (nomark _)) zss_never zss_nil)
    (zss_cons (zs_if (zt_cmpP (op_eqD hu) (zn 2) ze_str (nomark _)) zss_never zss_nil)
    zss_never))))))),?_⟩
   refine ⟨_,.inr hk,.str "off",rfl,?_⟩
   refine ⟨_,.inr hk,.int d,rfl,?_⟩
   exact ⟨d,n,rfl,hok.2,hn,q⟩
 | own=>
   refine ⟨_,(zss_cons (zs_set (i:=2) nd rfl (Or.inl rfl) (ze_ix ix_P (zn 0) ze_int (fun _ _=>rfl)))
    (zss_cons (zs_if (zt_cmpP (op_eqD hu) (zn 2) ze_str (nomark _)) zss_never zss_nil)
    (zss_cons (zs_if (zt_cmpP (op_eqD hu) (zn 2) ze_str (nomark _)) zss_never zss_nil)
    (zss_cons (zs_if (zt_cmpP (op_eqD hu) (zn 2) ze_str (nomark _)) (zss_one (zs_ret (ze_fn F_of_sizes_below hr (by decide) rfl (za_cons (zcb_lrange rfl rfl m_list (za_cons (zcb_range rfl m_range (za_cons ze_int (za_cons (ze_op op_addP (zn 1) ze_int) (za_cons ze_int za_nil))) rfl rfl) za_nil) rfl rfl) (za_cons ze_int (za_cons (zn 1) za_nil)))))) zss_nil)
    (zss_cons (zs_if (zt_cmpP (op_eqD hu) (zn 2) ze_str (nomark _)) zss_never zss_nil)
    (zss_cons (zs_if (zt_cmpP (op_eqD hu) (zn 2) ze_str (nomark _)) zss_never zss_nil)
    (zss_cons (zs_if (zt_cmpP (op_eqD hu) (zn 2) ze_str (nomark _)) zss_never zss_nil)
    zss_never))))))),?_⟩
   refine ⟨_,.inr hk,.str "own",rfl,?_⟩
   refine ⟨by decide,fun rp hrp=>?_⟩
   have g1:=Same.new hrp (rngO rp 1 ((n:Int)+1) 2)
   refine ⟨1,(n:Int)+1,2,upd_same,small_up (by decide) (by decide) (by decide) (by decide) (by omega) (by omega),by decide,by rw [size_two];omega,fun l hl=>?_⟩
   rw [size_two,odds_nI]
   have g2:=Same.new hl (.lst (nI (odds n)))
   exact ⟨l,odds n,2,n,rfl,by decide,by decide,fun x hx=>by have:=odds_pos hx;omega,hn,upd_same,fun p H' y hp=>q p H' ((g1.trans g2).trans y) hp⟩
theorem sc_counts:FnScope ["kind","most"] ["kind","most"] (defScope (top 10)):=⟨rfl,rfl,rfl,by decide +kernel,rfl,by decide +kernel,by decide +kernel⟩
def sp_counts:Sp:=fun vs H Q _=>∃ (c:Addr) (n:Nat) (k:Kn),vs=[.ref c,.int n]∧n≤600∧KnAt H c k∧k.Ok∧∀ p H',Same H H'→H' p=some (.tup ((tb (cf k n) (n+1)).map V.int))→Q (.ref p) H'
theorem ok_counts (F:Fun K "counts" "counts" (top 10) f fd) (m_tuple:mg "tuple" = none) (F_counted:FnA P w K mg base "counted" 3 ["kind","most"] sp_counted):FnOk P w K mg base CX0 4 f fd ["kind","most"] sp_counts:=by
 refine F.okz sc_counts (fun vs H Q E h=>?_) (fun cdv A outer s H vs Q E hr h=>?_)
 · obtain ⟨k,n,kd,rfl,_⟩:=h;rfl
 obtain ⟨c,n,k,rfl,hn,hk,hok,q⟩:=h
 have nd:=sc_counts.nd
 refine ⟨_,(zss_one (zs_ret (zcb_tuple rfl m_tuple (za_cons (ze_fn F_counted hr (by decide) rfl (za_cons (zn 0) (za_cons (zn 1) za_nil))) za_nil) rfl rfl))),?_⟩
 refine ⟨c,n,k,rfl,hn,hk,hok,fun p H1 y1 hp1=>?_⟩
 exact ⟨_,.inl (SqL.of hp1),fun r2 H2 y2 hr2=>q r2 H2 (y1.trans y2) hr2⟩
end
end K65
namespace M24
open MRow M80 M17 M12
theorem off_sh (g:Nat→Int) (s n:Nat):off g s n=g n - sh s g n:=rfl
theorem sh_sub (e:Nat) (f g:Nat→Int) (n:Nat):sh e (fun i=>f i - g i) n=sh e f n - sh e g n:=by
 unfold sh
 by_cases h:e≤n
 · rw [if_pos h,if_pos h,if_pos h]
 · rw [if_neg h,if_neg h,if_neg h];omega
theorem off_of_sh (e m:Nat) (g:Nat→Int):off (sh e g) m=sh e (off g m):=by
 funext n
 rw [off_sh,sh_sh]
 show _=sh e (fun i=>g i - sh m g i) n
 rw [sh_sub,sh_sh,Nat.add_comm]
theorem off_add (f g:Nat→Int) (m:Nat):off (fun n=>f n+g n) m=fun n=>off f m n+off g m n:=by
 funext n
 unfold off
 split <;> dsimp only <;> omega
theorem bx_a (l k:Nat):off (bx l (k+1)) (k+1)=off (bx l k) (l+(k+1)):=by rw [bx_succ,off_comm,off_put _ (by omega)]
theorem bx_b (l k:Nat):off (bx (l+1) k) (l+1)=off (bx l k) (l+(k+1)):=by
 rw [bx_turn (l+1) k,bx_a k l,bx_turn k l,show k+(l+1)=l+(k+1) by omega]
theorem off_inj {f g:Nat→Int} {s:Nat} (hs:0<s) (h:off f s=off g s):f=g:=by rw [← put_off f hs,h,put_off g hs]
theorem pascal (k l:Nat):bx (l+1) (k+1)=fun n=>bx (l+1) k n+sh (k+1) (bx l (k+1)) n:=by
 refine off_inj (s:=k+1) (by omega) (off_inj (s:=l+1) (by omega) ?_)
 rw [bx_a,off_comm,bx_b,off_add,off_add,off_comm (bx (l+1) k),bx_b,off_of_sh,bx_a,off_of_sh]
 generalize off (bx l k) (l+(k+1))=Y
 funext n
 rw [off_sh,off_sh]
 show _=Y n - sh (k+1) Y n+sh (k+1) (fun i=>Y i - sh (l+1) Y i) n
 rw [sh_sub,sh_sh,show k+1+(l+1)=l+1+(k+1) by omega]
 omega
theorem bx_none (l:Nat):bx l 0=dl:=rfl
theorem bx_none' (k:Nat):bx 0 k=dl:=by rw [bx_turn];rfl
end M24
namespace M11
open MRow M80 M17 M12 M24
def lsN (prev:Nat→List (List Nat)) (s:Nat):Nat→Nat→List (List Nat)
 | 0,n=>prev n
 | f+1,n=>(if s≤n then (lsN prev s f (n - s)).map (s::·) else [])++prev n
def Lst:Nat→Nat→List (List Nat)
 | 0=>fun n=>if n=0 then [[]] else []
 | m+1=>fun n=>lsN (Lst m) (m+1) n n
theorem lsN_more {f:Nat→List (List Nat)} {s:Nat} (hs:0<s):∀ (k n:Nat),n≤k→lsN f s k n=lsN f s n n
 | 0,n,h=>by have:n=0:=by omega
             subst this;rfl
 | k+1,0,_=>by
   show (if s≤0 then _ else [])++f 0=f 0
   rw [if_neg (by omega)];rfl
 | k+1,n+1,h=>by
   show (if s≤n+1 then (lsN f s k (n+1 - s)).map (s::·) else [])++f (n+1)=(if s≤n+1 then (lsN f s n (n+1 - s)).map (s::·) else [])++f (n+1)
   by_cases hn:s≤n+1
   · rw [if_pos hn,if_pos hn,lsN_more hs k _ (by omega),lsN_more hs n _ (by omega)]
   · rw [if_neg hn,if_neg hn]
theorem ls_eq (m n:Nat):Lst (m+1) n=(if m+1≤n then (Lst (m+1) (n - (m+1))).map ((m+1)::·) else [])++Lst m n:=by
 show lsN (Lst m) (m+1) n n=(if m+1≤n then (lsN (Lst m) (m+1) (n - (m+1)) (n - (m+1))).map ((m+1)::·) else [])++Lst m n
 rw [← lsN_more (by omega) (n+1) n (by omega)]
 show (if m+1≤n then (lsN (Lst m) (m+1) n (n - (m+1))).map ((m+1)::·) else [])++Lst m n=_
 by_cases hn:m+1≤n
 · rw [if_pos hn,if_pos hn,lsN_more (by omega) n _ (by omega)]
 · rw [if_neg hn,if_neg hn]
def cn (m n:Nat) (p:List Nat→Bool):Int:=((Lst m n).countP p:Nat)
theorem cn_zero (n:Nat) (p:List Nat→Bool):cn 0 n p=if p []=true then dl n else 0:=by
 unfold cn
 show ((List.countP p (if n=0 then [[]] else []):Nat):Int)=_
 unfold dl
 by_cases h:n=0
 · rw [if_pos h,if_pos h]
   cases hp:p [] with
   | true=>rw [List.countP_cons_of_pos hp];rfl
   | false=>rw [List.countP_cons_of_neg (by rw [hp];decide)];rfl
 · rw [if_neg h,if_neg h]
   cases p [] <;> rfl
theorem cn_succ (m n:Nat) (p:List Nat→Bool):cn (m+1) n p=(if m+1≤n then cn (m+1) (n - (m+1)) (fun l=>p ((m+1)::l)) else 0)+cn m n p:=by
 unfold cn
 rw [ls_eq,List.countP_append,Int.natCast_add]
 congr 1
 by_cases h:m+1≤n
 · rw [if_pos h,if_pos h,List.countP_map]
   rfl
 · rw [if_neg h,if_neg h]
   rfl
theorem cn_congr {m n:Nat} {p q:List Nat→Bool} (h:∀ l∈Lst m n,p l=q l):cn m n p=cn m n q:=by
 unfold cn
 rw [List.countP_congr fun l hl=>by rw [h l hl]]
theorem cn_none {m n:Nat} {p:List Nat→Bool} (h:∀ l∈Lst m n,p l=false):cn m n p=0:=by
 rw [cn_congr (q:=fun _=>false) h]
 unfold cn
 rw [List.countP_false]
 rfl
theorem ls_mem:∀ m n l,l∈Lst m n→(∀ x∈l,1≤x∧x≤m)∧l.sum=n:=by
 intro m
 induction m with
 | zero=>
   intro n l h
   have h:l∈(if n=0 then [[]] else []):=h
   by_cases e:n=0
   · rw [if_pos e] at h
     rw [List.mem_singleton.mp h]
     exact ⟨fun x hx=>(nomatch hx),e.symm⟩
   · rw [if_neg e] at h;cases h
 | succ m ih=>
   intro n
   induction n using Nat.strongRecOn with
   | _ n ihn=>
     intro l h
     rw [ls_eq] at h
     rcases List.mem_append.mp h with h | h
     · by_cases e:m+1≤n
       · rw [if_pos e] at h
         obtain ⟨y,hy,rfl⟩:=List.mem_map.mp h
         obtain ⟨a,b⟩:=ihn (n - (m+1)) (by omega) y hy
         refine ⟨fun x hx=>?_,by rw [List.sum_cons,b];omega⟩
         rcases List.mem_cons.mp hx with e | e
         · omega
         · exact a x e
       · rw [if_neg e] at h;cases h
     · obtain ⟨a,b⟩:=ih n l h
       exact ⟨fun x hx=>by have:=a x hx;omega,b⟩
theorem ls_len {m n:Nat} {l:List Nat} (h:l∈Lst m n):l.length≤n:=by
 obtain ⟨a,b⟩:=ls_mem m n l h
 rw [← b]
 clear b h
 induction l with
 | nil=>exact Nat.le_refl _
 | cons x l ih=>
   rw [List.length_cons,List.sum_cons]
   have:=a x List.mem_cons_self
   have:=ih fun y hy=>a y (List.mem_cons_of_mem _ hy)
   omega
theorem cn_all (p:Nat→Bool):∀ m n,cn m n (fun l=>l.all p)=PL dl (fl p m) n:=by
 intro m
 induction m with
 | zero=>intro n;rw [cn_zero];rfl
 | succ m ih=>
   intro n
   rw [fl_succ]
   cases hp:p (m+1) with
   | false=>
     rw [if_neg (by decide),List.append_nil,← ih n,cn_succ]
     rw [show (if m+1≤n then cn (m+1) (n - (m+1)) (fun l=>((m+1)::l).all p) else 0)=0 from ?_]
     · omega
     · split
       · exact cn_none fun l _=>by rw [List.all_cons,hp];rfl
       · rfl
   | true=>
     rw [if_pos rfl,PL_app]
     show _=put (PL dl (fl p m)) (m+1) n
     induction n using Nat.strongRecOn with
     | _ n ihn=>
       rw [cn_succ,put_eq _ (by omega),ih n]
       by_cases h:m+1≤n
       · rw [if_pos h,if_pos h,← ihn (n - (m+1)) (by omega)]
         have:cn (m+1) (n - (m+1)) (fun l=>((m+1)::l).all p)=cn (m+1) (n - (m+1)) (fun l=>l.all p):=cn_congr fun l _=>by rw [List.all_cons,hp];rfl
         rw [this]
         omega
       · rw [if_neg h,if_neg h];omega
def inb (k l:Nat) (x:List Nat):Bool:=decide (x.length≤l)&&x.all fun a=>decide (a≤k)
theorem cn_box (k:Nat):∀ m l n,cn m n (inb k l)=bx l (min m k) n:=by
 intro m
 induction m with
 | zero=>intro l n;rw [cn_zero,if_pos (by unfold inb;simp),Nat.zero_min,bx_none]
 | succ m ih=>
   intro l
   induction l with
   | zero=>
     intro n
     rw [cn_succ,ih 0 n,bx_none',bx_none']
     rw [show (if m+1≤n then cn (m+1) (n - (m+1)) (fun l=>inb k 0 ((m+1)::l)) else 0)=0 from ?_]
     · omega
     · split
       · exact cn_none fun l _=>by unfold inb;simp
       · rfl
   | succ l ihl=>
     intro n
     rw [cn_succ,ih (l+1) n]
     by_cases hk:m+1≤k
     · rw [Nat.min_eq_left hk,Nat.min_eq_left (by omega),pascal]
       dsimp only
       have:(if m+1≤n then cn (m+1) (n - (m+1)) (fun x=>inb k (l+1) ((m+1)::x)) else 0)=sh (m+1) (bx l (m+1)) n:=by
        unfold sh
        by_cases h:m+1≤n
        · rw [if_pos h,if_pos h]
          have e:=ihl (n - (m+1))
          rw [Nat.min_eq_left hk] at e
          rw [← e]
          refine cn_congr fun x _=>?_
          unfold inb
          rw [List.all_cons,decide_eq_true hk,List.length_cons]
          simp
        · rw [if_neg h,if_neg h]
       rw [this]
       omega
     · rw [Nat.min_eq_right (by omega),Nat.min_eq_right (by omega)]
       rw [show (if m+1≤n then cn (m+1) (n - (m+1)) (fun x=>inb k (l+1) ((m+1)::x)) else 0)=0 from ?_]
       · omega
       · split
         · refine cn_none fun x _=>?_
           unfold inb
           rw [List.all_cons,decide_eq_false hk]
           simp
         · rfl
theorem cn_few {n l:Nat}:cn n n (fun x=>decide (x.length≤l))=PL dl (ups l) n:=by
 have e:cn n n (fun x=>decide (x.length≤l))=cn n n (inb n l):=cn_congr fun x hx=>by
  unfold inb
  rw [show (x.all fun a=>decide (a≤n))=true from List.all_eq_true.mpr fun a ha=>decide_eq_true ((ls_mem n n x hx).1 a ha).2,Bool.and_true]
 rw [e,cn_box,Nat.min_self,bx_turn,bx_big (Nat.le_refl n)]
def cts (t:Nat) (x:List Nat):Bool:=x.all fun a=>decide (x.count a<t)
def ctj (t M j:Nat) (x:List Nat):Bool:=decide (x.count M<j)&&x.all fun a=>decide (a=M)||decide (x.count a<t)
theorem ctj_t {t:Nat} (ht:0<t) (M:Nat) (x:List Nat):ctj t M t x=cts t x:=by
 unfold ctj cts
 by_cases h:x.count M<t
 · rw [decide_eq_true h,Bool.true_and]
   rw [Bool.eq_iff_iff,List.all_eq_true,List.all_eq_true]
   refine ⟨fun g a ha=>?_,fun g a ha=>by rw [g a ha,Bool.or_true]⟩
   have:=g a ha
   by_cases e:a=M
   · rw [e];exact decide_eq_true h
   · rw [decide_eq_false e,Bool.false_or] at this;exact this
 · rw [decide_eq_false h,Bool.false_and]
   refine (Bool.eq_false_iff.mpr fun g=>?_).symm
   have hm:M∈x:=by
    refine List.count_pos_iff.mp ?_
    omega
   exact h (of_decide_eq_true (List.all_eq_true.mp g M hm))
theorem ctj_low {t j m:Nat} {x:List Nat} (hx:∀ a∈x,a≤m):ctj t (m+1) (j+1) x=cts t x:=by
 unfold ctj cts
 have c0:x.count (m+1)=0:=List.count_eq_zero.mpr fun h=>by have:=hx _ h;omega
 rw [c0,decide_eq_true (by omega),Bool.true_and]
 rw [Bool.eq_iff_iff,List.all_eq_true,List.all_eq_true]
 refine ⟨fun g a ha=>?_,fun g a ha=>by rw [g a ha,Bool.or_true]⟩
 have:=g a ha
 rw [decide_eq_false (by have:=hx a ha;omega),Bool.false_or] at this
 exact this
theorem ctj_cons (t M j:Nat) (x:List Nat):ctj t M (j+1) (M::x)=ctj t M j x:=by
 unfold ctj
 rw [List.count_cons_self,List.all_cons,decide_eq_true (rfl:M=M),Bool.true_or,Bool.true_and]
 congr 1
 · exact decide_eq_decide.mpr (by omega)
 · refine List.all_congr rfl fun a=>?_
   by_cases e:a=M
   · rw [decide_eq_true e,Bool.true_or,Bool.true_or]
   · rw [decide_eq_false e,Bool.false_or,Bool.false_or,List.count_cons_of_ne (Ne.symm e)]
theorem offput (g:Nat→Int) {s:Nat} (hs:0<s) (j n:Nat):off (put g s) ((j+1)*s) n=(if s≤n then off (put g s) (j*s) (n - s) else 0)+g n:=by
 unfold off
 rw [put_eq g hs n]
 have e:(j+1)*s=j*s+s:=by grind
 by_cases h:s≤n
 · rw [if_pos h,if_pos h]
   by_cases h2:(j+1)*s≤n
   · rw [if_pos h2,if_pos (by omega),show n - s - j*s=n - (j+1)*s by omega];omega
   · rw [if_neg h2,if_neg (by omega)];omega
 · rw [if_neg h,if_neg h,if_neg (by omega)];omega
theorem cn_times {t:Nat} (ht:0<t):∀ m n,cn m n (cts t)=below t (ups m) dl n:=by
 intro m
 induction m with
 | zero=>intro n;rw [cn_zero,if_pos (by unfold cts;rfl)];rfl
 | succ m ih=>
   have key:∀ j n,cn (m+1) n (ctj t (m+1) j)=off (put (below t (ups m) dl) (m+1)) (j*(m+1)) n:=by
    intro j
    induction j with
    | zero=>
      intro n
      rw [cn_none fun x _=>by unfold ctj;rw [decide_eq_false (Nat.not_lt_zero _),Bool.false_and],Nat.zero_mul]
      unfold off
      rw [if_pos (Nat.zero_le _),Nat.sub_zero]
      omega
    | succ j ihj=>
      intro n
      rw [cn_succ,offput _ (by omega),← ih n]
      congr 1
      · by_cases h:m+1≤n
        · rw [if_pos h,if_pos h,← ihj]
          exact cn_congr fun x _=>ctj_cons _ _ _ _
        · rw [if_neg h,if_neg h]
      · exact cn_congr fun x hx=>ctj_low fun a ha=>((ls_mem m n x hx).1 a ha).2
   intro n
   rw [cn_congr (q:=ctj t (m+1) t) fun x _=>(ctj_t ht _ x).symm,key,ups_succ,below_app]
   rfl
def vd (d:Nat):List Nat→Bool
 | []=>true
 | [_]=>true
 | a::b::r=>decide (b+d≤a)&&vd d (b::r)
def hdle (M:Nat):List Nat→Bool
 | []=>true
 | a::_=>decide (a≤M)
theorem cn_head (q:List Nat→Bool) (M:Nat):∀ e n,cn (M+e) n (fun x=>hdle M x&&q x)=cn M n q:=by
 intro e
 induction e with
 | zero=>
   intro n
   refine cn_congr fun x hx=>?_
   cases x with
   | nil=>rfl
   | cons a x=>show (decide (a≤M)&&q (a::x))=_;rw [decide_eq_true ((ls_mem M n _ hx).1 a List.mem_cons_self).2,Bool.true_and]
 | succ e ih=>
   intro n
   show cn (M+e+1) n _=_
   rw [cn_succ,ih n]
   rw [show (if M+e+1≤n then cn (M+e+1) (n - (M+e+1)) (fun l=>hdle M ((M+e+1)::l)&&q ((M+e+1)::l)) else 0)=0 from ?_]
   · omega
   · split
     · refine cn_none fun l _=>?_
       show (decide (M+e+1≤M)&&_)=false
       rw [decide_eq_false (by omega),Bool.false_and]
     · rfl
def vk (d k:Nat) (x:List Nat):Bool:=vd d x&&decide (x.length=k)
theorem vk_cons {d k m:Nat} (hd:1≤d) (x:List Nat) (hx:∀ a∈x,1≤a):vk d (k+1) ((m+1)::x)=(hdle (m+1 - d) x&&vk d k x):=by
 unfold vk
 cases x with
 | nil=>
   show (true&&decide (1=k+1))=(true&&(true&&decide (0=k)))
   rw [Bool.true_and,Bool.true_and,Bool.true_and]
   exact decide_eq_decide.mpr (by omega)
 | cons b r=>
   show ((decide (b+d≤m+1)&&vd d (b::r))&&decide ((b::r).length+1=k+1))=(decide (b≤m+1 - d)&&(vd d (b::r)&&decide ((b::r).length=k)))
   have h1:=hx b List.mem_cons_self
   rw [show decide ((b::r).length+1=k+1)=decide ((b::r).length=k) from decide_eq_decide.mpr (by omega),show decide (b+d≤m+1)=decide (b≤m+1 - d) from decide_eq_decide.mpr (by omega),Bool.and_assoc]
def vE (d k m:Nat) (n:Nat):Int:=cn m n (vk d k)
theorem vE_none (d m n:Nat):vE d 0 m n=dl n:=by
 unfold vE
 induction m generalizing n with
 | zero=>rw [cn_zero,if_pos (by unfold vk;rfl)]
 | succ m ih=>
   rw [cn_succ,ih n]
   rw [show (if m+1≤n then cn (m+1) (n - (m+1)) (fun l=>vk d 0 ((m+1)::l)) else 0)=0 from ?_]
   · omega
   · split
     · refine cn_none fun l _=>?_
       unfold vk
       rw [List.length_cons,decide_eq_false (by omega),Bool.and_false]
     · rfl
theorem vE_zero (d k n:Nat):vE d (k+1) 0 n=0:=by
 unfold vE
 rw [cn_zero,if_neg]
 unfold vk
 simp
theorem vE_step {d:Nat} (hd:1≤d) (k m:Nat):vE d (k+1) (m+1)=fun n=>vE d (k+1) m n+sh (m+1) (vE d k (m+1 - d)) n:=by
 funext n
 show cn (m+1) n (vk d (k+1))=_
 rw [cn_succ]
 have:(if m+1≤n then cn (m+1) (n - (m+1)) (fun l=>vk d (k+1) ((m+1)::l)) else 0)=sh (m+1) (vE d k (m+1 - d)) n:=by
  unfold sh
  by_cases h:m+1≤n
  · rw [if_pos h,if_pos h]
    have e:=cn_head (vk d k) (m+1 - d) (m+1 - (m+1 - d)) (n - (m+1))
    rw [show m+1 - d+(m+1 - (m+1 - d))=m+1 by omega] at e
    show _=cn (m+1 - d) (n - (m+1)) (vk d k)
    rw [← e]
    exact cn_congr fun x hx=>vk_cons hd x fun a ha=>((ls_mem _ _ x hx).1 a ha).1
  · rw [if_neg h,if_neg h]
 rw [this]
 show _=cn m n (vk d (k+1))+_
 omega
theorem sh_add (e:Nat) (f g:Nat→Int):sh e (fun i=>f i+g i)=fun n=>sh e f n+sh e g n:=by
 funext n
 unfold sh
 by_cases h:e≤n
 · rw [if_pos h,if_pos h,if_pos h]
 · rw [if_neg h,if_neg h,if_neg h];rfl
theorem sh_fun (a b:Nat) (g:Nat→Int):sh a (sh b g)=sh (a+b) g:=funext fun i=>sh_sh a b g i
theorem ex_next (d k:Nat):ex d (k+1) 1=d*k+1+ex d k 1:=by
 rw [ex_in]
 have e:∀ e,ex d k (1+e)=ex d k 1+k*e:=by
  intro e
  induction e with
  | zero=>rw [Nat.mul_zero];rfl
  | succ e ih=>rw [show 1+(e+1)=(1+e)+1 by omega,ex_up,ih];grind
 rw [e d]
 grind
theorem vE_low {d:Nat} (hd:1≤d):∀ k m,m≤d*k→vE d (k+1) m=fun _=>0:=by
 intro k
 induction k with
 | zero=>intro m h;rw [show m=0 by omega];funext n;exact vE_zero d 0 n
 | succ k ih=>
   intro m
   induction m with
   | zero=>intro _;funext n;exact vE_zero d _ n
   | succ m ihm=>
     intro h
     have e:d*(k+1)=d*k+d:=by grind
     rw [vE_step hd,ihm (by omega),ih (m+1 - d) (by omega)]
     funext n
     unfold sh
     split <;> rfl
theorem pascalT (k l:Nat):bx (l+1) (k+1)=fun n=>bx l (k+1) n+sh (l+1) (bx (l+1) k) n:=by
 rw [bx_turn,pascal l k]
 funext n
 rw [bx_turn l (k+1),bx_turn (l+1) k]
theorem vE_is {d:Nat} (hd:1≤d):∀ k l,vE d (k+1) (d*k+1+l)=sh (ex d (k+1) 1) (bx l (k+1)):=by
 intro k
 induction k with
 | zero=>
   intro l
   have z:∀ m,vE d 0 m=dl:=fun m=>funext fun n=>vE_none d m n
   induction l with
   | zero=>
     rw [show d*0+1+0=0+1 by omega,vE_step hd,z,bx_none',ex_next]
     funext n
     rw [vE_zero]
     show 0+sh 1 dl n=sh (d*0+1+ex d 0 1) dl n
     rw [show d*0+1+ex d 0 1=1 by unfold ex;simp]
     omega
   | succ l ih=>
     rw [show d*0+1+(l+1)=(d*0+1+l)+1 by omega,vE_step hd,ih,z,pascalT 0 l,sh_add,sh_fun,bx_none]
     funext n
     congr 2
 | succ k ihk=>
   intro l
   have e:d*(k+1)=d*k+d:=by grind
   induction l with
   | zero=>
     rw [show d*(k+1)+1+0=d*(k+1)+1 by omega,vE_step hd,vE_low hd (k+1) _ (Nat.le_refl _),show d*(k+1)+1 - d=d*k+1+0 by omega,ihk 0,bx_none',bx_none',sh_fun,← ex_next]
     funext n
     show 0+_=_
     omega
   | succ l ih=>
     rw [show d*(k+1)+1+(l+1)=(d*(k+1)+1+l)+1 by omega,vE_step hd,ih,show d*(k+1)+1+l+1 - d=d*k+1+(l+1) by omega,ihk (l+1),pascalT (k+1) l,sh_add,sh_fun,sh_fun]
     funext n
     congr 2
     rw [ex_next d (k+1)]
     omega
theorem vE_at {d:Nat} (hd:1≤d) (k n:Nat):vE d k n n=if Ls d k≤n then PL dl (ups k) (n - Ls d k) else 0:=by
 rw [ls_ex]
 cases k with
 | zero=>
   rw [vE_none,if_pos (by unfold ex;simp)]
   show dl n=dl (n - ex d 0 1)
   rw [show ex d 0 1=0 by unfold ex;simp]
   rfl
 | succ k=>
   by_cases h:d*k+1≤n
   · obtain ⟨l,e⟩:∃ l,n=d*k+1+l:=⟨n - (d*k+1),by omega⟩
     have v:=congrFun (vE_is hd k l) n
     rw [← e] at v
     rw [v]
     unfold sh
     by_cases g:ex d (k+1) 1≤n
     · rw [if_pos g,if_pos g,bx_big (by rw [ex_next] at g ⊢;omega)]
     · rw [if_neg g,if_neg g]
   · have v:=congrFun (vE_low hd k n (by omega)) n
     rw [v,if_neg (by rw [ex_next];omega)]
theorem cn_split (p:List Nat→Bool) (m n:Nat):∀ K,(∀ x∈Lst m n,x.length<K)→cn m n p=((List.range K).map fun k=>cn m n fun x=>p x&&decide (x.length=k)).sum:=by
 have key:∀ (L:List (List Nat)) K,((List.range K).map fun k=>((L.countP fun x=>p x&&decide (x.length=k):Nat):Int)).sum=((L.countP fun x=>p x&&decide (x.length<K):Nat):Int):=by
  intro L K
  induction K with
  | zero=>
    show (0:Int)=_
    rw [List.countP_congr (q:=fun _=>false) fun x _=>by simp,List.countP_false]
    rfl
  | succ K ih=>
    rw [List.range_succ,List.map_append,List.sum_append_int,ih]
    show _+(((L.countP fun x=>p x&&decide (x.length=K):Nat):Int)+0)=_
    rw [Int.add_zero,← Int.natCast_add]
    congr 1
    clear ih
    induction L with
    | nil=>rfl
    | cons x L ihL=>
      rw [List.countP_cons,List.countP_cons,List.countP_cons]
      have:(if (p x&&decide (x.length<K))=true then 1 else 0)+(if (p x&&decide (x.length=K))=true then 1 else 0)=(if (p x&&decide (x.length<K+1))=true then 1 else 0):=by
       cases p x with
       | false=>rfl
       | true=>
         rw [Bool.true_and,Bool.true_and,Bool.true_and]
         by_cases h1:x.length<K
         · rw [decide_eq_true h1,decide_eq_false (by omega:¬ x.length=K),decide_eq_true (by omega:x.length<K+1)];rfl
         · by_cases h2:x.length=K
           · rw [decide_eq_false h1,decide_eq_true h2,decide_eq_true (by omega:x.length<K+1)];rfl
           · rw [decide_eq_false h1,decide_eq_false h2,decide_eq_false (by omega:¬ x.length<K+1)];rfl
      omega
 intro K h
 unfold cn
 rw [key (Lst m n) K]
 congr 1
 exact List.countP_congr fun x hx=>by rw [decide_eq_true (h x hx),Bool.and_true]
theorem cn_off {d n:Nat} (hd:1≤d) (hn:n≤600):cn n n (vd d)=fow d n:=by
 rw [cn_split (vd d) n n (n+1) fun x hx=>by have:=ls_len hx;omega]
 have e:∀ K,((List.range K).map fun k=>cn n n fun x=>vd d x&&decide (x.length=k)).sum=fq d K n:=by
  intro K
  induction K with
  | zero=>rfl
  | succ K ih=>
    rw [List.range_succ,List.map_append,List.sum_append_int,ih]
    show _+(vE d K n n+0)=fq d K n+if Ls d K≤n then PL dl (ups K) (n - Ls d K) else 0
    rw [vE_at hd,Int.add_zero]
 rw [e]
 exact fow_is (n:=n) (by have:=Ls_ge d (n+1);omega) (by omega) (Nat.le_refl n)
def gr:List Nat→Nat
 | []=>0
 | a::r=>if gr r≤a then a else gr r
def cols (x:List Nat):List Nat:=(List.range (gr x)).map fun k=>(x.filter fun a=>decide (k<a)).length
def own (x:List Nat):Bool:=decide (cols x=x)
end M11
namespace M66
open MRow M80 M17 M12 M24 M11
theorem cn_pos (m n:Nat) (p:List Nat→Bool):0≤cn m n p:=by unfold cn;omega
theorem cn_up (m n:Nat) (p:List Nat→Bool):cn m n p≤cn (m+1) n p:=by
 rw [cn_succ]
 have:0≤(if m+1≤n then cn (m+1) (n - (m+1)) (fun l=>p ((m+1)::l)) else 0):=by
  split
  · exact cn_pos _ _ _
  · decide
 omega
theorem cn_ups {m:Nat} (n:Nat) (p:List Nat→Bool):∀ e,cn m n p≤cn (m+e) n p
 | 0=>Int.le_refl _
 | e+1=>Int.le_trans (cn_ups n p e) (cn_up (m+e) n p)
theorem cn_le {a b:Nat} (n:Nat) (p:List Nat→Bool) (h:a≤b):cn a n p≤cn b n p:=by
 have:=cn_ups (m:=a) n p (b - a)
 rw [show a+(b - a)=b by omega] at this
 exact this
theorem cn_nil (a:Nat) (p:List Nat→Bool) (h:p []=true):cn a 0 p=1:=by
 induction a with
 | zero=>rw [cn_zero,if_pos h];rfl
 | succ a ih=>rw [cn_succ,ih,if_neg (by omega)];rfl
theorem cn_len (l:Nat) (m n:Nat):cn m n (fun x=>decide (x.length≤l))=bx l m n:=by
 have e:cn m n (fun x=>decide (x.length≤l))=cn m n (inb m l):=cn_congr fun x hx=>by
  unfold inb
  rw [show (x.all fun a=>decide (a≤m))=true from List.all_eq_true.mpr fun a ha=>decide_eq_true ((ls_mem m n x hx).1 a ha).2,Bool.and_true]
 rw [e,cn_box,Nat.min_self]
theorem vd_cons {d m:Nat} (hd:1≤d) (x:List Nat) (hx:∀ a∈x,1≤a):vd d ((m+1)::x)=(hdle (m+1 - d) x&&vd d x):=by
 cases x with
 | nil=>rfl
 | cons b r=>
   show (decide (b+d≤m+1)&&vd d (b::r))=(decide (b≤m+1 - d)&&vd d (b::r))
   have h1:=hx b List.mem_cons_self
   rw [show decide (b+d≤m+1)=decide (b≤m+1 - d) from decide_eq_decide.mpr (by omega)]
theorem cn_vd {d:Nat} (hd:1≤d) (m n:Nat):cn (m+1) n (vd d)=cn m n (vd d)+if m+1≤n then cn (m+1 - d) (n - (m+1)) (vd d) else 0:=by
 rw [cn_succ]
 have:(if m+1≤n then cn (m+1) (n - (m+1)) (fun l=>vd d ((m+1)::l)) else 0)=if m+1≤n then cn (m+1 - d) (n - (m+1)) (vd d) else 0:=by
  by_cases h:m+1≤n
  · rw [if_pos h,if_pos h]
    have e:=cn_head (vd d) (m+1 - d) (m+1 - (m+1 - d)) (n - (m+1))
    rw [show m+1 - d+(m+1 - (m+1 - d))=m+1 by omega] at e
    rw [← e]
    exact cn_congr fun x hx=>vd_cons hd x fun a ha=>((ls_mem _ _ x hx).1 a ha).1
  · rw [if_neg h,if_neg h]
 rw [this]
 omega
def Fl:List Nat→Prop
 | []=>True
 | [a]=>1≤a
 | a::b::r=>b≤a∧Fl (b::r)
theorem Fl.tail {a:Nat} {r:List Nat} (h:Fl (a::r)):Fl r:=by
 cases r with
 | nil=>trivial
 | cons b r=>exact h.2
theorem Fl.pos:∀ {x:List Nat},Fl x→∀ a∈x,1≤a
 | [],_,_,h=>nomatch h
 | [b],h,a,ha=>by rw [List.mem_singleton.mp ha];exact h
 | b::c::r,h,a,ha=>by
   rcases List.mem_cons.mp ha with e | e
   · have:=Fl.pos h.2 c List.mem_cons_self
     have:=h.1
     omega
   · exact Fl.pos h.2 a e
theorem Fl.head {b:Nat}:∀ {r:List Nat},Fl (b::r)→∀ a∈b::r,a≤b
 | [],_,a,ha=>by rw [List.mem_singleton.mp ha];exact Nat.le_refl _
 | c::r,h,a,ha=>by
   rcases List.mem_cons.mp ha with e | e
   · omega
   · have:=Fl.head h.2 a e
     have:=h.1
     omega
def rk (q:Nat→List Nat→Bool):Nat→List Nat→Int
 | _,[]=>0
 | i,a::y=>cn (a - 1) (a+y.sum) (q i)+rk q (i+1) y
theorem rk_pos (q:Nat→List Nat→Bool):∀ (x:List Nat) (i:Nat),0≤rk q i x
 | [],_=>Int.le_refl 0
 | a::y,i=>by
   show 0≤cn (a - 1) (a+y.sum) (q i)+rk q (i+1) y
   have:=cn_pos (a - 1) (a+y.sum) (q i)
   have:=rk_pos q y (i+1)
   omega
theorem cn_own {a m:Nat} (ha:1≤a) (p:List Nat→Bool):cn a (a+m) p=cn a m (fun l=>p (a::l))+cn (a - 1) (a+m) p:=by
 obtain ⟨b,rfl⟩:∃ b,a=b+1:=⟨a - 1,by omega⟩
 rw [cn_succ,if_pos (by omega),Nat.add_sub_cancel_left,Nat.add_sub_cancel]
theorem rk_lt {q:Nat→List Nat→Bool} (V:Nat→List Nat→Prop)
 (hq:∀ i a y,V i (a::y)→Fl (a::y)→q i [a]=true∨y≠[])
 (hs:∀ i a b z,V i (a::b::z)→Fl (a::b::z)→V (i+1) (b::z)∧∀ m,cn b m (q (i+1))≤cn a m (fun l=>q i (a::l))) :
 ∀ (y:List Nat) (i a:Nat),V i (a::y)→Fl (a::y)→rk q i (a::y)<cn a (a+y.sum) (q i)
 | [],i,a,v,f=>by
   have ha:1≤a:=f
   show cn (a - 1) (a+0) (q i)+0<cn a (a+0) (q i)
   rw [cn_own ha,cn_nil a _ (by rcases hq i a [] v f with h | h;exact h;exact absurd rfl h)]
   omega
 | b::z,i,a,v,f=>by
   have ha:=Fl.pos f a List.mem_cons_self
   obtain ⟨v2,le⟩:=hs i a b z v f
   have ih:=rk_lt V hq hs z (i+1) b v2 f.tail
   show cn (a - 1) (a+(b::z).sum) (q i)+rk q (i+1) (b::z)<cn a (a+(b::z).sum) (q i)
   rw [cn_own ha]
   have:=le (b::z).sum
   rw [List.sum_cons] at *
   omega
theorem ctj_one {t m n:Nat}:cn (m+1) n (ctj t (m+1) 1)=cn m n (cts t):=by
 rw [cn_succ]
 rw [show (if m+1≤n then cn (m+1) (n - (m+1)) (fun l=>ctj t (m+1) 1 ((m+1)::l)) else 0)=0 from ?_]
 · rw [Int.zero_add]
   exact cn_congr fun x hx=>ctj_low fun a ha=>((ls_mem m n x hx).1 a ha).2
 · split
   · refine cn_none fun l _=>?_
     rw [ctj_cons]
     unfold ctj
     rw [decide_eq_false (Nat.not_lt_zero _),Bool.false_and]
   · rfl
theorem ctj_mono {t M j e:Nat} (m n:Nat):cn m n (ctj t M j)≤cn m n (ctj t M (j+e)):=by
 unfold cn
 have:(Lst m n).countP (ctj t M j)≤(Lst m n).countP (ctj t M (j+e)):=by
  refine List.countP_mono_left fun x _ h=>?_
  unfold ctj at h ⊢
  rw [Bool.and_eq_true] at h ⊢
  exact ⟨decide_eq_true (by have:=of_decide_eq_true h.1;omega),h.2⟩
 omega
theorem cts_tail {t a:Nat} {y:List Nat} (h:cts t (a::y)=true):cts t y=true:=by
 unfold cts at h ⊢
 rw [List.all_eq_true] at h ⊢
 intro b hb
 have:=of_decide_eq_true (h b (List.mem_cons_of_mem _ hb))
 refine decide_eq_true ?_
 rw [List.count_cons] at this
 omega
theorem rk_times {t:Nat} (ht:0<t):∀ (y:List Nat) (i a:Nat),cts t (a::y)=true→Fl (a::y)→rk (fun _=>cts t) i (a::y)<cn a (a+y.sum) (ctj t a ((a::y).count a+1))
 | [],i,a,v,f=>by
   have ha:1≤a:=f
   show cn (a - 1) (a+0) (cts t)+0<_
   have c1:([a]:List Nat).count a=1:=by simp
   rw [c1,cn_own ha]
   obtain ⟨b,rfl⟩:∃ b,a=b+1:=⟨a - 1,by omega⟩
   have e1:cn (b+1) 0 (fun l=>ctj t (b+1) (1+1) ((b+1)::l))=1:=cn_nil _ _ (by rw [ctj_cons];unfold ctj;rfl)
   have e2:cn (b+1 - 1) (b+1+0) (ctj t (b+1) (1+1))=cn (b+1 - 1) (b+1+0) (cts t):=cn_congr fun x hx=>ctj_low fun z hz=>((ls_mem _ _ x hx).1 z hz).2
   show _<cn (b+1) ([]:List Nat).sum _+_
   rw [show ([]:List Nat).sum=0 from rfl,e1,e2]
   omega
 | b::z,i,a,v,f=>by
   have ha:=Fl.pos f a List.mem_cons_self
   have ih:=rk_times ht z (i+1) b (cts_tail v) f.tail
   show cn (a - 1) (a+(b::z).sum) (cts t)+rk (fun _=>cts t) (i+1) (b::z)<_
   rw [cn_own ha]
   have hba:b≤a:=f.1
   obtain ⟨c,rfl⟩:∃ c,a=c+1:=⟨a - 1,by omega⟩
   have e2:∀ j,cn (c+1 - 1) (c+1+(b::z).sum) (ctj t (c+1) (j+1))=cn (c+1 - 1) (c+1+(b::z).sum) (cts t):=fun j=>cn_congr fun x hx=>ctj_low fun z hz=>((ls_mem _ _ x hx).1 z hz).2
   rw [e2]
   have e1:∀ j m,cn (c+1) m (fun l=>ctj t (c+1) (j+1) ((c+1)::l))=cn (c+1) m (ctj t (c+1) j):=fun j m=>cn_congr fun x _=>ctj_cons _ _ _ _
   rw [e1]
   have cb:(b::z).count b<t:=of_decide_eq_true (List.all_eq_true.mp (cts_tail v) b List.mem_cons_self)
   have up:rk (fun _=>cts t) (i+1) (b::z)<cn (c+1) (b::z).sum (ctj t (c+1) (((c+1)::b::z).count (c+1))):=by
    by_cases hb:b=c+1
    · subst hb
      have e3:((c+1)::(c+1)::z).count (c+1)=((c+1)::z).count (c+1)+1:=List.count_cons_self
      rw [e3]
      exact ih
    · have h0:(b::z).count (c+1)=0:=List.count_eq_zero.mpr fun h=>by have:=Fl.head f.tail _ h;omega
      have e3:((c+1)::b::z).count (c+1)=1:=by rw [List.count_cons_self,h0]
      rw [e3,ctj_one]
      have s1:rk (fun _=>cts t) (i+1) (b::z)<cn b (b+z.sum) (ctj t b t):=by
       have:=ctj_mono (t:=t) (M:=b) (j:=(b::z).count b+1) (e:=t - ((b::z).count b+1)) b (b+z.sum)
       rw [show (b::z).count b+1+(t - ((b::z).count b+1))=t by omega] at this
       omega
      have s2:cn b (b+z.sum) (ctj t b t)=cn b (b+z.sum) (cts t):=cn_congr fun x _=>ctj_t ht _ x
      have s3:=cn_le (b+z.sum) (cts t) (show b≤c by omega)
      rw [List.sum_cons]
      omega
   omega
theorem rk_times' {t:Nat} (ht:0<t) (y:List Nat) (i a:Nat) (v:cts t (a::y)=true) (f:Fl (a::y)):rk (fun _=>cts t) i (a::y)<cn a (a+y.sum) (cts t):=by
 have h:=rk_times ht y i a v f
 have c:(a::y).count a<t:=of_decide_eq_true (List.all_eq_true.mp v a List.mem_cons_self)
 have m:=ctj_mono (t:=t) (M:=a) (j:=(a::y).count a+1) (e:=t - ((a::y).count a+1)) a (a+y.sum)
 rw [show (a::y).count a+1+(t - ((a::y).count a+1))=t by omega,cn_congr (q:=cts t) fun x _=>ctj_t ht _ x] at m
 omega
end M66
namespace M02
def rstep (acc:List (Int×Int)) (p:Int):List (Int×Int):=match acc.getLast? with
 | some q=>if q.1=p then acc.set (acc.length - 1) (p,q.2+1) else acc++[(p,1)]
 | none=>acc++[(p,1)]
def runs (ns:List Int):List (Int×Int):=ns.foldl rstep []
theorem runs_snoc (ns:List Int) (p:Int):runs (ns++[p])=rstep (runs ns) p:=by unfold runs;rw [List.foldl_append];rfl
theorem last_split {α:Type} {l:List α} {q:α} (h:l.getLast? = some q):∃ i,l=i++[q]:=by
 refine ⟨l.dropLast,?_⟩
 have hne:l≠[]:=by intro e;subst e;cases h
 have e:=List.dropLast_concat_getLast hne
 rw [List.getLast?_eq_some_getLast hne] at h
 cases h
 exact e.symm
theorem set_last {α:Type} (i:List α) (q x:α):(i++[q]).set ((i++[q]).length - 1) x=i++[x]:=by
 rw [List.length_append,List.length_singleton,Nat.add_sub_cancel,List.set_append_right _ _ (Nat.le_refl _),Nat.sub_self]
 rfl
def rep (q:Int×Int):List Int:=List.replicate q.2.toNat q.1
structure Ok (ns:List Int) (ps:List (Int×Int)):Prop where
 pw:ps.Pairwise fun a b=>a.1 > b.1
 mem:∀ s c,(s,c)∈ps↔c=(ns.count s:Int)∧0<ns.count s
 flat:(ps.map rep).flatten=ns
 last:ns.getLast? = ps.getLast?.map (·.1)
theorem ok_runs:∀ rs:List Int,rs.reverse.Pairwise (·≥·)→Ok rs.reverse (runs rs.reverse)
 | [],_=>⟨.nil,fun s c=>by simp [runs],rfl,rfl⟩
 | p::rs,h=>by
   rw [List.reverse_cons] at h ⊢
   obtain ⟨h1,_,h3⟩:=List.pairwise_append.mp h
   have ih:=ok_runs rs h1
   have hp:∀ x∈rs.reverse,x≥p:=fun x hx=>h3 x hx p (by simp)
   generalize rs.reverse=ns at *
   rw [runs_snoc]
   generalize runs ns=ps at ih
   unfold rstep
   cases e:ps.getLast? with
   | none=>
     have e0:ps=[]:=List.getLast?_eq_none_iff.mp e
     subst e0
     have en:ns=[]:=by have:=ih.flat;simpa using this.symm
     subst en
     refine ⟨by simp,fun s c=>?_,rfl,rfl⟩
     simp only [List.nil_append,List.mem_singleton,Prod.mk.injEq,List.count_singleton,beq_iff_eq]
     by_cases hs:p=s
     · subst hs;simp
     · simp [hs];intro z;exact absurd z.symm hs
   | some q=>
     obtain ⟨i,rfl⟩:=last_split e
     have hl:ns.getLast? = some q.1:=by rw [ih.last,e];rfl
     have hpw:=List.pairwise_append.mp ih.pw
     dsimp only
     by_cases hq:q.1=p
     · rw [if_pos hq,set_last]
       have hc:=(ih.mem q.1 q.2).mp (by simp)
       refine ⟨?_,fun s c=>?_,?_,?_⟩
       · rw [List.pairwise_append]
         refine ⟨hpw.1,by simp,fun a ha b hb=>?_⟩
         have:b=(p,q.2+1):=by simpa using hb
         subst this
         have:=hpw.2.2 a ha q (by simp)
         show a.1 > p
         omega
       · rw [List.count_append,List.count_singleton]
         by_cases hs:p=s
         · subst hs
           simp only [beq_self_eq_true,if_true]
           constructor
           · intro z
             rcases List.mem_append.mp z with z | z
             · have:=hpw.2.2 _ z q (by simp)
               simp only at this
               omega
             · have:c=q.2+1:=by simpa using z
               rw [hq] at hc
               omega
           · intro z
             refine List.mem_append.mpr (.inr ?_)
             rw [hq] at hc
             have:c=q.2+1:=by omega
             simp [this]
         · have e1:(p == s)=false:=by simpa using hs
           simp only [e1,Bool.false_eq_true,if_false,Nat.add_zero]
           rw [← ih.mem s c]
           constructor
           · intro z
             rcases List.mem_append.mp z with z | z
             · exact List.mem_append.mpr (.inl z)
             · have:s=p:=by have:=List.mem_singleton.mp z;exact congrArg Prod.fst this
               exact absurd this.symm hs
           · intro z
             rcases List.mem_append.mp z with z | z
             · exact List.mem_append.mpr (.inl z)
             · have:s=q.1:=by have:=List.mem_singleton.mp z;exact congrArg Prod.fst this
               exact absurd (hq.symm.trans this.symm) hs
       · have:=ih.flat
         rw [List.map_append,List.flatten_append] at this ⊢
         rw [← this]
         simp only [List.map_cons,List.map_nil,List.flatten_cons,List.flatten_nil,List.append_nil,List.append_assoc]
         congr 1
         show List.replicate (q.2+1).toNat p=List.replicate q.2.toNat q.1++[p]
         have e2:(q.2+1).toNat=q.2.toNat+1:=by omega
         rw [e2,hq,List.replicate_succ']
       · simp
     · rw [if_neg hq]
       have hlt:∀ a∈i++[q],a.1 > p:=fun a ha=>by
        have h0:p<q.1:=by
         have:q.1∈ns:=List.mem_of_getLast? hl
         have:=hp _ this
         omega
        rcases List.mem_append.mp ha with ha | ha
        · have:=hpw.2.2 a ha q (by simp);omega
        · have:a=q:=by simpa using ha
          subst this;exact h0
       have hz:ns.count p=0:=by
        cases hc:ns.count p with
        | zero=>rfl
        | succ k=>
          have:=(ih.mem p (ns.count p)).mpr ⟨rfl,by omega⟩
          have:=hlt _ this
          simp only at this
          omega
       refine ⟨?_,fun s c=>?_,?_,?_⟩
       · rw [List.pairwise_append]
         refine ⟨ih.pw,by simp,fun a ha b hb=>?_⟩
         have:b=(p,1):=by simpa using hb
         subst this
         exact hlt a ha
       · rw [List.count_append,List.count_singleton]
         by_cases hs:p=s
         · subst hs
           simp only [beq_self_eq_true,if_true,hz]
           constructor
           · intro z
             rcases List.mem_append.mp z with z | z
             · have:=hlt _ z;simp only at this;omega
             · have:c=1:=by simpa using z
               omega
           · intro z
             have:c=1:=by omega
             simp [this]
         · have e1:(p == s)=false:=by simpa using hs
           simp only [e1,Bool.false_eq_true,if_false,Nat.add_zero]
           rw [← ih.mem s c]
           constructor
           · intro z
             rcases List.mem_append.mp z with z | z
             · exact z
             · have:s=p:=by have:=List.mem_singleton.mp z;exact congrArg Prod.fst this
               exact absurd this.symm hs
           · intro z
             exact List.mem_append.mpr (.inl z)
       · rw [List.map_append,List.flatten_append,ih.flat];rfl
       · simp
theorem ok_of {ns:List Int} (h:ns.Pairwise (·≥·)):Ok ns (runs ns):=by
 have:=ok_runs ns.reverse (by rw [List.reverse_reverse];exact h)
 rw [List.reverse_reverse] at this
 exact this
theorem uniq:∀ {l m:List (Int×Int)},(l.Pairwise fun a b=>a.1 > b.1)→(m.Pairwise fun a b=>a.1 > b.1)→(∀ x,x∈l↔x∈m)→l=m
 | [],[],_,_,_=>rfl
 | [],y::m,_,_,h=>by have:=(h y).mpr List.mem_cons_self;cases this
 | x::l,[],_,_,h=>by have:=(h x).mp List.mem_cons_self;cases this
 | x::l,y::m,hl,hm,h=>by
   obtain ⟨l1,l2⟩:=List.pairwise_cons.mp hl
   obtain ⟨m1,m2⟩:=List.pairwise_cons.mp hm
   have exy:x=y:=by
    rcases List.mem_cons.mp ((h x).mp List.mem_cons_self) with e | e
    · exact e
    · rcases List.mem_cons.mp ((h y).mpr List.mem_cons_self) with e' | e'
      · exact e'.symm
      · have:=m1 x e;have:=l1 y e';omega
   subst exy
   congr 1
   refine uniq l2 m2 fun z=>?_
   constructor
   · intro hz
     rcases List.mem_cons.mp ((h z).mp (List.mem_cons_of_mem _ hz)) with e | e
     · subst e;have:=l1 z hz;omega
     · exact e
   · intro hz
     rcases List.mem_cons.mp ((h z).mpr (List.mem_cons_of_mem _ hz)) with e | e
     · subst e;have:=m1 z hz;omega
     · exact e
def lsz (ns:List Int) (M:Int) (k:Nat):List (Int×Int):=(List.range k).filterMap fun (i:Nat)=>if 0<ns.count (M+(i:Int)*(-1)) then some (M+(i:Int)*(-1),(ns.count (M+(i:Int)*(-1)):Int)) else none
theorem lsz_succ (ns:List Int) (M:Int) (k:Nat):lsz ns M (k+1)=lsz ns M k++(if 0<ns.count (M+(k:Int)*(-1)) then [(M+(k:Int)*(-1),(ns.count (M+(k:Int)*(-1)):Int))] else []):=by
 unfold lsz
 rw [List.range_succ,List.filterMap_append]
 congr 1
 by_cases h:0<ns.count (M+(k:Int)*(-1))
 · rw [if_pos h,List.filterMap_cons,if_pos h];rfl
 · rw [if_neg h,List.filterMap_cons,if_neg h];rfl
theorem lsz_mem {ns:List Int} {M:Int} {k:Nat} {x:Int×Int}:x∈lsz ns M k↔x.2=(ns.count x.1:Int)∧0<ns.count x.1∧M - k<x.1∧x.1≤M:=by
 unfold lsz
 rw [List.mem_filterMap]
 constructor
 · rintro ⟨i,hi,h⟩
   have hi':=List.mem_range.mp hi
   split at h
   · cases h;dsimp only;exact ⟨rfl,by assumption,by omega,by omega⟩
   · cases h
 · rintro ⟨h1,h2,h3,h4⟩
   refine ⟨(M - x.1).toNat,List.mem_range.mpr (by omega),?_⟩
   have e:M+(((M - x.1).toNat:Nat):Int)*(-1)=x.1:=by omega
   rw [e,if_pos h2]
   cases x
   simp only at h1
   rw [h1]
theorem lsz_pw (ns:List Int) (M:Int):∀ k,(lsz ns M k).Pairwise fun a b=>a.1 > b.1
 | 0=>by simp [lsz]
 | k+1=>by
   rw [lsz_succ,List.pairwise_append]
   refine ⟨lsz_pw ns M k,?_,fun a ha b hb=>?_⟩
   · split <;> simp
   · split at hb
     · have:b=(M+(k:Int)*(-1),(ns.count (M+(k:Int)*(-1)):Int)):=by simpa using hb
       subst this
       have:=(lsz_mem.mp ha).2.2.1
       show a.1 > M+(k:Int)*(-1)
       omega
     · cases hb
theorem same {ns:List Int} {M:Int} (h:ns.Pairwise (·≥·)) (h1:∀ n∈ns,1≤n) (hM:∀ n∈ns,n≤M) (h0:0≤M):lsz ns M M.toNat=runs ns:=by
 have o:=ok_of h
 refine uniq (lsz_pw ns M _) o.pw fun x=>?_
 rw [lsz_mem]
 have:=o.mem x.1 x.2
 constructor
 · rintro ⟨a,b,_,_⟩;exact this.mpr ⟨a,b⟩
 · intro z
   obtain ⟨a,b⟩:=this.mp z
   have hm:x.1∈ns:=List.count_pos_iff.mp b
   exact ⟨a,b,by have:=h1 _ hm;omega,hM _ hm⟩
theorem runs_len:∀ rs:List Int,(runs rs.reverse).length≤rs.length
 | []=>Nat.le_refl _
 | p::rs=>by
   rw [List.reverse_cons,runs_snoc]
   have:=runs_len rs
   unfold rstep
   split
   · split
     · rw [List.length_set,List.length_cons];omega
     · rw [List.length_append,List.length_cons];simp;omega
   · rw [List.length_append,List.length_cons];simp;omega
theorem runs_len' (ns:List Int):(runs ns).length≤ns.length:=by
 have:=runs_len ns.reverse
 rw [List.reverse_reverse,List.length_reverse] at this
 exact this
end M02
namespace K65
open PySem L2 MRow M27 M80 M17 M12 M24 M11 M66
theorem cut1 (x:V) (xs:List V):cutV (x::xs) (some 1) none=xs:=by
 unfold cutV
 rw [HT.sIx_none,show (1:Int)=((1:Nat):Int) from rfl,HT.sIx_nat,List.length_cons,show min 1 (xs.length+1)=1 by omega]
 show xs.take (xs.length+1 - 1)=xs
 rw [Nat.add_sub_cancel,List.take_of_length_le (Nat.le_refl _)]
def zb (d:Nat) (x:List Nat):List Bool:=List.zipWith (fun a b=>decide (b+d≤a)) x x.tail
theorem vd_zb (d:Nat):∀ x,vd d x=(zb d x).all id
 | []=>rfl
 | [_]=>rfl
 | a::b::r=>by
   show (decide (b+d≤a)&&vd d (b::r))=(decide (b+d≤a)&&(zb d (b::r)).all id)
   rw [vd_zb d (b::r)]
def isf:Kn→List Nat→Bool
 | .all=>fun _=>true
 | .most k=>fun x=>x.all fun a=>decide (a≤k)
 | .few k=>fun x=>decide (x.length≤k)
 | .times m=>cts m
 | .rests m rs=>fun x=>x.all fun a=>decide ((a:Int) % (m:Int)∈rs)
 | .box k l=>inb k l
 | .off d=>vd d
 | .own=>own
theorem nI_get {x:List Nat} {i a:Nat} (h:x[i]? = some a):(nI x)[i]? = some (.int (a:Int)):=by unfold nI;rw [List.getElem?_map,List.getElem?_map,h];rfl
theorem take_more {α β:Type} (f:α→β) {x:List α} {i:Nat} {a:α} (h:x[i]? = some a):(x.take (i+1)).map f=(x.take i).map f++[f a]:=by rw [List.take_succ,h,List.map_append];rfl
theorem countI (x:List Nat) (a:Nat):(x.map fun (k:Nat)=>(k:Int)).count (a:Int)=x.count a:=by
 induction x with
 | nil=>rfl
 | cons b x ih=>
   rw [List.map_cons,List.count_cons,List.count_cons,ih]
   congr 1
   by_cases h:b=a
   · rw [h];simp
   · rw [if_neg (by simpa using fun e:(b:Int)=(a:Int)=>h (Int.ofNat_inj.mp e)),if_neg (by simpa using h)]
theorem gr_ge:∀ (x:List Nat),∀ a∈x,a≤gr x
 | [],_,h=>nomatch h
 | b::r,a,h=>by
   show a≤if gr r≤b then b else gr r
   rcases List.mem_cons.mp h with e | e
   · subst e;split <;> omega
   · have:=gr_ge r a e;split <;> omega
def noown:Kn→Prop
 | .own=>False
 | _=>True
theorem Fl.all_le {x:List Nat} {a:Nat} {r:List Nat} (h:x=a::r) (f:Fl x) (k:Nat):(x.all fun a=>decide (a≤k))=decide (a≤k):=by
 subst h
 by_cases c:a≤k
 · rw [decide_eq_true c,List.all_eq_true]
   intro b hb
   have:=Fl.head f b hb
   exact decide_eq_true (by omega)
 · rw [decide_eq_false c]
   refine Bool.eq_false_iff.mpr fun g=>?_
   exact c (of_decide_eq_true (List.all_eq_true.mp g a List.mem_cons_self))
theorem cts_runs {x:List Nat} (f:Fl x) (m:Nat):((M02.runs (x.map fun (k:Nat)=>(k:Int))).all fun p=>decide (p.2<(m:Int)))=cts m x:=by
 have hp:(x.map fun (k:Nat)=>(k:Int)).Pairwise (·≥·):=by
  rw [List.pairwise_map]
  induction x with
  | nil=>exact .nil
  | cons a r ih=>exact .cons (fun b hb=>by have:=Fl.head f b (List.mem_cons_of_mem _ hb);show (b:Int)≤(a:Int);omega) (ih f.tail)
 have h1:∀ n∈x.map fun (k:Nat)=>(k:Int),1≤n:=fun n hn=>by obtain ⟨a,ha,rfl⟩:=List.mem_map.mp hn;have:=Fl.pos f a ha;omega
 have hM:∀ n∈x.map fun (k:Nat)=>(k:Int),n≤(gr x:Int):=fun n hn=>by obtain ⟨a,ha,rfl⟩:=List.mem_map.mp hn;have:=gr_ge x a ha;omega
 rw [← M02.same hp h1 hM (by omega)]
 unfold cts
 rw [Bool.eq_iff_iff,List.all_eq_true,List.all_eq_true]
 refine ⟨fun g a ha=>?_,fun g p hp=>?_⟩
 · have c0:0<x.count a:=List.count_pos_iff.mpr ha
   have:=g ((a:Int),(x.count a:Int)) (M02.lsz_mem.mpr ⟨by rw [countI],by rw [countI];exact c0,by have:=Fl.pos f a ha;omega,by have:=gr_ge x a ha;omega⟩)
   have:=of_decide_eq_true this
   exact decide_eq_true (by dsimp only at this;omega)
 · obtain ⟨e1,e2,e3,e4⟩:=M02.lsz_mem.mp hp
   have hm:p.1∈x.map fun (k:Nat)=>(k:Int):=List.count_pos_iff.mp e2
   obtain ⟨a,ha,ea⟩:=List.mem_map.mp hm
   have:=of_decide_eq_true (g a ha)
   refine decide_eq_true ?_
   rw [e1,← ea,countI]
   omega
section
variable {P:Program} {w:World} {K:PySem.W.Frag} {mg:Str→Option Value} {base:Heap} {f:Addr} {fd:FuncData}
theorem sc_sizes:FnScope ["parting","told","part"] ["parting"] (defScope (top 17)):=⟨rfl,rfl,rfl,by decide +kernel,rfl,by decide +kernel,by decide +kernel⟩
def sp_sizes:Sp:=fun vs H Q _=>∃ (a:Addr) (ns:List Int),vs=[.ref a]∧H a=some (.tup (ns.map V.int))∧ns.length≤1000∧∀ r H' us,Same H H'→H' r=some (.tup us)→Prs H' us (M02.runs ns)→Q (.ref r) H'
theorem ok_sizes (F:Fun K "sizes" "sizes" (top 17) f fd) (m_tuple:mg "tuple" = none):FnOk P w K mg base CX0 1 f fd ["parting"] sp_sizes:=by
 refine F.okz sc_sizes (fun vs H Q E h=>?_) (fun cdv A outer s H vs Q E hr h=>?_)
 · obtain ⟨a,ns,rfl,_⟩:=h;rfl
 obtain ⟨a,ns,rfl,ha,hl,q⟩:=h
 have nd:=sc_sizes.nd
 have hu:=hr.units
 refine ⟨_,(zss_cons (zs_set (i:=1) nd rfl (Or.inl rfl) (ze_lst za_nil))
  (zss_cons (zs_for PassesOwn.never rfl (zi_tup (zn 0)) (zg_name (i:=2) nd rfl (Or.inl rfl)) (zss_one (zs_if (ZW.zt (zw_and (zt_truP (zn 1)) (zw_and1 (zt_cmpP (op_eqD hu) (ze_ix ix_P (ze_ix ix_P (zn 1) (ze_un un_neg ze_int) (fun _ _=>rfl)) ze_int (fun _ _=>rfl)) (zn 2) (nomark _))))) (zss_one (zs_asg (ze_tup (za_cons (zn 2) (za_cons (ze_op op_addP (ze_ix ix_P (ze_ix ix_P (zn 1) (ze_un un_neg ze_int) (fun _ _=>rfl)) ze_int (fun _ _=>rfl)) ze_int) za_nil))) (zg_sub (zn 1) (ze_un un_neg ze_int) set_list))) (zss_one (zs_expr (zm_append (zn 1) (za_cons (ze_tup (za_cons (zn 2) (za_cons ze_int za_nil))) za_nil)))))))
  (zss_one (zs_ret (zcb_tuple rfl m_tuple (za_cons (zn 1) za_nil) rfl rfl))))),?_⟩
 refine ⟨Nat.zero_le _,fun t ht=>?_⟩
 have g0:Same H (upd H t (.lst [])):=Same.new ht _
 refine ⟨a,rfl,⟨_,SqT.of (g0 _ _ ha)⟩,for_tup (xs:=ns.map V.int) (fun i σ H'=>Same H H'∧∃ us pp,σ=[some (.ref a),some (.ref t),pp]∧H' t=some (.lst us)∧Prs H' us (M02.runs (ns.take i)))
  ⟨g0,[],none,rfl,upd_same,by rw [List.take_zero];exact .nil⟩ ?_ ?_ ?_⟩
 · rintro i σ H' _ ⟨y,_⟩
   exact SqT.of (y _ _ ha)
 · rintro i x σ H' hx ⟨y,us,pp,rfl,hus,hp⟩
   have hi:i<ns.length:=by
    have:=(List.getElem?_eq_some_iff.mp hx).1
    rw [List.length_map] at this
    exact this
   have ex:x=.int ns[i]:=by rw [getI hi] at hx;exact (Option.some.inj hx).symm
   subst ex
   have etake:ns.take (i+1)=ns.take i++[ns[i]]:=by rw [List.take_succ,List.getElem?_eq_getElem hi];rfl
   have hlen:us.length≤1000:=by
    rw [hp.length]
    have:=M02.runs_len' (ns.take i)
    rw [List.length_take] at this
    omega
   have app:M02.rstep (M02.runs (ns.take i)) ns[i]=M02.runs (ns.take i)++[(ns[i],1)] →
    1+1≤sizeLine∧∀ b,H' b=none→us.length<sizeLine∧True:=fun _=>⟨by decide,fun _ _=>⟨small1000 hlen,trivial⟩⟩
   have more:∀ b,H' b=none→M02.rstep (M02.runs (ns.take i)) ns[i]=M02.runs (ns.take i)++[(ns[i],1)] →
    Same H (upd (upd H' b (.tup [.int ns[i],.int 1])) t (.lst (us++[.ref b])))∧∃ us' pp',[some (V.ref a),some (.ref t),some (.int ns[i])]=[some (.ref a),some (.ref t),pp']∧(upd (upd H' b (.tup [.int ns[i],.int 1])) t (.lst (us++[.ref b]))) t=some (.lst us')∧Prs (upd (upd H' b (.tup [.int ns[i],.int 1])) t (.lst (us++[.ref b]))) us' (M02.runs (ns.take (i+1))):=fun b hb e=>by
    have g1:=Same.new hb (.tup [.int ns[i],.int 1])
    refine ⟨Same.updN (y.trans g1) ht,_,_,rfl,upd_same,?_⟩
    rw [etake,M02.runs_snoc,e]
    refine Prs.updL (g1 _ _ hus) ((hp.same g1).snoc (p:=(ns[i],1)) ⟨b,rfl,upd_same⟩)
   refine ⟨us,.inl (SqL.of hus),?_⟩
   refine iteB (fun c=>?_) (fun c=>?_)
   · have hne:M02.runs (ns.take i)≠[]:=by
      intro e
      rw [hp.nilOf,e] at c
      cases c
     cases el:(M02.runs (ns.take i)).getLast? with
     | none=>exact absurd (List.getLast?_eq_none_iff.mp el) hne
     | some z=>
       obtain ⟨ini,eini⟩:=M02.last_split el
       have hp0:=hp
       rw [eini] at hp
       obtain ⟨vs,b,rfl,hvl,hb⟩:=hp.split
       refine ⟨_,rfl,_,.inl (SqL.of hus),.ref b,atI_last vs _,?_⟩
       refine ⟨_,.inr hb,.int z.1,rfl,?_⟩
       refine iteD (fun c2=>?_) (fun c2=>?_)
       · have c3:z.1=ns[i]:=V.int.inj c2
         refine ⟨_,rfl,_,.inl (SqL.of hus),.ref b,atI_last vs _,?_⟩
         refine ⟨_,.inr hb,.int z.2,rfl,?_⟩
         refine ⟨by show 2≤sizeLine;decide,fun d hd=>?_⟩
         have g1:=Same.new hd (.tup [.int ns[i],.int (z.2+1)])
         refine ⟨_,rfl,t,_,_,vs.length,rfl,rfl,g1 _ _ hus,?_,?_⟩
         · unfold ixN
           rw [if_neg (by decide),List.length_append,List.length_singleton,if_pos (by omega)]
           congr 1
           omega
         · refine ⟨Same.updN (y.trans g1) ht,_,_,rfl,upd_same,?_⟩
           rw [etake,M02.runs_snoc]
           have e1:M02.rstep (M02.runs (ns.take i)) ns[i]=(ini++[z]).set (vs.length) (ns[i],z.2+1):=by
            unfold M02.rstep
            rw [el]
            dsimp only
            rw [if_pos c3,eini,List.length_append,List.length_singleton,Nat.add_sub_cancel,hvl]
           rw [e1]
           exact Prs.updL (g1 _ _ hus) ((hp.same g1).set (p:=(ns[i],z.2+1)) ⟨d,rfl,upd_same⟩ _)
       · have c3:z.1≠ns[i]:=fun e=>c2 (by rw [e])
         refine ⟨tyL hus,by show 2≤sizeLine;decide,fun d hd=>?_⟩
         refine ⟨_,(Same.new hd _) _ _ hus,small1000 hlen,?_⟩
         refine more d hd ?_
         unfold M02.rstep
         rw [el]
         dsimp only
         rw [if_neg c3]
   · have e0:M02.runs (ns.take i)=[]:=by
      have:=hp.nilOf
      rw [Bool.not_eq_false'] at c
      rw [c] at this
      exact List.isEmpty_iff.mp this.symm
     refine iteF ?_
     refine ⟨tyL hus,by show 2≤sizeLine;decide,fun d hd=>?_⟩
     refine ⟨_,(Same.new hd _) _ _ hus,small1000 hlen,?_⟩
     refine more d hd ?_
     rw [e0]
     rfl
 · rintro σ H' ⟨y,us,pp,rfl,hus,hp⟩
   refine ⟨us,.inl (SqL.of hus),fun r H2 y2 hr2=>?_⟩
   rw [List.take_of_length_le (by rw [List.length_map];exact Nat.le_refl _)] at hp
   exact q r H2 us (y.trans y2) hr2 (hp.same y2)
theorem sc_wt:FnScope ["parting"] ["parting"] (defScope (top 15)):=⟨rfl,rfl,rfl,by decide +kernel,rfl,by decide +kernel,by decide +kernel⟩
def sp_wt:Sp:=fun vs H Q _=>∃ (p:Addr) (x:List Nat),vs=[.ref p]∧H p=some (.tup (nI x))∧Q (.int (x.sum:Int)) H
theorem sumI (x:List Nat):(x.map fun (k:Nat)=>(k:Int)).sum=(x.sum:Int):=by
 induction x with
 | nil=>rfl
 | cons a r ih=>rw [List.map_cons,List.sum_cons,List.sum_cons,ih];omega
theorem ok_wt (F:Fun K "weight" "weight" (top 15) f fd) (m_sum:mg "sum" = none)  : FnOk P w K mg base CX0 1 f fd ["parting"] sp_wt:=by
 refine F.okz sc_wt (fun vs H Q E h=>?_) (fun cdv A outer s H vs Q E hr h=>?_)
 · obtain ⟨p,x,rfl,_⟩:=h;rfl
 obtain ⟨p,x,rfl,hp,q⟩:=h
 have nd:=sc_wt.nd
 have hu:=hr.units
 refine ⟨_,(zss_one (zs_ret (zcb_sum rfl rfl m_sum (za_cons (zn 0) za_nil) rfl rfl))),?_⟩
 refine ⟨_,.inr hp,?_⟩
 rw [sumI]
 exact q
theorem sc_tu:FnScope ["parting","told","many","greatest","size"] ["parting"] (defScope (top 16)):=⟨rfl,rfl,rfl,by decide +kernel,rfl,by decide +kernel,by decide +kernel⟩
def sp_tu:Sp:=fun _ _ _ _=>False
theorem ok_tu (F:Fun K "turned" "turned" (top 16) f fd) (m_len:mg "len" = none) (m_range:mg "range" = none) (m_tuple:mg "tuple" = none):FnOk P w K mg base CX0 1 f fd ["parting"] sp_tu:=F.okz sc_tu (fun vs H Q E h=>h.elim) (fun cdv A outer s H vs Q E hr h=>h.elim)
theorem sc_na:FnScope ["parting","k"] ["parting","k"] (defScope (top 19)):=⟨rfl,rfl,rfl,by decide +kernel,rfl,by decide +kernel,by decide +kernel⟩
def sp_na:Sp:=fun vs H Q _=>∃ (p:Addr) (x:List Nat) (k:Nat),vs=[.ref p,.int k]∧H p=some (.tup (nI x))∧Fl x∧Q (.bl (x.all fun a=>decide (a≤k))) H
theorem ok_na (F:Fun K "has_none_above" "has_none_above" (top 19) f fd) (m_len:mg "len" = none)  : FnOk P w K mg base CX0 1 f fd ["parting","k"] sp_na:=by
 refine F.okz sc_na (fun vs H Q E h=>?_) (fun cdv A outer s H vs Q E hr h=>?_)
 · obtain ⟨p,x,k,rfl,_⟩:=h;rfl
 obtain ⟨p,x,k,rfl,hp,hf,q⟩:=h
 have nd:=sc_na.nd
 have hu:=hr.units
 refine ⟨_,(zss_one (zs_ret (ze_orP (ze_cmpR (op_eqD hu) (zcb_len rfl m_len (za_cons (zn 0) za_nil) rfl rfl) ze_int (nomark _)) (ze_one (ze_cmpR op_leP (ze_ix ix_P (zn 0) ze_int (fun _ _=>rfl)) (zn 1) (nomark _)))))),?_⟩
 refine ⟨_,.inr hp,?_⟩
 rw [nI_len]
 refine iteB (fun c=>?_) (fun c=>?_)
 · have c':decide (V.int (x.length:Int)=V.int 0)=true:=c
   have e:=V.int.inj (of_decide_eq_true c')
   cases x with
   | nil=>exact q
   | cons a r=>rw [List.length_cons] at e;omega
 · cases x with
   | nil=>exact absurd c (by decide)
   | cons a r=>
     refine ⟨_,.inr hp,.int (a:Int),atI_of (j:=0) rfl rfl,?_⟩
     rw [Fl.all_le rfl hf] at q
     show Q (.bl (decide ((a:Int)≤(k:Int)))) H
     rw [show decide ((a:Int)≤(k:Int))=decide (a≤k) from decide_eq_decide.mpr (by omega)]
     exact q
theorem sc_fa:FnScope ["parting","d","at"] ["parting","d"] (defScope (top 20)):=⟨rfl,rfl,rfl,by decide +kernel,rfl,by decide +kernel,by decide +kernel⟩
def sp_fa:Sp:=fun vs H Q _=>∃ (p:Addr) (x:List Nat) (d:Nat),vs=[.ref p,.int d]∧H p=some (.tup (nI x))∧x.length≤1000∧Q (.bl (vd d x)) H
theorem zb_get {d:Nat} {x:List Nat} {i a b:Nat} (ha:x[i]? = some a) (hb:x[i+1]? = some b):(zb d x)[i]? = some (decide (b+d≤a)):=by
 unfold zb
 rw [List.getElem?_zipWith,ha,List.getElem?_tail,hb]
theorem ok_fa (F:Fun K "falls_by" "falls_by" (top 20) f fd) (m_len:mg "len" = none) (m_range:mg "range" = none)  : FnOk P w K mg base CX0 1 f fd ["parting","d"] sp_fa:=by
 refine F.okz sc_fa (fun vs H Q E h=>?_) (fun cdv A outer s H vs Q E hr h=>?_)
 · obtain ⟨p,x,d,rfl,_⟩:=h;rfl
 obtain ⟨p,x,d,rfl,hp,hl,q⟩:=h
 have nd:=sc_fa.nd
 have hu:=hr.units
 refine ⟨_,(zss_cons (zs_for PassesOwn.never rfl (zi_range2 rfl m_range (za_cons ze_int (za_cons (zcb_len rfl m_len (za_cons (zn 0) za_nil) rfl rfl) za_nil))) (zg_name (i:=2) nd rfl (Or.inl rfl)) (zss_one (zs_if (zt_cmpP op_ltP (ze_op op_subP (ze_ix ix_P (zn 0) (ze_op op_subP (zn 2) ze_int) (fun _ _=>rfl)) (ze_ix ix_P (zn 0) (zn 2) (fun _ _=>rfl))) (zn 1) (nomark _)) (zss_one (zs_ret ze_bl)) zss_nil)))
  (zss_one (zs_ret ze_bl))),?_⟩
 refine ⟨_,.inr hp,?_⟩
 rw [nI_len]
 refine ⟨1,(x.length:Int),rfl,⟨by omega,by omega,by omega,by omega⟩,?_⟩
 have eN:((x.length:Int) - 1).toNat=x.length - 1:=by omega
 rw [eN]
 have zl:(zb d x).length=x.length - 1:=by unfold zb;rw [List.length_zipWith,List.length_tail];omega
 rw [vd_zb] at q
 refine for_range (fun i σ H'=>i≤x.length - 1∧H'=H∧(∀ j b,j<i→(zb d x)[j]? = some b→b=true)∧∃ x2,σ=[some (.ref p),some (.int d),x2]) ⟨Nat.zero_le _,rfl,fun j b h=>absurd h (Nat.not_lt_zero _),_,rfl⟩ ?_ ?_
 · rintro i σ H' hi ⟨_,rfl,pv,x2,rfl⟩
   have h0:i<x.length:=by omega
   have h1:i+1<x.length:=by omega
   have g0:x[i]? = some x[i]:=List.getElem?_eq_getElem h0
   have g1:x[i+1]? = some x[i+1]:=List.getElem?_eq_getElem h1
   have hz:=zb_get (d:=d) g0 g1
   generalize x[i]=a at g0 hz
   generalize x[i+1]=b at g1 hz
   refine ⟨_,.inr hp,.int (a:Int),atI_of (j:=i) (by omega) (nI_get g0),?_⟩
   refine ⟨_,.inr hp,.int (b:Int),atI_of (j:=i+1) (by omega) (nI_get g1),?_⟩
   refine iteD (fun c=>?_) (fun c=>?_)
   · have c':(a:Int) - (b:Int)<(d:Int):=c
     have e:(zb d x).all id=false:=by
      refine Bool.eq_false_iff.mpr fun g=>?_
      have:=List.all_eq_true.mp g _ (List.mem_of_getElem? hz)
      have:=of_decide_eq_true this
      omega
     rw [e] at q
     exact q
   · have c':¬ (a:Int) - (b:Int)<(d:Int):=c
     refine ⟨by omega,rfl,fun j v hj hv=>?_,_,rfl⟩
     by_cases e:j=i
     · subst e
       rw [hz] at hv
       rw [← Option.some.inj hv]
       exact decide_eq_true (by omega)
     · exact pv j v (by omega) hv
 · rintro σ H' ⟨_,rfl,pv,x2,rfl⟩
   have e:(zb d x).all id=true:=List.all_eq_true.mpr fun b hb=>by
    obtain ⟨j,hj,e⟩:=List.getElem_of_mem hb
    exact pv j b (by omega) (by rw [List.getElem?_eq_getElem hj,e])
   rw [e] at q
   exact q
theorem sc_no:FnScope ["parting","m"] ["parting","m"] (defScope (top 21)):=⟨rfl,rfl,rfl,by decide +kernel,rfl,by decide +kernel,by decide +kernel⟩
def sp_no:Sp:=fun vs H Q _=>∃ (p:Addr) (x:List Nat) (m:Nat),vs=[.ref p,.int m]∧H p=some (.tup (nI x))∧x.length≤1000∧Fl x∧∀ H',Same H H'→Q (.bl (cts m x)) H'
theorem ok_no (F:Fun K "has_none_often" "has_none_often" (top 21) f fd) (m_all:mg "all" = none) (F_sizes:FnA P w K mg base "sizes" 1 ["parting"] sp_sizes):FnOk P w K mg base CX0 2 f fd ["parting","m"] sp_no:=by
 refine F.okz sc_no (fun vs H Q E h=>?_) (fun cdv A outer s H vs Q E hr h=>?_)
 · obtain ⟨p,x,m,rfl,_⟩:=h;rfl
 obtain ⟨p,x,m,rfl,hp,hl,hf,q⟩:=h
 have nd:=sc_no.nd
 have hu:=hr.units
 refine ⟨_,(zss_one (zs_ret (zcb_all rfl rfl m_all (za_cons (ze_comp ["size","often"] [("m",1)] rfl ⟨rfl,by decide +kernel,by decide +kernel,rfl,rfl⟩ (zi_tup (ze_fn F_sizes hr (by decide) rfl (za_cons (zn 0) za_nil))) kpg_two (fun _ _ _ _=>zg_tup rfl (zgs_cons (zg_name (i:=0) (show List.Nodup (["size","often","m"]:List Str) by decide +kernel) rfl (Or.inl rfl)) (zgs_cons (zg_name (i:=1) (show List.Nodup (["size","often","m"]:List Str) by decide +kernel) rfl (Or.inl rfl)) zgs_nil))) (fun _ _ _ _=>zif_nil) (fun _ _ _ _=>(ze_cmpR op_ltP (zn 1) (zn 2) (nomark _)))) za_nil) rfl rfl))),?_⟩
 refine ⟨p,x.map fun (k:Nat)=>(k:Int),rfl,hp,by rw [List.length_map];exact hl,fun r H1 us y1 hr1 hP=>?_⟩
 have lr:=M02.runs_len' (x.map fun (k:Nat)=>(k:Int))
 rw [List.length_map] at lr
 have lu:=hP.length
 rw [← cts_runs hf] at q
 generalize M02.runs (x.map fun (k:Nat)=>(k:Int))=ps at hP lr lu q
 refine ⟨r,rfl,⟨_,SqT.of hr1⟩,cmp_tup (xs:=us) (fun i ys H'=>H'=H1∧i≤ps.length∧ys=((ps.take i).map fun p=>decide (p.2<(m:Int))).map V.bl) ⟨rfl,Nat.zero_le _,rfl⟩ ?_ ?_ ?_⟩
 · rintro i ys H' _ ⟨rfl,_⟩
   exact SqT.of hr1
 · rintro i v ys H' hv ⟨rfl,hi,rfl⟩
   obtain ⟨z,hz,d,rfl,hd⟩:=hP.get hv
   have hi':=(List.getElem?_eq_some_iff.mp hz).1
   refine ⟨by rw [List.length_map,List.length_map,List.length_take];exact small1000 (by omega),?_⟩
   refine ⟨d,_,rfl,SqT.of hd,rfl,_,_,rfl,_,_,rfl,rfl,?_⟩
   refine ⟨rfl,hi',?_⟩
   rw [take_more _ hz,List.map_append]
   rfl
 · rintro ys H' ⟨rfl,hi,rfl⟩ D hD
   refine ⟨_,SqL.of upd_same,?_⟩
   rw [lu,List.take_of_length_le (Nat.le_refl _),List.all_map]
   exact q _ (y1.trans (Same.new hD _))
theorem sc_lo:FnScope ["parting","m","rests"] ["parting","m","rests"] (defScope (top 22)):=⟨rfl,rfl,rfl,by decide +kernel,rfl,by decide +kernel,by decide +kernel⟩
def sp_lo:Sp:=fun vs H Q _=>∃ (p d:Addr) (x:List Nat) (m:Nat) (rs:List Int),vs=[.ref p,.int m,.ref d]∧H p=some (.tup (nI x))∧x.length≤1000∧0<m∧H d=some (.tup (rs.map V.int))∧∀ H',Same H H'→Q (.bl (x.all fun a=>decide ((a:Int) % (m:Int)∈rs))) H'
theorem ok_lo (F:Fun K "leaves_only" "leaves_only" (top 22) f fd) (m_all:mg "all" = none)  : FnOk P w K mg base CX0 1 f fd ["parting","m","rests"] sp_lo:=by
 refine F.okz sc_lo (fun vs H Q E h=>?_) (fun cdv A outer s H vs Q E hr h=>?_)
 · obtain ⟨p,d,x,m,rs,rfl,_⟩:=h;rfl
 obtain ⟨p,d,x,m,rs,rfl,hp,hl,hm,hd,q⟩:=h
 have nd:=sc_lo.nd
 have hu:=hr.units
 refine ⟨_,(zss_one (zs_ret (zcb_all rfl rfl m_all (za_cons (ze_comp ["part"] [("m",1),("rests",2)] rfl ⟨rfl,by decide +kernel,by decide +kernel,rfl,rfl⟩ (zi_tup (zn 0)) kpg_name (fun _ _ _ _=>zg_name (i:=0) (show List.Nodup (["part","m","rests"]:List Str) by decide +kernel) rfl (Or.inl rfl)) (fun _ _ _ _=>zif_nil) (fun _ _ _ _=>(ze_cmpR (op_in_seq' rfl) (ze_op op_modP (zn 0) (zn 1)) (zn 2) (by with_unfolding_all rfl)))) za_nil) rfl rfl))),?_⟩
 refine ⟨p,rfl,⟨_,SqT.of hp⟩,cmp_tup (xs:=nI x) (fun i ys H'=>H'=H∧i≤x.length∧ys=((x.take i).map fun a:Nat=>decide ((a:Int) % (m:Int)∈rs)).map V.bl) ⟨rfl,Nat.zero_le _,rfl⟩ ?_ ?_ ?_⟩
 · rintro i ys H' _ ⟨rfl,_⟩
   exact SqT.of hp
 · rintro i v ys H' hv ⟨rfl,hi,rfl⟩
   obtain ⟨a,ha,rfl⟩:=nI_at hv
   have hi':=(List.getElem?_eq_some_iff.mp ha).1
   refine ⟨by rw [List.length_map,List.length_map,List.length_take];exact small1000 (by omega),?_⟩
   refine ⟨(show (0:Int)<(m:Int) by omega),?_⟩
   refine ⟨d,_,rfl,.inr (SqT.of hd),rfl,flat_ints rs,?_⟩
   rw [in_ints]
   refine ⟨rfl,hi',?_⟩
   rw [take_more _ ha,List.map_append]
   rfl
 · rintro ys H' ⟨rfl,hi,rfl⟩ D hD
   refine ⟨_,SqL.of upd_same,?_⟩
   rw [nI_len,List.take_of_length_le (Nat.le_refl _),List.all_map]
   exact q _ (Same.new hD _)
theorem sc_pi:FnScope ["kind","parting","word"] ["kind","parting"] (defScope (top 23)):=⟨rfl,rfl,rfl,by decide +kernel,rfl,by decide +kernel,by decide +kernel⟩
def sp_pi:Sp:=fun vs H Q _=>∃ (c p:Addr) (k:Kn) (x:List Nat),vs=[.ref c,.ref p]∧KnAt H c k∧k.Ok∧noown k∧H p=some (.tup (nI x))∧x.length≤1000∧Fl x∧∀ H',Same H H'→Q (.bl (isf k x)) H'
theorem ok_pi (F:Fun K "is_of" "is_of" (top 23) f fd) (m_len:mg "len" = none) (F_falls_by:FnA P w K mg base "falls_by" 1 ["parting","d"] sp_fa) (F_has_none_above:FnA P w K mg base "has_none_above" 1 ["parting","k"] sp_na) (F_has_none_often:FnA P w K mg base "has_none_often" 2 ["parting","m"] sp_no) (F_leaves_only:FnA P w K mg base "leaves_only" 1 ["parting","m","rests"] sp_lo) (F_turned:FnA P w K mg base "turned" 1 ["parting"] sp_tu):FnOk P w K mg base CX0 3 f fd ["kind","parting"] sp_pi:=by
 refine F.okz sc_pi (fun vs H Q E h=>?_) (fun cdv A outer s H vs Q E hr h=>?_)
 · obtain ⟨c,p,k,x,rfl,_⟩:=h;rfl
 obtain ⟨c,p,k,x,rfl,hk,hok,hno,hp,hl,hf,q⟩:=h
 have nd:=sc_pi.nd
 have hu:=hr.units
 refine ⟨_,(zss_cons (zs_set (i:=2) nd rfl (Or.inl rfl) (ze_ix ix_P (zn 0) ze_int (fun _ _=>rfl)))
  (zss_cons (zs_if (zt_cmpP (op_eqD hu) (zn 2) ze_str (nomark _)) (zss_one (zs_ret (ze_fn F_has_none_above hr (by decide) rfl (za_cons (zn 1) (za_cons (ze_ix ix_P (zn 0) ze_int (fun _ _=>rfl)) za_nil))))) zss_nil)
  (zss_cons (zs_if (zt_cmpP (op_eqD hu) (zn 2) ze_str (nomark _)) (zss_one (zs_ret (ze_cmpR op_leP (zcb_len rfl m_len (za_cons (zn 1) za_nil) rfl rfl) (ze_ix ix_P (zn 0) ze_int (fun _ _=>rfl)) (nomark _)))) zss_nil)
  (zss_cons (zs_if (zt_cmpP (op_eqD hu) (zn 2) ze_str (nomark _)) (zss_one (zs_ret (ze_andP (ze_fn F_has_none_above hr (by decide) rfl (za_cons (zn 1) (za_cons (ze_ix ix_P (zn 0) ze_int (fun _ _=>rfl)) za_nil))) (ze_one (ze_cmpR op_leP (zcb_len rfl m_len (za_cons (zn 1) za_nil) rfl rfl) (ze_ix ix_P (zn 0) ze_int (fun _ _=>rfl)) (nomark _)))))) zss_nil)
  (zss_cons (zs_if (zt_cmpP (op_eqD hu) (zn 2) ze_str (nomark _)) (zss_one (zs_ret (ze_fn F_falls_by hr (by decide) rfl (za_cons (zn 1) (za_cons (ze_ix ix_P (zn 0) ze_int (fun _ _=>rfl)) za_nil))))) zss_nil)
  (zss_cons (zs_if (zt_cmpP (op_eqD hu) (zn 2) ze_str (nomark _)) (zss_one (zs_ret (ze_fn F_has_none_often hr (by decide) rfl (za_cons (zn 1) (za_cons (ze_ix ix_P (zn 0) ze_int (fun _ _=>rfl)) za_nil))))) zss_nil)
  (zss_cons (zs_if (zt_cmpP (op_eqD hu) (zn 2) ze_str (nomark _)) (zss_one (zs_ret (ze_fn F_leaves_only hr (by decide) rfl (za_cons (zn 1) (za_cons (ze_ix ix_P (zn 0) ze_int (fun _ _=>rfl)) (za_cons (ze_ix ix_P (zn 0) ze_int (fun _ _=>rfl)) za_nil)))))) zss_nil)
  (zss_cons (zs_if (zt_cmpP (op_eqD hu) (zn 2) ze_str (nomark _)) (zss_one (zs_ret (ze_cmpR (op_eqD hu) (ze_fn F_turned hr (by decide) rfl (za_cons (zn 1) za_nil)) (zn 1) (nomark _)))) zss_nil)
  (zss_one (zs_ret ze_bl)))))))))),?_⟩
 cases k with
 | all=>exact ⟨_,.inr hk,.str "all",rfl,q _ (Same.refl _)⟩
 | most k=>
   refine ⟨_,.inr hk,.str "most",rfl,?_⟩
   refine ⟨_,.inr hk,.int k,rfl,?_⟩
   exact ⟨p,x,k,rfl,hp,hf,q _ (Same.refl _)⟩
 | few k=>
   refine ⟨_,.inr hk,.str "few",rfl,?_⟩
   refine ⟨_,.inr hp,?_⟩
   refine ⟨_,.inr hk,.int k,rfl,?_⟩
   rw [nI_len]
   show Q (.bl (decide ((x.length:Int)≤(k:Int)))) H
   rw [show decide ((x.length:Int)≤(k:Int))=decide (x.length≤k) from decide_eq_decide.mpr (by omega)]
   exact q _ (Same.refl _)
 | box k l=>
   refine ⟨_,.inr hk,.str "box",rfl,?_⟩
   refine ⟨_,.inr hk,.int k,rfl,?_⟩
   refine ⟨p,x,k,rfl,hp,hf,?_⟩
   cases h:x.all fun a=>decide (a≤k) with
   | false=>
     have e:isf (.box k l) x=false:=by show (decide (x.length≤l)&&x.all fun a=>decide (a≤k))=_;rw [h,Bool.and_false]
     rw [e] at q
     exact q _ (Same.refl _)
   | true=>
     have e:isf (.box k l) x=decide (x.length≤l):=by show (decide (x.length≤l)&&x.all fun a=>decide (a≤k))=_;rw [h,Bool.and_true]
     rw [e] at q
     refine ⟨_,.inr hp,?_⟩
     refine ⟨_,.inr hk,.int l,rfl,?_⟩
     rw [nI_len]
     show Q (.bl (decide ((x.length:Int)≤(l:Int)))) H
     rw [show decide ((x.length:Int)≤(l:Int))=decide (x.length≤l) from decide_eq_decide.mpr (by omega)]
     exact q _ (Same.refl _)
 | off d=>
   refine ⟨_,.inr hk,.str "off",rfl,?_⟩
   refine ⟨_,.inr hk,.int d,rfl,?_⟩
   exact ⟨p,x,d,rfl,hp,hl,q _ (Same.refl _)⟩
 | times m=>
   refine ⟨_,.inr hk,.str "times",rfl,?_⟩
   refine ⟨_,.inr hk,.int m,rfl,?_⟩
   exact ⟨p,x,m,rfl,hp,hl,hf,q⟩
 | rests m rs=>
   obtain ⟨d,hk,hd⟩:=hk
   refine ⟨_,.inr hk,.str "rests",rfl,?_⟩
   refine ⟨_,.inr hk,.int m,rfl,?_⟩
   refine ⟨_,.inr hk,.ref d,rfl,?_⟩
   exact ⟨p,d,x,m,rs,rfl,hp,hl,hok.1,hd,q⟩
 | own=>exact hno.elim
end
def q0:Kn→List Nat→Bool
 | .few l=>fun x=>decide (x.length≤l)
 | .box _ l=>fun x=>decide (x.length≤l)
 | .times t=>cts t
 | .rests q rs=>fun x=>x.all fun a=>decide ((a:Int) % (q:Int)∈rs)
 | .off d=>vd d
 | _=>fun x=>x.all fun _=>true
def gk:Kn→Nat→Nat→Int
 | .few l,m=>bx l m
 | .box _ l,m=>bx l m
 | .times t,m=>below t (ups m) dl
 | .rests q rs,m=>PL dl (rsz q rs m)
 | .off d,m=>fun n=>cn m n (vd d)
 | _,m=>PL dl (ups m)
theorem gk_cn {k:Kn} (hok:k.Ok) (m n:Nat):gk k m n=cn m n (q0 k):=by
 have all:PL dl (ups m) n=cn m n (fun x=>x.all fun _=>true):=by rw [cn_all,fl_all]
 cases k with
 | all=>exact all
 | most k=>exact all
 | own=>exact all
 | few l=>exact (cn_len l m n).symm
 | box k l=>exact (cn_len l m n).symm
 | times t=>exact (cn_times hok.1 m n).symm
 | rests q rs=>exact (cn_all (fun a=>decide ((a:Int) % (q:Int)∈rs)) m n).symm
 | off d=>rfl
theorem gk_zero (k:Kn) (hok:k.Ok):gk k 0=dl:=by
 funext n
 rw [gk_cn hok,cn_zero,if_pos]
 cases k <;> first | rfl | (show decide _=true;exact decide_eq_true (Nat.zero_le _))
def Rws (H:Hp) (rs:List Addr) (n:Nat) (g:Nat→Nat→Int):Prop:=∀ m r,rs[m]? = some r→H r=some (.lst ((tb (g m) (n+1)).map V.int))
theorem refs_get {rs:List Addr} {m:Nat} (h:m<rs.length):(rs.map V.ref)[m]? = some (.ref rs[m]):=by rw [List.getElem?_map,List.getElem?_eq_getElem h];rfl
theorem tbI_len (f:Nat→Int) (L:Nat):((tb f L).map V.int).length=L:=by rw [List.length_map,tb_len]
theorem tbI_get {f:Nat→Int} {L j:Nat} (h:j<L):((tb f L).map V.int)[j]? = some (.int (f j)):=by rw [List.getElem?_map,tb_get h];rfl
theorem atI_neg {xs:List V} {i:Int} {j:Nat} {v:V} (h1:i<0) (h2:i+(xs.length:Int)=(j:Int)) (h:xs[j]? = some v):atI xs i=some v:=by
 unfold atI ixN
 rw [if_neg (by omega),if_pos (by omega)]
 show xs[(i+(xs.length:Int)).toNat]? = some v
 rw [h2,Int.toNat_natCast]
 exact h
theorem refs_neg {rs:List Addr} {m e:Nat} (he:1≤e) (h:rs.length=m+e):∃ r,rs[m]? = some r∧∀ i:Int,i=-(e:Int)→atI (rs.map V.ref) i=some (.ref r):=by
 have hm:m<rs.length:=by omega
 refine ⟨rs[m],List.getElem?_eq_getElem hm,fun i hi=>atI_neg (j:=m) (by omega) (by rw [List.length_map];omega) (refs_get hm)⟩
def b1:Kn→Kn
 | .few l=>.few (l - 1)
 | .box a l=>.box a (l - 1)
 | k=>k
def more1:Kn→Prop
 | .few l=>1≤l
 | .box _ l=>1≤l
 | _=>True
section
variable {P:Program} {w:World} {K:PySem.W.Frag} {mg:Str→Option Value} {base:Heap} {f:Addr} {fd:FuncData}
theorem sc_ro:FnScope ["rows","d","size","told","behind","n"] ["rows","d"] (defScope (top 25)):=⟨rfl,rfl,rfl,by decide +kernel,rfl,by decide +kernel,by decide +kernel⟩
def sp_ro:Sp:=fun vs H Q _=>∃ (R:Addr) (rs:List Addr) (d n m:Nat),vs=[.ref R,.int d]∧H R=some (.lst (rs.map V.ref))∧rs.length=m+1∧m≤300∧n≤600∧1≤d∧d≤600∧Rws H rs n (fun m n=>cn m n (vd d))∧∀ p H',Same H H'→H' p=some (.lst ((tb (fun n=>cn (m+1) n (vd d)) (n+1)).map V.int))→Q (.ref p) H'
theorem ok_ro (F:Fun K "row_with_next_off" "row_with_next_off" (top 25) f fd) (m_len:mg "len" = none) (m_list:mg "list" = none) (m_max:mg "max" = none) (m_range:mg "range" = none)  : FnOk P w K mg base CX0 1 f fd ["rows","d"] sp_ro:=by
 refine F.okz sc_ro (fun vs H Q E h=>?_) (fun cdv A outer s H vs Q E hr h=>?_)
 · obtain ⟨R,rs,d,n,m,rfl,_⟩:=h;rfl
 obtain ⟨R,rs,d,n,m,rfl,hR,lr,hm,hn,hd0,hd1,hW,q⟩:=h
 have nd:=sc_ro.nd
 have hu:=hr.units
 refine ⟨_,(zss_cons (zs_set (i:=2) nd rfl (Or.inl rfl) (zcb_len rfl m_len (za_cons (zn 0) za_nil) rfl rfl))
  (zss_cons (zs_set (i:=3) nd rfl (Or.inl rfl) (zcb_list rfl m_list (za_cons (ze_ix ix_P (zn 0) (ze_un un_neg ze_int) (fun _ _=>rfl)) za_nil) rfl rfl))
  (zss_cons (zs_set (i:=4) nd rfl (Or.inl rfl) (ze_ix ix_P (zn 0) (zcb_max rfl rfl m_max (za_cons (ze_op op_subP (zn 2) (zn 1)) (za_cons ze_int za_nil)) rfl rfl) (fun _ _=>rfl)))
  (zss_cons (zs_for PassesOwn.never rfl (zi_range2 rfl m_range (za_cons (zn 2) (za_cons (zcb_len rfl m_len (za_cons (zn 3) za_nil) rfl rfl) za_nil))) (zg_name (i:=5) nd rfl (Or.inl rfl)) (zss_one (zs_augS (zn 3) (zn 5) get_list (ze_ix ix_P (zn 4) (ze_op op_subP (zn 5) (zn 2)) (fun _ _=>rfl)) ip_addP set_listP)))
  (zss_one (zs_ret (zn 3))))))),?_⟩
 refine ⟨_,.inl (SqL.of hR),?_⟩
 rw [List.length_map,lr]
 obtain ⟨r,hr0,at1⟩:=refs_neg (e:=1) (by decide) (show rs.length=m+1 from lr)
 refine ⟨1,rfl,_,.inl (SqL.of hR),.ref r,at1 _ rfl,?_⟩
 have g1:=hW m r hr0
 refine ⟨_,.inl (SqL.of g1),fun T hT=>?_⟩
 have yT:=Same.new hT (.lst ((tb (fun n=>cn m n (vd d)) (n+1)).map V.int))
 have rT:upd H T (.lst ((tb (fun n=>cn m n (vd d)) (n+1)).map V.int)) T=some (.lst ((tb (fun n=>cn m n (vd d)) (n+1)).map V.int)):=upd_same
 generalize upd H T (.lst ((tb (fun n=>cn m n (vd d)) (n+1)).map V.int))=H1 at yT rT
 have hb:m+1 - d<rs.length:=by omega
 have gb:rs[m+1 - d]? = some rs[m+1 - d]:=List.getElem?_eq_getElem hb
 have ex:(if ((m+1:Nat):Int) - (d:Int)<0 then 0 else ((m+1:Nat):Int) - (d:Int))=((m+1 - d:Nat):Int):=by split <;> omega
 refine ⟨_,.inl (SqL.of (yT _ _ hR)),.ref rs[m+1 - d],atI_of (j:=m+1 - d) (by first | exact ex | (split <;> omega)) (refs_get hb),?_⟩
 have hB:=yT _ _ (hW _ _ gb)
 have Bne:rs[m+1 - d]≠T:=fun e=>by have:=hW _ _ gb;rw [e,hT] at this;cases this
 generalize rs[m+1 - d]=B at hB Bne
 refine ⟨_,.inl (SqL.of rT),?_⟩
 rw [tbI_len]
 refine ⟨((m+1:Nat):Int),((n+1:Nat):Int),rfl,⟨by omega,by omega,by omega,by omega⟩,?_⟩
 have eN:(((n+1:Nat):Int) - ((m+1:Nat):Int)).toNat=n+1 - (m+1):=by omega
 rw [eN]
 have nx:=cn_vd hd0 m
 generalize eF2:(fun n=>cn (m+1) n (vd d))=F2 at q
 have nx:∀ j,F2 j=cn m j (vd d)+if m+1≤j then cn (m+1 - d) (j - (m+1)) (vd d) else 0:=fun j=>by rw [← eF2];exact nx j
 generalize eF1:(fun n=>cn m n (vd d))=F1 at rT
 have nx:∀ j,F2 j=F1 j+if m+1≤j then cn (m+1 - d) (j - (m+1)) (vd d) else 0:=fun j=>by rw [← eF1];exact nx j
 refine for_range (fun i σ H'=>i≤n+1 - (m+1)∧Same H H'∧H' B=some (.lst ((tb (fun n=>cn (m+1 - d) n (vd d)) (n+1)).map V.int))∧H' T=some (.lst ((tb (up F1 F2 (m+1+i)) (n+1)).map V.int))∧∃ x5,σ=[some (.ref R),some (.int d),some (.int ((m+1:Nat):Int)),some (.ref T),some (.ref B),x5]) ⟨Nat.zero_le _,yT,hB,?_,_,rfl⟩ ?_ ?_
 · rw [rT]
   congr 3
   refine tb_ext fun j _=>?_
   unfold up
   rw [Nat.add_zero]
   split
   · rw [nx,if_neg (by omega),Int.add_zero]
   · rfl
 · rintro i σ H2 hi ⟨_,y2,hB2,hT2,x5,rfl⟩
   have hp:m+1+i<n+1:=by omega
   have e2:(((m+1:Nat):Int)+(i:Int)).toNat=m+1+i:=by omega
   refine ⟨_,.int (up F1 F2 (m+1+i) (m+1+i)),SqL.of hT2,by omega,by rw [e2];exact tbI_get hp,?_⟩
   refine ⟨_,.inl (SqL.of hB2),.int (cn (m+1 - d) i (vd d)),atI_of (j:=i) (by omega) (tbI_get (f:=fun n=>cn (m+1 - d) n (vd d)) (by omega)),?_⟩
   refine ⟨_,hT2,by omega,by rw [e2,tbI_len];exact hp,by omega,Same.updN y2 hT,by rw [upd_ne Bne];exact hB2,?_,_,rfl⟩
   rw [upd_same,e2]
   have e3:up F1 F2 (m+1+i) (m+1+i)+cn (m+1 - d) i (vd d)=F2 (m+1+i):=by
    unfold up
    rw [if_neg (Nat.lt_irrefl _),nx,if_pos (by omega),Nat.add_sub_cancel_left]
   dsimp only
   rw [e3,← List.map_set,tb_set hp]
   rfl
 · rintro σ H2 ⟨_,y2,hB2,hT2,x5,rfl⟩
   rw [up_all _ _ (by omega)] at hT2
   exact q T H2 y2 hT2
theorem sc_rn:FnScope ["kind","rows","size","word","row"] ["kind","rows"] (defScope (top 26)):=⟨rfl,rfl,rfl,by decide +kernel,rfl,by decide +kernel,by decide +kernel⟩
def sp_rn:Sp:=fun vs H Q _=>∃ (c R:Addr) (rs:List Addr) (k:Kn) (n m:Nat),vs=[.ref c,.ref R]∧KnAt H c k∧k.Ok∧noown k∧H R=some (.lst (rs.map V.ref))∧rs.length=m+1∧m≤300∧n≤600∧Rws H rs n (gk k)∧∀ p H',Same H H'→H' p=some (.lst ((tb (gk k (m+1)) (n+1)).map V.int))→Q (.ref p) H'
theorem ok_rn (F:Fun K "row_with_next" "row_with_next" (top 26) f fd) (m_len:mg "len" = none) (F_put_on:FnA P w K mg base "put_on" 1 ["row","size"] sp_put_on) (F_row_with_next_off:FnA P w K mg base "row_with_next_off" 1 ["rows","d"] sp_ro) (F_taken_off:FnA P w K mg base "taken_off" 1 ["row","size"] sp_to):FnOk P w K mg base CX0 2 f fd ["kind","rows"] sp_rn:=by
 refine F.okz sc_rn (fun vs H Q E h=>?_) (fun cdv A outer s H vs Q E hr h=>?_)
 · obtain ⟨c,R,rs,k,n,m,rfl,_⟩:=h;rfl
 obtain ⟨c,R,rs,k,n,m,rfl,hk,hok,hno,hR,lr,hm,hn,hW,q⟩:=h
 have nd:=sc_rn.nd
 have hu:=hr.units
 obtain ⟨r,hr0,at1⟩:=refs_neg (e:=1) (by decide) (show rs.length=m+1 from lr)
 have g1:=hW m r hr0
 refine ⟨_,(zss_cons (zs_set (i:=2) nd rfl (Or.inl rfl) (zcb_len rfl m_len (za_cons (zn 1) za_nil) rfl rfl))
  (zss_cons (zs_set (i:=3) nd rfl (Or.inl rfl) (ze_ix ix_P (zn 0) ze_int (fun _ _=>rfl)))
  (zss_cons (zs_if (ZW.zt (zw_and (zt_cmpP (op_eqD hu) (zn 3) ze_str (nomark _)) (zw_and1 (zt_cmpP op_notIn_seq (ze_op op_modP (zn 2) (ze_ix ix_P (zn 0) ze_int (fun _ _=>rfl))) (ze_ix ix_P (zn 0) ze_int (fun _ _=>rfl)) (by with_unfolding_all rfl))))) (zss_one (zs_ret (ze_ix ix_P (zn 1) (ze_un un_neg ze_int) (fun _ _=>rfl)))) zss_nil)
  (zss_cons (zs_if (zt_cmpP (op_eqD hu) (zn 3) ze_str (nomark _)) (zss_one (zs_ret (ze_fn F_row_with_next_off hr (by decide) rfl (za_cons (zn 1) (za_cons (ze_ix ix_P (zn 0) ze_int (fun _ _=>rfl)) za_nil))))) zss_nil)
  (zss_cons (zs_set (i:=4) nd rfl (Or.inl rfl) (ze_fn F_put_on hr (by decide) rfl (za_cons (ze_ix ix_P (zn 1) (ze_un un_neg ze_int) (fun _ _=>rfl)) (za_cons (zn 2) za_nil))))
  (zss_cons (zs_if (zt_cmpP (op_eqD hu) (zn 3) ze_str (nomark _)) (zss_one (zs_ret (ze_fn F_taken_off hr (by decide) rfl (za_cons (zn 4) (za_cons (ze_op op_mulQ (ze_ix ix_P (zn 0) ze_int (fun _ _=>rfl)) (zn 2)) za_nil))))) zss_nil)
  (zss_cons (zs_if (zt_cmpP op_in_seq (zn 3) (ze_tup (za_cons ze_str (za_cons ze_str za_nil))) (by with_unfolding_all rfl)) (zss_one (zs_ret (ze_fn F_taken_off hr (by decide) rfl (za_cons (zn 4) (za_cons (ze_op op_addP (ze_ix ix_P (zn 0) (ze_un un_neg ze_int) (fun _ _=>rfl)) (zn 2)) za_nil))))) zss_nil)
  (zss_one (zs_ret (zn 4)))))))))),?_⟩
 refine ⟨_,.inl (SqL.of hR),?_⟩
 rw [List.length_map,lr]
 cases k with
 | all=>
   refine ⟨_,.inr hk,.str "all",rfl,?_⟩
   refine ⟨1,rfl,_,.inl (SqL.of hR),.ref r,at1 _ rfl,?_⟩
   refine ⟨r,m+1,n+1,gk .all m,rfl,by omega,by omega,by omega,g1,fun p2 H2 _ y2 hp2=>?_⟩
   have hp2:H2 p2=some (.lst ((tb (gk .all (m+1)) (n+1)).map V.int)):=by show _=some (HO.lst ((tb (PL dl (ups (m+1))) (n+1)).map V.int));rw [R_succ];exact hp2
   refine ⟨by show 2≤sizeLine;decide,fun w hw=>?_⟩
   have yw:=Same.new hw (.tup [V.str "few",.str "box"])
   refine ⟨w,_,rfl,.inr (SqT.of upd_same),rfl,rfl,?_⟩
   exact q p2 _ (y2.trans yw) (yw _ _ hp2)
 | most b=>
   refine ⟨_,.inr hk,.str "most",rfl,?_⟩
   refine ⟨1,rfl,_,.inl (SqL.of hR),.ref r,at1 _ rfl,?_⟩
   refine ⟨r,m+1,n+1,gk (.most b) m,rfl,by omega,by omega,by omega,g1,fun p2 H2 _ y2 hp2=>?_⟩
   have hp2:H2 p2=some (.lst ((tb (gk (.most b) (m+1)) (n+1)).map V.int)):=by show _=some (HO.lst ((tb (PL dl (ups (m+1))) (n+1)).map V.int));rw [R_succ];exact hp2
   refine ⟨by show 2≤sizeLine;decide,fun w hw=>?_⟩
   have yw:=Same.new hw (.tup [V.str "few",.str "box"])
   refine ⟨w,_,rfl,.inr (SqT.of upd_same),rfl,rfl,?_⟩
   exact q p2 _ (y2.trans yw) (yw _ _ hp2)
 | times t=>
   refine ⟨_,.inr hk,.str "times",rfl,?_⟩
   refine ⟨1,rfl,_,.inl (SqL.of hR),.ref r,at1 _ rfl,?_⟩
   refine ⟨r,m+1,n+1,gk (.times t) m,rfl,by omega,by omega,by omega,g1,fun p2 H2 _ y2 hp2=>?_⟩
   have ht:=hok.1
   have ht2:=hok.2
   refine ⟨_,.inr (y2 _ _ hk),.int t,rfl,mulL (by omega) (by omega),?_⟩
   refine ⟨p2,t*(m+1),n+1,_,congrArg (fun z=>[V.ref p2,V.int z]) (Int.natCast_mul t (m+1)).symm,Nat.mul_pos ht (by omega),?_,by omega,.inl hp2,fun p3 H3 _ y3 hp3=>?_⟩
   · have:t*(m+1)≤1000*301:=Nat.mul_le_mul ht2 (by omega)
     omega
   · refine q p3 H3 (y2.trans y3) ?_
     rw [hp3]
     show some (HO.lst ((tb (off (put (below t (ups m) dl) (m+1)) (t*(m+1))) (n+1)).map V.int))=some (HO.lst ((tb (below t (ups (m+1)) dl) (n+1)).map V.int))
     rw [ups_succ,below_app]
     rfl
 | rests e rs'=>
   obtain ⟨d,hk,hd⟩:=hk
   have he:=hok.1
   refine ⟨_,.inr hk,.str "rests",rfl,?_⟩
   refine ⟨_,.inr hk,.int e,rfl,(show (0:Int)<(e:Int) by omega),?_⟩
   refine ⟨_,.inr hk,.ref d,rfl,?_⟩
   refine ⟨d,_,rfl,.inr (SqT.of hd),rfl,flat_ints rs',?_⟩
   rw [in_ints]
   have sc:=rsz_succ e rs' m
   by_cases c:((m+1:Nat):Int) % (e:Int)∈rs'
   · rw [decide_eq_true c]
     rw [if_pos c] at sc
     refine ⟨1,rfl,_,.inl (SqL.of hR),.ref r,at1 _ rfl,?_⟩
     refine ⟨r,m+1,n+1,gk (.rests e rs') m,rfl,by omega,by omega,by omega,g1,fun p2 H2 _ y2 hp2=>?_⟩
     have hp2:H2 p2=some (.lst ((tb (gk (.rests e rs') (m+1)) (n+1)).map V.int)):=by show _=some (HO.lst ((tb (PL dl (rsz e rs' (m+1))) (n+1)).map V.int));rw [sc,PL_app];exact hp2
     refine ⟨by show 2≤sizeLine;decide,fun w hw=>?_⟩
     have yw:=Same.new hw (.tup [V.str "few",.str "box"])
     refine ⟨w,_,rfl,.inr (SqT.of upd_same),rfl,rfl,?_⟩
     exact q p2 _ (y2.trans yw) (yw _ _ hp2)
   · rw [decide_eq_false c]
     rw [if_neg c,List.append_nil] at sc
     refine ⟨1,rfl,_,.inl (SqL.of hR),.ref r,at1 _ rfl,?_⟩
     refine q r H (Same.refl _) ?_
     rw [g1]
     show some (HO.lst ((tb (PL dl (rsz e rs' m)) (n+1)).map V.int))=some (HO.lst ((tb (PL dl (rsz e rs' (m+1))) (n+1)).map V.int))
     rw [sc]
 | off d=>
   refine ⟨_,.inr hk,.str "off",rfl,?_⟩
   refine ⟨_,.inr hk,.int d,rfl,?_⟩
   exact ⟨R,rs,d,n,m,rfl,hR,lr,hm,hn,hok.1,hok.2,hW,q⟩
 | few l=>
   refine ⟨_,.inr hk,.str "few",rfl,?_⟩
   refine ⟨1,rfl,_,.inl (SqL.of hR),.ref r,at1 _ rfl,?_⟩
   refine ⟨r,m+1,n+1,gk (.few l) m,rfl,by omega,by omega,by omega,g1,fun p2 H2 _ y2 hp2=>?_⟩
   refine ⟨by show 2≤sizeLine;decide,fun w hw=>?_⟩
   have yw:=Same.new hw (.tup [V.str "few",.str "box"])
   refine ⟨w,_,rfl,.inr (SqT.of upd_same),rfl,rfl,?_⟩
   generalize upd H2 w (.tup [V.str "few",.str "box"])=H3 at yw
   have hk3:=yw _ _ (y2 _ _ hk)
   have hl600:l≤600:=hok
   refine ⟨1,rfl,_,.inr hk3,.int l,rfl,?_⟩
   refine ⟨p2,l+(m+1),n+1,_,congrArg (fun z=>[V.ref p2,V.int z]) (Int.natCast_add l (m+1)).symm,by omega,by omega,by omega,.inl (yw _ _ hp2),fun p4 H4 _ y4 hp4=>?_⟩
   refine q p4 H4 ((y2.trans yw).trans y4) ?_
   rw [hp4]
   show some (HO.lst ((tb (off (put (bx l m) (m+1)) (l+(m+1))) (n+1)).map V.int))=some (HO.lst ((tb (bx l (m+1)) (n+1)).map V.int))
   rw [bx_succ]
 | box b l=>
   refine ⟨_,.inr hk,.str "box",rfl,?_⟩
   refine ⟨1,rfl,_,.inl (SqL.of hR),.ref r,at1 _ rfl,?_⟩
   refine ⟨r,m+1,n+1,gk (.box b l) m,rfl,by omega,by omega,by omega,g1,fun p2 H2 _ y2 hp2=>?_⟩
   refine ⟨by show 2≤sizeLine;decide,fun w hw=>?_⟩
   have yw:=Same.new hw (.tup [V.str "few",.str "box"])
   refine ⟨w,_,rfl,.inr (SqT.of upd_same),rfl,rfl,?_⟩
   generalize upd H2 w (.tup [V.str "few",.str "box"])=H3 at yw
   have hk3:=yw _ _ (y2 _ _ hk)
   have hl600:l≤600:=hok.2
   refine ⟨1,rfl,_,.inr hk3,.int l,rfl,?_⟩
   refine ⟨p2,l+(m+1),n+1,_,congrArg (fun z=>[V.ref p2,V.int z]) (Int.natCast_add l (m+1)).symm,by omega,by omega,by omega,.inl (yw _ _ hp2),fun p4 H4 _ y4 hp4=>?_⟩
   refine q p4 H4 ((y2.trans yw).trans y4) ?_
   rw [hp4]
   show some (HO.lst ((tb (off (put (bx l m) (m+1)) (l+(m+1))) (n+1)).map V.int))=some (HO.lst ((tb (bx l (m+1)) (n+1)).map V.int))
   rw [bx_succ]
 | own=>exact hno.elim
theorem sc_kb:FnScope ["kind"] ["kind"] (defScope (top 27)):=⟨rfl,rfl,rfl,by decide +kernel,rfl,by decide +kernel,by decide +kernel⟩
def sp_kb:Sp:=fun vs H Q _=>∃ (c:Addr) (k:Kn),vs=[.ref c]∧KnAt H c k∧more1 k∧∀ c' H',Same H H'→KnAt H' c' (b1 k)→Q (.ref c') H'
theorem ok_kb (F:Fun K "kind_behind" "kind_behind" (top 27) f fd)   : FnOk P w K mg base CX0 1 f fd ["kind"] sp_kb:=by
 refine F.okz sc_kb (fun vs H Q E h=>?_) (fun cdv A outer s H vs Q E hr h=>?_)
 · obtain ⟨c,k,rfl,_⟩:=h;rfl
 obtain ⟨c,k,rfl,hk,hm,q⟩:=h
 have nd:=sc_kb.nd
 have hu:=hr.units
 refine ⟨_,(zss_cons (zs_if (zt_cmpP op_in_seq (ze_ix ix_P (zn 0) ze_int (fun _ _=>rfl)) (ze_tup (za_cons ze_str (za_cons ze_str za_nil))) (by with_unfolding_all rfl)) (zss_one (zs_ret (ze_op op_addP (ze_slice sl_P (zn 0) zo_none (zo_some (ze_un un_neg ze_int))) (ze_tup (za_cons (ze_op op_subP (ze_ix ix_P (zn 0) (ze_un un_neg ze_int) (fun _ _=>rfl)) ze_int) za_nil))))) zss_nil)
  (zss_one (zs_ret (zn 0)))),?_⟩
 cases k with
 | all=>
   refine ⟨_,.inr hk,.str "all",rfl,?_⟩
   refine ⟨by show 2≤sizeLine;decide,fun w hw=>?_⟩
   have yw:=Same.new hw (.tup [V.str "few",.str "box"])
   refine ⟨w,_,rfl,.inr (SqT.of upd_same),rfl,rfl,?_⟩
   exact q c _ yw (KnAt.same (k:=.all) hk yw)
 | most b=>
   refine ⟨_,.inr hk,.str "most",rfl,?_⟩
   refine ⟨by show 2≤sizeLine;decide,fun w hw=>?_⟩
   have yw:=Same.new hw (.tup [V.str "few",.str "box"])
   refine ⟨w,_,rfl,.inr (SqT.of upd_same),rfl,rfl,?_⟩
   exact q c _ yw (KnAt.same (k:=.most b) hk yw)
 | times t=>
   refine ⟨_,.inr hk,.str "times",rfl,?_⟩
   refine ⟨by show 2≤sizeLine;decide,fun w hw=>?_⟩
   have yw:=Same.new hw (.tup [V.str "few",.str "box"])
   refine ⟨w,_,rfl,.inr (SqT.of upd_same),rfl,rfl,?_⟩
   exact q c _ yw (KnAt.same (k:=.times t) hk yw)
 | off d=>
   refine ⟨_,.inr hk,.str "off",rfl,?_⟩
   refine ⟨by show 2≤sizeLine;decide,fun w hw=>?_⟩
   have yw:=Same.new hw (.tup [V.str "few",.str "box"])
   refine ⟨w,_,rfl,.inr (SqT.of upd_same),rfl,rfl,?_⟩
   exact q c _ yw (KnAt.same (k:=.off d) hk yw)
 | own=>
   refine ⟨_,.inr hk,.str "own",rfl,?_⟩
   refine ⟨by show 2≤sizeLine;decide,fun w hw=>?_⟩
   have yw:=Same.new hw (.tup [V.str "few",.str "box"])
   refine ⟨w,_,rfl,.inr (SqT.of upd_same),rfl,rfl,?_⟩
   exact q c _ yw (KnAt.same (k:=.own) hk yw)
 | rests e rs=>
   obtain ⟨d,hk,hd⟩:=hk
   refine ⟨_,.inr hk,.str "rests",rfl,?_⟩
   refine ⟨by show 2≤sizeLine;decide,fun w hw=>?_⟩
   have yw:=Same.new hw (.tup [V.str "few",.str "box"])
   refine ⟨w,_,rfl,.inr (SqT.of upd_same),rfl,rfl,?_⟩
   exact q c _ yw (KnAt.same (k:=.rests e rs) ⟨d,hk,hd⟩ yw)
 | few l=>
   have hl:1≤l:=hm
   refine ⟨_,.inr hk,.str "few",rfl,?_⟩
   refine ⟨by show 2≤sizeLine;decide,fun w hw=>?_⟩
   have yw:=Same.new hw (.tup [V.str "few",.str "box"])
   refine ⟨w,_,rfl,.inr (SqT.of upd_same),rfl,rfl,?_⟩
   generalize upd H w (.tup [V.str "few",.str "box"])=H1 at yw
   have hk1:=yw _ _ hk
   refine ⟨1,rfl,-1,rfl,c,rfl,.inl ⟨_,hk1,fun r H2 y2 hr2=>?_⟩⟩
   have hr2:H2 r=some (.tup [V.str "few"]):=hr2
   refine ⟨1,rfl,_,.inr (y2 _ _ hk1),.int l,rfl,?_⟩
   refine ⟨by show 1≤sizeLine;decide,fun o ho=>?_⟩
   have yo:=Same.new ho (.tup [V.int ((l:Int) - 1)])
   have go:upd H2 o (.tup [V.int ((l:Int) - 1)]) o=some (.tup [V.int ((l:Int) - 1)]):=upd_same
   generalize upd H2 o (.tup [V.int ((l:Int) - 1)])=H3 at yo go
   refine .inr ⟨_,_,yo _ _ hr2,go,by show 2≤sizeLine;decide,fun r4 H4 y4 hr4=>?_⟩
   refine q r4 H4 (((yw.trans y2).trans yo).trans y4) ?_
   show H4 r4=some (HO.tup [V.str "few",V.int ((l - 1:Nat):Int)])
   rw [show ((l - 1:Nat):Int)=(l:Int) - 1 by omega]
   exact hr4
 | box b l=>
   have hl:1≤l:=hm
   refine ⟨_,.inr hk,.str "box",rfl,?_⟩
   refine ⟨by show 2≤sizeLine;decide,fun w hw=>?_⟩
   have yw:=Same.new hw (.tup [V.str "few",.str "box"])
   refine ⟨w,_,rfl,.inr (SqT.of upd_same),rfl,rfl,?_⟩
   generalize upd H w (.tup [V.str "few",.str "box"])=H1 at yw
   have hk1:=yw _ _ hk
   refine ⟨1,rfl,-1,rfl,c,rfl,.inl ⟨_,hk1,fun r H2 y2 hr2=>?_⟩⟩
   have hr2:H2 r=some (.tup [V.str "box",.int b]):=hr2
   refine ⟨1,rfl,_,.inr (y2 _ _ hk1),.int l,rfl,?_⟩
   refine ⟨by show 1≤sizeLine;decide,fun o ho=>?_⟩
   have yo:=Same.new ho (.tup [V.int ((l:Int) - 1)])
   have go:upd H2 o (.tup [V.int ((l:Int) - 1)]) o=some (.tup [V.int ((l:Int) - 1)]):=upd_same
   generalize upd H2 o (.tup [V.int ((l:Int) - 1)])=H3 at yo go
   refine .inr ⟨_,_,yo _ _ hr2,go,by show 3≤sizeLine;decide,fun r4 H4 y4 hr4=>?_⟩
   refine q r4 H4 (((yw.trans y2).trans yo).trans y4) ?_
   show H4 r4=some (HO.tup [V.str "box",V.int (b:Int),V.int ((l - 1:Nat):Int)])
   rw [show ((l - 1:Nat):Int)=(l:Int) - 1 by omega]
   exact hr4
end
end K65
namespace K65
open PySem L2 MRow M27 M80 M17 M12 M24 M11 M66
def bh:Kn→Nat→Kn
 | .few l,i=>.few (l - i)
 | .box a l,i=>.box a (l - i)
 | k,_=>k
theorem bh_zero (k:Kn):bh k 0=k:=by cases k <;> rfl
theorem bh_next (k:Kn) (i:Nat):b1 (bh k i)=bh k (i+1):=by cases k <;> rfl
theorem bh_ok {k:Kn} (h:k.Ok) (i:Nat):(bh k i).Ok:=by
 cases k with
 | few l=>have:l≤600:=h;show l - i≤600;omega
 | box a l=>exact ⟨h.1,by have:=h.2;omega⟩
 | all=>exact h
 | most b=>exact h
 | times t=>exact h
 | rests e rs=>exact h
 | off d=>exact h
 | own=>exact h
theorem bh_no {k:Kn} (h:noown k) (i:Nat):noown (bh k i):=by cases k <;> exact h
def qk (k:Kn) (i:Nat):List Nat→Bool:=q0 (bh k i)
def Vd:Kn→Nat→List Nat→Prop
 | .few l,i,y=>y.length+i≤l
 | .box _ l,i,y=>y.length+i≤l
 | .times t,_,y=>cts t y=true
 | .rests e rs,_,y=>(y.all fun a=>decide ((a:Int) % (e:Int)∈rs))=true
 | .off d,_,y=>vd d y=true
 | _,_,_=>True
theorem Vd.of {k:Kn} {x:List Nat} (h:isf k x=true):Vd k 0 x:=by
 cases k with
 | few l=>
   have h2:x.length≤l:=of_decide_eq_true h
   show x.length+0≤l
   omega
 | box a l=>
   have h:(decide (x.length≤l)&&x.all fun b=>decide (b≤a))=true:=h
   rw [Bool.and_eq_true] at h
   have h2:x.length≤l:=of_decide_eq_true h.1
   show x.length+0≤l
   omega
 | all=>trivial
 | most b=>trivial
 | times t=>exact h
 | rests e rs=>exact h
 | off d=>exact h
 | own=>trivial
theorem Vd.tail {k:Kn} {i a:Nat} {y:List Nat} (h:Vd k i (a::y)):Vd k (i+1) y:=by
 cases k with
 | few l=>have h:(a::y).length+i≤l:=h;show y.length+(i+1)≤l;rw [List.length_cons] at h;omega
 | box b l=>have h:(a::y).length+i≤l:=h;show y.length+(i+1)≤l;rw [List.length_cons] at h;omega
 | all=>trivial
 | most b=>trivial
 | times t=>exact cts_tail h
 | rests e rs=>
   have h:((a::y).all fun a=>decide ((a:Int) % (e:Int)∈rs))=true:=h
   rw [List.all_cons,Bool.and_eq_true] at h
   exact h.2
 | off d=>
   cases y with
   | nil=>rfl
   | cons b r=>
     have h:(decide (b+d≤a)&&vd d (b::r))=true:=h
     rw [Bool.and_eq_true] at h
     exact h.2
 | own=>trivial
theorem Vd.more {k:Kn} {i a:Nat} {y:List Nat} (h:Vd k i (a::y)):more1 (bh k i):=by
 cases k with
 | few l=>have h:(a::y).length+i≤l:=h;rw [List.length_cons] at h;show 1≤l - i;omega
 | box b l=>have h:(a::y).length+i≤l:=h;rw [List.length_cons] at h;show 1≤l - i;omega
 | all=>trivial
 | most b=>trivial
 | times t=>trivial
 | rests e rs=>trivial
 | off d=>trivial
 | own=>trivial
theorem rk_k {k:Kn} (hok:k.Ok) (y:List Nat) (i a:Nat) (v:Vd k i (a::y)) (f:Fl (a::y)):rk (qk k) i (a::y)<cn a (a+y.sum) (qk k i):=by
 have plain:∀ (p:List Nat→Bool),(∀ l,p l=true)→(∀ j,qk k j=p)→rk (qk k) i (a::y)<cn a (a+y.sum) (qk k i):=fun p hp hq=>by
  refine rk_lt (q:=qk k) (fun _ _=>True) (fun i a y _ _=>.inl (by rw [hq];exact hp _)) (fun i a b z _ fl=>⟨trivial,fun m=>?_⟩) y i a trivial f
  rw [hq]
  have e:cn a m (fun l=>qk k i (a::l))=cn a m p:=cn_congr fun l _=>by rw [hq,hp,hp]
  rw [e]
  exact cn_le m p fl.1
 have small:∀ l,(∀ j,qk k j=fun x=>decide (x.length≤l - j))→(a::y).length+i≤l→rk (qk k) i (a::y)<cn a (a+y.sum) (qk k i):=fun l hq hl=>by
  refine rk_lt (q:=qk k) (fun i y=>y.length+i≤l) (fun i a y v _=>.inl (by rw [hq];rw [List.length_cons] at v;exact decide_eq_true (show 1≤l - i by omega))) (fun i a b z v fl=>⟨by rw [List.length_cons] at v;omega,fun m=>?_⟩) y i a hl f
  rw [hq]
  have e:cn a m (fun x=>qk k i (a::x))=cn a m (fun x=>decide (x.length≤l - (i+1))):=cn_congr fun x _=>by
   rw [hq]
   rw [List.length_cons] at v
   exact decide_eq_decide.mpr (by rw [List.length_cons];omega)
  rw [e]
  exact cn_le m _ fl.1
 cases k with
 | all=>exact plain (fun x=>x.all fun _=>true) (fun l=>List.all_eq_true.mpr fun _ _=>rfl) fun j=>rfl
 | most b=>exact plain (fun x=>x.all fun _=>true) (fun l=>List.all_eq_true.mpr fun _ _=>rfl) fun j=>rfl
 | own=>exact plain (fun x=>x.all fun _=>true) (fun l=>List.all_eq_true.mpr fun _ _=>rfl) fun j=>rfl
 | few l=>exact small l (fun j=>rfl) v
 | box b l=>exact small l (fun j=>rfl) v
 | times t=>exact rk_times' hok.1 y i a v f
 | rests e rs=>
   refine rk_lt (q:=qk (.rests e rs)) (fun _ y=>(y.all fun a=>decide ((a:Int) % (e:Int)∈rs))=true) (fun i a y v _=>.inl ?_) (fun i a b z v fl=>⟨?_,fun m=>?_⟩) y i a v f
   · rw [List.all_cons,Bool.and_eq_true] at v
     show ([a].all fun a=>decide ((a:Int) % (e:Int)∈rs))=true
     rw [List.all_cons,v.1]
     rfl
   · rw [List.all_cons,Bool.and_eq_true] at v
     exact v.2
   · rw [List.all_cons,Bool.and_eq_true] at v
     have e2:cn a m (fun x=>qk (.rests e rs) i (a::x))=cn a m (fun x=>x.all fun a=>decide ((a:Int) % (e:Int)∈rs)):=cn_congr fun x _=>by
      show ((a::x).all fun a=>decide ((a:Int) % (e:Int)∈rs))=_
      rw [List.all_cons,v.1,Bool.true_and]
     rw [e2]
     exact cn_le m _ fl.1
 | off d=>
   refine rk_lt (q:=qk (.off d)) (fun _ y=>vd d y=true) (fun i a y v _=>.inl rfl) (fun i a b z v fl=>?_) y i a v f
   have v2:(decide (b+d≤a)&&vd d (b::z))=true:=v
   rw [Bool.and_eq_true] at v2
   have hbd:=of_decide_eq_true v2.1
   refine ⟨v2.2,fun m=>?_⟩
   have ha:=Fl.pos fl a List.mem_cons_self
   obtain ⟨c,rfl⟩:∃ c,a=c+1:=⟨a - 1,by omega⟩
   have e2:cn (c+1) m (fun x=>qk (.off d) i ((c+1)::x))=cn (c+1 - d) m (vd d):=by
    have e:=cn_head (vd d) (c+1 - d) (c+1 - (c+1 - d)) m
    rw [show c+1 - d+(c+1 - (c+1 - d))=c+1 by omega] at e
    rw [← e]
    exact cn_congr fun x hx=>vd_cons hok.1 x fun a ha=>((ls_mem _ _ x hx).1 a ha).1
   rw [e2]
   exact cn_le m _ (by omega)
theorem gk_at {k:Kn} (hok:k.Ok) (i m n:Nat):gk (bh k i) m n=cn m n (qk k i):=gk_cn (bh_ok hok i) m n
theorem cf_over {k:Kn} (hok:k.Ok) (hno:noown k) {x:List Nat} (v:isf k x=true) (f:Fl x) (hn:x.sum≤600):rk (qk k) 0 x<cf k x.sum x.sum:=by
 cases x with
 | nil=>
   show (0:Int)<cf k 0 0
   have e:cf k 0 0=1:=by
    cases k with
    | all=>rfl
    | most b=>show PL dl (ups (min b 0)) 0=1;exact R_zero _
    | few b=>show PL dl (ups (min b 0)) 0=1;exact R_zero _
    | times t=>rfl
    | rests e rs=>rfl
    | box b l=>show bx l (min b 0) 0=1;rw [Nat.min_zero];rfl
    | off d=>show fow d 0=1;rw [← cn_off hok.1 (by decide)];exact cn_nil 0 _ rfl
    | own=>exact hno.elim
   rw [e]
   decide
 | cons a y=>
   have lt:=rk_k hok y 0 a (Vd.of v) f
   rw [List.sum_cons] at hn ⊢
   have q00:qk k 0=q0 k:=by unfold qk;rw [bh_zero]
   rw [q00] at lt
   have up:∀ b,a≤b→rk (qk k) 0 (a::y)<gk k b (a+y.sum):=fun b hb=>by
    rw [gk_cn hok]
    have:=cn_le (a+y.sum) (q0 k) hb
    omega
   generalize rk (qk k) 0 (a::y)=z at lt up
   cases k with
   | all=>exact up _ (by omega)
   | most b=>
     have h:((a::y).all fun c=>decide (c≤b))=true:=v
     have:=of_decide_eq_true (List.all_eq_true.mp h a List.mem_cons_self)
     exact up (min b (a+y.sum)) (by omega)
   | few l=>
     have:=up (a+y.sum) (by omega)
     show z<PL dl (ups (min l (a+y.sum))) (a+y.sum)
     rw [R_min (Nat.le_refl _),← cn_few,cn_len]
     exact this
   | times t=>exact up _ (by omega)
   | rests e rs=>exact up _ (by omega)
   | box b l=>
     have h:(decide ((a::y).length≤l)&&(a::y).all fun c=>decide (c≤b))=true:=v
     rw [Bool.and_eq_true] at h
     have:=of_decide_eq_true (List.all_eq_true.mp h.2 a List.mem_cons_self)
     exact up (min b (a+y.sum)) (by omega)
   | off d=>
     have:=up (a+y.sum) (by omega)
     show z<fow d (a+y.sum)
     rw [← cn_off hok.1 hn]
     exact this
   | own=>exact hno.elim
section
variable {P:Program} {w:World} {K:PySem.W.Frag} {mg:Str→Option Value} {base:Heap} {f:Addr} {fd:FuncData}
theorem sc_mb:FnScope ["kind","n","part","rows"] ["kind","n","part"] (defScope (top 28)):=⟨rfl,rfl,rfl,by decide +kernel,rfl,by decide +kernel,by decide +kernel⟩
def sp_mb:Sp:=fun vs H Q _=>∃ (c:Addr) (k:Kn) (n b:Nat),vs=[.ref c,.int n,.int b]∧KnAt H c k∧k.Ok∧noown k∧n≤600∧1≤b∧b≤300∧∀ H',Same H H'→Q (.int (gk k (b - 1) n)) H'
theorem ok_mb (F:Fun K "many_below" "many_below" (top 28) f fd) (m_len:mg "len" = none) (F_begun:FnA P w K mg base "begun" 1 ["most"] sp_begun) (F_row_with_next:FnA P w K mg base "row_with_next" 2 ["kind","rows"] sp_rn):FnOk P w K mg base CX0 3 f fd ["kind","n","part"] sp_mb:=by
 refine F.okz sc_mb (fun vs H Q E h=>?_) (fun cdv A outer s H vs Q E hr h=>?_)
 · obtain ⟨c,k,n,b,rfl,_⟩:=h;rfl
 obtain ⟨c,k,n,b,rfl,hk,hok,hno,hn,hb0,hb1,q⟩:=h
 have nd:=sc_mb.nd
 have hu:=hr.units
 refine ⟨_,(zss_cons (zs_set (i:=3) nd rfl (Or.inl rfl) (ze_lst (za_cons (ze_fn F_begun hr (by decide) rfl (za_cons (zn 1) za_nil)) za_nil)))
  (zss_cons (zs_while PassesOwn.never (zt_cmpP op_ltP (zcb_len rfl m_len (za_cons (zn 3) za_nil) rfl rfl) (zn 2) (nomark _)) (zss_one (zs_expr (zm_append (zn 3) (za_cons (ze_fn F_row_with_next hr (by decide) rfl (za_cons (zn 0) (za_cons (zn 3) za_nil))) za_nil)))))
  (zss_one (zs_ret (ze_ix ix_P (ze_ix ix_P (zn 3) (ze_un un_neg ze_int) (fun _ _=>rfl)) (zn 1) (fun _ _=>rfl)))))),?_⟩
 refine ⟨n,rfl,by omega,fun p0 H1 hp0 y1 hp1=>?_⟩
 refine ⟨by show 1≤sizeLine;decide,fun R hR=>?_⟩
 have yR:=y1.trans (Same.new hR (.lst [V.ref p0]))
 have gR:upd H1 R (.lst [V.ref p0]) R=some (.lst (([p0]:List Addr).map V.ref)):=upd_same
 have g0:=(Same.new hR (.lst [V.ref p0])) _ _ hp1
 have fR:H R=none:=fresh_back y1 hR
 have W0:Rws (upd H1 R (.lst [V.ref p0])) [p0] n (gk k):=fun m r e=>by
  cases m with
  | zero=>rw [← Option.some.inj e,g0,gk_zero k hok]
  | succ m=>simp at e
 have nR:R∉[p0]:=fun e=>by rw [List.mem_singleton.mp e,hp1] at hR;cases hR
 generalize upd H1 R (.lst [V.ref p0])=H2 at yR gR W0
 refine while_by2 (fun u σ H'=>∃ (rs:List Addr) (m:Nat),u=b - (m+1)∧m+1≤b∧rs.length=m+1∧R∉rs∧Same H H'∧H' R=some (.lst (rs.map V.ref))∧Rws H' rs n (gk k)∧σ=[some (.ref c),some (.int n),some (.int b),some (.ref R)]) (b - 1)
  ⟨[p0],0,rfl,hb0,rfl,nR,yR,gR,W0,rfl⟩ ?_
 rintro u σ H' ⟨rs,m,rfl,hm,lr,nr,y,hR',hW,rfl⟩
 refine ⟨_,.inl (SqL.of hR'),?_⟩
 rw [List.length_map,lr]
 refine iteD (fun cc=>?_) (fun cc=>?_)
 · have c':((m+1:Nat):Int)<(b:Int):=cc
   refine ⟨fun σ' H'=>∃ u',u' < b - (m+1)∧∃ (rs:List Addr) (m:Nat),u'=b - (m+1)∧m+1≤b∧rs.length=m+1∧R∉rs∧Same H H'∧H' R=some (.lst (rs.map V.ref))∧Rws H' rs n (gk k)∧σ'=[some (.ref c),some (.int n),some (.int b),some (.ref R)],fun σ' H' h=>h,?_⟩
   refine ⟨tyL hR',?_⟩
   refine ⟨c,R,rs,k,n,m,rfl,hk.same y,hok,hno,hR',lr,by omega,hn,hW,fun p3 H3 y3 hp3=>?_⟩
   have hR3:=y3 _ _ hR'
   refine ⟨_,hR3,by rw [List.length_map,lr];exact small1000 (by omega),?_⟩
   have pR:R≠p3:=fun e=>by
    rw [← e,hR3] at hp3
    have h1:=HO.lst.inj (Option.some.inj hp3)
    have h2:=congrArg (fun l:List V=>l[0]?) h1
    rw [refs_get (by omega),tbI_get (by omega)] at h2
    cases h2
   refine ⟨b - (m+1+1),by omega,rs++[p3],m+1,rfl,by omega,by rw [List.length_append,lr];rfl,fun e=>?_,Same.updN (y.trans y3) fR,by rw [upd_same,List.map_append];rfl,fun j r e=>?_,rfl⟩
   · rcases List.mem_append.mp e with h | h
     · exact nr h
     · exact pR (List.mem_singleton.mp h)
   · by_cases hj:j<rs.length
     · rw [List.getElem?_append_left hj] at e
       rw [upd_ne fun z=>nr (by rw [← z];exact List.mem_of_getElem? e)]
       exact y3 _ _ (hW j r e)
     · have ej:j=m+1:=by
        have:=(List.getElem?_eq_some_iff.mp e).1
        rw [List.length_append] at this
        have t1:[p3].length=1:=rfl
        omega
       subst ej
       rw [List.getElem?_append_right (by omega),lr,Nat.sub_self] at e
       rw [← Option.some.inj e,upd_ne (Ne.symm pR)]
       exact hp3
 · have c':¬ ((m+1:Nat):Int)<(b:Int):=cc
   have eb:m=b - 1:=by omega
   obtain ⟨r,hr0,at1⟩:=refs_neg (e:=1) (by decide) (show rs.length=m+1 from lr)
   refine ⟨1,rfl,_,.inl (SqL.of hR'),.ref r,at1 _ rfl,?_⟩
   refine ⟨_,.inl (SqL.of (hW m r hr0)),.int (gk k m n),atI_of (j:=n) rfl (tbI_get (by omega)),?_⟩
   rw [eb]
   exact q _ y
theorem sc_fp:FnScope ["kind","n","k","rows"] ["kind","n","k"] (defScope (top 30)):=⟨rfl,rfl,rfl,by decide +kernel,rfl,by decide +kernel,by decide +kernel⟩
def sp_fp:Sp:=fun vs H Q _=>∃ (c:Addr) (k:Kn) (n M:Nat) (z:Int),vs=[.ref c,.int n,.int z]∧KnAt H c k∧k.Ok∧noown k∧n≤600∧1≤M∧M≤300∧(∀ m,m<M→gk k m n≤z)∧z<gk k M n∧∀ r H',Same H H'→H' r=some (.tup [.int (M:Int),.int (gk k (M - 1) n)])→Q (.ref r) H'
theorem ok_fp (F:Fun K "first_part_at" "first_part_at" (top 30) f fd) (m_len:mg "len" = none) (F_begun:FnA P w K mg base "begun" 1 ["most"] sp_begun) (F_row_with_next:FnA P w K mg base "row_with_next" 2 ["kind","rows"] sp_rn):FnOk P w K mg base CX0 3 f fd ["kind","n","k"] sp_fp:=by
 refine F.okz sc_fp (fun vs H Q E h=>?_) (fun cdv A outer s H vs Q E hr h=>?_)
 · obtain ⟨c,k,n,M,z,rfl,_⟩:=h;rfl
 obtain ⟨c,k,n,M,z,rfl,hk,hok,hno,hn,hM0,hM1,hlo,hup,q⟩:=h
 have nd:=sc_fp.nd
 have hu:=hr.units
 refine ⟨_,(zss_cons (zs_set (i:=3) nd rfl (Or.inl rfl) (ze_lst (za_cons (ze_fn F_begun hr (by decide) rfl (za_cons (zn 1) za_nil)) za_nil)))
  (zss_cons (zs_while PassesOwn.never (zt_cmpP op_leP (ze_ix ix_P (ze_ix ix_P (zn 3) (ze_un un_neg ze_int) (fun _ _=>rfl)) (zn 1) (fun _ _=>rfl)) (zn 2) (nomark _)) (zss_one (zs_expr (zm_append (zn 3) (za_cons (ze_fn F_row_with_next hr (by decide) rfl (za_cons (zn 0) (za_cons (zn 3) za_nil))) za_nil)))))
  (zss_one (zs_ret (ze_tup (za_cons (ze_op op_subP (zcb_len rfl m_len (za_cons (zn 3) za_nil) rfl rfl) ze_int) (za_cons (ze_ix ix_P (ze_ix ix_P (zn 3) (ze_un un_neg ze_int) (fun _ _=>rfl)) (zn 1) (fun _ _=>rfl)) za_nil))))))),?_⟩
 refine ⟨n,rfl,by omega,fun p0 H1 hp0 y1 hp1=>?_⟩
 refine ⟨by show 1≤sizeLine;decide,fun R hR=>?_⟩
 have yR:=y1.trans (Same.new hR (.lst [V.ref p0]))
 have gR:upd H1 R (.lst [V.ref p0]) R=some (.lst (([p0]:List Addr).map V.ref)):=upd_same
 have g0:=(Same.new hR (.lst [V.ref p0])) _ _ hp1
 have fR:H R=none:=fresh_back y1 hR
 have W0:Rws (upd H1 R (.lst [V.ref p0])) [p0] n (gk k):=fun m r e=>by
  cases m with
  | zero=>rw [← Option.some.inj e,g0,gk_zero k hok]
  | succ m=>simp at e
 have nR:R∉[p0]:=fun e=>by rw [List.mem_singleton.mp e,hp1] at hR;cases hR
 generalize upd H1 R (.lst [V.ref p0])=H2 at yR gR W0
 refine while_by2 (fun u σ H'=>∃ (rs:List Addr) (m:Nat),u=M - m∧m≤M∧rs.length=m+1∧R∉rs∧Same H H'∧H' R=some (.lst (rs.map V.ref))∧Rws H' rs n (gk k)∧σ=[some (.ref c),some (.int n),some (.int z),some (.ref R)]) M
  ⟨[p0],0,rfl,Nat.zero_le _,rfl,nR,yR,gR,W0,rfl⟩ ?_
 rintro u σ H' ⟨rs,m,rfl,hm,lr,nr,y,hR',hW,rfl⟩
 obtain ⟨r,hr0,at1⟩:=refs_neg (e:=1) (by decide) (show rs.length=m+1 from lr)
 refine ⟨1,rfl,_,.inl (SqL.of hR'),.ref r,at1 _ rfl,?_⟩
 refine ⟨_,.inl (SqL.of (hW m r hr0)),.int (gk k m n),atI_of (j:=n) rfl (tbI_get (by omega)),?_⟩
 refine iteD (fun cc=>?_) (fun cc=>?_)
 · have c':gk k m n≤z:=cc
   have hmM:m<M:=by
    by_cases e:m=M
    · rw [e] at c';omega
    · omega
   refine ⟨fun σ' H'=>∃ u',u' < M - m∧∃ (rs:List Addr) (m:Nat),u'=M - m∧m≤M∧rs.length=m+1∧R∉rs∧Same H H'∧H' R=some (.lst (rs.map V.ref))∧Rws H' rs n (gk k)∧σ'=[some (.ref c),some (.int n),some (.int z),some (.ref R)],fun σ' H' h=>h,?_⟩
   refine ⟨tyL hR',?_⟩
   refine ⟨c,R,rs,k,n,m,rfl,hk.same y,hok,hno,hR',lr,by omega,hn,hW,fun p3 H3 y3 hp3=>?_⟩
   have hR3:=y3 _ _ hR'
   refine ⟨_,hR3,by rw [List.length_map,lr];exact small1000 (by omega),?_⟩
   have pR:R≠p3:=fun e=>by
    rw [← e,hR3] at hp3
    have h1:=HO.lst.inj (Option.some.inj hp3)
    have h2:=congrArg (fun l:List V=>l[0]?) h1
    rw [refs_get (by omega),tbI_get (by omega)] at h2
    cases h2
   refine ⟨M - (m+1),by omega,rs++[p3],m+1,rfl,by omega,by rw [List.length_append,lr];rfl,fun e=>?_,Same.updN (y.trans y3) fR,by rw [upd_same,List.map_append];rfl,fun j r e=>?_,rfl⟩
   · rcases List.mem_append.mp e with h | h
     · exact nr h
     · exact pR (List.mem_singleton.mp h)
   · by_cases hj:j<rs.length
     · rw [List.getElem?_append_left hj] at e
       rw [upd_ne fun z=>nr (by rw [← z];exact List.mem_of_getElem? e)]
       exact y3 _ _ (hW j r e)
     · have ej:j=m+1:=by
        have:=(List.getElem?_eq_some_iff.mp e).1
        rw [List.length_append] at this
        have t1:[p3].length=1:=rfl
        omega
       subst ej
       rw [List.getElem?_append_right (by omega),lr,Nat.sub_self] at e
       rw [← Option.some.inj e,upd_ne (Ne.symm pR)]
       exact hp3
 · have c':¬ gk k m n≤z:=cc
   have em:m=M:=by
    by_cases e:m<M
    · exact absurd (hlo m e) c'
    · omega
   refine ⟨_,.inl (SqL.of hR'),?_⟩
   rw [List.length_map,lr]
   obtain ⟨r2,hr2,at2⟩:=refs_neg (m:=m - 1) (e:=2) (by decide) (show rs.length=m - 1+2 by omega)
   refine ⟨2,rfl,_,.inl (SqL.of hR'),.ref r2,at2 _ rfl,?_⟩
   refine ⟨_,.inl (SqL.of (hW (m - 1) r2 hr2)),.int (gk k (m - 1) n),atI_of (j:=n) rfl (tbI_get (by omega)),?_⟩
   refine ⟨by show 2≤sizeLine;decide,fun t ht=>?_⟩
   refine q t _ (y.trans (Same.new ht _)) ?_
   rw [upd_same,← em]
   show some (HO.tup [V.int (((m+1:Nat):Int) - 1),_])=_
   rw [show ((m+1:Nat):Int) - 1=(m:Int) by omega]
end
theorem drop_at {x:List Nat} {i a:Nat} (h:x[i]? = some a):x.drop i=a::x.drop (i+1):=by
 obtain ⟨hi,e⟩:=List.getElem?_eq_some_iff.mp h
 rw [List.drop_eq_getElem_cons hi,e]
theorem Fl_drop:∀ {x:List Nat} (i:Nat),Fl x→Fl (x.drop i)
 | [],i,h=>by rw [List.drop_nil];exact h
 | a::x,0,h=>h
 | a::x,i+1,h=>Fl_drop i h.tail
theorem sum_drop:∀ (x:List Nat) (i:Nat),(x.drop i).sum≤x.sum
 | [],i=>by rw [List.drop_nil];exact Nat.le_refl _
 | a::x,0=>Nat.le_refl _
 | a::x,i+1=>by
   have:=sum_drop x i
   rw [List.sum_cons]
   show (x.drop i).sum≤_
   omega
theorem Fl.sum_len:∀ {x:List Nat},Fl x→x.length≤x.sum
 | [],_=>Nat.le_refl _
 | a::x,h=>by
   have:=Fl.sum_len h.tail
   have:=Fl.pos h a List.mem_cons_self
   rw [List.length_cons,List.sum_cons]
   omega
section
variable {P:Program} {w:World} {K:PySem.W.Frag} {mg:Str→Option Value} {base:Heap} {f:Addr} {fd:FuncData}
theorem sc_pl:FnScope ["kind","parting","place","left","part"] ["kind","parting"] (defScope (top 29)):=⟨rfl,rfl,rfl,by decide +kernel,rfl,by decide +kernel,by decide +kernel⟩
def sp_pl:Sp:=fun vs H Q _=>∃ (c p:Addr) (k:Kn) (x:List Nat),vs=[.ref c,.ref p]∧KnAt H c k∧k.Ok∧noown k∧H p=some (.tup (nI x))∧x.sum≤300∧Fl x∧isf k x=true∧∀ H',Same H H'→Q (.int (rk (qk k) 0 x)) H'
theorem ok_pl (F:Fun K "place_of" "place_of" (top 29) f fd)  (F_is_of:FnA P w K mg base "is_of" 3 ["kind","parting"] sp_pi) (F_kind_behind:FnA P w K mg base "kind_behind" 1 ["kind"] sp_kb) (F_many_below:FnA P w K mg base "many_below" 3 ["kind","n","part"] sp_mb) (F_weight:FnA P w K mg base "weight" 1 ["parting"] sp_wt):FnOk P w K mg base CX0 4 f fd ["kind","parting"] sp_pl:=by
 refine F.okz sc_pl (fun vs H Q E h=>?_) (fun cdv A outer s H vs Q E hr h=>?_)
 · obtain ⟨c,p,k,x,rfl,_⟩:=h;rfl
 obtain ⟨c,p,k,x,rfl,hk,hok,hno,hp,hs,hf,hv,q⟩:=h
 have nd:=sc_pl.nd
 have hu:=hr.units
 have hl:=Fl.sum_len hf
 refine ⟨_,(zss_cons (zs_if (zt_not (zt_valP (ze_fn F_is_of hr (by decide) rfl (za_cons (zn 0) (za_cons (zn 1) za_nil))))) (zss_one zs_no) zss_nil)
  (zss_cons (zs_set (i:=2) nd rfl (Or.inl rfl) ze_int)
  (zss_cons (zs_set (i:=3) nd rfl (Or.inl rfl) (ze_fn F_weight hr (by decide) rfl (za_cons (zn 1) za_nil)))
  (zss_cons (zs_for PassesOwn.never rfl (zi_tup (zn 1)) (zg_name (i:=4) nd rfl (Or.inl rfl)) (zss_cons (zs_aug (i:=2) nd rfl (Or.inl rfl) (ze_fn F_many_below hr (by decide) rfl (za_cons (zn 0) (za_cons (zn 3) (za_cons (zn 4) za_nil)))) ip_addP)
  (zss_cons (zs_aug (i:=3) nd rfl (Or.inl rfl) (zn 4) ip_subP)
  (zss_one (zs_set (i:=0) nd rfl (Or.inl rfl) (ze_fn F_kind_behind hr (by decide) rfl (za_cons (zn 0) za_nil)))))))
  (zss_one (zs_ret (zn 2))))))),?_⟩
 refine ⟨c,p,k,x,rfl,hk,hok,hno,hp,by omega,hf,fun H1 y1=>?_⟩
 rw [hv]
 refine ⟨p,x,rfl,y1 _ _ hp,?_⟩
 refine ⟨p,rfl,⟨_,SqT.of (y1 _ _ hp)⟩,for_tup (xs:=nI x) (fun i σ H'=>i≤x.length∧Same H H'∧∃ (c':Addr) (z:Int) (x4:Option V),KnAt H' c' (bh k i)∧Vd k i (x.drop i)∧z+rk (qk k) i (x.drop i)=rk (qk k) 0 x∧σ=[some (.ref c'),some (.ref p),some (.int z),some (.int ((x.drop i).sum:Int)),x4])
  ⟨Nat.zero_le _,y1,c,0,none,by rw [bh_zero];exact hk.same y1,Vd.of hv,Int.zero_add _,rfl⟩ ?_ ?_ ?_⟩
 · rintro i σ H' _ ⟨_,y,_⟩
   exact SqT.of (y _ _ hp)
 · rintro i v σ H' hv' ⟨hi,y,c',z,x4,hk',vd,ez,rfl⟩
   obtain ⟨a,ha,rfl⟩:=nI_at hv'
   have hi':=(List.getElem?_eq_some_iff.mp ha).1
   have ed:=drop_at ha
   have fd':=Fl_drop i hf
   have sd:=sum_drop x i
   rw [ed] at vd ez fd' sd ⊢
   rw [List.sum_cons] at sd ⊢
   have ha1:=Fl.pos fd' a List.mem_cons_self
   refine ⟨_,rfl,c',bh k i,a+(x.drop (i+1)).sum,a,rfl,hk',bh_ok hok i,bh_no hno i,by omega,ha1,by omega,fun H2 y2=>?_⟩
   refine ⟨_,rfl,c',bh k i,rfl,hk'.same y2,vd.more,fun c3 H3 y3 hk3=>?_⟩
   rw [bh_next] at hk3
   refine ⟨hi',(y.trans y2).trans y3,c3,z+gk (bh k i) (a - 1) (a+(x.drop (i+1)).sum),some (.int (a:Int)),hk3,vd.tail,?_,?_⟩
   · rw [← ez,gk_at hok]
     show z+cn (a - 1) (a+(x.drop (i+1)).sum) (qk k i)+rk (qk k) (i+1) (x.drop (i+1))=z+(cn (a - 1) (a+(x.drop (i+1)).sum) (qk k i)+rk (qk k) (i+1) (x.drop (i+1)))
     omega
   · rw [show ((x.drop (i+1)).sum:Int)=((a+(x.drop (i+1)).sum:Nat):Int) - (a:Int) by omega]
     rfl
 · rintro σ H' ⟨_,y,c',z,x4,hk',vd,ez,rfl⟩
   rw [nI_len,List.drop_length] at ez
   have ez:z+0=rk (qk k) 0 x:=ez
   rw [Int.add_zero] at ez
   rw [← ez] at q
   exact q _ y
theorem sc_at:FnScope ["kind","n","k","told","left","part","many"] ["kind","n","k"] (defScope (top 31)):=⟨rfl,rfl,rfl,by decide +kernel,rfl,by decide +kernel,by decide +kernel⟩
def sp_at:Sp:=fun vs H Q _=>∃ (c:Addr) (k:Kn) (x:List Nat),vs=[.ref c,.int (x.sum:Int),.int (rk (qk k) 0 x)]∧KnAt H c k∧k.Ok∧noown k∧x.sum≤300∧Fl x∧isf k x=true∧∀ r H',Same H H'→H' r=some (.tup (nI x))→Q (.ref r) H'
theorem ok_at (F:Fun K "at" "at" (top 31) f fd) (m_tuple:mg "tuple" = none) (F_counts:FnA P w K mg base "counts" 4 ["kind","most"] sp_counts) (F_first_part_at:FnA P w K mg base "first_part_at" 3 ["kind","n","k"] sp_fp) (F_kind_behind:FnA P w K mg base "kind_behind" 1 ["kind"] sp_kb):FnOk P w K mg base CX0 5 f fd ["kind","n","k"] sp_at:=by
 refine F.okz sc_at (fun vs H Q E h=>?_) (fun cdv A outer s H vs Q E hr h=>?_)
 · obtain ⟨c,k,x,rfl,_⟩:=h;rfl
 obtain ⟨c,k,x,rfl,hk,hok,hno,hs,hf,hv,q⟩:=h
 have nd:=sc_at.nd
 have hu:=hr.units
 have hl:=Fl.sum_len hf
 have lo:=rk_pos (qk k) x 0
 have hi:=cf_over hok hno hv hf (by omega)
 refine ⟨_,(zss_cons (zs_if (ZW.zt (zw_or (zt_cmpP op_ltP (zn 2) ze_int (nomark _)) (zw_or1 (zt_cmpP op_geP (zn 2) (ze_ix ix_P (ze_fn F_counts hr (by decide) rfl (za_cons (zn 0) (za_cons (zn 1) za_nil))) (zn 1) (fun _ _=>rfl)) (nomark _))))) (zss_one zs_no) zss_nil)
  (zss_cons (zs_set (i:=3) nd rfl (Or.inl rfl) (ze_lst za_nil))
  (zss_cons (zs_set (i:=4) nd rfl (Or.inl rfl) (zn 1))
  (zss_cons (zs_while PassesOwn.never (zt_cmpP op_gtP (zn 4) ze_int (nomark _)) (zss_cons (zs_asg (ze_fn F_first_part_at hr (by decide) rfl (za_cons (zn 0) (za_cons (zn 4) (za_cons (zn 2) za_nil)))) (zg_tup rfl (zgs_cons (zg_name (i:=5) nd rfl (Or.inl rfl)) (zgs_cons (zg_name (i:=6) nd rfl (Or.inl rfl)) zgs_nil))))
  (zss_cons (zs_expr (zm_append (zn 3) (za_cons (zn 5) za_nil)))
  (zss_cons (zs_aug (i:=4) nd rfl (Or.inl rfl) (zn 5) ip_subP)
  (zss_cons (zs_aug (i:=2) nd rfl (Or.inl rfl) (zn 6) ip_subP)
  (zss_one (zs_set (i:=0) nd rfl (Or.inl rfl) (ze_fn F_kind_behind hr (by decide) rfl (za_cons (zn 0) za_nil)))))))))
  (zss_one (zs_ret (zcb_tuple rfl m_tuple (za_cons (zn 3) za_nil) rfl rfl))))))),?_⟩
 refine iteD (fun cc=>absurd (show rk (qk k) 0 x<0 from cc) (by omega)) (fun _=>?_)
 refine ⟨c,x.sum,k,rfl,by omega,hk,hok,fun p H1 y1 hp1=>?_⟩
 refine ⟨_,.inr hp1,.int (cf k x.sum x.sum),atI_of (j:=x.sum) rfl (tbI_get (by omega)),?_⟩
 refine iteD (fun cc=>absurd (show cf k x.sum x.sum≤rk (qk k) 0 x from cc) (by omega)) (fun _=>?_)
 refine ⟨Nat.zero_le _,fun T hT=>?_⟩
 have yT:=y1.trans (Same.new hT (.lst []))
 have fT:H T=none:=fresh_back y1 hT
 have gT:upd H1 T (.lst []) T=some (.lst (nI (x.take 0))):=upd_same
 generalize upd H1 T (.lst [])=H2 at yT gT
 refine while_by2 (fun u σ H'=>∃ i,u=x.length - i∧i≤x.length∧Same H H'∧H' T=some (.lst (nI (x.take i)))∧∃ (c':Addr) (x5 x6:Option V),KnAt H' c' (bh k i)∧Vd k i (x.drop i)∧σ=[some (.ref c'),some (.int (x.sum:Int)),some (.int (rk (qk k) i (x.drop i))),some (.ref T),some (.int ((x.drop i).sum:Int)),x5,x6]) x.length
  ⟨0,rfl,Nat.zero_le _,yT,gT,c,none,none,by rw [bh_zero];exact hk.same yT,Vd.of hv,rfl⟩ ?_
 rintro u σ H' ⟨i,rfl,hi,y,hT',c',x5,x6,hk',vd,rfl⟩
 have fd':=Fl_drop i hf
 have sd:=sum_drop x i
 refine iteD (fun cc=>?_) (fun cc=>?_)
 · have c2:(0:Int)<((x.drop i).sum:Int):=cc
   have hi':i<x.length:=by
    by_cases e:i<x.length
    · exact e
    · rw [List.drop_eq_nil_of_le (by omega)] at c2
      exact absurd c2 (by decide)
   have ha:x[i]? = some x[i]:=List.getElem?_eq_getElem hi'
   generalize x[i]=a at ha
   have ed:=drop_at ha
   rw [ed] at vd fd' sd ⊢
   rw [List.sum_cons] at sd ⊢
   have ha1:=Fl.pos fd' a List.mem_cons_self
   have rk1:=rk_k hok _ i a vd fd'
   have rke:rk (qk k) i (a::x.drop (i+1))=cn (a - 1) (a+(x.drop (i+1)).sum) (qk k i)+rk (qk k) (i+1) (x.drop (i+1)):=rfl
   have rkp:=rk_pos (qk k) (x.drop (i+1)) (i+1)
   refine ⟨fun σ' H'=>∃ u',u' < x.length - i∧∃ i,u'=x.length - i∧i≤x.length∧Same H H'∧H' T=some (.lst (nI (x.take i)))∧∃ (c':Addr) (x5 x6:Option V),KnAt H' c' (bh k i)∧Vd k i (x.drop i)∧σ'=[some (.ref c'),some (.int (x.sum:Int)),some (.int (rk (qk k) i (x.drop i))),some (.ref T),some (.int ((x.drop i).sum:Int)),x5,x6],fun σ' H' h=>h,?_⟩
   refine ⟨c',bh k i,a+(x.drop (i+1)).sum,a,_,rfl,hk',bh_ok hok i,bh_no hno i,by omega,ha1,by omega,fun m hm=>?_,by rw [gk_at hok];exact rk1,fun r H3 y3 hr3=>?_⟩
   · rw [gk_at hok]
     have:=cn_le (a+(x.drop (i+1)).sum) (qk k i) (show m≤a - 1 by omega)
     omega
   refine ⟨r,_,rfl,SqT.of hr3,rfl,_,_,rfl,_,_,rfl,rfl,?_⟩
   have hT3:=y3 _ _ hT'
   refine ⟨tyL hT3,?_⟩
   refine ⟨_,hT3,by rw [nI_len,List.length_take];exact small1000 (by omega),?_⟩
   have y4:=Same.updN (y.trans y3) fT (o:=.lst (nI (x.take i)++[V.int (a:Int)]))
   have hk4:KnAt (upd H3 T (.lst (nI (x.take i)++[V.int (a:Int)]))) c' (bh k i):=by
    have h3:=hk'.same y3
    have nT:∀ d xs,H3 d=some (.tup xs)→upd H3 T (.lst (nI (x.take i)++[V.int (a:Int)])) d=some (.tup xs):=fun d xs h=>by
     rw [upd_ne fun e=>by rw [e,hT3] at h;cases h]
     exact h
    cases hb:bh k i with
    | rests e rs=>rw [hb] at h3;obtain ⟨d,h1,h2⟩:=h3;exact ⟨d,nT _ _ h1,nT _ _ h2⟩
    | all=>rw [hb] at h3;exact nT _ _ h3
    | most b=>rw [hb] at h3;exact nT _ _ h3
    | times t=>rw [hb] at h3;exact nT _ _ h3
    | few l=>rw [hb] at h3;exact nT _ _ h3
    | box b l=>rw [hb] at h3;exact nT _ _ h3
    | off d=>rw [hb] at h3;exact nT _ _ h3
    | own=>rw [hb] at h3;exact nT _ _ h3
   have gT4:upd H3 T (.lst (nI (x.take i)++[V.int (a:Int)])) T=some (.lst (nI (x.take (i+1)))):=by
    rw [upd_same]
    unfold nI
    rw [take_more _ ha,List.map_append]
    rfl
   generalize upd H3 T (.lst (nI (x.take i)++[V.int (a:Int)]))=H4 at y4 hk4 gT4
   refine ⟨_,rfl,_,rfl,c',bh k i,rfl,hk4,vd.more,fun c5 H5 y5 hk5=>?_⟩
   rw [bh_next] at hk5
   refine ⟨x.length - (i+1),by omega,i+1,rfl,hi',y4.trans y5,y5 _ _ gT4,c5,some (.int (a:Int)),some (.int (gk (bh k i) (a - 1) (a+(x.drop (i+1)).sum))),hk5,vd.tail,?_⟩
   rw [gk_at hok]
   rw [show ((x.drop (i+1)).sum:Int)=((a+(x.drop (i+1)).sum:Nat):Int) - (a:Int) by omega]
   rw [show rk (qk k) (i+1) (x.drop (i+1))=rk (qk k) i (a::x.drop (i+1)) - cn (a - 1) (a+(x.drop (i+1)).sum) (qk k i) by rw [rke];omega]
   rfl
 · have c2:¬ (0:Int)<((x.drop i).sum:Int):=cc
   have le:=Fl.sum_len fd'
   rw [List.length_drop] at le
   have ei:i=x.length:=by omega
   subst ei
   rw [List.take_of_length_le (Nat.le_refl _)] at hT'
   refine ⟨_,.inl (SqL.of hT'),fun r H3 y3 hr3=>?_⟩
   exact q r H3 (y.trans y3) hr3
end
section
variable {P:Program} {w:World} {K:PySem.W.Frag} {mg:Str→Option Value} {base:Heap} {f:Addr} {fd:FuncData}
theorem sc_io:FnScope ["_law_kind_here","_law_parting_here","_law_word"] ["_law_kind_here","_law_parting_here"] (defScope (top 36)):=⟨rfl,rfl,rfl,by decide +kernel,rfl,by decide +kernel,by decide +kernel⟩
def sp_io:Sp:=fun vs H Q _=>∃ (c p:Addr) (k:Kn) (x:List Nat),vs=[.ref c,.ref p]∧KnAt H c k∧k.Ok∧noown k∧H p=some (.tup (nI x))∧x.length≤1000∧Fl x∧∀ H',Same H H'→Q (.bl (isf k x)) H'
theorem ok_io (F:Fun K "_law_is_of" "_law_is_of" (top 36) f fd) (m_all:mg "all" = none) (m_len:mg "len" = none) (m_range:mg "range" = none) (m_tuple:mg "tuple" = none)  : FnOk P w K mg base CX0 1 f fd ["_law_kind_here","_law_parting_here"] sp_io:=by
 refine F.okz sc_io (fun vs H Q E h=>?_) (fun cdv A outer s H vs Q E hr h=>?_)
 · obtain ⟨c,p,k,x,rfl,_⟩:=h;rfl
 obtain ⟨c,p,k,x,rfl,hk,hok,hno,hp,hl,hf,q⟩:=h
 have nd:=sc_io.nd
 have hu:=hr.units
 refine ⟨_,(zss_cons (zs_set (i:=2) nd rfl (Or.inl rfl) (ze_ix ix_P (zn 0) ze_int (fun _ _=>rfl)))
  (zss_cons (zs_if (ZW.zt (zw_and (zt_cmpP op_in_seq (zn 2) (ze_tup (za_cons ze_str (za_cons ze_str za_nil))) (by with_unfolding_all rfl)) (zw_and (zt_cmpP (op_neD hu) (zn 1) (ze_tup za_nil) (nomark _)) (zw_and1 (zt_cmpP op_gtP (ze_ix ix_P (zn 1) ze_int (fun _ _=>rfl)) (ze_ix ix_P (zn 0) ze_int (fun _ _=>rfl)) (nomark _)))))) (zss_one (zs_ret ze_bl)) zss_nil)
  (zss_cons (zs_if (ZW.zt (zw_and (zt_cmpP op_in_seq (zn 2) (ze_tup (za_cons ze_str (za_cons ze_str za_nil))) (by with_unfolding_all rfl)) (zw_and1 (zt_cmpP op_gtP (zcb_len rfl m_len (za_cons (zn 1) za_nil) rfl rfl) (ze_ix ix_P (zn 0) (ze_un un_neg ze_int) (fun _ _=>rfl)) (nomark _))))) (zss_one (zs_ret ze_bl)) zss_nil)
  (zss_cons (zs_if (zt_cmpP (op_eqD hu) (zn 2) ze_str (nomark _)) (zss_one (zs_ret (zcb_all rfl rfl m_all (za_cons (ze_comp ["_law_k"] [("_law_parting_here",1),("_law_kind_here",0)] rfl ⟨rfl,by decide +kernel,by decide +kernel,rfl,rfl⟩ (zi_range1 rfl m_range (za_cons (ze_op op_subP (zcb_len rfl m_len (za_cons (zn 1) za_nil) rfl rfl) ze_int) za_nil)) kpg_name (fun _ _ _ _=>zg_name (i:=0) (show List.Nodup (["_law_k","_law_parting_here","_law_kind_here"]:List Str) by decide +kernel) rfl (Or.inl rfl)) (fun _ _ _ _=>zif_nil) (fun _ _ _ _=>(ze_cmpR op_geP (ze_op op_subP (ze_ix (ix_P' rfl) (zn 1) (zn 0) (fun _ _=>rfl)) (ze_ix (ix_P' rfl) (zn 1) (ze_op op_addP (zn 0) ze_int) (fun _ _=>rfl))) (ze_ix (ix_P' rfl) (zn 2) ze_int (fun _ _=>rfl)) (nomark _)))) za_nil) rfl rfl))) zss_nil)
  (zss_cons (zs_if (zt_cmpP (op_eqD hu) (zn 2) ze_str (nomark _)) (zss_one (zs_ret (zcb_all rfl rfl m_all (za_cons (ze_comp ["_law_part"] [("_law_parting_here",1),("_law_kind_here",0)] rfl ⟨rfl,by decide +kernel,by decide +kernel,rfl,rfl⟩ (zi_tup (zn 1)) kpg_name (fun _ _ _ _=>zg_name (i:=0) (show List.Nodup (["_law_part","_law_parting_here","_law_kind_here"]:List Str) by decide +kernel) rfl (Or.inl rfl)) (fun _ _ _ _=>zif_nil) (fun _ _ _ _=>(ze_cmpR op_ltP (zm_count' (zn 1) (za_cons (zn 0) za_nil) rfl) (ze_ix (ix_P' rfl) (zn 2) ze_int (fun _ _=>rfl)) (nomark _)))) za_nil) rfl rfl))) zss_nil)
  (zss_cons (zs_if (zt_cmpP (op_eqD hu) (zn 2) ze_str (nomark _)) (zss_one (zs_ret (zcb_all rfl rfl m_all (za_cons (ze_comp ["_law_part"] [("_law_kind_here",0)] rfl ⟨rfl,by decide +kernel,by decide +kernel,rfl,rfl⟩ (zi_tup (zn 1)) kpg_name (fun _ _ _ _=>zg_name (i:=0) (show List.Nodup (["_law_part","_law_kind_here"]:List Str) by decide +kernel) rfl (Or.inl rfl)) (fun _ _ _ _=>zif_nil) (fun _ _ _ _=>(ze_cmpR (op_in_seq' rfl) (ze_op op_modP (zn 0) (ze_ix (ix_P' rfl) (zn 1) ze_int (fun _ _=>rfl))) (ze_ix (ix_P' rfl) (zn 1) ze_int (fun _ _=>rfl)) (by with_unfolding_all rfl)))) za_nil) rfl rfl))) zss_nil)
  (zss_cons (zs_if (ZW.zt (zw_and (zt_cmpP (op_eqD hu) (zn 2) ze_str (nomark _)) (zw_and1 (zt_cmpP (op_neD hu) (zn 1) (ze_tup za_nil) (nomark _))))) (zss_one (zs_ret (ze_cmpR (op_eqD hu) (zn 1) (zcb_tuple rfl m_tuple (za_cons (ze_comp1 "_law_k" ["_law_k"] [("_law_parting_here",1)] rfl ⟨rfl,by decide +kernel,rfl,rfl,fun _ _=>rfl,fun _=>rfl,rfl⟩ (zi_range2 rfl m_range (za_cons ze_int (za_cons (ze_op op_addP (ze_ix ix_P (zn 1) ze_int (fun _ _=>rfl)) ze_int) za_nil))) kpg_name (fun _ _ _ _=>zg_name (i:=0) (show List.Nodup (["_law_k","_law_parting_here"]:List Str) by decide +kernel) rfl (Or.inr rfl)) (fun _ _ _ _=>zif_nil) (fun _ _ _ _=>(zcb_len' rfl m_len (za_cons (ze_comp ["_law_part"] [("_law_k",0)] rfl ⟨rfl,by decide +kernel,by decide +kernel,rfl,rfl⟩ (zi_tup' (zn 1) rfl) kpg_name (fun _ _ _ _=>zg_name (i:=0) (show List.Nodup (["_law_part","_law_k"]:List Str) by decide +kernel) rfl (Or.inl rfl)) (fun _ _ _ _=>(zif_one (zt_cmpP op_geP (zn 0) (zn 1) (nomark _)))) (fun _ _ _ _=>ze_int)) za_nil) rfl rfl rfl))) za_nil) rfl rfl) (nomark _)))) zss_nil)
  (zss_one (zs_ret ze_bl))))))))),?_⟩
 cases k with
 | all=>
   refine ⟨_,.inr hk,.str "all",rfl,?_⟩
   refine ⟨by show 2≤sizeLine;decide,fun w1 hw1=>?_⟩
   have y1:=Same.new hw1 (HO.tup [V.str "most",.str "box"])
   refine ⟨w1,_,rfl,.inr (SqT.of upd_same),rfl,rfl,?_⟩
   generalize upd H w1 (HO.tup [V.str "most",.str "box"])=H1 at y1
   refine ⟨by show 2≤sizeLine;decide,fun w2 hw2=>?_⟩
   have yb:=Same.new hw2 (HO.tup [V.str "few",.str "box"])
   refine ⟨w2,_,rfl,.inr (SqT.of upd_same),rfl,rfl,?_⟩
   generalize upd H1 w2 (HO.tup [V.str "few",.str "box"])=H2 at yb
   have y2:=y1.trans yb
   have hp2:=y2 _ _ hp
   exact q _ y2
 | most k=>
   refine ⟨_,.inr hk,.str "most",rfl,?_⟩
   refine ⟨by show 2≤sizeLine;decide,fun w1 hw1=>?_⟩
   have y1:=Same.new hw1 (HO.tup [V.str "most",.str "box"])
   refine ⟨w1,_,rfl,.inr (SqT.of upd_same),rfl,rfl,?_⟩
   generalize upd H w1 (HO.tup [V.str "most",.str "box"])=H1 at y1
   refine ⟨Nat.zero_le _,fun e he=>?_⟩
   have ye:=y1.trans (Same.new he (HO.tup []))
   refine ⟨_,_,.ints (ye _ _ hp),.tup (xs:=[]) upd_same .nil,shaped_ints _,shaped_ints [],?_⟩
   generalize upd H1 e (HO.tup [])=H2 at ye
   have hp2:=ye _ _ hp
   have hk2:=ye _ _ hk
   rw [if_pos rfl,eqv_tuple_nil]
   cases x with
   | nil=>
     refine ⟨by show 2≤sizeLine;decide,fun w3 hw3=>?_⟩
     have y3:=Same.new hw3 (HO.tup [V.str "few",.str "box"])
     refine ⟨w3,_,rfl,.inr (SqT.of upd_same),rfl,rfl,?_⟩
     generalize upd H2 w3 (HO.tup [V.str "few",.str "box"])=H3 at y3
     exact q _ (ye.trans y3)
   | cons a r=>
     have al:=Fl.all_le rfl hf k
     refine ⟨_,.inr hp2,.int (a:Int),atI_of (j:=0) rfl rfl,?_⟩
     refine ⟨_,.inr hk2,.int k,rfl,?_⟩
     refine iteD (fun c=>?_) (fun c=>?_)
     · have c':(k:Int)<(a:Int):=c
       have e:isf (.most k) (a::r)=false:=by show ((a::r).all fun a=>decide (a≤k))=_;rw [al];exact decide_eq_false (by omega)
       rw [e] at q
       exact q _ ye
     · have c':¬ (k:Int)<(a:Int):=c
       have e:isf (.most k) (a::r)=true:=by show ((a::r).all fun a=>decide (a≤k))=_;rw [al];exact decide_eq_true (by omega)
       rw [e] at q
       refine ⟨by show 2≤sizeLine;decide,fun w3 hw3=>?_⟩
       have y3:=Same.new hw3 (HO.tup [V.str "few",.str "box"])
       refine ⟨w3,_,rfl,.inr (SqT.of upd_same),rfl,rfl,?_⟩
       generalize upd H2 w3 (HO.tup [V.str "few",.str "box"])=H3 at y3
       exact q _ (ye.trans y3)
 | few k=>
   refine ⟨_,.inr hk,.str "few",rfl,?_⟩
   refine ⟨by show 2≤sizeLine;decide,fun w1 hw1=>?_⟩
   have y1:=Same.new hw1 (HO.tup [V.str "most",.str "box"])
   refine ⟨w1,_,rfl,.inr (SqT.of upd_same),rfl,rfl,?_⟩
   generalize upd H w1 (HO.tup [V.str "most",.str "box"])=H1 at y1
   refine ⟨by show 2≤sizeLine;decide,fun w2 hw2=>?_⟩
   have yb:=Same.new hw2 (HO.tup [V.str "few",.str "box"])
   refine ⟨w2,_,rfl,.inr (SqT.of upd_same),rfl,rfl,?_⟩
   generalize upd H1 w2 (HO.tup [V.str "few",.str "box"])=H2 at yb
   have y2:=y1.trans yb
   have hp2:=y2 _ _ hp
   have hk2:=y2 _ _ hk
   refine ⟨_,.inr hp2,?_⟩
   refine ⟨1,rfl,_,.inr hk2,.int k,rfl,?_⟩
   rw [nI_len]
   refine iteD (fun c=>?_) (fun c=>?_)
   · have c':(k:Int)<(x.length:Int):=c
     have e:isf (.few k) x=false:=decide_eq_false (p:=x.length≤k) (by omega)
     rw [e] at q
     exact q _ y2
   · have c':¬ (k:Int)<(x.length:Int):=c
     have e:isf (.few k) x=true:=decide_eq_true (p:=x.length≤k) (by omega)
     rw [e] at q
     exact q _ y2
 | box k l=>
   refine ⟨_,.inr hk,.str "box",rfl,?_⟩
   refine ⟨by show 2≤sizeLine;decide,fun w1 hw1=>?_⟩
   have y1:=Same.new hw1 (HO.tup [V.str "most",.str "box"])
   refine ⟨w1,_,rfl,.inr (SqT.of upd_same),rfl,rfl,?_⟩
   generalize upd H w1 (HO.tup [V.str "most",.str "box"])=H1 at y1
   refine ⟨Nat.zero_le _,fun e he=>?_⟩
   have ye:=y1.trans (Same.new he (HO.tup []))
   refine ⟨_,_,.ints (ye _ _ hp),.tup (xs:=[]) upd_same .nil,shaped_ints _,shaped_ints [],?_⟩
   generalize upd H1 e (HO.tup [])=H2 at ye
   have hp2:=ye _ _ hp
   have hk2:=ye _ _ hk
   rw [if_pos rfl,eqv_tuple_nil]
   cases x with
   | nil=>
     refine ⟨by show 2≤sizeLine;decide,fun w3 hw3=>?_⟩
     have y3:=Same.new hw3 (HO.tup [V.str "few",.str "box"])
     refine ⟨w3,_,rfl,.inr (SqT.of upd_same),rfl,rfl,?_⟩
     generalize upd H2 w3 (HO.tup [V.str "few",.str "box"])=H3 at y3
     have hk3:=y3 _ _ hk2
     obtain ⟨xs0,hx0,hp3⟩:∃ xs0:List V,xs0.length=0∧H3 p=some (.tup xs0):=⟨nI [],rfl,y3 _ _ hp2⟩
     refine ⟨_,.inr hp3,?_⟩
     refine ⟨1,rfl,_,.inr hk3,.int l,rfl,?_⟩
     refine iteD (fun c=>?_) (fun c=>?_)
     · have c':(l:Int)<(xs0.length:Int):=c
       omega
     · exact q _ (ye.trans y3)
   | cons a r=>
     have al:=Fl.all_le rfl hf k
     have eb:isf (.box k l) (a::r)=(decide ((a::r).length≤l)&&decide (a≤k)):=by rw [← al];rfl
     rw [eb] at q
     refine ⟨_,.inr hp2,.int (a:Int),atI_of (j:=0) rfl rfl,?_⟩
     refine ⟨_,.inr hk2,.int k,rfl,?_⟩
     refine iteD (fun c=>?_) (fun c=>?_)
     · have c':(k:Int)<(a:Int):=c
       rw [show decide (a≤k)=false from decide_eq_false (by omega),Bool.and_false] at q
       exact q _ ye
     · have c':¬ (k:Int)<(a:Int):=c
       rw [show decide (a≤k)=true from decide_eq_true (by omega),Bool.and_true] at q
       refine ⟨by show 2≤sizeLine;decide,fun w3 hw3=>?_⟩
       have y3:=Same.new hw3 (HO.tup [V.str "few",.str "box"])
       refine ⟨w3,_,rfl,.inr (SqT.of upd_same),rfl,rfl,?_⟩
       generalize upd H2 w3 (HO.tup [V.str "few",.str "box"])=H3 at y3
       have hp3:=y3 _ _ hp2
       have hk3:=y3 _ _ hk2
       refine ⟨_,.inr hp3,?_⟩
       refine ⟨1,rfl,_,.inr hk3,.int l,rfl,?_⟩
       rw [nI_len]
       refine iteD (fun c=>?_) (fun c=>?_)
       · have c':(l:Int)<((a::r).length:Int):=c
         rw [show decide ((a::r).length≤l)=false from decide_eq_false (by omega)] at q
         exact q _ (ye.trans y3)
       · have c':¬ (l:Int)<((a::r).length:Int):=c
         rw [show decide ((a::r).length≤l)=true from decide_eq_true (by omega)] at q
         exact q _ (ye.trans y3)
 | times m=>
   refine ⟨_,.inr hk,.str "times",rfl,?_⟩
   refine ⟨by show 2≤sizeLine;decide,fun w1 hw1=>?_⟩
   have y1:=Same.new hw1 (HO.tup [V.str "most",.str "box"])
   refine ⟨w1,_,rfl,.inr (SqT.of upd_same),rfl,rfl,?_⟩
   generalize upd H w1 (HO.tup [V.str "most",.str "box"])=H1 at y1
   refine ⟨by show 2≤sizeLine;decide,fun w2 hw2=>?_⟩
   have yb:=Same.new hw2 (HO.tup [V.str "few",.str "box"])
   refine ⟨w2,_,rfl,.inr (SqT.of upd_same),rfl,rfl,?_⟩
   generalize upd H1 w2 (HO.tup [V.str "few",.str "box"])=H2 at yb
   have y2:=y1.trans yb
   have hp2:=y2 _ _ hp
   have hk2:=y2 _ _ hk
   refine ⟨p,rfl,⟨_,SqT.of hp2⟩,cmp_tup (xs:=nI x) (fun i ys H'=>H'=H2∧i≤x.length∧ys=((x.take i).map fun a:Nat=>decide (x.count a<m)).map V.bl) ⟨rfl,Nat.zero_le _,rfl⟩ ?_ ?_ ?_⟩
   · rintro i ys H' _ ⟨rfl,_⟩
     exact SqT.of hp2
   · rintro i v ys H' hv ⟨rfl,hi,rfl⟩
     obtain ⟨a,ha,rfl⟩:=nI_at hv
     have hi':=(List.getElem?_eq_some_iff.mp ha).1
     refine ⟨by rw [List.length_map,List.length_map,List.length_take];exact small1000 (by omega),?_⟩
     refine ⟨tyT hp2,_,hp2,?_⟩
     refine ⟨_,.inr hk2,.int m,rfl,?_⟩
     refine ⟨rfl,hi',?_⟩
     rw [take_more _ ha,List.map_append]
     rw [show decide (x.count a<m)=decide (((x.map fun (k:Nat)=>(k:Int)).count (a:Int):Int)<(m:Int)) from decide_eq_decide.mpr (by rw [countI];omega)]
     rfl
   · rintro ys H' ⟨rfl,hi,rfl⟩ D hD
     refine ⟨_,SqL.of upd_same,?_⟩
     rw [nI_len,List.take_of_length_le (Nat.le_refl _),List.all_map]
     exact q _ (y2.trans (Same.new hD _))
 | rests m rs=>
   obtain ⟨d,hk,hd⟩:=hk
   refine ⟨_,.inr hk,.str "rests",rfl,?_⟩
   refine ⟨by show 2≤sizeLine;decide,fun w1 hw1=>?_⟩
   have y1:=Same.new hw1 (HO.tup [V.str "most",.str "box"])
   refine ⟨w1,_,rfl,.inr (SqT.of upd_same),rfl,rfl,?_⟩
   generalize upd H w1 (HO.tup [V.str "most",.str "box"])=H1 at y1
   refine ⟨by show 2≤sizeLine;decide,fun w2 hw2=>?_⟩
   have yb:=Same.new hw2 (HO.tup [V.str "few",.str "box"])
   refine ⟨w2,_,rfl,.inr (SqT.of upd_same),rfl,rfl,?_⟩
   generalize upd H1 w2 (HO.tup [V.str "few",.str "box"])=H2 at yb
   have y2:=y1.trans yb
   have hp2:=y2 _ _ hp
   have hk2:=y2 _ _ hk
   have hd2:=y2 _ _ hd
   have hm:=hok.1
   refine ⟨p,rfl,⟨_,SqT.of hp2⟩,cmp_tup (xs:=nI x) (fun i ys H'=>H'=H2∧i≤x.length∧ys=((x.take i).map fun a:Nat=>decide ((a:Int) % (m:Int)∈rs)).map V.bl) ⟨rfl,Nat.zero_le _,rfl⟩ ?_ ?_ ?_⟩
   · rintro i ys H' _ ⟨rfl,_⟩
     exact SqT.of hp2
   · rintro i v ys H' hv ⟨rfl,hi,rfl⟩
     obtain ⟨a,ha,rfl⟩:=nI_at hv
     have hi':=(List.getElem?_eq_some_iff.mp ha).1
     refine ⟨by rw [List.length_map,List.length_map,List.length_take];exact small1000 (by omega),?_⟩
     refine ⟨_,.inr hk2,.int m,rfl,(show (0:Int)<(m:Int) by omega),?_⟩
     refine ⟨_,.inr hk2,.ref d,rfl,?_⟩
     refine ⟨d,_,rfl,.inr (SqT.of hd2),rfl,flat_ints rs,?_⟩
     rw [in_ints]
     refine ⟨rfl,hi',?_⟩
     rw [take_more _ ha,List.map_append]
     rfl
   · rintro ys H' ⟨rfl,hi,rfl⟩ D hD
     refine ⟨_,SqL.of upd_same,?_⟩
     rw [nI_len,List.take_of_length_le (Nat.le_refl _),List.all_map]
     exact q _ (y2.trans (Same.new hD _))
 | off d=>
   refine ⟨_,.inr hk,.str "off",rfl,?_⟩
   refine ⟨by show 2≤sizeLine;decide,fun w1 hw1=>?_⟩
   have y1:=Same.new hw1 (HO.tup [V.str "most",.str "box"])
   refine ⟨w1,_,rfl,.inr (SqT.of upd_same),rfl,rfl,?_⟩
   generalize upd H w1 (HO.tup [V.str "most",.str "box"])=H1 at y1
   refine ⟨by show 2≤sizeLine;decide,fun w2 hw2=>?_⟩
   have yb:=Same.new hw2 (HO.tup [V.str "few",.str "box"])
   refine ⟨w2,_,rfl,.inr (SqT.of upd_same),rfl,rfl,?_⟩
   generalize upd H1 w2 (HO.tup [V.str "few",.str "box"])=H2 at yb
   have y2:=y1.trans yb
   have hp2:=y2 _ _ hp
   have hk2:=y2 _ _ hk
   have zl:(zb d x).length=x.length - 1:=by unfold zb;rw [List.length_zipWith,List.length_tail];omega
   rw [show isf (.off d) x=(zb d x).all id from vd_zb d x] at q
   refine ⟨_,.inr hp2,?_⟩
   rw [nI_len]
   have eN:((x.length:Int) - 1).toNat=x.length - 1:=by omega
   refine ⟨(x.length:Int) - 1,rfl,by omega,by omega,?_⟩
   rw [eN]
   refine cmp_range (fun i ys H'=>H'=H2∧i≤x.length - 1∧ys=((zb d x).take i).map V.bl) ⟨rfl,Nat.zero_le _,rfl⟩ ?_ ?_
   · rintro i ys H' hi ⟨rfl,_,rfl⟩
     have h0:i<x.length:=by omega
     have h1:i+1<x.length:=by omega
     have g0:x[i]? = some x[i]:=List.getElem?_eq_getElem h0
     have g1:x[i+1]? = some x[i+1]:=List.getElem?_eq_getElem h1
     have hz:=zb_get (d:=d) g0 g1
     generalize x[i]=a at g0 hz
     generalize x[i+1]=b at g1 hz
     refine ⟨by rw [List.length_map,List.length_take];exact small1000 (by omega),?_⟩
     refine ⟨_,.inr hp2,.int (a:Int),atI_of (j:=i) (by omega) (nI_get g0),?_⟩
     refine ⟨_,.inr hp2,.int (b:Int),atI_of (j:=i+1) (by omega) (nI_get g1),?_⟩
     refine ⟨_,.inr hk2,.int d,rfl,?_⟩
     refine ⟨rfl,by omega,?_⟩
     rw [List.take_succ,hz,List.map_append]
     rw [show decide (b+d≤a)=decide ((d:Int)≤(a:Int) - (b:Int)) from decide_eq_decide.mpr (by omega)]
     rfl
   · rintro ys H' ⟨rfl,hi,rfl⟩ D hD
     refine ⟨_,SqL.of upd_same,?_⟩
     rw [← zl,List.take_of_length_le (Nat.le_refl _)]
     exact q _ (y2.trans (Same.new hD _))
 | own=>exact hno.elim
end
end K65
namespace SRV
open PySem PySem.W PySem.Calls
open PyProof.Rows hiding K SortedTo K_bubble K_mirror K_congr K_mirror_equal
def lexb:List Int→List Int→Bool
 | [],[]=>false
 | [],_::_=>true
 | _::_,[]=>false
 | a::as,b::bs=>if a=b then lexb as bs else decide (a<b)
def TI (h:Heap) (v:Value) (ns:List Int):Prop:=∃ a o its n,v=.ref a∧h.get? a=some o∧o.cls=.type "tuple"∧o.data=.seq (List.toArray its) n∧IntsAre its ns
end SRV
namespace M63
open M11 M66 SRV
def toI (x:List Nat):List Int:=x.map fun (k:Nat)=>(k:Int)
def Asc (m n:Nat):List (List Nat):=(Lst m n).reverse
theorem asc_zero (n:Nat):Asc 0 n=if n=0 then [[]] else []:=by
 unfold Asc
 show (if n=0 then [[]] else []:List (List Nat)).reverse=_
 split <;> rfl
theorem asc_eq (m n:Nat):Asc (m+1) n=Asc m n++(if m+1≤n then (Asc (m+1) (n - (m+1))).map ((m+1)::·) else []):=by
 unfold Asc
 rw [ls_eq,List.reverse_append]
 congr 1
 split
 · rw [List.map_reverse]
 · rfl
theorem asc_mem {m n:Nat} {x:List Nat}:x∈Asc m n↔x∈Lst m n:=List.mem_reverse
theorem asc_low {m n:Nat} (h:n≤m):Asc m n=Asc n n:=by
 obtain ⟨e,rfl⟩:∃ e,m=n+e:=⟨m - n,by omega⟩
 induction e with
 | zero=>rfl
 | succ e ih=>rw [show n+(e+1)=(n+e)+1 by omega,asc_eq,if_neg (by omega),List.append_nil];exact ih (by omega)
theorem ls_fl:∀ (m n:Nat) (x:List Nat),x∈Asc m n→Fl x:=by
 intro m
 induction m with
 | zero=>
   intro n x hx
   rw [asc_zero] at hx
   split at hx
   · rw [List.mem_singleton.mp hx];trivial
   · cases hx
 | succ m ih=>
   intro n
   induction n using Nat.strongRecOn with
   | ind n ihn=>
     intro x hx
     rw [asc_eq] at hx
     rcases List.mem_append.mp hx with hx | hx
     · exact ih n x hx
     · split at hx
       · rename_i hn
         obtain ⟨y,hy,rfl⟩:=List.mem_map.mp hx
         have fy:=ihn _ (by omega) y hy
         have by':=(ls_mem _ _ y (asc_mem.mp hy)).1
         cases y with
         | nil=>show 1≤m+1;omega
         | cons b r=>exact ⟨(by' b List.mem_cons_self).2,fy⟩
       · cases hx
theorem asc_up:∀ (m n:Nat),(Asc m n).Pairwise (fun a b=>lexb (toI a) (toI b)=true):=by
 intro m
 induction m with
 | zero=>
   intro n
   rw [asc_zero]
   split
   · exact List.pairwise_singleton _ _
   · exact .nil
 | succ m ih=>
   intro n
   induction n using Nat.strongRecOn with
   | ind n ihn=>
     rw [asc_eq]
     refine List.pairwise_append.mpr ⟨ih n,?_,fun a ha b hb=>?_⟩
     · split
       · rename_i hn
         rw [List.pairwise_map]
         refine (ihn _ (by omega)).imp fun {a b} h=>?_
         show lexb (((m+1:Nat):Int)::toI a) (((m+1:Nat):Int)::toI b)=true
         rw [lexb,if_pos rfl]
         exact h
       · exact .nil
     · split at hb
       · obtain ⟨y,hy,rfl⟩:=List.mem_map.mp hb
         show lexb (toI a) (((m+1:Nat):Int)::toI y)=true
         cases a with
         | nil=>rfl
         | cons c r=>
           have:=((ls_mem _ _ _ (asc_mem.mp ha)).1 c List.mem_cons_self).2
           show lexb ((c:Int)::toI r) (((m+1:Nat):Int)::toI y)=true
           rw [lexb,if_neg (by omega)]
           exact decide_eq_true (by omega)
       · cases hb
theorem ranks {l:List Int} (p:l.Pairwise (· < ·)) (lo:∀ z∈l,0≤z) (hi:∀ z∈l,z<(l.length:Int)):∀ (j:Nat) z,l[j]? = some z→z=(j:Int):=by
 have st:∀ i (h:i+1<l.length),l[i]<l[i+1]:=fun i h=>List.pairwise_iff_getElem.mp p i (i+1) (by omega) h (by omega)
 have up:∀ j (h:j<l.length),(j:Int)≤l[j]:=by
  intro j
  induction j with
  | zero=>intro h;exact lo _ (List.getElem_mem h)
  | succ j ih=>intro h;have:=ih (by omega);have:=st j h;omega
 have dn:∀ e j (h:j<l.length),j+1+e=l.length→l[j]≤(j:Int):=by
  intro e
  induction e with
  | zero=>intro j h he;have:=hi _ (List.getElem_mem h);omega
  | succ e ih=>intro j h he;have:=ih (j+1) (by omega) (by omega);have:=st j (by omega);omega
 intro j z hz
 obtain ⟨h,rfl⟩:=List.getElem?_eq_some_iff.mp hz
 have:=up j h
 have:=dn (l.length - (j+1)) j h (by omega)
 omega
end M63
namespace MP
def pb:Nat→Nat→Nat→List (List Int)
 | 0,_,_=>[[]]
 | f+1,n,m=>if n=0 then [[]] else (List.range (min n m)).flatMap fun i=>(pb f (n - (i+1)) (i+1)).map fun b=>((i+1:Nat):Int)::b
theorem pb_zero (f m:Nat):pb f 0 m=[[]]:=by cases f <;> rfl
theorem flat_congr {α β:Type} {f g:α→List β}:∀ {l:List α},(∀ a∈l,f a=g a)→l.flatMap f=l.flatMap g
 | [],_=>rfl
 | a::l,h=>by rw [List.flatMap_cons,List.flatMap_cons,h a List.mem_cons_self,flat_congr fun b hb=>h b (List.mem_cons_of_mem _ hb)]
theorem pb_fuel:∀ (f n m:Nat),n≤f→pb f n m=pb n n m
 | 0,n,m,h=>by
   have:n=0:=by omega
   subst this;rfl
 | f+1,0,m,_=>by rw [pb_zero];rfl
 | f+1,n+1,m,h=>by
   show (if n+1=0 then [[]] else (List.range (min (n+1) m)).flatMap fun i=>(pb f (n+1 - (i+1)) (i+1)).map fun b=>((i+1:Nat):Int)::b)=(if n+1=0 then [[]] else (List.range (min (n+1) m)).flatMap fun i=>(pb n (n+1 - (i+1)) (i+1)).map fun b=>((i+1:Nat):Int)::b)
   rw [if_neg (by omega),if_neg (by omega)]
   refine flat_congr fun i hi=>?_
   rw [pb_fuel f (n+1 - (i+1)) (i+1) (by omega),pb_fuel n (n+1 - (i+1)) (i+1) (by omega)]
def PB (n m:Nat):List (List Int):=pb n n m
def blk (n i:Nat):List (List Int):=(PB (n - (i+1)) (i+1)).map fun b=>((i+1:Nat):Int)::b
theorem PB_zero (m:Nat):PB 0 m=[[]]:=rfl
theorem PB_eq {n:Nat} (h:n≠0) (m:Nat):PB n m=(List.range (min n m)).flatMap (blk n):=by
 cases n with
 | zero=>exact absurd rfl h
 | succ n=>
   show (if n+1=0 then [[]] else (List.range (min (n+1) m)).flatMap fun i=>(pb n (n+1 - (i+1)) (i+1)).map fun b=>((i+1:Nat):Int)::b)=_
   rw [if_neg (by omega)]
   refine flat_congr fun i hi=>?_
   unfold blk PB
   rw [pb_fuel n (n+1 - (i+1)) (i+1) (by omega)]
def bs (n k:Nat):List (List Int):=(List.range k).flatMap (blk n)
theorem bs_zero (n:Nat):bs n 0=[]:=rfl
theorem bs_succ (n k:Nat):bs n (k+1)=bs n k++blk n k:=by unfold bs;rw [List.range_succ,List.flatMap_append];simp
theorem blk_len (n i:Nat):(blk n i).length=(PB (n - (i+1)) (i+1)).length:=by unfold blk;rw [List.length_map]
theorem len_all:∀ (N n m:Nat),n≤N→(PB n m).length≤2 ^ n
 | 0,n,m,h=>by
   have:n=0:=by omega
   subst this;exact Nat.le_refl _
 | N+1,n,m,h=>by
   by_cases h0:n=0
   · subst h0;exact Nat.le_refl _
   · rw [PB_eq h0]
     have key:∀ k,k≤n→(bs n k).length+2 ^ (n - k)≤2 ^ n:=by
      intro k
      induction k with
      | zero=>intro _;rw [bs_zero];simp
      | succ k ih=>
        intro hk
        have h1:=ih (by omega)
        have h2:=len_all N (n - (k+1)) (k+1) (by omega)
        rw [bs_succ,List.length_append,blk_len]
        have h3:2 ^ (n - k)=2*2 ^ (n - (k+1)):=by
         rw [show n - k=(n - (k+1))+1 by omega,Nat.pow_succ,Nat.mul_comm]
        omega
     have:=key (min n m) (Nat.min_le_left _ _)
     exact Nat.le_trans (Nat.le_trans (Nat.le_add_right _ _) this) (Nat.le_refl _)
theorem PB_len (n m:Nat):(PB n m).length≤2 ^ n:=len_all n n m (Nat.le_refl n)
end MP
namespace M05
open MRow M80 M17 M12 M11 M66 M63 MP
theorem asc_blocks {n:Nat} (h:n≠0):∀ m,Asc m n=(List.range m).flatMap fun i=>if i+1≤n then (Asc (i+1) (n - (i+1))).map ((i+1)::·) else []
 | 0=>by rw [asc_zero,if_neg h];rfl
 | m+1=>by
   rw [asc_eq,asc_blocks h m,List.range_succ,List.flatMap_append]
   simp
theorem PB_asc:∀ (N n m:Nat),n≤N→PB n m=(Asc m n).map toI:=by
 intro N
 induction N with
 | zero=>
   intro n m h
   have:n=0:=by omega
   subst this
   rw [PB_zero]
   rw [asc_low (Nat.zero_le m),asc_zero]
   rfl
 | succ N ih=>
   intro n m h
   by_cases h0:n=0
   · subst h0
     rw [PB_zero,asc_low (Nat.zero_le m),asc_zero]
     rfl
   · have e:Asc m n=Asc (min n m) n:=by
      by_cases hm:n≤m
      · rw [Nat.min_eq_left hm,asc_low hm]
      · rw [Nat.min_eq_right (by omega)]
     rw [PB_eq h0,e,asc_blocks h0,List.map_flatMap]
     refine flat_congr fun i hi=>?_
     have hi:=List.mem_range.mp hi
     rw [if_pos (by omega),List.map_map]
     unfold MP.blk
     rw [ih (n - (i+1)) (i+1) (by omega),List.map_map]
     rfl
theorem asc_one:∀ n,Asc 1 n=[List.replicate n 1]:=by
 intro n
 induction n with
 | zero=>rw [asc_low (by decide),asc_zero];rfl
 | succ n ih=>rw [asc_eq,asc_zero,if_neg (by omega),if_pos (by omega),Nat.add_sub_cancel,ih];rfl
theorem asc_first:∀ (m n:Nat),(Asc (m+1) n)[0]? = some (List.replicate n 1)
 | 0,n=>by rw [asc_one];rfl
 | m+1,n=>by
   rw [asc_eq,List.getElem?_append_left]
   · exact asc_first m n
   · have:=asc_first m n
     exact (List.getElem?_eq_some_iff.mp this).1
end M05
namespace SRV
open PySem PySem.Calls PyProof.Rows
section
variable {prog:Program} {w:World} {A:Around} {E:Value→Shared→Prop} {s:Shared}
theorem TI.typeIs {s:Shared} {a:Addr} {x:List Int} (h:TI s.heap (.ref a) x):s.TypeIs (.ref a) "tuple":=by
 obtain ⟨a',o,its,n,e,ho,hc,_⟩:=h
 cases e
 exact ⟨o,ho,hc⟩
theorem tuple_lt_tree {x y:List Int} {a b:Addr} {P:Fin→Shared→Prop} (hx:TI s.heap (.ref a) x) (hy:TI s.heap (.ref b) y) (h:P (.done (.ret (.bool (lexb x y)))) s) :
 wpAny (model prog w) A (Builtin.«tuple.__lt__» ⟨[.ref a,.ref b],[]⟩) P E s:=by
 have hTb:=hy.typeIs
 obtain ⟨a',oa,xs,na,ea,hoa,_,hda,hia⟩:=hx
 cases ea
 obtain ⟨b',ob,ys,nb,eb,hob,_,hdb,hib⟩:=hy
 cases eb
 show wpAny _ _ (isInstance (.ref b) (.type "tuple") >>= _) _ _ s
 refine wpAny_bind (wpAny_isInstance hTb isSubtype_tuple_tuple ?_)
 simp only [Bool.not_true,Bool.false_eq_true,if_false]
 refine wpAny_bind (wpAny_tupleItemsOf hoa hda ?_)
 refine wpAny_bind (wpAny_tupleItemsOf hob hdb ?_)
 refine wpAny_bind ?_
 refine wpAny_forIn_list _
  (fun rest r s'=>r.1=none∧s'=s∧∃ (x' y':List Int) (xs' ys':List Value),rest=List.zip xs' ys'∧IntsAre xs' x'∧IntsAre ys' y'∧lexb x' y'=lexb x y∧xs'.length+ys.length=ys'.length+xs.length)
  _ ?_ ?_ _ _ ⟨rfl,rfl,x,y,xs,ys,by simp,hia,hib,rfl,by omega⟩
 · rintro ⟨u,v⟩ rest r s' ⟨hr,rfl,x',y',xs',ys',hz,hx',hy',hdec,hlen⟩
   cases hx' with
   | nil=>simp at hz
   | @cons k1 t1 x'' xs'' hx''=>
     cases hy' with
     | nil=>simp at hz
     | @cons k2 t2 y'' ys'' hy''=>
       simp only [List.zip_cons_cons,List.cons.injEq,Prod.mk.injEq] at hz
       obtain ⟨⟨rfl,rfl⟩,rfl⟩:=hz
       refine wpAny_bind (wpAny_eqBool_int ?_)
       by_cases hk:k1=k2
       · subst hk
         rw [beq_self_eq_true]
         refine wpAny_pure ⟨rfl,rfl,_,_,_,_,rfl,hx'',hy'',?_,?_⟩
         · rw [← hdec,lexb,if_pos rfl]
         · rw [List.length_cons,List.length_cons] at hlen;omega
       · have:(k1 == k2)=false:=by simpa using hk
         rw [this]
         have hf:lexb x y=decide (k1<k2):=by rw [← hdec,lexb,if_neg hk]
         rw [hf] at h
         refine wpAny_bind (wpAny_rule ?_)
         refine wpAny_bind (show wpAny _ _ (compareOp .Lt (.int k1 t1) (.int k2 t2)) _ _ _ from lt_int ?_)
         exact wpAny_bind (wpAny_pure (wpAny_pure (wpAny_pure h)))
 · rintro ⟨r1,r2⟩ s' ⟨hr,rfl,x',y',xs',ys',hz,hx',hy',hdec,hlen⟩
   simp only at hr
   subst hr
   refine wpAny_pure ?_
   have hfin:Builtin.Tuple.tupleCompareSizes .Lt xs.toArray.size ys.toArray.size=.bool (lexb x y):=by
    rw [← hdec]
    show Value.bool (decide (xs.toArray.size<ys.toArray.size))=_
    congr 1
    rw [List.size_toArray,List.size_toArray]
    cases hx' with
    | nil=>
      cases hy' with
      | nil=>show decide _=false;exact decide_eq_false (by simp at hlen;omega)
      | cons _ _=>show decide _=true;exact decide_eq_true (by simp at hlen;omega)
    | cons _ _=>
      cases hy' with
      | nil=>show decide _=false;exact decide_eq_false (by simp at hlen;omega)
      | cons _ _=>simp at hz
   rw [hfin];exact h
theorem lt_tuple {x y:List Int} {a b:Addr} {Q:Value→Shared→Prop} (hu:A.units<cLine) (hx:TI s.heap (.ref a) x) (hy:TI s.heap (.ref b) y) (h:Q (.bool (lexb x y)) s) :
 wpAny (model prog w) A (compareOp .Lt (.ref a) (.ref b)) Q E s:=by
 show wpAny _ _ (richCompare .Lt (.ref a) (.ref b)) Q E s
 exact wpAny_richCompare_same_room (op:=.Lt) hx.typeIs hy.typeIs F.slot_tuple_lt
  (wpAny_call_entry F.slot_tuple_lt hx.typeIs F.entry_tuple_lt (tuple_lt_tree hx hy ⟨_,rfl,(fun e=>nomatch e),h⟩) (F.args_tuple_lt_2 _ _)) hu
end
end SRV
namespace L2
open PySem PySem.Spec PyProof.Rows
section
variable {X:Cx}
def rLtU:R2:=fun x y H Q=>match x,y with
 | .int i,.int j=>Q (.bl (decide (i<j))) H
 | .ref a,.ref b=>∃ as bs:List Int,H a=some (.tup (as.map V.int))∧H b=some (.tup (bs.map V.int))∧Q (.bl (SRV.lexb as bs)) H
 | _,_=>False
theorem op_ltU (hu:X.A.units+64<cLine):OpR X (compareOp .Lt) rLtU:=by
 intro pins s σ H x y v u Q I rx ry h
 unfold rLtU at h
 split at h
 · exact op_ltP pins s σ H _ _ v u Q I rx ry h
 · rename_i a b
   obtain ⟨as,bs,ha,hb,q⟩:=h
   cases rx
   cases ry
   have ti:∀ {c:Addr} {ns:List Int},H c=some (.tup (ns.map V.int))→SRV.TI s.heap (.ref c) ns:=fun {c ns} e=>by
    obtain ⟨its,rv,pl,hz⟩:=I.tuple (SqT.of e)
    obtain ⟨o,ho,hc,n,hdd⟩:=id pl
    exact ⟨_,o,its,n,rfl,ho,hc,hdd,intsAre_of rv⟩
   exact SRV.lt_tuple (by omega) (ti ha) (ti hb) ⟨.bl _,H,I,rfl,q⟩
 · exact h.elim
end
section
variable {X:Cx}
def rMinS (K:PySem.W.Frag):List V→Hp→VK→Prop:=fun xs H Q=>match xs with
 | [.ref p]=>∃ ns:List Int,(SqL K H p (ns.map V.int)∨H p=some (.tup (ns.map V.int)))∧ns≠[]∧∀ M,M∈ns→(∀ n∈ns,M≤n)→Q (.int M) H
 | _=>False
theorem call_minS (hc:X.calm=true):CallR X (.builtin "min") (rMinS X.K):=by
 intro pins s σ H xs us Q I r h
 unfold rMinS at h
 split at h
 · rename_i p
   obtain ⟨ns,hq,hne,q⟩:=h
   rcases hq with hq | hq
   · obtain ⟨u,rfl,rx⟩:=vals1 r
     cases rx
     have hh:X.A.in1.handled=none:=I.ok.hd hc
     have hb:=least_is hne
     obtain ⟨its,rv,pl,hz⟩:=I.list hq
     have hlen:its.length=ns.length:=by rw [← rv.length,List.length_map]
     have hlt:p<s.heap.objs.size:=by
      obtain ⟨_,e,_⟩:=pl.isList
      exact Heap.lt_size e
     refine call_min_walk (wpAny_pyIter_list pl.isList ?_)
     refine ⟨s.heap.objs.size,_,_,_,_,_,_,rfl,Walks.list hh s.heap.objs.size p (Nat.ne_of_lt hlt) its.toArray,⟨⟨_,Heap.get?_push_size _ rfl,rfl,rfl⟩,pl.isList.push _⟩,?_,?_,CmpOf.ints_lt (fun i=>ns.getD i 0) (fun i v hv=>ints_at rv hv),fun v h' tk hv hk=>?_⟩
     · intro b hb
       rw [Heap.size_push]
       rcases List.mem_cons.mp hb with rfl | hb
       · exact Nat.lt_succ_self _
       · rcases List.mem_cons.mp hb with rfl | hb
         · exact Nat.lt_succ_of_lt hlt
         · cases hb
     · rw [List.size_toArray,hlen];exact List.length_pos_iff.mpr hne
     · obtain ⟨t,rfl⟩:=ints_at rv hv
       refine ⟨.int _,H,I.kept fun b o e=>hk b o (by simpa using Nat.ne_of_lt (Heap.lt_size e)) (Heap.get?_push_of_some _ e),⟨t,rfl⟩,?_⟩
       rw [List.size_toArray,hlen]
       exact q _ hb.1 hb.2
   · exact call_minT hc pins s σ H _ us Q I r ⟨ns,hq,hne,q⟩
 · exact h.elim
theorem zcb_minS {e:Expr} {es:List Expr} {t:TA} {p pos:Pos} (hc:X.calm=true) (hg:Gl X "min") (hm:X.mg "min" = none) (ha:ZA X (e::es) t) (he:starEach (e::es) X.env=(false,eval e X.env)::starEach es X.env) (hpl:(backTo pos (starEach es X.env)).any (·.1)=false) :
 ZE X (.Call (.Name "min" p) (e::es) [] pos) (tCB (rMinS X.K) t):=by with_unfolding_all exact pe_callB (call_minS hc) hg hm boot_min' ha (by decide) (by decide) he hpl
end
end L2
namespace K65
open PySem L2 MRow M27 M80 M17 M12 M24 M11 M66 M63 M68
theorem isf_cf {k:Kn} (hok:k.Ok) (hno:noown k) {n:Nat} (hn:n≤600):cn n n (isf k)=cf k n n:=by
 cases k with
 | all=>
   show cn n n (fun _=>true)=PL dl (ups n) n
   rw [← fl_all n,← cn_all (fun _=>true) n n]
   exact cn_congr fun x _=>(List.all_eq_true.mpr fun _ _=>rfl).symm
 | most k=>
   show cn n n (fun x=>x.all fun a=>decide (a≤k))=PL dl (ups (min k n)) n
   rw [cn_all,fl_most]
 | few k=>
   show cn n n (fun x=>decide (x.length≤k))=PL dl (ups (min k n)) n
   rw [cn_few,R_min (Nat.le_refl n)]
 | times m=>exact cn_times hok.1 n n
 | rests m rs=>exact cn_all (fun a=>decide ((a:Int) % (m:Int)∈rs)) n n
 | box k l=>show cn n n (inb k l)=bx l (min k n) n;rw [cn_box,Nat.min_comm]
 | off d=>exact cn_off hok.1 hn
 | own=>exact hno.elim
theorem rk_mono {k:Kn} (hok:k.Ok):∀ (x y:List Nat) (i:Nat),Vd k i x→Vd k i y→Fl x→Fl y→x.sum=y.sum→SRV.lexb (toI x) (toI y)=true→rk (qk k) i x<rk (qk k) i y
 | [],[],_,_,_,_,_,_,h=>by cases h
 | [],b::y,_,_,_,_,fy,e,_=>by
   have:=Fl.pos fy b List.mem_cons_self
   rw [List.sum_nil,List.sum_cons] at e
   omega
 | _::_,[],_,_,_,_,_,_,h=>by cases h
 | a::x,b::y,i,vx,vy,fx,fy,e,h=>by
   have h:SRV.lexb ((a:Int)::toI x) ((b:Int)::toI y)=true:=h
   rw [List.sum_cons,List.sum_cons] at e
   have e1:rk (qk k) i (a::x)=cn (a - 1) (a+x.sum) (qk k i)+rk (qk k) (i+1) x:=rfl
   have e2:rk (qk k) i (b::y)=cn (b - 1) (b+y.sum) (qk k i)+rk (qk k) (i+1) y:=rfl
   rw [SRV.lexb] at h
   by_cases hab:a=b
   · subst hab
     rw [if_pos rfl] at h
     have:=rk_mono hok x y (i+1) vx.tail vy.tail fx.tail fy.tail (by omega) h
     rw [e1,e2,show x.sum=y.sum by omega]
     omega
   · rw [if_neg (by omega)] at h
     have hlt:=of_decide_eq_true h
     have lt:=rk_k hok x i a vx fx
     have le:=cn_le (b+y.sum) (qk k i) (show a≤b - 1 by omega)
     have p:=rk_pos (qk k) y (i+1)
     rw [e] at lt
     omega
theorem rk_at {k:Kn} (hok:k.Ok) (hno:noown k) {n:Nat} (hn:n≤300) {j:Nat} {x:List Nat} (h:((Asc n n).filter (isf k))[j]? = some x):rk (qk k) 0 x=(j:Int):=by
 have mem:∀ y∈(Asc n n).filter (isf k),isf k y=true∧Fl y∧y.sum=n:=fun y hy=>by
  obtain ⟨h1,h2⟩:=List.mem_filter.mp hy
  exact ⟨h2,ls_fl _ _ _ h1,(ls_mem _ _ _ (asc_mem.mp h1)).2⟩
 have len:(((Asc n n).filter (isf k)).length:Int)=cf k n n:=by
  rw [← isf_cf hok hno (by omega),← List.countP_eq_length_filter]
  unfold cn Asc
  rw [List.countP_reverse]
 refine ranks (l:=((Asc n n).filter (isf k)).map (rk (qk k) 0)) ?_ ?_ ?_ j _ (by rw [List.getElem?_map,h];rfl)
 · rw [List.pairwise_map]
   refine List.Pairwise.imp_of_mem (fun {a b} ha hb hab=>?_) ((asc_up n n).filter (isf k))
   obtain ⟨a1,a2,a3⟩:=mem a ha
   obtain ⟨b1,b2,b3⟩:=mem b hb
   exact rk_mono hok a b 0 (Vd.of a1) (Vd.of b1) a2 b2 (by omega) hab
 · intro z hz
   obtain ⟨y,_,rfl⟩:=List.mem_map.mp hz
   exact rk_pos _ _ _
 · intro z hz
   obtain ⟨y,hy,rfl⟩:=List.mem_map.mp hz
   obtain ⟨y1,y2,y3⟩:=mem y hy
   have:=cf_over hok hno y1 y2 (by omega)
   rw [List.length_map,len,← y3]
   exact this
theorem lex_tri:∀ (a b:List Int),SRV.lexb a b=false→a=b∨SRV.lexb b a=true
 | [],[],_=>.inl rfl
 | [],_::_,h=>by cases h
 | _::_,[],_=>.inr rfl
 | x::a,y::b,h=>by
   rw [SRV.lexb] at h
   by_cases e:x=y
   · subst e
     rw [if_pos rfl] at h
     rcases lex_tri a b h with r | r
     · exact .inl (by rw [r])
     · exact .inr (by rw [SRV.lexb,if_pos rfl];exact r)
   · rw [if_neg e] at h
     have:=of_decide_eq_false h
     exact .inr (by rw [SRV.lexb,if_neg (fun z=>e z.symm)];exact decide_eq_true (by omega))
theorem toI_inj {x y:List Nat} (h:toI x=toI y):x=y:=by
 have:=congrArg (List.map Int.toNat) h
 unfold toI at this
 rw [List.map_map,List.map_map] at this
 have id':∀ z:List Nat,z.map (Int.toNat ∘ fun (k:Nat)=>(k:Int))=z:=fun z=>by
  conv=>rhs;rw [← List.map_id z]
  exact List.map_congr_left fun a _=>Int.toNat_natCast a
 rwa [id',id'] at this
structure Is (k:Kn) (n:Nat) (x:List Nat):Prop where
 fl:Fl x
 sm:x.sum=n
 is:isf k x=true
theorem rk_lt {k:Kn} (hok:k.Ok) {n:Nat} {x y:List Nat} (hx:Is k n x) (hy:Is k n y):decide (rk (qk k) 0 x<rk (qk k) 0 y)=SRV.lexb (toI x) (toI y):=by
 have e:x.sum=y.sum:=hx.sm.trans hy.sm.symm
 cases h:SRV.lexb (toI x) (toI y) with
 | true=>exact decide_eq_true (rk_mono hok x y 0 (Vd.of hx.is) (Vd.of hy.is) hx.fl hy.fl e h)
 | false=>
   refine decide_eq_false ?_
   rcases lex_tri _ _ h with r | r
   · rw [toI_inj r];omega
   · have:=rk_mono hok y x 0 (Vd.of hy.is) (Vd.of hx.is) hy.fl hx.fl e.symm r
     omega
theorem LK_cf {k:Kn} (hok:k.Ok) (hno:noown k) {n:Nat} (hn:n≤600):(((Asc n n).filter (isf k)).length:Int)=cf k n n:=by
 rw [← isf_cf hok hno hn,← List.countP_eq_length_filter]
 unfold cn Asc
 rw [List.countP_reverse]
theorem place_ex {k:Kn} (hok:k.Ok) (hno:noown k) {n:Nat} (hn:n≤300) {z:Int} (h0:0≤z) (h1:z<cf k n n):∃ x,Is k n x∧rk (qk k) 0 x=z:=by
 have hl:=LK_cf hok hno (show n≤600 by omega)
 have lt:z.toNat<((Asc n n).filter (isf k)).length:=by omega
 have e:=List.getElem?_eq_getElem lt
 have hm:=List.getElem_mem lt
 obtain ⟨m1,m2⟩:=List.mem_filter.mp hm
 refine ⟨_,⟨ls_fl _ _ _ m1,(ls_mem _ _ _ (asc_mem.mp m1)).2,m2⟩,?_⟩
 rw [rk_at hok hno hn e]
 omega
theorem cf_big {k:Kn} (hok:k.Ok) (hno:noown k) {n:Nat} (hn:n≤150):cf k n n<10 ^ 61:=by
 have hl:=LK_cf hok hno (show n≤600 by omega)
 have h1:((Asc n n).filter (isf k)).length≤(Asc n n).length:=List.length_filter_le _ _
 have h2:(Asc n n).length≤2 ^ n:=by
  have:=MP.PB_len n n
  rw [M05.PB_asc n n n (Nat.le_refl _),List.length_map] at this
  exact this
 have h3:2 ^ n≤2 ^ 150:=Nat.pow_le_pow_right (by decide) hn
 have h4:(2:Nat) ^ 150<10 ^ 61:=by decide
 have h5:((Asc n n).filter (isf k)).length<10 ^ 61:=by omega
 have h6:(((Asc n n).filter (isf k)).length:Int)<((10 ^ 61:Nat):Int):=Int.ofNat_lt.mpr h5
 rw [hl] at h6
 exact h6
theorem Is.len {k:Kn} {n:Nat} {x:List Nat} (h:Is k n x):x.length≤n:=by
 have key:∀ y:List Nat,(∀ a∈y,1≤a)→y.length≤y.sum:=by
  intro y
  induction y with
  | nil=>intro _;exact Nat.le_refl _
  | cons a r ih=>
    intro hy
    have:=hy a List.mem_cons_self
    have:=ih fun b hb=>hy b (List.mem_cons_of_mem _ hb)
    rw [List.length_cons,List.sum_cons]
    omega
 have:=key x (Fl.pos h.fl)
 have:=h.sm
 omega
theorem Fl.pw:∀ {x:List Nat},Fl x→(toI x).Pairwise (·≥·)
 | [],_=>.nil
 | a::r,f=>.cons (fun b hb=>by
     obtain ⟨c,hc,rfl⟩:=List.mem_map.mp hb
     have:=Fl.head f c (List.mem_cons_of_mem _ hc)
     show (c:Int)≤(a:Int)
     omega) (Fl.pw f.tail)
theorem fall_self:∀ {ns ms:List Int},ns.Pairwise (·≥·)→ms.Perm ns→ms.Pairwise (·≥·)→ms=ns
 | [],ms,_,p,_=>p.eq_nil
 | _::_,[],_,p,_=>absurd p.length_eq (by simp)
 | a::ns,b::ms,h1,p,h2=>by
   have p1:=List.pairwise_cons.mp h1
   have p2:=List.pairwise_cons.mp h2
   have hb:b∈a::ns:=p.mem_iff.mp List.mem_cons_self
   have ha:a∈b::ms:=p.mem_iff.mpr List.mem_cons_self
   have e:b=a:=by
    have l1:b≤a:=by
     rcases List.mem_cons.mp hb with e | e
     · omega
     · exact p1.1 b e
    have l2:a≤b:=by
     rcases List.mem_cons.mp ha with e | e
     · omega
     · exact p2.1 a e
    omega
   subst e
   rw [fall_self p1.2 (List.Perm.cons_inv p) p2.2]
theorem KnAt.step {H H1:Hp} {a L c:Addr} {n m:Nat} {k:Kn} (hk:KnAt H c k) (h:Hand H a L m) (st:Step a L n H H1):KnAt H1 c k:=by
 cases k with
 | rests e rs=>obtain ⟨d,h1,h2⟩:=hk;exact ⟨d,Step.tup h st h1,Step.tup h st h2⟩
 | all=>exact Step.tup h st hk
 | most b=>exact Step.tup h st hk
 | times t=>exact Step.tup h st hk
 | few l=>exact Step.tup h st hk
 | box b l=>exact Step.tup h st hk
 | off d=>exact Step.tup h st hk
 | own=>exact Step.tup h st hk
theorem kd_kn {H:Hp} {c:Addr} {k:Kd} (h:KdAt H c k) (ok:k.Ok) (nb:nob k):∃ k':Kn,KnAt H c k'∧k'.Ok∧noown k':=by
 have en:∀ n:Int,1≤n→((n.toNat:Nat):Int)=n:=fun n hn=>Int.toNat_of_nonneg (by omega)
 cases k with
 | bare w=>
   have nb:w=Str.ofString "all":=nb
   subst nb
   exact ⟨.all,h,trivial,trivial⟩
 | one w n=>
   have h:H c=some (.tup [.str w,.int n]):=h
   rcases ok with ⟨hw,n1,n2⟩ | ⟨hw,n1,n2⟩
   · have e:=en n n1
     rw [← e] at h
     rcases hw with rfl | rfl | rfl
     · exact ⟨.most n.toNat,h,by show n.toNat≤600;omega,trivial⟩
     · exact ⟨.few n.toNat,h,by show n.toNat≤600;omega,trivial⟩
     · exact ⟨.off n.toNat,h,by show 1≤n.toNat∧n.toNat≤600;omega,trivial⟩
   · have e:=en n (by omega)
     rw [← e] at h
     subst hw
     exact ⟨.times n.toNat,h,by show 0<n.toNat∧n.toNat≤1000;omega,trivial⟩
 | box a b=>
   have h:H c=some (.tup [.str (Str.ofString "box"),.int a,.int b]):=h
   obtain ⟨⟨a1,a2⟩,b1,b2⟩:=ok
   have ea:=en a a1
   have eb:=en b b1
   rw [← ea,← eb] at h
   exact ⟨.box a.toNat b.toNat,h,by show a.toNat≤600∧b.toNat≤600;omega,trivial⟩
 | rests m rs=>
   obtain ⟨d,h1,h2⟩:=h
   obtain ⟨⟨m1,m2⟩,_⟩:=ok
   have e:=en m (by omega)
   rw [← e] at h1
   exact ⟨.rests m.toNat rs,⟨d,h1,h2⟩,by show 0<m.toNat∧m.toNat≤1000;omega,trivial⟩
def wd:Kn→Str
 | .all=>"all"
 | .most _=>"most"
 | .times _=>"times"
 | .rests _ _=>"rests"
 | .few _=>"few"
 | .box _ _=>"box"
 | .off _=>"off"
 | .own=>"own"
theorem KnAt.word {H:Hp} {c:Addr} {k:Kn} (h:KnAt H c k):∃ xs,H c=some (.tup (.str (wd k)::xs)):=by
 cases k with
 | all=>exact ⟨_,h⟩
 | most k=>exact ⟨_,h⟩
 | times m=>exact ⟨_,h⟩
 | rests m rs=>obtain ⟨d,h1,_⟩:=h;exact ⟨_,h1⟩
 | few k=>exact ⟨_,h⟩
 | box k l=>exact ⟨_,h⟩
 | off d=>exact ⟨_,h⟩
 | own=>exact ⟨_,h⟩
def Ahead (H:Hp) (k:Kn) (n:Nat) (v:V):Prop:=v=.non∨∃ (b p:Addr) (x:List Nat),v=.ref b∧Is k n x∧H b=some (.tup [.int (rk (qk k) 0 x),.ref p])∧H p=some (.tup (nI x))
theorem Ahead.same {H H':Hp} {k:Kn} {n:Nat} {v:V} (h:Ahead H k n v) (y:Same H H'):Ahead H' k n v:=by
 rcases h with h | ⟨b,p,x,h1,h2,h3,h4⟩
 · exact .inl h
 · exact .inr ⟨b,p,x,h1,h2,y _ _ h3,y _ _ h4⟩
section
variable {P:Program} {w:World} {K:PySem.W.Frag} {mg:Str→Option Value} {base:Heap} {f:Addr} {fd:FuncData}
theorem sc_pr:FnScope ["_law_spool_here","_law_kind_here","_law_n","_law_many","_law_places","_law_ahead","_law_k","_law_parting_here"] ["_law_spool_here","_law_kind_here","_law_n"] (defScope (top 38)):=⟨rfl,rfl,rfl,by decide +kernel,rfl,by decide +kernel,by decide +kernel⟩
def sp_pr:Sp:=fun vs H Q _=>∃ (a L c:Addr) (k:Kn) (n m:Nat),vs=[.ref a,.ref c,.int n]∧Hand H a L m∧m<900000000∧KnAt H c k∧k.Ok∧noown k∧n≤150∧∀ H',Step a L (m+10) H H'→Q (.bl true) H'
theorem ok_pr (F:Fun K "_law_places_right" "_law_places_right" (top 38) f fd) (m_list:mg "list" = none) (m_sorted:mg "sorted" = none) (m_sum:mg "sum" = none) (F_law_is_of:FnA P w K mg base "_law_is_of" 1 ["_law_kind_here","_law_parting_here"] sp_io) (F_law_take:FnA P w K mg base "_law_take" 1 ["_law_spool_here","_law_many"] sp_take) (F_at:FnA P w K mg base "at" 5 ["kind","n","k"] sp_at) (F_counts:FnA P w K mg base "counts" 4 ["kind","most"] sp_counts) (F_place_of:FnA P w K mg base "place_of" 4 ["kind","parting"] sp_pl):FnOk P w K mg base CX0 6 f fd ["_law_spool_here","_law_kind_here","_law_n"] sp_pr:=by
 refine F.okz sc_pr (fun vs H Q E h=>?_) (fun cdv A outer s H vs Q E hr h=>?_)
 · obtain ⟨a,L,c,k,n,m,rfl,_⟩:=h;rfl
 obtain ⟨a,L,c,k,n,m,rfl,hh,hm,hk,hok,hno,hn,q⟩:=h
 have nd:=sc_pr.nd
 have hu:=hr.units
 have hb:=cf_big hok hno hn
 have rest:∃ t2,ZSs (cxOf CX0 P w K mg base ["_law_spool_here","_law_kind_here","_law_n","_law_many","_law_places","_law_ahead","_law_k","_law_parting_here"] "_law_places_right" (defScope (top 38)) f cdv A outer s H E).nox ((defBody (top 38)).drop 4) t2 ∧
  ∀ (H1:Hp) (l:Addr) (ps:List Int) (s6 s7:Option V),Step a L (m+10) H H1→KnAt H1 c k→H1 l=some (.lst (ps.map V.int))→l≠a→(∀ z∈ps,0≤z∧z<cf k n n)→t2 { nx:=fun _ H'=>Q .non H',rt:=Q } [some (.ref a),some (.ref c),some (.int n),some (.int (cf k n n)),some (.ref l),none,s6,s7] H1:=by
  refine ⟨_,(zss_cons (zs_set (i:=5) nd rfl (Or.inl rfl) ze_non)
   (zss_cons (zs_for PassesOwn.never rfl (zi_list (zn 4)) (zg_name (i:=6) nd rfl (Or.inl rfl)) (zss_cons (zs_set (i:=7) nd rfl (Or.inl rfl) (ze_fn F_at hr (by decide) rfl (za_cons (zn 1) (za_cons (zn 2) (za_cons (zn 6) za_nil)))))
   (zss_cons (zs_if (ZW.zt (zw_or (zt_cmpP (op_neD hu) (zcb_sum rfl rfl m_sum (za_cons (zn 7) za_nil) rfl rfl) (zn 2) (nomark _)) (zw_or (zt_cmpP (op_neD hu) (zcb_list rfl m_list (za_cons (zn 7) za_nil) rfl rfl) (zcb_sortR rfl m_sorted (za_cons (zn 7) za_nil) rfl) (nomark _)) (zw_or1 (zt_not (zt_valP (ze_fn F_law_is_of hr (by decide) rfl (za_cons (zn 1) (za_cons (zn 7) za_nil))))))))) (zss_one (zs_ret ze_bl)) zss_nil)
   (zss_cons (zs_if (ZW.zt (zw_or (zt_cmpP (op_neD hu) (ze_fn F_place_of hr (by decide) rfl (za_cons (zn 1) (za_cons (zn 7) za_nil))) (zn 6) (nomark _)) (zw_or1 (ZW.zt (zw_and (zt_cmpP op_isntP (zn 5) ze_non (nomark _)) (zw_and1 (zt_cmpP (op_neD hu) (ze_cmpR (op_ltU hu) (ze_ix ix_P (zn 5) ze_int (fun _ _=>rfl)) (zn 6) (nomark _)) (ze_cmpR (op_ltU hu) (ze_ix ix_P (zn 5) ze_int (fun _ _=>rfl)) (zn 7) (nomark _)) (nomark _)))))))) (zss_one (zs_ret ze_bl)) zss_nil)
   (zss_one (zs_set (i:=5) nd rfl (Or.inl rfl) (ze_tup (za_cons (zn 6) (za_cons (zn 7) za_nil)))))))))
   (zss_one (zs_ret ze_bl)))),?_⟩
  intro H1 l ps s6 s7 st1 hk1 hl1 la hps
  refine ⟨l,rfl,⟨_,SqL.of hl1⟩,for_list (xs:=ps.map V.int) (fun i σ H'=>Same H1 H'∧∃ v x6 x7,Ahead H' k n v∧σ=[some (.ref a),some (.ref c),some (.int n),some (.int (cf k n n)),some (.ref l),some v,x6,x7]) ⟨Same.refl _,.non,_,_,.inl rfl,rfl⟩ ?_ ?_ ?_⟩
  · rintro i σ H' _ ⟨y,_⟩
    exact SqL.of (y _ _ hl1)
  · rintro i z' σ H' hz ⟨y,v,x6,x7,ah,rfl⟩
    rw [List.getElem?_map] at hz
    cases ez:ps[i]? with
    | none=>rw [ez] at hz;cases hz
    | some z=>
      rw [ez] at hz
      cases hz
      obtain ⟨z0,z1⟩:=hps z (List.mem_of_getElem? ez)
      obtain ⟨x,ix,rfl⟩:=place_ex hok hno (show n≤300 by omega) z0 z1
      have xs:=ix.sm
      have xl:=ix.len
      refine ⟨c,k,x,by rw [xs],hk1.same y,hok,hno,by omega,ix.fl,ix.is,fun r H2 y2 hr2=>?_⟩
      refine ⟨_,.inr hr2,?_⟩
      rw [show ((x.map fun (k:Nat)=>(k:Int)).sum)=(n:Int) by rw [sumI,xs]]
      refine iteB (fun c=>absurd c (by simp)) (fun _=>?_)
      refine ⟨_,.inr hr2,fun l3 hl3=>?_⟩
      have y3:=Same.new hl3 (.lst (nI x))
      have g3:upd H2 l3 (.lst (nI x)) l3=some (.lst ((toI x).map V.int)):=upd_same
      have hr3:=y3 _ _ hr2
      have z3:=y2.trans y3
      generalize upd H2 l3 (.lst (nI x))=H3 at y3 g3 hr3 z3
      refine ⟨toI x,.inr (SqT.of hr3),fun l4 ns' hl4 perm ord=>?_⟩
      have e4:ns'=toI x:=fall_self (Fl.pw ix.fl) perm ord
      subst e4
      have y4:=Same.new hl4 (.lst ((toI x).map V.int))
      refine ⟨_,_,.lst (y4 _ _ g3) (DatAll.ints _),.lst upd_same (DatAll.ints _),shaped_list_ints _,shaped_list_ints _,?_⟩
      rw [if_pos rfl,eqv_self (shaped_list_ints _)]
      have hr4:=y4 _ _ hr3
      have z4:=z3.trans y4
      generalize upd H3 l4 (.lst ((toI x).map V.int))=H4 at y4 hr4 z4
      have w4:=y.trans z4
      refine ⟨c,r,k,x,rfl,hk1.same w4,hok,hno,hr4,by omega,ix.fl,fun H5 y5=>?_⟩
      rw [ix.is]
      have w5:=w4.trans y5
      have hr5:=y5 _ _ hr4
      refine ⟨c,r,k,x,rfl,hk1.same w5,hok,hno,hr5,by omega,ix.fl,ix.is,fun H6 y6=>?_⟩
      refine iteB (fun c=>absurd c (by simp)) (fun _=>?_)
      have w6:=w5.trans y6
      have hr6:=y6 _ _ hr5
      have ah6:Ahead H6 k n v:=ah.same ((z4.trans y5).trans y6)
      have fin:∀ b,H6 b=none→Same H1 (upd H6 b (.tup [V.int (rk (qk k) 0 x),.ref r]))∧∃ v x6 x7,Ahead (upd H6 b (.tup [V.int (rk (qk k) 0 x),.ref r])) k n v∧[some (V.ref a),some (.ref c),some (.int n),some (.int (cf k n n)),some (.ref l),some (.ref b),some (V.int (rk (qk k) 0 x)),some (.ref r)]=[some (.ref a),some (.ref c),some (.int n),some (.int (cf k n n)),some (.ref l),some v,x6,x7]:=fun b hb=>⟨w6.trans (Same.new hb _),_,_,_,.inr ⟨b,r,x,rfl,ix,upd_same,(Same.new hb _) _ _ hr6⟩,rfl⟩
      rcases ah6 with rfl | ⟨b,p0,x0,rfl,ix0,hb0,hp0⟩
      · refine ⟨by show 2≤sizeLine;decide,fun b' hb'=>?_⟩
        exact fin b' hb'
      · refine ⟨_,.inr hb0,.int (rk (qk k) 0 x0),rfl,?_⟩
        refine ⟨_,.inr hb0,.ref p0,rfl,?_⟩
        refine ⟨toI x0,toI x,hp0,hr6,?_⟩
        rw [← rk_lt hok ix0 ix]
        refine iteB (fun c=>absurd c (by simp)) (fun _=>?_)
        refine ⟨by show 2≤sizeLine;decide,fun b' hb'=>?_⟩
        exact fin b' hb'
  · rintro σ H' ⟨y,v,x6,x7,_,rfl⟩
    exact q _ (st1.same y)
 obtain ⟨t2,ht2,rest⟩:=rest
 refine ⟨_,(zss_cons (zs_set (i:=3) nd rfl (Or.inl rfl) (ze_ix ix_P (ze_fn F_counts hr (by decide) rfl (za_cons (zn 1) (za_cons (zn 2) za_nil))) (zn 2) (fun _ _=>rfl)))
  (zss_cons (zs_if (zt_cmpP (op_eqD hu) (zn 3) ze_int (nomark _)) (zss_one (zs_ret ze_bl)) zss_nil)
  (zss_cons (zs_set (i:=4) nd rfl (Or.inl rfl) (zcb_sorted rfl m_sorted (za_cons (ze_lst (za_cons ze_int (za_cons (ze_op op_subP (zn 3) ze_int) (za_cons (ze_fn F_law_take hr (by decide) rfl (za_cons (zn 0) (za_cons (zn 3) za_nil))) (za_cons (ze_fn F_law_take hr (by decide) rfl (za_cons (zn 0) (za_cons (zn 3) za_nil))) (za_cons (ze_op op_fdivP (ze_fn F_law_take hr (by decide) rfl (za_cons (zn 0) (za_cons (zn 3) za_nil))) ze_int) za_nil)))))) za_nil) rfl rfl))
  (zss_cons (zs_if (ZW.zt (zw_and (zt_cmpP op_in_seq (ze_ix ix_P (zn 1) ze_int (fun _ _=>rfl)) (ze_tup (za_cons ze_str (za_cons ze_str za_nil))) (by with_unfolding_all rfl)) (zw_and1 (zt_cmpP op_gtP (zn 2) ze_int (nomark _))))) (zss_one (zs_set (i:=4) nd rfl (Or.inl rfl) (ze_slice sl_P (zn 4) (zo_some ze_int) (zo_some ze_int)))) zss_nil)
  ht2)))),?_⟩
 refine ⟨c,n,k,rfl,by omega,hk,hok,fun p H1 y1 hp1=>?_⟩
 refine ⟨_,.inr hp1,.int (cf k n n),atI_of (j:=n) rfl (tbI_get (by omega)),?_⟩
 refine iteD (fun e0=>?_) (fun e0=>?_)
 · exact q _ ((Step.refl hh).mono (by omega) |>.same y1)
 have pos:0<cf k n n:=by
  have h0:=LK_cf hok hno (show n≤600 by omega)
  have:cf k n n≠0:=fun z=>e0 (by rw [z])
  omega
 have st1:Step a L m H H1:=(Step.refl hh).same y1
 have hk1:=hk.same y1
 refine ⟨a,L,cf k n n,m,rfl,st1.2,by omega,pos,hb,fun r1 H2 r10 r11 st2=>?_⟩
 have hk2:=hk1.step st1.2 st2
 refine ⟨a,L,cf k n n,m+1,rfl,st2.2,by omega,pos,hb,fun r2 H3 r20 r21 st3=>?_⟩
 have hk3:=hk2.step st2.2 st3
 refine ⟨a,L,cf k n n,m+1+1,rfl,st3.2,by omega,pos,hb,fun r3 H4 r30 r31 st4=>?_⟩
 have hk4:=hk3.step st3.2 st4
 have st:Step a L (m+10) H H4:=(((st1.trans st2).trans st3).trans st4).mono (by omega)
 refine ⟨⟨by decide,by decide⟩,?_⟩
 refine ⟨by show 5≤sizeLine;decide,fun D hD=>?_⟩
 have yD:=Same.new hD (.lst [V.int 0,.int (cf k n n - 1),.int r1,.int r2,.int (r3 / 7)])
 have gD:upd H4 D (.lst [V.int 0,.int (cf k n n - 1),.int r1,.int r2,.int (r3 / 7)]) D=some (.lst (([0,cf k n n - 1,r1,r2,r3 / 7]:List Int).map V.int)):=upd_same
 have stD:=st.same yD
 have hkD:=hk4.same yD
 generalize upd H4 D (.lst [V.int 0,.int (cf k n n - 1),.int r1,.int r2,.int (r3 / 7)])=H5 at gD stD hkD
 refine ⟨_,SqL.of gD,by show 5<64;decide,fun l ps hl perm ord=>?_⟩
 have hps:∀ z∈ps,0≤z∧z<cf k n n:=fun z hz=>by
  have:=perm.mem_iff.mp hz
  simp only [List.mem_cons,List.not_mem_nil,or_false] at this
  rcases this with rfl | rfl | rfl | rfl | rfl <;> omega
 have la:l≠a:=fun z=>by
  obtain ⟨gs,s',c',e,_⟩:=stD.2
  rw [z,e] at hl
  cases hl
 have yl:=Same.new hl (.lst (ps.map V.int))
 have gl:upd H5 l (.lst (ps.map V.int)) l=some (.lst (ps.map V.int)):=upd_same
 have stl:=stD.same yl
 have hkl:=hkD.same yl
 generalize upd H5 l (.lst (ps.map V.int))=H6 at gl stl hkl
 clear yl perm ord
 obtain ⟨xs0,hw⟩:=hkl.word
 refine ⟨_,.inr hw,.str (wd k),atI_of (j:=0) rfl rfl,?_⟩
 refine ⟨by show 2≤sizeLine;decide,fun d7 hd7=>?_⟩
 have y7:=Same.new hd7 (.tup [V.str "few",.str "box"])
 have g7:upd H6 d7 (.tup [V.str "few",.str "box"]) d7=some (.tup [V.str "few",.str "box"]):=upd_same
 have st7:=stl.same y7
 have hk7:=hkl.same y7
 have gl7:=y7 _ _ gl
 generalize upd H6 d7 (.tup [V.str "few",.str "box"])=H7 at y7 g7 st7 hk7 gl7
 refine ⟨d7,_,rfl,.inr (SqT.of g7),rfl,rfl,?_⟩
 have some3:∀ l2,H7 l2=none→∃ qs:List Int,cutV (ps.map V.int) (some 2) (some 3)=qs.map V.int∧(∀ z∈qs,0≤z∧z<cf k n n)∧l2≠a:=fun l2 hl2=>by
  refine ⟨_,by unfold cutV;rw [← List.map_drop,← List.map_take],fun z hz=>hps z (List.mem_of_mem_drop (List.mem_of_mem_take hz)),fun z=>?_⟩
  obtain ⟨gs,s',c',e,_⟩:=st7.2
  rw [z,e] at hl2
  cases hl2
 cases k with
 | all=>exact rest H7 l ps _ _ st7 hk7 gl7 la hps
 | most b=>exact rest H7 l ps _ _ st7 hk7 gl7 la hps
 | times t=>exact rest H7 l ps _ _ st7 hk7 gl7 la hps
 | rests t rs=>exact rest H7 l ps _ _ st7 hk7 gl7 la hps
 | off d=>exact rest H7 l ps _ _ st7 hk7 gl7 la hps
 | own=>exact hno.elim
 | few b=>
   refine iteD (fun c2=>?_) (fun c2=>?_)
   · refine ⟨2,rfl,3,rfl,l,rfl,.inr ⟨_,SqL.of gl7,fun l2 hl2=>?_⟩⟩
     obtain ⟨qs,eq,hq,l2a⟩:=some3 l2 hl2
     rw [eq]
     exact rest _ l2 qs _ _ (st7.same (Same.new hl2 _)) (hk7.same (Same.new hl2 _)) upd_same l2a hq
   · exact rest H7 l ps _ _ st7 hk7 gl7 la hps
 | box b b2=>
   refine iteD (fun c2=>?_) (fun c2=>?_)
   · refine ⟨2,rfl,3,rfl,l,rfl,.inr ⟨_,SqL.of gl7,fun l2 hl2=>?_⟩⟩
     obtain ⟨qs,eq,hq,l2a⟩:=some3 l2 hl2
     rw [eq]
     exact rest _ l2 qs _ _ (st7.same (Same.new hl2 _)) (hk7.same (Same.new hl2 _)) upd_same l2a hq
   · exact rest H7 l ps _ _ st7 hk7 gl7 la hps
end
end K65
namespace L2
open PySem PySem.Spec PyProof.Rows
def tD (ls:List Int):PyData:=.tuple (ls.map PyData.int)
def ttD (lss:List (List Int)):PyData:=.tuple (lss.map tD)
theorem Tps.all {H:Hp}:∀ {us lss},Tps H us lss→DatAll H us (lss.map tD)
 | _,_,.nil=>.nil
 | _,_,.cons h r=>.cons (.ints h) (Tps.all r)
theorem can_tt:∀ lss:List (List Int),PyData.canLayAll0 (lss.map tD)=true∧PyData.depthAll (lss.map tD)≤2
 | []=>⟨by simp [PyData.canLayAll0],by simp [PyData.depthAll]⟩
 | ls::r=>by
   obtain ⟨h1,h2⟩:=can_tt r
   obtain ⟨g1,g2⟩:=canInts ls
   refine ⟨by simp only [List.map_cons,PyData.canLayAll0,tD,PyData.canLay0,g1,Bool.true_and];exact h1,?_⟩
   simp only [List.map_cons,PyData.depthAll,tD,PyData.depth]
   exact Nat.max_le.mpr ⟨by omega,h2⟩
theorem shaped_tt (lss:List (List Int)):SeqAt.shaped (ttD lss)=true:=by
 obtain ⟨h1,h2⟩:=can_tt lss
 unfold SeqAt.shaped
 rw [Bool.and_eq_true]
 exact ⟨by simp only [ttD,PyData.canLay0];exact h1,decide_eq_true (by simp only [ttD,PyData.depth];omega)⟩
end L2
namespace K65
open PySem L2 MRow M27 M80 M17 M12 M24 M11 M66 M63 M68
theorem Prt.fl:∀ {ns:List Int},Prt ns→∃ x:List Nat,ns.map V.int=nI x∧ns=x.map (fun (k:Nat)=>(k:Int))∧Fl x∧(x.sum:Int)=ns.sum
 | [],_=>⟨[],rfl,rfl,trivial,rfl⟩
 | a::r,⟨h1,h2⟩=>by
   obtain ⟨x,e1,e2,f,s⟩:=Prt.fl (ns:=r) ⟨fun n hn=>h1 n (List.mem_cons_of_mem _ hn),(List.pairwise_cons.mp h2).2⟩
   have ha:=h1 a List.mem_cons_self
   have en:((a.toNat:Nat):Int)=a:=Int.toNat_of_nonneg (by omega)
   refine ⟨a.toNat::x,?_,?_,?_,?_⟩
   · show V.int a::r.map V.int=V.int (a.toNat:Int)::nI x
     rw [e1,en]
   · show a::r=(a.toNat:Int)::x.map fun (k:Nat)=>(k:Int)
     rw [← e2,en]
   · cases x with
     | nil=>show 1≤a.toNat;omega
     | cons b y=>
       refine ⟨?_,f⟩
       have:(b:Int)∈r:=by rw [e2];exact List.mem_cons_self
       have:=(List.pairwise_cons.mp h2).1 _ this
       omega
   · rw [List.sum_cons,List.sum_cons,← s]
     omega
theorem ls_eqv_self {lss:List (List Int)}:PyData.eqv (.list (lss.map tD)) (.list (lss.map tD))=true:=by
 have h:=eqv_self (shaped_tt lss)
 unfold ttD at h
 simp only [PyData.eqv] at h ⊢
 exact h
theorem shaped_lt (lss:List (List Int)):SeqAt.shaped (.list (lss.map tD))=true:=by
 obtain ⟨h1,h2⟩:=can_tt lss
 unfold SeqAt.shaped
 rw [Bool.and_eq_true]
 exact ⟨by simp only [PyData.canLay0];exact h1,decide_eq_true (by simp only [PyData.depth];omega)⟩
theorem fl_ones:∀ n,Fl (List.replicate n 1)
 | 0=>trivial
 | 1=>(by show 1≤1;decide)
 | n+2=>⟨Nat.le_refl _,fl_ones (n+1)⟩
theorem fl_150:Fl [150]:=by show 1≤150;decide
theorem sum_ones:(List.replicate 150 1).sum=150:=by decide +kernel
theorem all_self (n:Nat):(Asc n n).filter (isf .all)=Asc n n:=List.filter_eq_self.mpr fun x _=>rfl
theorem rk_first:rk (qk .all) 0 (List.replicate 150 1)=0:=by
 have e:((Asc 150 150).filter (isf .all))[0]? = some (List.replicate 150 1):=by rw [all_self];exact M05.asc_first 149 150
 have:=rk_at (k:=.all) trivial trivial (show 150≤300 by decide) e
 exact this
theorem asc_tail (n:Nat):Asc (n+1) (n+1)=Asc n (n+1)++[[n+1]]:=by
 rw [asc_eq,if_pos (Nat.le_refl _),Nat.sub_self]
 have:Asc (n+1) 0=[[]]:=by rw [asc_low (Nat.zero_le _),asc_zero];rfl
 rw [this]
 rfl
theorem rk_last {k:Kn} (hok:k.Ok) (hno:noown k) (h:isf k [150]=true):rk (qk k) 0 [150]=cf k 150 150 - 1:=by
 have ef:(Asc 150 150).filter (isf k)=(Asc 149 150).filter (isf k)++[[150]]:=by
  rw [asc_tail 149,List.filter_append]
  congr 1
  rw [List.filter_cons,if_pos h]
  rfl
 have e:((Asc 150 150).filter (isf k))[((Asc 149 150).filter (isf k)).length]? = some [150]:=by
  rw [ef,List.getElem?_append_right (Nat.le_refl _),Nat.sub_self]
  rfl
 have h1:=rk_at hok hno (show 150≤300 by decide) e
 have h2:=LK_cf hok hno (show 150≤600 by decide)
 rw [ef,List.length_append] at h2
 have:([[150]]:List (List Nat)).length=1:=rfl
 omega
theorem few3:cf (.few 3) 150 150=1951:=by
 show PL dl (ups (min 3 150)) 150=1951
 decide +kernel
theorem pick4n {k:Int} (h0:0≤k) (h1:k<4):∃ m:Int,atI [V.int 61,.int 61,.int 61,.int 151] k=some (.int m)∧1≤m∧m≤151:=by
 have:k=0∨k=1∨k=2∨k=3:=by omega
 rcases this with rfl | rfl | rfl | rfl
 · exact ⟨61,rfl,by decide⟩
 · exact ⟨61,rfl,by decide⟩
 · exact ⟨61,rfl,by decide⟩
 · exact ⟨151,rfl,by decide⟩
section
variable {P:Program} {w:World} {K:PySem.W.Frag} {mg:Str→Option Value} {base:Heap} {f:Addr} {fd:FuncData}
theorem sc_law:FnScope ["_law_script","_law_spool_here","_law_far","_law_kind_here","_law_n","_law_turn","_law_parting_here","_law_k","_law_wide","_law_seven","_law_ends","_law_many"] ["_law_script"] (defScope (top 39)):=⟨rfl,rfl,rfl,by decide +kernel,rfl,by decide +kernel,by decide +kernel⟩
def sp_law (K:PySem.W.Frag):Sp:=fun vs H Q _=>∃ (a:Addr) (ns:List Int),vs=[.ref a]∧SqL K H a (ns.map V.int)∧ns.length≤63∧∀ H',Q (.bl true) H'
theorem law_z {cdv:Value} {A:Around} {outer:List Env} {s:Shared} {H:Hp} {E:XK} {Q:VK} (hr:Room 6 (A.deeper (PyProof.Rows.envOfC "law" (defScope (top 39)) s.heap.objs.size f cdv))) (nd:(["_law_script","_law_spool_here","_law_far","_law_kind_here","_law_n","_law_turn","_law_parting_here","_law_k","_law_wide","_law_seven","_law_ends","_law_many"]:List Str).Nodup) (m_int:mg "int" = none) (m_min:mg "min" = none) (m_range:mg "range" = none) (m_sum:mg "sum" = none) (F_law_kind:FnA P w K mg base "_law_kind" 2 ["_law_spool_here","_law_most"] sp_kind) (F_law_parting:FnA P w K mg base "_law_parting" 2 ["_law_spool_here","_law_most"] sp_parting) (F_law_places_right:FnA P w K mg base "_law_places_right" 6 ["_law_spool_here","_law_kind_here","_law_n"] sp_pr) (F_law_spool:FnA P w K mg base "_law_spool" 1 ["_law_script"] (sp_spool K)) (F_law_take:FnA P w K mg base "_law_take" 1 ["_law_spool_here","_law_many"] sp_take) (F_at:FnA P w K mg base "at" 5 ["kind","n","k"] sp_at) (F_counts:FnA P w K mg base "counts" 4 ["kind","most"] sp_counts) (F_place_of:FnA P w K mg base "place_of" 4 ["kind","parting"] sp_pl) (q:∀ H',Q (.bl true) H') :
 ∃ t,ZSs (cxOf CX0 P w K mg base ["_law_script","_law_spool_here","_law_far","_law_kind_here","_law_n","_law_turn","_law_parting_here","_law_k","_law_wide","_law_seven","_law_ends","_law_many"] "law" (defScope (top 39)) f cdv A outer s H E).nox ((defBody (top 39)).drop 8) t∧∀ (H1:Hp) s0 s1 s2 s3 s4 s5 s6 s7 s8 s9 s10 s11,t { nx:=fun _ H'=>Q .non H',rt:=Q } [s0,s1,s2,s3,s4,s5,s6,s7,s8,s9,s10,s11] H1:=by
 have hu:=hr.units
 refine ⟨_,(zss_cons (zs_par (i:=10) (j:=11) rfl nd rfl rfl (by decide) rfl rfl (za_cons (ze_lst (za_cons (ze_op op_mulQ (ze_tup (za_cons ze_int za_nil)) ze_int) (za_cons (ze_tup (za_cons ze_int za_nil)) za_nil))) (za_cons (ze_ix ix_P (ze_fn F_counts hr (by decide) rfl (za_cons (ze_tup (za_cons ze_str za_nil)) (za_cons ze_int za_nil))) ze_int (fun _ _=>rfl)) za_nil)) rfl)
  (zss_cons (zs_if (zt_cmpP (op_neD hu) (ze_comp ["_law_one"] [] rfl ⟨rfl,by decide +kernel,by decide +kernel,rfl,rfl⟩ (zi_list (zn 10)) kpg_name (fun _ _ _ _=>zg_name (i:=0) (show List.Nodup (["_law_one"]:List Str) by decide +kernel) rfl (Or.inl rfl)) (fun _ _ _ _=>zif_nil) (fun _ _ _ _=>(ze_fn F_place_of hr (by decide) rfl (za_cons (ze_tup (za_cons ze_str za_nil)) (za_cons (zn 0) za_nil))))) (ze_lst (za_cons ze_int (za_cons (ze_op op_subP (zn 11) ze_int) za_nil))) (nomark _)) (zss_one (zs_ret ze_bl)) zss_nil)
  (zss_cons (zs_if (zt_cmpP (op_neD hu) (ze_fn F_place_of hr (by decide) rfl (za_cons (ze_tup (za_cons ze_str (za_cons ze_int za_nil))) (za_cons (ze_tup (za_cons ze_int za_nil)) za_nil))) ze_int (nomark _)) (zss_one (zs_ret ze_bl)) zss_nil)
  (zss_one (zs_ret (ze_cmpR (op_eqD hu) (ze_comp ["_law_k"] [] rfl ⟨rfl,by decide +kernel,by decide +kernel,rfl,rfl⟩ (zi_tup (ze_tup (za_cons ze_int (za_cons (ze_op op_subP (zn 11) ze_int) za_nil)))) kpg_name (fun _ _ _ _=>zg_name (i:=0) (show List.Nodup (["_law_k"]:List Str) by decide +kernel) rfl (Or.inl rfl)) (fun _ _ _ _=>zif_nil) (fun _ _ _ _=>(ze_fn F_at hr (by decide) rfl (za_cons (ze_tup (za_cons ze_str za_nil)) (za_cons ze_int (za_cons (zn 0) za_nil)))))) (zn 10) (nomark _))))))),?_⟩
 intro H1 s0 s1 s2 s3 s4 s5 s6 s7 s8 s9 s10 s11
 refine ⟨by show 1≤sizeLine;decide,fun d1 hd1=>?_⟩
 refine ⟨⟨by decide,by decide⟩,.inr ⟨_,upd_same,le_line (by decide),fun e1 H2 y2 he1=>?_⟩⟩
 rw [rep_flat] at he1
 have he1:H2 e1=some (.tup (nI (List.replicate 150 1))):=by
  rw [he1]
  unfold nI
  rw [List.map_replicate]
  rfl
 clear y2
 refine ⟨by show 1≤sizeLine;decide,fun e2 he2=>?_⟩
 have y3:=Same.new he2 (.tup [V.int 150])
 have g2:upd H2 e2 (.tup [V.int 150]) e2=some (.tup (nI [150])):=upd_same
 have g1:=y3 _ _ he1
 generalize upd H2 e2 (.tup [V.int 150])=H3 at g1 g2
 refine ⟨by show 2≤sizeLine;decide,fun l hl=>?_⟩
 have y4:=Same.new hl (.lst [V.ref e1,.ref e2])
 have gl:upd H3 l (.lst [V.ref e1,.ref e2]) l=some (.lst [V.ref e1,.ref e2]):=upd_same
 have g1:=y4 _ _ g1
 have g2:=y4 _ _ g2
 generalize upd H3 l (.lst [V.ref e1,.ref e2])=H4 at gl g1 g2
 refine ⟨by show 1≤sizeLine;decide,fun c5 hc5=>?_⟩
 have y5:=Same.new hc5 (.tup [V.str "all"])
 refine ⟨c5,150,.all,rfl,by decide,upd_same,trivial,fun p H6 y6 hp6=>?_⟩
 have z6:=y5.trans y6
 have gl:=z6 _ _ gl
 have g1:=z6 _ _ g1
 have g2:=z6 _ _ g2
 refine ⟨_,.inr hp6,.int (cf .all 150 150),atI_of (j:=150) rfl (tbI_get (by decide)),?_⟩
 refine ⟨_,_,rfl,?_⟩
 have rl:=rk_last (k:=.all) trivial trivial rfl
 -- the places of the first and the last one
 refine ⟨l,rfl,⟨_,SqL.of gl⟩,cmp_list (xs:=[V.ref e1,.ref e2]) (fun i ys Hc=>i≤2∧Same H6 Hc∧ys=(([0,cf .all 150 150 - 1]:List Int).take i).map V.int) ⟨by decide,Same.refl _,rfl⟩ ?_ ?_ ?_⟩
 · rintro i ys Hc _ ⟨_,y,_⟩
   exact SqL.of (y _ _ gl)
 · rintro i v ys Hc hv ⟨_,y,rfl⟩
   have hi:i<2:=(List.getElem?_eq_some_iff.mp hv).1
   refine ⟨by rw [List.length_map,List.length_take];exact small1000 (by omega),?_⟩
   refine ⟨by show 1≤sizeLine;decide,fun c7 hc7=>?_⟩
   have y7:=Same.new hc7 (.tup [V.str "all"])
   have:i=0∨i=1:=by omega
   rcases this with rfl | rfl
   · cases hv
     refine ⟨c7,e1,.all,List.replicate 150 1,rfl,upd_same,trivial,trivial,y7 _ _ (y _ _ g1),by rw [sum_ones];decide,fl_ones _,rfl,fun H8 y8=>?_⟩
     refine ⟨by decide,y.trans (y7.trans y8),?_⟩
     rw [rk_first]
     rfl
   · cases hv
     refine ⟨c7,e2,.all,[150],rfl,upd_same,trivial,trivial,y7 _ _ (y _ _ g2),by decide,fl_150,rfl,fun H8 y8=>?_⟩
     refine ⟨by decide,y.trans (y7.trans y8),?_⟩
     rw [rl]
     rfl
 rintro ys Hc ⟨_,y,rfl⟩ D hD
 have gl:=y _ _ gl
 have g1:=y _ _ g1
 have g2:=y _ _ g2
 have yD:=Same.new hD (.lst (([0,cf .all 150 150 - 1]:List Int).map V.int))
 have gD:upd Hc D (.lst (([0,cf .all 150 150 - 1]:List Int).map V.int)) D=some (.lst (([0,cf .all 150 150 - 1]:List Int).map V.int)):=upd_same
 have gl:=yD _ _ gl
 have g1:=yD _ _ g1
 have g2:=yD _ _ g2
 show tLst _ _ (upd Hc D (.lst (([0,cf .all 150 150 - 1]:List Int).map V.int))) _
 generalize upd Hc D (.lst (([0,cf .all 150 150 - 1]:List Int).map V.int))=H8 at gD gl g1 g2
 refine ⟨by show 2≤sizeLine;decide,fun l9 hl9=>?_⟩
 have y9:=Same.new hl9 (.lst [V.int 0,.int (cf .all 150 150 - 1)])
 refine ⟨.list (([0,cf .all 150 150 - 1]:List Int).map PyData.int),.list (([0,cf .all 150 150 - 1]:List Int).map PyData.int),.lst (y9 _ _ gD) (DatAll.ints _),.lst upd_same (DatAll.ints [0,cf .all 150 150 - 1]),shaped_list_ints _,shaped_list_ints _,?_⟩
 rw [if_pos rfl,eqv_self (shaped_list_ints _)]
 have gl:=y9 _ _ gl
 have g1:=y9 _ _ g1
 have g2:=y9 _ _ g2
 generalize upd H8 l9 (.lst [V.int 0,.int (cf .all 150 150 - 1)])=H9 at gl g1 g2
 refine ⟨by show 2≤sizeLine;decide,fun c10 hc10=>?_⟩
 have y10:=Same.new hc10 (.tup [V.str "few",.int 3])
 have gc10:upd H9 c10 (.tup [V.str "few",.int 3]) c10=some (.tup [V.str "few",.int 3]):=upd_same
 have gl:=y10 _ _ gl
 have g1:=y10 _ _ g1
 have g2:=y10 _ _ g2
 generalize upd H9 c10 (.tup [V.str "few",.int 3])=H10 at gc10 gl g1 g2
 refine ⟨by show 1≤sizeLine;decide,fun c11 hc11=>?_⟩
 have y11:=Same.new hc11 (.tup [V.int 150])
 refine ⟨c10,c11,.few 3,[150],rfl,y11 _ _ gc10,(show 3≤600 by decide),trivial,upd_same,by decide,fl_150,rfl,fun H12 y12=>?_⟩
 have gl:=(y11.trans y12) _ _ gl
 have g1:=(y11.trans y12) _ _ g1
 have g2:=(y11.trans y12) _ _ g2
 rw [rk_last (k:=.few 3) (show 3≤600 by decide) trivial rfl,few3]
 -- at the first and at the last place
 refine ⟨by show 2≤sizeLine;decide,fun t13 ht13=>?_⟩
 have y13:=Same.new ht13 (.tup [V.int 0,.int (cf .all 150 150 - 1)])
 have g13:upd H12 t13 (.tup [V.int 0,.int (cf .all 150 150 - 1)]) t13=some (.tup [V.int 0,.int (cf .all 150 150 - 1)]):=upd_same
 have gl:=y13 _ _ gl
 have g1:=y13 _ _ g1
 have g2:=y13 _ _ g2
 generalize upd H12 t13 (.tup [V.int 0,.int (cf .all 150 150 - 1)])=H13 at g13 gl g1 g2
 refine ⟨t13,rfl,⟨_,SqT.of g13⟩,cmp_tup (xs:=[V.int 0,.int (cf .all 150 150 - 1)]) (fun i ys Hc=>i≤2∧Same H13 Hc∧Tps Hc ys (([toI (List.replicate 150 1),toI [150]]:List (List Int)).take i)) ⟨by decide,Same.refl _,.nil⟩ ?_ ?_ ?_⟩
 · rintro i ys Hc _ ⟨_,y,_⟩
   exact SqT.of (y _ _ g13)
 · rintro i v ys Hc hv ⟨_,y,tp⟩
   have hi:i<2:=(List.getElem?_eq_some_iff.mp hv).1
   have ly:=tp.length
   rw [List.length_take] at ly
   refine ⟨by rw [ly];exact small1000 (by omega),?_⟩
   refine ⟨by show 1≤sizeLine;decide,fun c14 hc14=>?_⟩
   have y14:=Same.new hc14 (.tup [V.str "all"])
   have:i=0∨i=1:=by omega
   rcases this with rfl | rfl
   · cases hv
     refine ⟨c14,.all,List.replicate 150 1,by rw [rk_first,sum_ones];rfl,upd_same,trivial,trivial,by rw [sum_ones];decide,fl_ones _,rfl,fun r H15 y15 hr15=>?_⟩
     exact ⟨by decide,y.trans (y14.trans y15),Tps.snoc hr15 ((tp.same y14).same y15)⟩
   · cases hv
     refine ⟨c14,.all,[150],by rw [rl];rfl,upd_same,trivial,trivial,by decide,fl_150,rfl,fun r H15 y15 hr15=>?_⟩
     exact ⟨by decide,y.trans (y14.trans y15),Tps.snoc hr15 ((tp.same y14).same y15)⟩
 rintro ys Hc ⟨_,y,tp⟩ D2 hD2
 have yD2:=Same.new hD2 (.lst ys)
 refine ⟨.list (([toI (List.replicate 150 1),toI [150]]:List (List Int)).map tD),.list (([toI (List.replicate 150 1),toI [150]]:List (List Int)).map tD),.lst upd_same (Tps.all (tp.same yD2)),.lst (yD2 _ _ (y _ _ gl)) (Tps.all (.cons (yD2 _ _ (y _ _ g1)) (.cons (yD2 _ _ (y _ _ g2)) .nil))),shaped_lt _,shaped_lt _,?_⟩
 rw [ls_eqv_self]
 exact q _
end
section
variable {P:Program} {w:World} {K:PySem.W.Frag} {mg:Str→Option Value} {base:Heap} {f:Addr} {fd:FuncData}
theorem ok_law (F:Fun K "law" "law" (top 39) f fd) (m_int:mg "int" = none) (m_min:mg "min" = none) (m_range:mg "range" = none) (m_sum:mg "sum" = none) (F_law_kind:FnA P w K mg base "_law_kind" 2 ["_law_spool_here","_law_most"] sp_kind) (F_law_parting:FnA P w K mg base "_law_parting" 2 ["_law_spool_here","_law_most"] sp_parting) (F_law_places_right:FnA P w K mg base "_law_places_right" 6 ["_law_spool_here","_law_kind_here","_law_n"] sp_pr) (F_law_spool:FnA P w K mg base "_law_spool" 1 ["_law_script"] (sp_spool K)) (F_law_take:FnA P w K mg base "_law_take" 1 ["_law_spool_here","_law_many"] sp_take) (F_at:FnA P w K mg base "at" 5 ["kind","n","k"] sp_at) (F_counts:FnA P w K mg base "counts" 4 ["kind","most"] sp_counts) (F_place_of:FnA P w K mg base "place_of" 4 ["kind","parting"] sp_pl):FnOk P w K mg base CX0 7 f fd ["_law_script"] (sp_law K):=by
 refine F.okz sc_law (fun vs H Q E h=>?_) (fun cdv A outer s H vs Q E hr h=>?_)
 · obtain ⟨a,ns,rfl,_⟩:=h;rfl
 obtain ⟨a,ns,rfl,hS,hl,q⟩:=h
 have nd:=sc_law.nd
 have hu:=hr.units
 obtain ⟨tz,htz,fin⟩:=law_z (f:=f) (cdv:=cdv) (A:=A) (outer:=outer) (s:=s) (H:=H) (E:=E) (Q:=Q) hr nd m_int m_min m_range m_sum F_law_kind F_law_parting F_law_places_right F_law_spool F_law_take F_at F_counts F_place_of q
 have mid:∃ t,ZSs (cxOf CX0 P w K mg base ["_law_script","_law_spool_here","_law_far","_law_kind_here","_law_n","_law_turn","_law_parting_here","_law_k","_law_wide","_law_seven","_law_ends","_law_many"] "law" (defScope (top 39)) f cdv A outer s H E).nox ((defBody (top 39)).drop 5) t∧∀ (H1:Hp) (p L c:Addr) (k:Kn) (n m:Nat) (far:Int) s5 s6 s7 s8 s9 s10 s11,Hand H1 p L m→m<1000→KnAt H1 c k→k.Ok→noown k→n≤150→t { nx:=fun _ H'=>Q .non H',rt:=Q } [some (.ref a),some (.ref p),some (.int far),some (.ref c),some (.int n),s5,s6,s7,s8,s9,s10,s11] H1:=by
  refine ⟨_,(zss_cons (zs_if (zt_not (zt_valP (ze_fn F_law_places_right hr (by decide) rfl (za_cons (zn 1) (za_cons (zn 3) (za_cons (zn 4) za_nil)))))) (zss_one (zs_ret ze_bl)) zss_nil)
   (zss_cons (zs_for PassesOwn.never rfl (zi_range1 rfl m_range (za_cons ze_int za_nil)) (zg_name (i:=5) nd rfl (Or.inl rfl)) (zss_cons (zs_set (i:=6) nd rfl (Or.inl rfl) (ze_fn F_law_parting hr (by decide) rfl (za_cons (zn 1) (za_cons (ze_ix ix_P (ze_lst (za_cons ze_int (za_cons ze_int za_nil))) (zcb_int rfl m_int (za_cons (ze_cmpR (op_eqD hu) (zn 2) ze_int (nomark _)) za_nil) rfl rfl) (fun _ _=>rfl)) za_nil))))
   (zss_cons (zs_set (i:=7) nd rfl (Or.inl rfl) (ze_fn F_place_of hr (by decide) rfl (za_cons (ze_tup (za_cons ze_str za_nil)) (za_cons (zn 6) za_nil))))
   (zss_one (zs_if (zt_cmpP (op_neD hu) (ze_fn F_at hr (by decide) rfl (za_cons (ze_tup (za_cons ze_str za_nil)) (za_cons (zcb_sum rfl rfl m_sum (za_cons (zn 6) za_nil) rfl rfl) (za_cons (zn 7) za_nil)))) (zn 6) (nomark _)) (zss_one (zs_ret ze_bl)) zss_nil)))))
   (zss_cons (zs_if (zt_cmpP (op_eqD hu) (ze_fn F_law_take hr (by decide) rfl (za_cons (zn 1) (za_cons ze_int za_nil))) ze_int (nomark _)) (zss_cons (zs_par (i:=8) (j:=9) rfl nd rfl rfl (by decide) rfl rfl (za_cons (ze_op op_addP ze_int (ze_fn F_law_take hr (by decide) rfl (za_cons (zn 1) (za_cons ze_int za_nil)))) (za_cons (ze_op op_addP ze_int (ze_fn F_law_take hr (by decide) rfl (za_cons (zn 1) (za_cons ze_int za_nil)))) za_nil)) rfl)
   (zss_cons (zs_par (i:=3) (j:=4) rfl nd rfl rfl (by decide) rfl rfl (za_cons (ze_ix ix_P (ze_lst (za_cons (ze_tup (za_cons ze_str (za_cons (zn 9) za_nil))) (za_cons (ze_tup (za_cons ze_str (za_cons (zn 8) (za_cons (zn 9) za_nil)))) za_nil))) (ze_fn F_law_take hr (by decide) rfl (za_cons (zn 1) (za_cons ze_int za_nil))) (fun _ _=>rfl)) (za_cons (ze_op op_addP ze_int (ze_fn F_law_take hr (by decide) rfl (za_cons (zn 1) (za_cons ze_int za_nil)))) za_nil)) rfl)
   (zss_cons (zs_if (zt_cmpP (op_eqD hu) (ze_fn F_law_take hr (by decide) rfl (za_cons (zn 1) (za_cons ze_int za_nil))) ze_int (nomark _)) (zss_one (zs_par (i:=3) (j:=4) rfl nd rfl rfl (by decide) rfl rfl (za_cons (ze_tup (za_cons ze_str (za_cons (zn 8) (za_cons ze_int za_nil)))) (za_cons ze_int za_nil)) rfl)) zss_nil)
   (zss_one (zs_if (zt_not (zt_valP (ze_fn F_law_places_right hr (by decide) rfl (za_cons (zn 1) (za_cons (zn 3) (za_cons (zn 4) za_nil)))))) (zss_one (zs_ret ze_bl)) zss_nil))))) zss_nil)
   htz))),?_⟩
  intro H1 p L c k n m far s5 s6 s7 s8 s9 s10 s11 hh hm hk hok hno hn
  refine ⟨p,L,c,k,n,m,rfl,hh,by omega,hk,hok,hno,hn,fun H2 st2=>?_⟩
  refine ⟨2,rfl,by decide,by decide,for_range (fun i σ H'=>i≤2∧Hand H' p L (m+10+2000*i)∧∃ x5 x6 x7,σ=[some (.ref a),some (.ref p),some (.int far),some (.ref c),some (.int n),x5,x6,x7,s8,s9,s10,s11]) ⟨by decide,st2.2,_,_,_,rfl⟩ ?_ ?_⟩
  · rintro i σ H3 hi ⟨_,hh3,x5,x6,x7,rfl⟩
    have hi2:i<2:=hi
    refine ⟨by show 2≤sizeLine;decide,fun d hd=>?_⟩
    have hh4:=hh3.same (Same.new hd (.lst [V.int 40,.int 150]))
    have gd:upd H3 d (.lst [V.int 40,.int 150]) d=some (.lst [V.int 40,.int 150]):=upd_same
    generalize upd H3 d (.lst [V.int 40,.int 150])=H4 at hh4 gd
    obtain ⟨tr,etr,ltr⟩:∃ tr:Int,atI [V.int 40,.int 150] (if decide (V.int far=V.int 3)=true then 1 else 0)=some (.int tr)∧(0≤tr∧tr≤150):=by
     cases decide (V.int far=V.int 3) with
     | true=>exact ⟨150,rfl,by decide⟩
     | false=>exact ⟨40,rfl,by decide⟩
    refine ⟨_,.inl (SqL.of gd),.int tr,etr,?_⟩
    refine ⟨p,L,tr,_,rfl,hh4,by omega,by omega,by omega,fun r H5 ms st5 hr5 prt hs=>?_⟩
    obtain ⟨x,e1,e2,fx,sx⟩:=prt.fl
    rw [e1] at hr5
    have x300:x.sum≤300:=by omega
    refine ⟨by show 1≤sizeLine;decide,fun c1 hc1=>?_⟩
    have y6:=Same.new hc1 (.tup [V.str "all"])
    refine ⟨c1,r,.all,x,rfl,upd_same,trivial,trivial,y6 _ _ hr5,x300,fx,rfl,fun H7 y7=>?_⟩
    have hr7:=(y6.trans y7) _ _ hr5
    have hh7:=(st5.same (y6.trans y7)).2
    refine ⟨by show 1≤sizeLine;decide,fun c2 hc2=>?_⟩
    have y8:=Same.new hc2 (.tup [V.str "all"])
    have gc2:upd H7 c2 (.tup [V.str "all"]) c2=some (.tup [V.str "all"]):=upd_same
    have hr8:=y8 _ _ hr7
    have hh8:=hh7.same y8
    generalize upd H7 c2 (.tup [V.str "all"])=H8 at gc2 hr8 hh8
    refine ⟨_,.inr hr8,?_⟩
    rw [sumI]
    refine ⟨c2,.all,x,rfl,gc2,trivial,trivial,x300,fx,rfl,fun r9 H9 y9 hr9=>?_⟩
    refine ⟨_,_,.ints hr9,.ints (y9 _ _ hr8),shaped_ints _,shaped_ints _,?_⟩
    rw [if_pos rfl,eqv_self (shaped_ints _)]
    exact ⟨by omega,(hh8.same y9).mono (by omega),_,_,_,rfl⟩
  · rintro σ H3 ⟨_,hh3,x5,x6,x7,rfl⟩
    refine ⟨p,L,8,_,rfl,hh3,by omega,by decide,by decide,fun r4 H4 _ _ st4=>?_⟩
    refine iteD (fun c4=>?_) (fun c4=>?_)
    · refine ⟨p,L,24,_,rfl,st4.2,by omega,by decide,by decide,fun u' H5 u0 u1 st5=>?_⟩
      obtain ⟨u,eu⟩:∃ u:Nat,7+u'=(u:Int):=⟨(7+u').toNat,by omega⟩
      have gu:∀ {Kf:PySem.W.Frag} {Hx:Hp} {Qx:VK},Qx (.int (u:Int)) Hx→rAddP Kf (.int 7) (.int u') Hx Qx:=fun {Kf Hx Qx} h=>by
       show Qx (.int (7+u')) Hx
       rw [eu];exact h
      refine gu ?_
      clear gu
      refine ⟨p,L,6,_,rfl,st5.2,by omega,by decide,by decide,fun v' H6 v0 v1 st6=>?_⟩
      obtain ⟨v,ev⟩:∃ v:Nat,7+v'=(v:Int):=⟨(7+v').toNat,by omega⟩
      have gv:∀ {Kf:PySem.W.Frag} {Hx:Hp} {Qx:VK},Qx (.int (v:Int)) Hx→rAddP Kf (.int 7) (.int v') Hx Qx:=fun {Kf Hx Qx} h=>by
       show Qx (.int (7+v')) Hx
       rw [ev];exact h
      refine gv ?_
      clear gv
      refine ⟨_,_,rfl,?_⟩
      have hu6:u≤600:=by omega
      have hv6:v≤600:=by omega
      refine ⟨by show 2≤sizeLine;decide,fun t1 ht1=>?_⟩
      have y7:=Same.new ht1 (.tup [V.str "few",.int v])
      have g1:upd H6 t1 (.tup [V.str "few",.int v]) t1=some (.tup [V.str "few",.int v]):=upd_same
      have hh7:=st6.2.same y7
      generalize upd H6 t1 (.tup [V.str "few",.int v])=H7 at g1 hh7
      refine ⟨by show 3≤sizeLine;decide,fun t2 ht2=>?_⟩
      have y8:=Same.new ht2 (.tup [V.str "box",.int u,.int v])
      have g2:upd H7 t2 (.tup [V.str "box",.int u,.int v]) t2=some (.tup [V.str "box",.int u,.int v]):=upd_same
      have g1:=y8 _ _ g1
      have hh8:=hh7.same y8
      generalize upd H7 t2 (.tup [V.str "box",.int u,.int v])=H8 at g1 g2 hh8
      refine ⟨by show 2≤sizeLine;decide,fun t3 ht3=>?_⟩
      have t3n:=hh8.ne ht3
      have y9:=Same.new ht3 (.lst [V.ref t1,.ref t2])
      have g3:upd H8 t3 (.lst [V.ref t1,.ref t2]) t3=some (.lst [V.ref t1,.ref t2]):=upd_same
      have g1:=y9 _ _ g1
      have g2:=y9 _ _ g2
      have hh9:=hh8.same y9
      generalize upd H8 t3 (.lst [V.ref t1,.ref t2])=H9 at g1 g2 g3 hh9
      refine ⟨p,L,2,_,rfl,hh9,by omega,by decide,by decide,fun b H10 b0 b1 st10=>?_⟩
      have g1:=st10.tup hh9 g1
      have g2:=st10.tup hh9 g2
      have g3:=st10.lst t3n g3
      obtain ⟨tk,kk,etk,hkk,okk,nok⟩:∃ (tk:Addr) (kk:Kn),atI [V.ref t1,.ref t2] b=some (.ref tk)∧KnAt H10 tk kk∧kk.Ok∧noown kk:=by
       have:b=0∨b=1:=by omega
       rcases this with rfl | rfl
       · exact ⟨t1,.few v,rfl,g1,hv6,trivial⟩
       · exact ⟨t2,.box u v,rfl,g2,⟨hu6,hv6⟩,trivial⟩
      refine ⟨_,.inl (SqL.of g3),.ref tk,etk,?_⟩
      refine ⟨p,L,40,_,rfl,st10.2,by omega,by decide,by decide,fun z' H11 z0 z1 st11=>?_⟩
      obtain ⟨z,ez⟩:∃ z:Nat,61+z'=(z:Int):=⟨(61+z').toNat,by omega⟩
      have gz:∀ {Kf:PySem.W.Frag} {Hx:Hp} {Qx:VK},Qx (.int (z:Int)) Hx→rAddP Kf (.int 61) (.int z') Hx Qx:=fun {Kf Hx Qx} h=>by
       show Qx (.int (61+z')) Hx
       rw [ez];exact h
      refine gz ?_
      clear gz
      refine ⟨_,_,rfl,?_⟩
      have hkk:=hkk.step st10.2 st11
      refine ⟨p,L,4,_,rfl,st11.2,by omega,by decide,by decide,fun r12 H12 _ _ st12=>?_⟩
      have hkk:=hkk.step st11.2 st12
      refine iteD (fun c12=>?_) (fun c12=>?_)
      · refine ⟨by show 3≤sizeLine;decide,fun t4 ht4=>?_⟩
        have y13:=Same.new ht4 (.tup [V.str "box",.int u,.int 7])
        refine ⟨_,_,rfl,?_⟩
        refine ⟨p,L,t4,.box u 7,150,_,rfl,st12.2.same y13,by omega,upd_same,⟨hu6,by decide⟩,trivial,by decide,fun H14 st14=>?_⟩
        exact fin _ _ _ _ _ _ _ _ _ _ _ _ _
      · refine ⟨p,L,tk,kk,z,_,rfl,st12.2,by omega,hkk,okk,nok,by omega,fun H14 st14=>?_⟩
        exact fin _ _ _ _ _ _ _ _ _ _ _ _ _
    · exact fin _ _ _ _ _ _ _ _ _ _ _ _ _
 obtain ⟨tm,htm,mid⟩:=mid
 refine ⟨_,(zss_cons (zs_set (i:=1) nd rfl (Or.inl rfl) (ze_fn F_law_spool hr (by decide) rfl (za_cons (zn 0) za_nil)))
  (zss_cons (zs_set (i:=2) nd rfl (Or.inl rfl) (ze_fn F_law_take hr (by decide) rfl (za_cons (zn 1) (za_cons ze_int za_nil))))
  (zss_cons (zs_set (i:=3) nd rfl (Or.inl rfl) (ze_fn F_law_kind hr (by decide) rfl (za_cons (zn 1) (za_cons ze_int za_nil))))
  (zss_cons (zs_set (i:=4) nd rfl (Or.inl rfl) (ze_fn F_law_take hr (by decide) rfl (za_cons (zn 1) (za_cons (ze_ix ix_P (ze_lst (za_cons ze_int (za_cons ze_int (za_cons ze_int (za_cons ze_int za_nil))))) (zn 2) (fun _ _=>rfl)) za_nil))))
  (zss_cons (zs_if (ZW.zt (zw_and (zt_cmpP op_in_seq (ze_ix ix_P (zn 3) ze_int (fun _ _=>rfl)) (ze_tup (za_cons ze_str (za_cons ze_str za_nil))) (by with_unfolding_all rfl)) (zw_and1 (zt_cmpP op_gtP (zcb_minS rfl rfl m_min (za_cons (ze_slice sl_P (zn 3) (zo_some ze_int) zo_none) za_nil) rfl rfl) ze_int (nomark _))))) (zss_one (zs_set (i:=4) nd rfl (Or.inl rfl) (zcb_min rfl rfl m_min (za_cons (zn 4) (za_cons ze_int za_nil)) rfl rfl))) zss_nil)
  htm))))),?_⟩
 refine ⟨a,ns,rfl,hS,hl,fun p L H1 y1 hh=>?_⟩
 refine ⟨p,L,4,0,rfl,hh,by decide,by decide,by decide,fun far H2 f0 f1 st2=>?_⟩
 refine ⟨p,L,7,1,rfl,st2.2,by decide,by decide,by decide,fun c H3 kd st3 hc ok nb=>?_⟩
 obtain ⟨k,hk,hok,hno⟩:=kd_kn hc ok (nb (by decide))
 refine ⟨by show 4≤sizeLine;decide,fun d hd=>?_⟩
 have y4:=Same.new hd (.lst [V.int 61,.int 61,.int 61,.int 151])
 have g4:upd H3 d (.lst [V.int 61,.int 61,.int 61,.int 151]) d=some (.lst [V.int 61,.int 61,.int 61,.int 151]):=upd_same
 have hh4:=st3.2.same y4
 have hk4:=hk.same y4
 generalize upd H3 d (.lst [V.int 61,.int 61,.int 61,.int 151])=H4 at g4 hh4 hk4
 obtain ⟨mm,em,m1,m2⟩:=pick4n f0 f1
 refine ⟨_,.inl (SqL.of g4),.int mm,em,?_⟩
 refine ⟨p,L,mm,_,rfl,hh4,by omega,by omega,by omega,fun n' H5 n0 n1 st5=>?_⟩
 obtain ⟨n,rfl⟩:∃ n:Nat,n'=(n:Int):=⟨n'.toNat,by omega⟩
 have hn:n≤150:=by omega
 have hk5:=hk4.step hh4 st5
 obtain ⟨xs0,hw⟩:=hk5.word
 refine ⟨_,.inr hw,.str (wd k),atI_of (j:=0) rfl rfl,?_⟩
 refine ⟨by show 2≤sizeLine;decide,fun d7 hd7=>?_⟩
 have y7:=Same.new hd7 (.tup [V.str "few",.str "box"])
 have g7:upd H5 d7 (.tup [V.str "few",.str "box"]) d7=some (.tup [V.str "few",.str "box"]):=upd_same
 have hh7:=st5.2.same y7
 have hk7:=hk5.same y7
 generalize upd H5 d7 (.tup [V.str "few",.str "box"])=H7 at y7 g7 hh7 hk7
 refine ⟨d7,_,rfl,.inr (SqT.of g7),rfl,rfl,?_⟩
 have em60:∃ n2:Nat,(if (60:Int)<(n:Int) then (60:Int) else (n:Int))=(n2:Int)∧n2≤150:=by
  by_cases h:(60:Int)<(n:Int)
  · exact ⟨60,by rw [if_pos h];rfl,by decide⟩
  · exact ⟨n,by rw [if_neg h],hn⟩
 obtain ⟨n2,en2,hn2⟩:=em60
 cases k with
 | all=>exact mid H7 p L c _ n _ far _ _ _ _ _ _ _ hh7 (by omega) hk7 hok hno hn
 | most b=>exact mid H7 p L c _ n _ far _ _ _ _ _ _ _ hh7 (by omega) hk7 hok hno hn
 | times t=>exact mid H7 p L c _ n _ far _ _ _ _ _ _ _ hh7 (by omega) hk7 hok hno hn
 | rests t rs=>exact mid H7 p L c _ n _ far _ _ _ _ _ _ _ hh7 (by omega) hk7 hok hno hn
 | off d=>exact mid H7 p L c _ n _ far _ _ _ _ _ _ _ hh7 (by omega) hk7 hok hno hn
 | own=>exact hno.elim
 | few b=>
   refine ⟨1,rfl,c,rfl,.inl ⟨_,hk7,fun r8 H8 y8 hr8=>?_⟩⟩
   rw [cut1] at hr8
   refine ⟨[(b:Int)],.inr hr8,by simp,fun M hM hmin=>?_⟩
   refine iteD (fun c9=>?_) (fun c9=>?_)
   · show tm _ ([some (V.ref a),some (.ref p),some (.int far),some (.ref c),some (.int (if (60:Int)<(n:Int) then (60:Int) else (n:Int))),_,_,_,_,_,_,_]) H8
     rw [en2]
     exact mid H8 p L c _ n2 _ far _ _ _ _ _ _ _ (hh7.same y8) (by omega) (hk7.same y8) hok hno hn2
   · exact mid H8 p L c _ n _ far _ _ _ _ _ _ _ (hh7.same y8) (by omega) (hk7.same y8) hok hno hn
 | box b b2=>
   refine ⟨1,rfl,c,rfl,.inl ⟨_,hk7,fun r8 H8 y8 hr8=>?_⟩⟩
   rw [cut1] at hr8
   refine ⟨[(b:Int),(b2:Int)],.inr hr8,by simp,fun M hM hmin=>?_⟩
   refine iteD (fun c9=>?_) (fun c9=>?_)
   · show tm _ ([some (V.ref a),some (.ref p),some (.int far),some (.ref c),some (.int (if (60:Int)<(n:Int) then (60:Int) else (n:Int))),_,_,_,_,_,_,_]) H8
     rw [en2]
     exact mid H8 p L c _ n2 _ far _ _ _ _ _ _ _ (hh7.same y8) (by omega) (hk7.same y8) hok hno hn2
   · exact mid H8 p L c _ n _ far _ _ _ _ _ _ _ (hh7.same y8) (by omega) (hk7.same y8) hok hno hn
end
end K65
namespace K65
open PySem L2
theorem fnA {P:Program} {w:World} {K:PySem.W.Frag} {mg:Str→Option Value} {base:Heap} {x:Str} {k:Nat} {ps:List Str} {sp:Sp} {f:Addr} {fd:FuncData} (F:FnOk P w K mg base CX0 k f fd ps sp) (b:Binds K fd ps []) (kp:PySem.W.keepIn K (.ref f)=true) (m:mg x=some (.ref f)):FnA P w K mg base x k ps sp:=⟨⟨f,fd,F,b,kp,m⟩⟩
theorem us1 {α:Type} {p:List α→Prop} (h:∀ a,p [a]):∀ us:List α,us.length=1→p us
 | [a],_=>h a
theorem us2 {α:Type} {p:List α→Prop} (h:∀ a b,p [a,b]):∀ us:List α,us.length=2→p us
 | [a,b],_=>h a b
theorem us3 {α:Type} {p:List α→Prop} (h:∀ a b c,p [a,b,c]):∀ us:List α,us.length=3→p us
 | [a,b,c],_=>h a b c
theorem all_mk {l:PySem.W.OpenLaw} {w:World} {K:PySem.W.Frag} {h:Heap} {mg:Str→Option Value} {fa f1 f2 f3 f4 f5 f6 f7 f8 f9 f10 f11 f12 f13 f14 f15 f16 f17 f18 f19 f20 f21 f22 f23 f24 f25 f26 f27 f28 f29 f30 f31:Addr} (X:K.In h) (G:h.Ns mainGlobals mg) (hfa:mg "law" = some (.ref fa))
 {od1 an1 od2 an2 od3 an3 od4 an4 od5 an5 od6 an6 od7 an7 od8 an8 od9 an9 od10 an10 od11 an11 od12 an12 od13 an13 od14 an14 od15 an15 od16 an16 od17 an17 od18 an18 od19 an19 od20 an20 od21 an21 od22 an22 od23 an23 od24 an24 od25 an25 od26 an26 od27 an27 od28 an28 od29 an29 od30 an30 od31 an31:Option Addr} {sl1 sl2 sl3 sl4 sl5 sl6 sl7 sl8 sl9 sl10 sl11 sl12 sl13 sl14 sl15 sl16 sl17 sl18 sl19 sl20 sl21 sl22 sl23 sl24 sl25 sl26 sl27 sl28 sl29 sl30 sl31:Array (Option Value)} {oc1 kV1 dc1 pm1 cd1 ct1 oc2 kV2 dc2 pm2 cd2 ct2 oc3 kV3 dc3 pm3 cd3 ct3 oc4 kV4 dc4 pm4 cd4 ct4 oc5 kV5 dc5 pm5 cd5 ct5 oc6 kV6 dc6 pm6 cd6 ct6 oc7 kV7 dc7 pm7 cd7 ct7 oc8 kV8 dc8 pm8 cd8 ct8 oc9 kV9 dc9 pm9 cd9 ct9 oc10 kV10 dc10 pm10 cd10 ct10 oc11 kV11 dc11 pm11 cd11 ct11 oc12 kV12 dc12 pm12 cd12 ct12 oc13 kV13 dc13 pm13 cd13 ct13 oc14 kV14 dc14 pm14 cd14 ct14 oc15 kV15 dc15 pm15 cd15 ct15 oc16 kV16 dc16 pm16 cd16 ct16 oc17 kV17 dc17 pm17 cd17 ct17 oc18 kV18 dc18 pm18 cd18 ct18 oc19 kV19 dc19 pm19 cd19 ct19 oc20 kV20 dc20 pm20 cd20 ct20 oc21 kV21 dc21 pm21 cd21 ct21 oc22 kV22 dc22 pm22 cd22 ct22 oc23 kV23 dc23 pm23 cd23 ct23 oc24 kV24 dc24 pm24 cd24 ct24 oc25 kV25 dc25 pm25 cd25 ct25 oc26 kV26 dc26 pm26 cd26 ct26 oc27 kV27 dc27 pm27 cd27 ct27 oc28 kV28 dc28 pm28 cd28 ct28 oc29 kV29 dc29 pm29 cd29 ct29 oc30 kV30 dc30 pm30 cd30 ct30 oc31 kV31 dc31 pm31 cd31 ct31:Value}
 (a1:PySem.W.nsIn K mainGlobals "begun" = some (some (.ref f1))) (l1:K.lookup f1=some ⟨oc1,od1,.func (PySem.W.fnOf "begun" "begun" (defArgs (top 1)) (defBody (top 1)) (defScope (top 1)) .none kV1 dc1 pm1 an1 cd1 ct1),sl1⟩) (c1:PySem.W.codeIn K cd1 "begun" = true) (k1:PySem.W.keepIn K (.ref f1)=true)
 (a2:PySem.W.nsIn K mainGlobals "put_on" = some (some (.ref f2))) (l2:K.lookup f2=some ⟨oc2,od2,.func (PySem.W.fnOf "put_on" "put_on" (defArgs (top 2)) (defBody (top 2)) (defScope (top 2)) .none kV2 dc2 pm2 an2 cd2 ct2),sl2⟩) (c2:PySem.W.codeIn K cd2 "put_on" = true) (k2:PySem.W.keepIn K (.ref f2)=true)
 (a3:PySem.W.nsIn K mainGlobals "taken_off" = some (some (.ref f3))) (l3:K.lookup f3=some ⟨oc3,od3,.func (PySem.W.fnOf "taken_off" "taken_off" (defArgs (top 3)) (defBody (top 3)) (defScope (top 3)) .none kV3 dc3 pm3 an3 cd3 ct3),sl3⟩) (c3:PySem.W.codeIn K cd3 "taken_off" = true) (k3:PySem.W.keepIn K (.ref f3)=true)
 (a4:PySem.W.nsIn K mainGlobals "of_sizes" = some (some (.ref f4))) (l4:K.lookup f4=some ⟨oc4,od4,.func (PySem.W.fnOf "of_sizes" "of_sizes" (defArgs (top 5)) (defBody (top 5)) (defScope (top 5)) .none kV4 dc4 pm4 an4 cd4 ct4),sl4⟩) (c4:PySem.W.codeIn K cd4 "of_sizes" = true) (k4:PySem.W.keepIn K (.ref f4)=true)
 (a5:PySem.W.nsIn K mainGlobals "of_sizes_below" = some (some (.ref f5))) (l5:K.lookup f5=some ⟨oc5,od5,.func (PySem.W.fnOf "of_sizes_below" "of_sizes_below" (defArgs (top 6)) (defBody (top 6)) (defScope (top 6)) .none kV5 dc5 pm5 an5 cd5 ct5),sl5⟩) (c5:PySem.W.codeIn K cd5 "of_sizes_below" = true) (k5:PySem.W.keepIn K (.ref f5)=true)
 (a6:PySem.W.nsIn K mainGlobals "in_box" = some (some (.ref f6))) (l6:K.lookup f6=some ⟨oc6,od6,.func (PySem.W.fnOf "in_box" "in_box" (defArgs (top 7)) (defBody (top 7)) (defScope (top 7)) .none kV6 dc6 pm6 an6 cd6 ct6),sl6⟩) (c6:PySem.W.codeIn K cd6 "in_box" = true) (k6:PySem.W.keepIn K (.ref f6)=true)
 (a7:PySem.W.nsIn K mainGlobals "falling_by" = some (some (.ref f7))) (l7:K.lookup f7=some ⟨oc7,od7,.func (PySem.W.fnOf "falling_by" "falling_by" (defArgs (top 8)) (defBody (top 8)) (defScope (top 8)) .none kV7 dc7 pm7 an7 cd7 ct7),sl7⟩) (c7:PySem.W.codeIn K cd7 "falling_by" = true) (k7:PySem.W.keepIn K (.ref f7)=true)
 (a8:PySem.W.nsIn K mainGlobals "counted" = some (some (.ref f8))) (l8:K.lookup f8=some ⟨oc8,od8,.func (PySem.W.fnOf "counted" "counted" (defArgs (top 9)) (defBody (top 9)) (defScope (top 9)) .none kV8 dc8 pm8 an8 cd8 ct8),sl8⟩) (c8:PySem.W.codeIn K cd8 "counted" = true) (k8:PySem.W.keepIn K (.ref f8)=true)
 (a9:PySem.W.nsIn K mainGlobals "counts" = some (some (.ref f9))) (l9:K.lookup f9=some ⟨oc9,od9,.func (PySem.W.fnOf "counts" "counts" (defArgs (top 10)) (defBody (top 10)) (defScope (top 10)) .none kV9 dc9 pm9 an9 cd9 ct9),sl9⟩) (c9:PySem.W.codeIn K cd9 "counts" = true) (k9:PySem.W.keepIn K (.ref f9)=true)
 (a10:PySem.W.nsIn K mainGlobals "sizes" = some (some (.ref f10))) (l10:K.lookup f10=some ⟨oc10,od10,.func (PySem.W.fnOf "sizes" "sizes" (defArgs (top 17)) (defBody (top 17)) (defScope (top 17)) .none kV10 dc10 pm10 an10 cd10 ct10),sl10⟩) (c10:PySem.W.codeIn K cd10 "sizes" = true) (k10:PySem.W.keepIn K (.ref f10)=true)
 (a11:PySem.W.nsIn K mainGlobals "weight" = some (some (.ref f11))) (l11:K.lookup f11=some ⟨oc11,od11,.func (PySem.W.fnOf "weight" "weight" (defArgs (top 15)) (defBody (top 15)) (defScope (top 15)) .none kV11 dc11 pm11 an11 cd11 ct11),sl11⟩) (c11:PySem.W.codeIn K cd11 "weight" = true) (k11:PySem.W.keepIn K (.ref f11)=true)
 (a12:PySem.W.nsIn K mainGlobals "turned" = some (some (.ref f12))) (l12:K.lookup f12=some ⟨oc12,od12,.func (PySem.W.fnOf "turned" "turned" (defArgs (top 16)) (defBody (top 16)) (defScope (top 16)) .none kV12 dc12 pm12 an12 cd12 ct12),sl12⟩) (c12:PySem.W.codeIn K cd12 "turned" = true) (k12:PySem.W.keepIn K (.ref f12)=true)
 (a13:PySem.W.nsIn K mainGlobals "has_none_above" = some (some (.ref f13))) (l13:K.lookup f13=some ⟨oc13,od13,.func (PySem.W.fnOf "has_none_above" "has_none_above" (defArgs (top 19)) (defBody (top 19)) (defScope (top 19)) .none kV13 dc13 pm13 an13 cd13 ct13),sl13⟩) (c13:PySem.W.codeIn K cd13 "has_none_above" = true) (k13:PySem.W.keepIn K (.ref f13)=true)
 (a14:PySem.W.nsIn K mainGlobals "falls_by" = some (some (.ref f14))) (l14:K.lookup f14=some ⟨oc14,od14,.func (PySem.W.fnOf "falls_by" "falls_by" (defArgs (top 20)) (defBody (top 20)) (defScope (top 20)) .none kV14 dc14 pm14 an14 cd14 ct14),sl14⟩) (c14:PySem.W.codeIn K cd14 "falls_by" = true) (k14:PySem.W.keepIn K (.ref f14)=true)
 (a15:PySem.W.nsIn K mainGlobals "has_none_often" = some (some (.ref f15))) (l15:K.lookup f15=some ⟨oc15,od15,.func (PySem.W.fnOf "has_none_often" "has_none_often" (defArgs (top 21)) (defBody (top 21)) (defScope (top 21)) .none kV15 dc15 pm15 an15 cd15 ct15),sl15⟩) (c15:PySem.W.codeIn K cd15 "has_none_often" = true) (k15:PySem.W.keepIn K (.ref f15)=true)
 (a16:PySem.W.nsIn K mainGlobals "leaves_only" = some (some (.ref f16))) (l16:K.lookup f16=some ⟨oc16,od16,.func (PySem.W.fnOf "leaves_only" "leaves_only" (defArgs (top 22)) (defBody (top 22)) (defScope (top 22)) .none kV16 dc16 pm16 an16 cd16 ct16),sl16⟩) (c16:PySem.W.codeIn K cd16 "leaves_only" = true) (k16:PySem.W.keepIn K (.ref f16)=true)
 (a17:PySem.W.nsIn K mainGlobals "is_of" = some (some (.ref f17))) (l17:K.lookup f17=some ⟨oc17,od17,.func (PySem.W.fnOf "is_of" "is_of" (defArgs (top 23)) (defBody (top 23)) (defScope (top 23)) .none kV17 dc17 pm17 an17 cd17 ct17),sl17⟩) (c17:PySem.W.codeIn K cd17 "is_of" = true) (k17:PySem.W.keepIn K (.ref f17)=true)
 (a18:PySem.W.nsIn K mainGlobals "row_with_next_off" = some (some (.ref f18))) (l18:K.lookup f18=some ⟨oc18,od18,.func (PySem.W.fnOf "row_with_next_off" "row_with_next_off" (defArgs (top 25)) (defBody (top 25)) (defScope (top 25)) .none kV18 dc18 pm18 an18 cd18 ct18),sl18⟩) (c18:PySem.W.codeIn K cd18 "row_with_next_off" = true) (k18:PySem.W.keepIn K (.ref f18)=true)
 (a19:PySem.W.nsIn K mainGlobals "row_with_next" = some (some (.ref f19))) (l19:K.lookup f19=some ⟨oc19,od19,.func (PySem.W.fnOf "row_with_next" "row_with_next" (defArgs (top 26)) (defBody (top 26)) (defScope (top 26)) .none kV19 dc19 pm19 an19 cd19 ct19),sl19⟩) (c19:PySem.W.codeIn K cd19 "row_with_next" = true) (k19:PySem.W.keepIn K (.ref f19)=true)
 (a20:PySem.W.nsIn K mainGlobals "kind_behind" = some (some (.ref f20))) (l20:K.lookup f20=some ⟨oc20,od20,.func (PySem.W.fnOf "kind_behind" "kind_behind" (defArgs (top 27)) (defBody (top 27)) (defScope (top 27)) .none kV20 dc20 pm20 an20 cd20 ct20),sl20⟩) (c20:PySem.W.codeIn K cd20 "kind_behind" = true) (k20:PySem.W.keepIn K (.ref f20)=true)
 (a21:PySem.W.nsIn K mainGlobals "many_below" = some (some (.ref f21))) (l21:K.lookup f21=some ⟨oc21,od21,.func (PySem.W.fnOf "many_below" "many_below" (defArgs (top 28)) (defBody (top 28)) (defScope (top 28)) .none kV21 dc21 pm21 an21 cd21 ct21),sl21⟩) (c21:PySem.W.codeIn K cd21 "many_below" = true) (k21:PySem.W.keepIn K (.ref f21)=true)
 (a22:PySem.W.nsIn K mainGlobals "first_part_at" = some (some (.ref f22))) (l22:K.lookup f22=some ⟨oc22,od22,.func (PySem.W.fnOf "first_part_at" "first_part_at" (defArgs (top 30)) (defBody (top 30)) (defScope (top 30)) .none kV22 dc22 pm22 an22 cd22 ct22),sl22⟩) (c22:PySem.W.codeIn K cd22 "first_part_at" = true) (k22:PySem.W.keepIn K (.ref f22)=true)
 (a23:PySem.W.nsIn K mainGlobals "place_of" = some (some (.ref f23))) (l23:K.lookup f23=some ⟨oc23,od23,.func (PySem.W.fnOf "place_of" "place_of" (defArgs (top 29)) (defBody (top 29)) (defScope (top 29)) .none kV23 dc23 pm23 an23 cd23 ct23),sl23⟩) (c23:PySem.W.codeIn K cd23 "place_of" = true) (k23:PySem.W.keepIn K (.ref f23)=true)
 (a24:PySem.W.nsIn K mainGlobals "at" = some (some (.ref f24))) (l24:K.lookup f24=some ⟨oc24,od24,.func (PySem.W.fnOf "at" "at" (defArgs (top 31)) (defBody (top 31)) (defScope (top 31)) .none kV24 dc24 pm24 an24 cd24 ct24),sl24⟩) (c24:PySem.W.codeIn K cd24 "at" = true) (k24:PySem.W.keepIn K (.ref f24)=true)
 (a25:PySem.W.nsIn K mainGlobals "_law_spool" = some (some (.ref f25))) (l25:K.lookup f25=some ⟨oc25,od25,.func (PySem.W.fnOf "_law_spool" "_law_spool" (defArgs (top 33)) (defBody (top 33)) (defScope (top 33)) .none kV25 dc25 pm25 an25 cd25 ct25),sl25⟩) (c25:PySem.W.codeIn K cd25 "_law_spool" = true) (k25:PySem.W.keepIn K (.ref f25)=true)
 (a26:PySem.W.nsIn K mainGlobals "_law_take" = some (some (.ref f26))) (l26:K.lookup f26=some ⟨oc26,od26,.func (PySem.W.fnOf "_law_take" "_law_take" (defArgs (top 34)) (defBody (top 34)) (defScope (top 34)) .none kV26 dc26 pm26 an26 cd26 ct26),sl26⟩) (c26:PySem.W.codeIn K cd26 "_law_take" = true) (k26:PySem.W.keepIn K (.ref f26)=true)
 (a27:PySem.W.nsIn K mainGlobals "_law_kind" = some (some (.ref f27))) (l27:K.lookup f27=some ⟨oc27,od27,.func (PySem.W.fnOf "_law_kind" "_law_kind" (defArgs (top 35)) (defBody (top 35)) (defScope (top 35)) .none kV27 dc27 pm27 an27 cd27 ct27),sl27⟩) (c27:PySem.W.codeIn K cd27 "_law_kind" = true) (k27:PySem.W.keepIn K (.ref f27)=true)
 (a28:PySem.W.nsIn K mainGlobals "_law_is_of" = some (some (.ref f28))) (l28:K.lookup f28=some ⟨oc28,od28,.func (PySem.W.fnOf "_law_is_of" "_law_is_of" (defArgs (top 36)) (defBody (top 36)) (defScope (top 36)) .none kV28 dc28 pm28 an28 cd28 ct28),sl28⟩) (c28:PySem.W.codeIn K cd28 "_law_is_of" = true) (k28:PySem.W.keepIn K (.ref f28)=true)
 (a29:PySem.W.nsIn K mainGlobals "_law_parting" = some (some (.ref f29))) (l29:K.lookup f29=some ⟨oc29,od29,.func (PySem.W.fnOf "_law_parting" "_law_parting" (defArgs (top 37)) (defBody (top 37)) (defScope (top 37)) .none kV29 dc29 pm29 an29 cd29 ct29),sl29⟩) (c29:PySem.W.codeIn K cd29 "_law_parting" = true) (k29:PySem.W.keepIn K (.ref f29)=true)
 (a30:PySem.W.nsIn K mainGlobals "_law_places_right" = some (some (.ref f30))) (l30:K.lookup f30=some ⟨oc30,od30,.func (PySem.W.fnOf "_law_places_right" "_law_places_right" (defArgs (top 38)) (defBody (top 38)) (defScope (top 38)) .none kV30 dc30 pm30 an30 cd30 ct30),sl30⟩) (c30:PySem.W.codeIn K cd30 "_law_places_right" = true) (k30:PySem.W.keepIn K (.ref f30)=true)
 (a31:PySem.W.nsIn K mainGlobals "law" = some (some (.ref f31))) (l31:K.lookup f31=some ⟨oc31,od31,.func (PySem.W.fnOf "law" "law" (defArgs (top 39)) (defBody (top 39)) (defScope (top 39)) .none kV31 dc31 pm31 an31 cd31 ct31),sl31⟩) (c31:PySem.W.codeIn K cd31 "law" = true) (k31:PySem.W.keepIn K (.ref f31)=true)
 (z1:PySem.W.nsIn K mainGlobals "len" = some none) (z2:PySem.W.nsIn K mainGlobals "list" = some none) (z3:PySem.W.nsIn K mainGlobals "range" = some none) (z4:PySem.W.nsIn K mainGlobals "min" = some none) (z5:PySem.W.nsIn K mainGlobals "tuple" = some none) (z6:PySem.W.nsIn K mainGlobals "sum" = some none) (z7:PySem.W.nsIn K mainGlobals "all" = some none) (z8:PySem.W.nsIn K mainGlobals "max" = some none) (z9:PySem.W.nsIn K mainGlobals "abs" = some none) (z10:PySem.W.nsIn K mainGlobals "sorted" = some none) (z11:PySem.W.nsIn K mainGlobals "int" = some none) :
 ∃ fd:FuncData,(∀ (s:Shared) (v:Value),BindsTo s fd ⟨[v],[]⟩ [("_law_script",v)])∧∀ base:Heap,K.In base→base.Ns mainGlobals mg→FnOk l.prog w K mg base CX0 7 fa fd ["_law_script"] (sp_law K):=by
 have e:=hfa.symm.trans (PySem.W.mg_of X G a31)
 cases e
 have F1:=fun_mk (st:=top 1) l1 c1 k1
 have b1:=F1.binds (ps:=["most"]) fun _ _ _ _ _ _=>us1 fun _=>rfl
 have F2:=fun_mk (st:=top 2) l2 c2 k2
 have b2:=F2.binds (ps:=["row","size"]) fun _ _ _ _ _ _=>us2 fun _ _=>rfl
 have F3:=fun_mk (st:=top 3) l3 c3 k3
 have b3:=F3.binds (ps:=["row","size"]) fun _ _ _ _ _ _=>us2 fun _ _=>rfl
 have F4:=fun_mk (st:=top 5) l4 c4 k4
 have b4:=F4.binds (ps:=["some","most"]) fun _ _ _ _ _ _=>us2 fun _ _=>rfl
 have F5:=fun_mk (st:=top 6) l5 c5 k5
 have b5:=F5.binds (ps:=["some","m","most"]) fun _ _ _ _ _ _=>us3 fun _ _ _=>rfl
 have F6:=fun_mk (st:=top 7) l6 c6 k6
 have b6:=F6.binds (ps:=["k","l","most"]) fun _ _ _ _ _ _=>us3 fun _ _ _=>rfl
 have F7:=fun_mk (st:=top 8) l7 c7 k7
 have b7:=F7.binds (ps:=["d","most"]) fun _ _ _ _ _ _=>us2 fun _ _=>rfl
 have F8:=fun_mk (st:=top 9) l8 c8 k8
 have b8:=F8.binds (ps:=["kind","most"]) fun _ _ _ _ _ _=>us2 fun _ _=>rfl
 have F9:=fun_mk (st:=top 10) l9 c9 k9
 have b9:=F9.binds (ps:=["kind","most"]) fun _ _ _ _ _ _=>us2 fun _ _=>rfl
 have F10:=fun_mk (st:=top 17) l10 c10 k10
 have b10:=F10.binds (ps:=["parting"]) fun _ _ _ _ _ _=>us1 fun _=>rfl
 have F11:=fun_mk (st:=top 15) l11 c11 k11
 have b11:=F11.binds (ps:=["parting"]) fun _ _ _ _ _ _=>us1 fun _=>rfl
 have F12:=fun_mk (st:=top 16) l12 c12 k12
 have b12:=F12.binds (ps:=["parting"]) fun _ _ _ _ _ _=>us1 fun _=>rfl
 have F13:=fun_mk (st:=top 19) l13 c13 k13
 have b13:=F13.binds (ps:=["parting","k"]) fun _ _ _ _ _ _=>us2 fun _ _=>rfl
 have F14:=fun_mk (st:=top 20) l14 c14 k14
 have b14:=F14.binds (ps:=["parting","d"]) fun _ _ _ _ _ _=>us2 fun _ _=>rfl
 have F15:=fun_mk (st:=top 21) l15 c15 k15
 have b15:=F15.binds (ps:=["parting","m"]) fun _ _ _ _ _ _=>us2 fun _ _=>rfl
 have F16:=fun_mk (st:=top 22) l16 c16 k16
 have b16:=F16.binds (ps:=["parting","m","rests"]) fun _ _ _ _ _ _=>us3 fun _ _ _=>rfl
 have F17:=fun_mk (st:=top 23) l17 c17 k17
 have b17:=F17.binds (ps:=["kind","parting"]) fun _ _ _ _ _ _=>us2 fun _ _=>rfl
 have F18:=fun_mk (st:=top 25) l18 c18 k18
 have b18:=F18.binds (ps:=["rows","d"]) fun _ _ _ _ _ _=>us2 fun _ _=>rfl
 have F19:=fun_mk (st:=top 26) l19 c19 k19
 have b19:=F19.binds (ps:=["kind","rows"]) fun _ _ _ _ _ _=>us2 fun _ _=>rfl
 have F20:=fun_mk (st:=top 27) l20 c20 k20
 have b20:=F20.binds (ps:=["kind"]) fun _ _ _ _ _ _=>us1 fun _=>rfl
 have F21:=fun_mk (st:=top 28) l21 c21 k21
 have b21:=F21.binds (ps:=["kind","n","part"]) fun _ _ _ _ _ _=>us3 fun _ _ _=>rfl
 have F22:=fun_mk (st:=top 30) l22 c22 k22
 have b22:=F22.binds (ps:=["kind","n","k"]) fun _ _ _ _ _ _=>us3 fun _ _ _=>rfl
 have F23:=fun_mk (st:=top 29) l23 c23 k23
 have b23:=F23.binds (ps:=["kind","parting"]) fun _ _ _ _ _ _=>us2 fun _ _=>rfl
 have F24:=fun_mk (st:=top 31) l24 c24 k24
 have b24:=F24.binds (ps:=["kind","n","k"]) fun _ _ _ _ _ _=>us3 fun _ _ _=>rfl
 have F25:=fun_mk (st:=top 33) l25 c25 k25
 have b25:=F25.binds (ps:=["_law_script"]) fun _ _ _ _ _ _=>us1 fun _=>rfl
 have F26:=fun_mk (st:=top 34) l26 c26 k26
 have b26:=F26.binds (ps:=["_law_spool_here","_law_many"]) fun _ _ _ _ _ _=>us2 fun _ _=>rfl
 have F27:=fun_mk (st:=top 35) l27 c27 k27
 have b27:=F27.binds (ps:=["_law_spool_here","_law_most"]) fun _ _ _ _ _ _=>us2 fun _ _=>rfl
 have F28:=fun_mk (st:=top 36) l28 c28 k28
 have b28:=F28.binds (ps:=["_law_kind_here","_law_parting_here"]) fun _ _ _ _ _ _=>us2 fun _ _=>rfl
 have F29:=fun_mk (st:=top 37) l29 c29 k29
 have b29:=F29.binds (ps:=["_law_spool_here","_law_most"]) fun _ _ _ _ _ _=>us2 fun _ _=>rfl
 have F30:=fun_mk (st:=top 38) l30 c30 k30
 have b30:=F30.binds (ps:=["_law_spool_here","_law_kind_here","_law_n"]) fun _ _ _ _ _ _=>us3 fun _ _ _=>rfl
 have F31:=fun_mk (st:=top 39) l31 c31 k31
 have m_len:=PySem.W.mg_none_of X G z1
 have m_list:=PySem.W.mg_none_of X G z2
 have m_range:=PySem.W.mg_none_of X G z3
 have m_min:=PySem.W.mg_none_of X G z4
 have m_tuple:=PySem.W.mg_none_of X G z5
 have m_sum:=PySem.W.mg_none_of X G z6
 have m_all:=PySem.W.mg_none_of X G z7
 have m_max:=PySem.W.mg_none_of X G z8
 have m_abs:=PySem.W.mg_none_of X G z9
 have m_sorted:=PySem.W.mg_none_of X G z10
 have m_int:=PySem.W.mg_none_of X G z11
 refine ⟨PySem.W.fnOf "law" "law" (defArgs (top 39)) (defBody (top 39)) (defScope (top 39)) .none kV31 dc31 pm31 an31 cd31 ct31,fun s v=>.of_eq rfl,fun base _ _=>?_⟩
 have A1:FnA l.prog w K mg base "begun" 1 ["most"] sp_begun:=fnA (ok_begun F1) b1 k1 (PySem.W.mg_of X G a1)
 have A2:FnA l.prog w K mg base "put_on" 1 ["row","size"] sp_put_on:=fnA (ok_put_on F2 m_len m_list m_range) b2 k2 (PySem.W.mg_of X G a2)
 have A3:FnA l.prog w K mg base "taken_off" 1 ["row","size"] sp_to:=fnA (ok_to F3 m_len m_list m_range) b3 k3 (PySem.W.mg_of X G a3)
 have A4:FnA l.prog w K mg base "of_sizes" 2 ["some","most"] sp_of_sizes:=fnA (ok_of_sizes F4 A1 A2) b4 k4 (PySem.W.mg_of X G a4)
 have A5:FnA l.prog w K mg base "of_sizes_below" 2 ["some","m","most"] sp_osb:=fnA (ok_osb F5 A1 A2 A3) b5 k5 (PySem.W.mg_of X G a5)
 have A6:FnA l.prog w K mg base "in_box" 2 ["k","l","most"] sp_ib:=fnA (ok_ib F6 m_min m_range A1 A2 A3) b6 k6 (PySem.W.mg_of X G a6)
 have A7:FnA l.prog w K mg base "falling_by" 2 ["d","most"] sp_fb:=fnA (ok_fb F7 m_range A1 A2) b7 k7 (PySem.W.mg_of X G a7)
 have A8:FnA l.prog w K mg base "counted" 3 ["kind","most"] sp_counted:=fnA (ok_counted F8 m_list m_min m_range A7 A6 A4 A5) b8 k8 (PySem.W.mg_of X G a8)
 have A9:FnA l.prog w K mg base "counts" 4 ["kind","most"] sp_counts:=fnA (ok_counts F9 m_tuple A8) b9 k9 (PySem.W.mg_of X G a9)
 have A10:FnA l.prog w K mg base "sizes" 1 ["parting"] sp_sizes:=fnA (ok_sizes F10 m_tuple) b10 k10 (PySem.W.mg_of X G a10)
 have A11:FnA l.prog w K mg base "weight" 1 ["parting"] sp_wt:=fnA (ok_wt F11 m_sum) b11 k11 (PySem.W.mg_of X G a11)
 have A12:FnA l.prog w K mg base "turned" 1 ["parting"] sp_tu:=fnA (ok_tu F12 m_len m_range m_tuple) b12 k12 (PySem.W.mg_of X G a12)
 have A13:FnA l.prog w K mg base "has_none_above" 1 ["parting","k"] sp_na:=fnA (ok_na F13 m_len) b13 k13 (PySem.W.mg_of X G a13)
 have A14:FnA l.prog w K mg base "falls_by" 1 ["parting","d"] sp_fa:=fnA (ok_fa F14 m_len m_range) b14 k14 (PySem.W.mg_of X G a14)
 have A15:FnA l.prog w K mg base "has_none_often" 2 ["parting","m"] sp_no:=fnA (ok_no F15 m_all A10) b15 k15 (PySem.W.mg_of X G a15)
 have A16:FnA l.prog w K mg base "leaves_only" 1 ["parting","m","rests"] sp_lo:=fnA (ok_lo F16 m_all) b16 k16 (PySem.W.mg_of X G a16)
 have A17:FnA l.prog w K mg base "is_of" 3 ["kind","parting"] sp_pi:=fnA (ok_pi F17 m_len A14 A13 A15 A16 A12) b17 k17 (PySem.W.mg_of X G a17)
 have A18:FnA l.prog w K mg base "row_with_next_off" 1 ["rows","d"] sp_ro:=fnA (ok_ro F18 m_len m_list m_max m_range) b18 k18 (PySem.W.mg_of X G a18)
 have A19:FnA l.prog w K mg base "row_with_next" 2 ["kind","rows"] sp_rn:=fnA (ok_rn F19 m_len A2 A18 A3) b19 k19 (PySem.W.mg_of X G a19)
 have A20:FnA l.prog w K mg base "kind_behind" 1 ["kind"] sp_kb:=fnA (ok_kb F20) b20 k20 (PySem.W.mg_of X G a20)
 have A21:FnA l.prog w K mg base "many_below" 3 ["kind","n","part"] sp_mb:=fnA (ok_mb F21 m_len A1 A19) b21 k21 (PySem.W.mg_of X G a21)
 have A22:FnA l.prog w K mg base "first_part_at" 3 ["kind","n","k"] sp_fp:=fnA (ok_fp F22 m_len A1 A19) b22 k22 (PySem.W.mg_of X G a22)
 have A23:FnA l.prog w K mg base "place_of" 4 ["kind","parting"] sp_pl:=fnA (ok_pl F23 A17 A20 A21 A11) b23 k23 (PySem.W.mg_of X G a23)
 have A24:FnA l.prog w K mg base "at" 5 ["kind","n","k"] sp_at:=fnA (ok_at F24 m_tuple A9 A22 A20) b24 k24 (PySem.W.mg_of X G a24)
 have A25:FnA l.prog w K mg base "_law_spool" 1 ["_law_script"] (sp_spool K):=fnA (ok_spool F25 m_abs m_len) b25 k25 (PySem.W.mg_of X G a25)
 have A26:FnA l.prog w K mg base "_law_take" 1 ["_law_spool_here","_law_many"] sp_take:=fnA (ok_take F26) b26 k26 (PySem.W.mg_of X G a26)
 have A27:FnA l.prog w K mg base "_law_kind" 2 ["_law_spool_here","_law_most"] sp_kind:=fnA (ok_kind F27 m_range m_tuple A26) b27 k27 (PySem.W.mg_of X G a27)
 have A28:FnA l.prog w K mg base "_law_is_of" 1 ["_law_kind_here","_law_parting_here"] sp_io:=fnA (ok_io F28 m_all m_len m_range m_tuple) b28 k28 (PySem.W.mg_of X G a28)
 have A29:FnA l.prog w K mg base "_law_parting" 2 ["_law_spool_here","_law_most"] sp_parting:=fnA (ok_parting F29 m_max m_min m_sorted m_tuple A26) b29 k29 (PySem.W.mg_of X G a29)
 have A30:FnA l.prog w K mg base "_law_places_right" 6 ["_law_spool_here","_law_kind_here","_law_n"] sp_pr:=fnA (ok_pr F30 m_list m_sorted m_sum A28 A26 A24 A9 A23) b30 k30 (PySem.W.mg_of X G a30)
 exact ok_law F31 m_int m_min m_range m_sum A27 A29 A30 A25 A26 A24 A9 A23
theorem walk {l:PySem.W.OpenLaw} {q:Program} {loose:List Str} {XP:(Str→Option Value)→Heap→Prop} {YP:World→Heap→Prop} {d:DefRec} {K:Params→PySem.W.Frag} (hn:l.most=some 63) (hdf:d.params.defaults=[])
 (hY:∀ (w:World) (h:Heap),YP w h→(K w.params).In h)
 (F:∀ (w:World) (mg:Str→Option Value) (fa:Addr) (h:Heap),(K w.params).In h→h.Ns mainGlobals mg→mg d.name=some (.ref fa) →
   ∃ fd:FuncData,(∀ (s:Shared) (u:Value),BindsTo s fd ⟨[u],[]⟩ [("_law_script",u)])∧∀ base:Heap,(K w.params).In base→base.Ns mainGlobals mg→FnOk l.prog w (K w.params) mg base CX0 7 fa fd ["_law_script"] (sp_law (K w.params))) :
 PySem.W.WalkO q loose XP YP l.row.toRowW d [] (fun f vs=>PySem.call f vs):=
 L2.walk_of (n:=63) (k:=7) (x:="_law_script") (CX:=fun _=>CX0) (sp:=fun w=>sp_law (K w.params)) hn (by decide) hdf ⟨rfl,by decide,by decide,rfl⟩ hY F (fun _ _ a ns hl _ hS=>⟨a,ns,rfl,hS,hl,fun _=>rfl⟩) fun _ _ _ _ _ z=>z
end K65
namespace PySem.W.Fast
theorem tw10035885049457573567:True:=⟨⟩
theorem tw11667395801114728823:True:=⟨⟩
theorem tw4920295063034888331:True:=⟨⟩
theorem tw17419842870329849597:True:=⟨⟩
theorem tw2074110790062352396:True:=⟨⟩
theorem tw13669283495566145192:True:=⟨⟩
theorem tw17985604494291281229:True:=⟨⟩
theorem tw2112090685048028633:True:=⟨⟩
theorem tw5309466046348986938:True:=⟨⟩
theorem tw13853374109219378721:True:=⟨⟩
theorem tw11567348121672824644:True:=⟨⟩
theorem tw15925918144808882738:True:=⟨⟩
theorem tw12473892249074011291:True:=⟨⟩
theorem tw7848787476919229302:True:=⟨⟩
theorem tw15386853563578388526:True:=⟨⟩
theorem tw4260097178199060557:True:=⟨⟩
theorem tw4291297910713284053:True:=⟨⟩
theorem tw11615051414031639195:True:=⟨⟩
theorem tw5056201056323517165:True:=⟨⟩
theorem tw13138949588145180705:True:=⟨⟩
theorem tw3087448596822628304:True:=⟨⟩
theorem tw14364445360642465553:True:=⟨⟩
theorem tw11165852307444424351:True:=⟨⟩
theorem tw3897673612283956900:True:=⟨⟩
theorem tw18110508474428454742:True:=⟨⟩
theorem tw15768693120099638356:True:=⟨⟩
theorem tw17065633753777071158:True:=⟨⟩
theorem tw12437276881947302689:True:=⟨⟩
theorem tw9293394848345276237:True:=⟨⟩
theorem tw11921520446699108293:True:=⟨⟩
theorem tw9030703209983574916:True:=⟨⟩
theorem tw11903358007152107273:True:=⟨⟩
theorem tw9156691333561046016:True:=⟨⟩
theorem tw13794218599838020147:True:=⟨⟩
theorem tw16600979749548803740:True:=⟨⟩
theorem tw3968380608759437388:True:=⟨⟩
theorem tw15217373821456547341:True:=⟨⟩
theorem tw13674376492680559664:True:=⟨⟩
theorem tw1418136513923194098:True:=⟨⟩
theorem tw6858149971666300142:True:=⟨⟩
theorem tw6031676616933171046:True:=⟨⟩
theorem tw4108794057057663584:True:=⟨⟩
theorem tw4318172104692689029:True:=⟨⟩
theorem tw17504549963201610779:True:=⟨⟩
theorem tw583623150099038756:True:=⟨⟩
theorem tw7131892332248188789:True:=⟨⟩
theorem tw11509937886263294964:True:=⟨⟩
theorem tw5297619863102984580:True:=⟨⟩
theorem tw7960954413667032288:True:=⟨⟩
theorem tw12755402475759254740:True:=⟨⟩
theorem tw10709230591395620750:True:=⟨⟩
theorem tw15968731894369491377:True:=⟨⟩
theorem tw17622735475407570608:True:=⟨⟩
theorem tw8862998265968900266:True:=⟨⟩
theorem tw7238441019935210895:True:=⟨⟩
theorem tw7548795710199179478:True:=⟨⟩
theorem tw6752077452574744622:True:=⟨⟩
theorem tw14820313521012773846:True:=⟨⟩
theorem tw591415918884709586:True:=⟨⟩
theorem tw1299996228283045454:True:=⟨⟩
theorem tw7348736728131223387:True:=⟨⟩
theorem tw6874140566820598886:True:=⟨⟩
theorem tw8890858093726237017:True:=⟨⟩
theorem tw3109413942762587886:True:=⟨⟩
theorem tw15843502755828122237:True:=⟨⟩
theorem tw15093404655729255745:True:=⟨⟩
theorem tw10941373028288693664:True:=⟨⟩
theorem tw17837120725817946259:True:=⟨⟩
theorem tw18280940688527508617:True:=⟨⟩
theorem tw14905014075407004589:True:=⟨⟩
theorem tw4872764485246080528:True:=⟨⟩
theorem tw4473729523728085901:True:=⟨⟩
theorem tw9014955312597029939:True:=⟨⟩
theorem tw17146342039494156918:True:=⟨⟩
theorem tw16523689466281861109:True:=⟨⟩
theorem tw615115141778416398:True:=⟨⟩
theorem tw8759764826515055650:True:=⟨⟩
theorem tw9198843933644011693:True:=⟨⟩
theorem tw11116568267576257639:True:=⟨⟩
theorem tw15236860379258259304:True:=⟨⟩
theorem tw14083964015913253606:True:=⟨⟩
theorem tw15412210632739769467:True:=⟨⟩
theorem tw13880614657219134389:True:=⟨⟩
theorem tw10701709783416102413:True:=⟨⟩
theorem tw6152799924818221835:True:=⟨⟩
theorem tw14454103660836437846:True:=⟨⟩
theorem tw2748306075717402730:True:=⟨⟩
theorem tw12236184960281213869:True:=⟨⟩
theorem tw16329351061580062431:True:=⟨⟩
theorem tw204720617101384920:True:=⟨⟩
theorem tw9975189552423731581:True:=⟨⟩
theorem tw11461412665776318216:True:=⟨⟩
theorem tw11142110601413512009:True:=⟨⟩
theorem tw13465090245401291695:True:=⟨⟩
theorem tw17731385935111280333:True:=⟨⟩
theorem tw9343530479072596422:True:=⟨⟩
theorem tw17373333590515733974:True:=⟨⟩
theorem tw4747486947225557449:True:=⟨⟩
theorem tw6264063938047122200:True:=⟨⟩
theorem tw16705880984287708631:True:=⟨⟩
theorem tw5214129641701976509:True:=⟨⟩
theorem tw3119447144826291664:True:=⟨⟩
theorem tw8465428934352509944:True:=⟨⟩
theorem tw9651903062626613310:True:=⟨⟩
theorem tw1616005215918354115:True:=⟨⟩
theorem tw17940055788785269017:True:=⟨⟩
theorem tw3514518563119716274:True:=⟨⟩
theorem tw14200006967142042170:True:=⟨⟩
theorem tw8353526738965458171:True:=⟨⟩
theorem tw8056780730447869135:True:=⟨⟩
theorem tw5286744130162809566:True:=⟨⟩
theorem tw16176912812275495019:True:=⟨⟩
theorem tw4769360994270856321:True:=⟨⟩
theorem tw5140207264089214021:True:=⟨⟩
theorem tw17568093930875562810:True:=⟨⟩
theorem tw17612870964222667455:True:=⟨⟩
theorem tw5163419123048478203:True:=⟨⟩
theorem tw17924944642255963533:True:=⟨⟩
theorem tw15447954010162824348:True:=⟨⟩
theorem tw18107320744959694932:True:=⟨⟩
theorem tw6490598072938085057:True:=⟨⟩
theorem tw17352105455371359691:True:=⟨⟩
theorem tw17105265226238623158:True:=⟨⟩
theorem tw16456248078109425342:True:=⟨⟩
theorem tw18267029270021633026:True:=⟨⟩
theorem tw7169732088087494059:True:=⟨⟩
theorem tw6221120503759710119:True:=⟨⟩
theorem tw14979580996916103028:True:=⟨⟩
theorem tw17296321636582226223:True:=⟨⟩
theorem tw16037563970301559364:True:=⟨⟩
theorem tw9768625180250680740:True:=⟨⟩
theorem tw9475369261437502208:True:=⟨⟩
theorem tw3715079186670525012:True:=⟨⟩
theorem tw10067331031551112567:True:=⟨⟩
theorem tw7499452358763150875:True:=⟨⟩
theorem tw6287037252921842859:True:=⟨⟩
theorem tw5099433242006488204:True:=⟨⟩
theorem tw15728378482753480545:True:=⟨⟩
theorem tw83638474457375513:True:=⟨⟩
theorem tw576147677623367632:True:=⟨⟩
theorem tw7826803893025488490:True:=⟨⟩
theorem tw8379576541102033627:True:=⟨⟩
theorem tw16883877784633605100:True:=⟨⟩
theorem tw9703504012061921466:True:=⟨⟩
theorem tw4781857087424289180:True:=⟨⟩
theorem tw1622076893690739024:True:=⟨⟩
theorem tw730173070039196434:True:=⟨⟩
theorem tw1741408191291321316:True:=⟨⟩
theorem tw11697740855628151496:True:=⟨⟩
theorem tw9868616549077988675:True:=⟨⟩
theorem tw6923585222200626820:True:=⟨⟩
theorem tw15967779722133359768:True:=⟨⟩
theorem tw4055879457346004107:True:=⟨⟩
theorem tw15553761004217446833:True:=⟨⟩
theorem tw11181262249407903598:True:=⟨⟩
theorem tw16456218534761348438:True:=⟨⟩
theorem tw15168867445804081834:True:=⟨⟩
theorem tw6078989655183480434:True:=⟨⟩
theorem tw14872429073494858515:True:=⟨⟩
theorem tw2916690355524330035:True:=⟨⟩
theorem tw10242882262491805635:True:=⟨⟩
theorem tw16339529993729358727:True:=⟨⟩
theorem tw4331607517773962676:True:=⟨⟩
theorem tw11811336404546798693:True:=⟨⟩
theorem tw4858565522981529021:True:=⟨⟩
theorem tw12821352312648626856:True:=⟨⟩
theorem tw9446888312296583451:True:=⟨⟩
theorem tw5984414581622079796:True:=⟨⟩
theorem tw11985907679629584534:True:=⟨⟩
theorem tw4457561721493178024:True:=⟨⟩
theorem tw4611941594508238833:True:=⟨⟩
theorem tw6330674086856700487:True:=⟨⟩
theorem tw3143976323882570917:True:=⟨⟩
theorem tw4612792127586438687:True:=⟨⟩
theorem tw5692018554181019906:True:=⟨⟩
theorem tw2845247445735324555:True:=⟨⟩
theorem tw12358214704946665368:True:=⟨⟩
theorem tw5280665579476600930:True:=⟨⟩
theorem tw7744921619533642796:True:=⟨⟩
theorem tw13821494952310163969:True:=⟨⟩
theorem tw9508923293983656063:True:=⟨⟩
theorem tw16431562047460124743:True:=⟨⟩
theorem tw2450958935141144779:True:=⟨⟩
theorem tw14961865899489094747:True:=⟨⟩
theorem tw17411684654942384396:True:=⟨⟩
theorem tw5213655636282003374:True:=⟨⟩
theorem tw7531999517086923554:True:=⟨⟩
theorem tw4998359662663802399:True:=⟨⟩
theorem tw848181880839290719:True:=⟨⟩
theorem tw15440972865400208207:True:=⟨⟩
theorem tw6412050418904630652:True:=⟨⟩
theorem tw2139540539397042916:True:=⟨⟩
theorem tw17255908455471335034:True:=⟨⟩
theorem tw14157213063110694530:True:=⟨⟩
theorem tw13185069641641684735:True:=⟨⟩
theorem tw3757335060005301937:True:=⟨⟩
theorem tw14949027561123067349:True:=⟨⟩
theorem tw6912048357915228792:True:=⟨⟩
theorem tw4290219867688363093:True:=⟨⟩
theorem tw11115379659963492904:True:=⟨⟩
theorem tw10244969314888756878:True:=⟨⟩
theorem tw12617203152137162006:True:=⟨⟩
theorem tw15503127912118423832:True:=⟨⟩
theorem tw3899394038488543826:True:=⟨⟩
theorem tw13105874899855655500:True:=⟨⟩
theorem tw6005776070419024750:True:=⟨⟩
theorem tw9436728596386306829:True:=⟨⟩
theorem tw7525860432305050747:True:=⟨⟩
theorem tw3503434205635927198:True:=⟨⟩
theorem tw7006854623697118375:True:=⟨⟩
theorem tw5168320636209739847:True:=⟨⟩
theorem tw302708494021845978:True:=⟨⟩
theorem tw2604180735543650349:True:=⟨⟩
theorem tw6686613935947855235:True:=⟨⟩
theorem tw13686913751083161051:True:=⟨⟩
theorem tw8802570256138750424:True:=⟨⟩
theorem tw11980620626252244010:True:=⟨⟩
theorem tw11078102046243150940:True:=⟨⟩
end PySem.W.Fast
open PySem PySem.W PyProof.Rows
set_option maxRecDepth 100000 in
set_option maxHeartbeats 0 in
theorem PySem.Challenge.cw_partrests_k65_whole_places_to_150_holds : PySem.Challenge.rw_partrests_k65_whole_places_to_150.Holds := by
 w_on;o_law;k_head;(case hw=>w_witness2)
 k_fill
 refine K65.walk (l:=PySem.Challenge.rw_partrests_k65_whole_places_to_150) rfl rfl (fun w h Y=>PySem.W.kIn_of Y) ?F
 case F=>
  intro w mg fa h KX G hmg
  refine' K65.all_mk KX G hmg ?a1 ?l1 ?c1 ?k1 ?a2 ?l2 ?c2 ?k2 ?a3 ?l3 ?c3 ?k3 ?a4 ?l4 ?c4 ?k4 ?a5 ?l5 ?c5 ?k5 ?a6 ?l6 ?c6 ?k6 ?a7 ?l7 ?c7 ?k7 ?a8 ?l8 ?c8 ?k8 ?a9 ?l9 ?c9 ?k9 ?a10 ?l10 ?c10 ?k10 ?a11 ?l11 ?c11 ?k11 ?a12 ?l12 ?c12 ?k12 ?a13 ?l13 ?c13 ?k13 ?a14 ?l14 ?c14 ?k14 ?a15 ?l15 ?c15 ?k15 ?a16 ?l16 ?c16 ?k16 ?a17 ?l17 ?c17 ?k17 ?a18 ?l18 ?c18 ?k18 ?a19 ?l19 ?c19 ?k19 ?a20 ?l20 ?c20 ?k20 ?a21 ?l21 ?c21 ?k21 ?a22 ?l22 ?c22 ?k22 ?a23 ?l23 ?c23 ?k23 ?a24 ?l24 ?c24 ?k24 ?a25 ?l25 ?c25 ?k25 ?a26 ?l26 ?c26 ?k26 ?a27 ?l27 ?c27 ?k27 ?a28 ?l28 ?c28 ?k28 ?a29 ?l29 ?c29 ?k29 ?a30 ?l30 ?c30 ?k30 ?a31 ?l31 ?c31 ?k31  ?z1 ?z2 ?z3 ?z4 ?z5 ?z6 ?z7 ?z8 ?z9 ?z10 ?z11
  (case a1=>k_is);(case l1=>k_is);(case c1=>k_is);(case k1=>k_is)
  (case a2=>k_is);(case l2=>k_is);(case c2=>k_is);(case k2=>k_is)
  (case a3=>k_is);(case l3=>k_is);(case c3=>k_is);(case k3=>k_is)
  (case a4=>k_is);(case l4=>k_is);(case c4=>k_is);(case k4=>k_is)
  (case a5=>k_is);(case l5=>k_is);(case c5=>k_is);(case k5=>k_is)
  (case a6=>k_is);(case l6=>k_is);(case c6=>k_is);(case k6=>k_is)
  (case a7=>k_is);(case l7=>k_is);(case c7=>k_is);(case k7=>k_is)
  (case a8=>k_is);(case l8=>k_is);(case c8=>k_is);(case k8=>k_is)
  (case a9=>k_is);(case l9=>k_is);(case c9=>k_is);(case k9=>k_is)
  (case a10=>k_is);(case l10=>k_is);(case c10=>k_is);(case k10=>k_is)
  (case a11=>k_is);(case l11=>k_is);(case c11=>k_is);(case k11=>k_is)
  (case a12=>k_is);(case l12=>k_is);(case c12=>k_is);(case k12=>k_is)
  (case a13=>k_is);(case l13=>k_is);(case c13=>k_is);(case k13=>k_is)
  (case a14=>k_is);(case l14=>k_is);(case c14=>k_is);(case k14=>k_is)
  (case a15=>k_is);(case l15=>k_is);(case c15=>k_is);(case k15=>k_is)
  (case a16=>k_is);(case l16=>k_is);(case c16=>k_is);(case k16=>k_is)
  (case a17=>k_is);(case l17=>k_is);(case c17=>k_is);(case k17=>k_is)
  (case a18=>k_is);(case l18=>k_is);(case c18=>k_is);(case k18=>k_is)
  (case a19=>k_is);(case l19=>k_is);(case c19=>k_is);(case k19=>k_is)
  (case a20=>k_is);(case l20=>k_is);(case c20=>k_is);(case k20=>k_is)
  (case a21=>k_is);(case l21=>k_is);(case c21=>k_is);(case k21=>k_is)
  (case a22=>k_is);(case l22=>k_is);(case c22=>k_is);(case k22=>k_is)
  (case a23=>k_is);(case l23=>k_is);(case c23=>k_is);(case k23=>k_is)
  (case a24=>k_is);(case l24=>k_is);(case c24=>k_is);(case k24=>k_is)
  (case a25=>k_is);(case l25=>k_is);(case c25=>k_is);(case k25=>k_is)
  (case a26=>k_is);(case l26=>k_is);(case c26=>k_is);(case k26=>k_is)
  (case a27=>k_is);(case l27=>k_is);(case c27=>k_is);(case k27=>k_is)
  (case a28=>k_is);(case l28=>k_is);(case c28=>k_is);(case k28=>k_is)
  (case a29=>k_is);(case l29=>k_is);(case c29=>k_is);(case k29=>k_is)
  (case a30=>k_is);(case l30=>k_is);(case c30=>k_is);(case k30=>k_is)
  (case a31=>k_is);(case l31=>k_is);(case c31=>k_is);(case k31=>k_is)
  (case z1=>k_is)
  (case z2=>k_is)
  (case z3=>k_is)
  (case z4=>k_is)
  (case z5=>k_is)
  (case z6=>k_is)
  (case z7=>k_is)
  (case z8=>k_is)
  (case z9=>k_is)
  (case z10=>k_is)
  (case z11=>k_is)
end
