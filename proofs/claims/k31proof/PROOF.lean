import PyProof.Rows.All
import Wide.All
import OpenK.AllK
import Wide.FinOn
import Lean
import PyProof.EqAt
import PyProof.EqKinds
import PyProof.TupleCall
import PySem.Challenge.RW_partrests_k31_whole_known_claims
set_option Elab.async false
set_option linter.all false
set_option maxRecDepth 100000
noncomputable section
namespace L2
open PySem PySem.Spec PyProof.Rows
abbrev Key:=Sum Int Str
def keyIs:Key→Value→Bool
 | .inl k,v=>Value.isInt k v
 | .inr x,v=>Value.isStrOf x v
def keyH (w:World):Key→Int
 | .inl k=>hashInt k
 | .inr x=>hashStr w x
theorem keyIs_shape:∀ {k:Key} {v:Value},keyIs k v=true→(∃ i t,k=Sum.inl i∧v=Value.int i t)∨(∃ x t,k=Sum.inr x∧v=Value.str x t)
 | .inl i,v,h=>by
   obtain ⟨t,e⟩:=Value.isInt_shape (k:=i) (v:=v) h
   exact .inl ⟨i,t,rfl,e⟩
 | .inr x,v,h=>by
   obtain ⟨t,e⟩:=Value.isStrOf_shape (x:=x) (v:=v) h
   exact .inr ⟨x,t,rfl,e⟩
theorem key_ll (a b:Int):decide ((Sum.inl a:Key)=Sum.inl b)=(a == b):=by
 by_cases e:a=b
 · subst e;simp
 · have h:¬ (Sum.inl a:Key)=Sum.inl b:=fun q=>e (Sum.inl.inj q)
   rw [decide_eq_false h]
   exact (beq_eq_false_iff_ne.mpr e).symm
theorem key_rr (a b:Str):decide ((Sum.inr a:Key)=Sum.inr b)=decide (a=b):=by
 by_cases e:a=b
 · subst e;simp
 · have h:¬ (Sum.inr a:Key)=Sum.inr b:=fun q=>e (Sum.inr.inj q)
   rw [decide_eq_false h,decide_eq_false e]
theorem key_lr (a:Int) (b:Str):decide ((Sum.inl a:Key)=Sum.inr b)=false:=decide_eq_false (fun q=>nomatch q)
theorem key_rl (a:Str) (b:Int):decide ((Sum.inr a:Key)=Sum.inl b)=false:=decide_eq_false (fun q=>nomatch q)
def mixKind (prog:Program) (w:World):PySem.KeyKind prog w Key where
 is:=keyIs
 hash:=keyH w
 inj:=fun v a b ha hb=>by
  rcases keyIs_shape ha with ⟨i,t,rfl,rfl⟩ | ⟨x,t,rfl,rfl⟩
  · rcases keyIs_shape hb with ⟨j,u,rfl,e⟩ | ⟨y,u,rfl,e⟩
    · injection e with e1 _;rw [e1]
    · exact nomatch e
  · rcases keyIs_shape hb with ⟨j,u,rfl,e⟩ | ⟨y,u,rfl,e⟩
    · exact nomatch e
    · injection e with e1 _;rw [e1]
 byValue:=fun k v h=>by
  rcases keyIs_shape h with ⟨i,t,rfl,rfl⟩ | ⟨x,t,rfl,rfl⟩ <;> rfl
 pyHash:=fun hv h=>by
  rcases keyIs_shape hv with ⟨i,t,rfl,rfl⟩ | ⟨x,t,rfl,rfl⟩
  · exact wpAny_pyHash_int h
  · exact wpAny_pyHash_str h
 eqBool:=fun hu hv h=>by
  rcases keyIs_shape hu with ⟨i,t,rfl,rfl⟩ | ⟨x,t,rfl,rfl⟩
  · rcases keyIs_shape hv with ⟨j,u,rfl,rfl⟩ | ⟨y,u,rfl,rfl⟩
    · rw [key_ll] at h;exact wpAny_eqBool_int h
    · rw [key_lr] at h;exact SeqAt.EqAt.int_str i t y u _ _ _ _ h
  · rcases keyIs_shape hv with ⟨j,u,rfl,rfl⟩ | ⟨y,u,rfl,rfl⟩
    · rw [key_rl] at h;exact SeqAt.EqAt.str_int x t j u _ _ _ _ h
    · rw [key_rr] at h;exact wpAny_eqBool_str h
 «strs»:=fun k x t v h=>by
  rcases keyIs_shape h with ⟨i,u,rfl,e⟩ | ⟨y,u,rfl,e⟩
  · exact nomatch e
  · injection e with e1 _
    subst e1
    cases v <;> rfl
inductive V where
 | non | bl (b:Bool) | int (i:Int) | str (x:Str) | byt (b:Array UInt8) | flt (b:UInt64) | ref (a:Addr) | ty (n:String)
 deriving DecidableEq
def RelV:V→Value→Prop
 | .non,u=>u=Value.none
 | .bl b,u=>u=Value.bool b
 | .int i,u=>∃ t,u=Value.int i t
 | .str x,u=>∃ t,u=Value.str x t
 | .byt b,u=>∃ t,u=Value.bytes b t
 | .flt b,u=>∃ t,u=Value.float b t
 | .ref a,u=>u=Value.ref a
 | .ty n,u=>u=Value.type n
abbrev Vals:List V→List Value→Prop:=Paired RelV
theorem Vals.length {xs:List V} {us:List Value} (r:Vals xs us):xs.length=us.length:=Paired.length r
theorem Vals.get:∀ {xs:List V} {us:List Value} {i:Nat} {x:V},Vals xs us→xs[i]? = some x→∃ u,us[i]? = some u∧RelV x u
 | _,_,_,_,.nil,e=>by simp at e
 | _,_,0,_,.cons r _,e=>by simp at e;subst e;exact ⟨_,rfl,r⟩
 | _,_,i+1,x,.cons _ t,e=>by
   obtain ⟨u,h1,h2⟩:=Vals.get (i:=i) (x:=x) t (by simpa using e)
   exact ⟨u,by simpa using h1,h2⟩
theorem Vals.set {x:V} {u:Value} (r:RelV x u):∀ {xs:List V} {us:List Value} (i:Nat),Vals xs us→Vals (xs.set i x) (us.set i u)
 | _,_,_,.nil=>.nil
 | _,_,0,.cons _ t=>.cons r t
 | _,_,i+1,.cons q t=>.cons q (Vals.set r i t)
theorem Vals.append:∀ {xs ys:List V} {us ws:List Value},Vals xs us→Vals ys ws→Vals (xs++ys) (us++ws)
 | _,_,_,_,.nil,s=>s
 | _,_,_,_,.cons r t,s=>.cons r (Vals.append t s)
theorem Vals.take:∀ {xs:List V} {us:List Value} (n:Nat),Vals xs us→Vals (xs.take n) (us.take n)
 | _,_,0,_=>.nil
 | _,_,_+1,.nil=>.nil
 | _,_,n+1,.cons r t=>.cons r (Vals.take n t)
theorem Vals.drop:∀ {xs:List V} {us:List Value} (n:Nat),Vals xs us→Vals (xs.drop n) (us.drop n)
 | _,_,0,r=>r
 | _,_,_+1,.nil=>.nil
 | _,_,n+1,.cons _ t=>Vals.drop n t
def TupD (h:Heap) (a:Addr) (items:Array Value):Prop:=∃ n,h.get? a=some { cls:=.type "tuple",data:=.seq items n }
theorem TupD.tup {h:Heap} {a:Addr} {items:Array Value} (p:TupD h a items):IsTup h a items:=let ⟨n,e⟩:=p;⟨_,e,rfl,n,rfl⟩
theorem TupD.new (h:Heap) (items:Array Value):TupD (h.push { cls:=.type "tuple",data:=.seq items }) h.objs.size items:=⟨_,Heap.get?_push_size _ rfl⟩
def RelO:Option V→Option Value→Prop
 | some v,some u=>RelV v u
 | none,none=>True
 | _,_=>False
def KV {κ:Type}:List (κ×V)→List (κ×Value)→Prop:=Paired fun (p:κ×V) (q:κ×Value)=>p.1=q.1∧RelV p.2 q.2
def kV:Key→V
 | .inl i=>.int i
 | .inr x=>.str x
inductive HO where
 /-- a list -/
 | lst (xs:List V)
 /-- a tuple (never changes) -/
 | tup (xs:List V)
 /-- a dict whose keys are ints and texts;one whose keys are tuples of ints and texts (the empty one is both) -/
 | dK (kvs:List (Key×V)) | dT (kvs:List (List Key×V))
 /-- a set of ints: its members,its size -/
 | set (S:Int→Bool) (n:Nat)
 /-- an instance of the class at C,its dict at dx,its attributes -/
 | ins (C dx:Addr) (fs:List (Str×V))
 /-- the dict of the instance at x -/
 | own (x:Addr)
 /-- the dict of an exception -/
 | xd (fs:List (Str×V))
 /-- a bound method,f of x -/
 | met (f x:Addr)
 /-- a range object lo,lo+1,.. below hi -/
 | rng (lo hi:Int)
 /-- a thing that is known to the object (the script;a dict while a loop walks it): read,never written while it is so -/
 | frz (o:Obj) (u:HO)
 /-- a code object's table -/
 | tbl (ps:Array Value)
 /-- any other thing,by what is true of its one object (a def of one's own: SetO a S n:=HO.ext fun h=>..) -/
 | ext (φ:Heap→Prop)
abbrev Hp:=Addr→Option HO
def upd (H:Hp) (a:Addr) (o:HO):Hp:=fun b=>if b=a then some o else H b
theorem upd_same {H:Hp} {a:Addr} {o:HO}:upd H a o a=some o:=by unfold upd;rw [if_pos rfl]
theorem upd_ne {H:Hp} {a b:Addr} {o:HO} (h:b≠a):upd H a o b=H b:=by unfold upd;rw [if_neg h]
theorem ne_of {H:Hp} {a b:Addr} {o u:HO} (h:H a=some o) (h':H b=some u) (d:o≠u):a≠b:=by
 intro e;subst e;rw [h] at h';exact d (Option.some.inj h')
theorem ne_of_none {H:Hp} {a b:Addr} {o:HO} (h:H a=some o) (h':H b=none):a≠b:=by
 intro e;subst e;rw [h] at h';cases h'
section
variable (P:Program) (w:World)
def ObjOk (H:Hp) (h:Heap) (a:Addr):HO→Prop
 | .lst xs=>xs.length≤sizeLine∧∃ (its:List Value) (n:Nat),Vals xs its∧h.get? a=some { cls:=.type "list",data:=.seq its.toArray n }
 | .tup xs=>xs.length≤sizeLine∧∃ its:List Value,Vals xs its∧TupD h a its.toArray
 | .dK kvs=>kvs.length≤sizeLine∧(a == sysModules)=false∧∃ vs,KV kvs vs∧h.DictOf (mixKind P w) a vs
 | .dT kvs=>kvs.length≤sizeLine∧(a == sysModules)=false∧∃ xs:List (List Key×Addr×Value),
  Paired (fun (p:List Key×V) (q:List Key×Addr×Value)=>p.1=q.1∧H q.2.1=some (.tup (p.1.map kV))∧RelV p.2 q.2.2) kvs xs ∧
  ∃ o es ep,h.get? a=some o∧o.ExactDict∧o.data=.dict es ep∧es.toList=xs.map (entryOfKey (tupleKind (mixKind P w)))∧(xs.map (·.1)).Nodup
 | .set S n=>h.SetOf (intKind P w) a S n
 | .ins C dx fs=>H dx=some (.own a)∧fs.length≤1000∧dx≠a∧h.get? a=some (PySem.W.instObj C dx) ∧
  ∃ mA,h.Ns1 dx mA∧(∀ f,RelO (fs.lookup f) (mA f))∧PySem.Within mA (fs.map (·.1))
 | .own _=>∃ o,h.get? a=some o
 | .xd fs=>∃ mA,h.Ns1 a mA∧∀ f,RelO (fs.lookup f) (mA f)
 | .rng lo hi=>∃ t u v,h.get? a=some { cls:=.type "range",data:=.fields #[.int lo t,.int hi u,.int 1 v] }
 | .frz o u=>h.get? a=some o∧ObjOk H h a u
 | .tbl ps=>h.get? a=some { cls:=.none,data:=.fields ps }
 | .met f x=>h.get? a=some (PySem.W.methodObj (.ref f) (.ref x))
 | .ext φ=>φ h∧(∃ o,h.get? a=some o)∧∀ h1 h2:Heap,φ h1→(∀ o,h1.get? a=some o→h2.get? a=some o)→φ h2
def HOk (H:Hp) (h:Heap):Prop:=∀ a o,H a=some o→ObjOk P w H h a o
end
section
variable {P:Program} {w:World} {H H':Hp} {h h':Heap} {a:Addr} {o:HO}
theorem ObjOk.lt (x:ObjOk P w H h a o):a<h.objs.size:=by
 cases o with
 | lst xs=>obtain ⟨_,_,_,_,e⟩:=x;exact Heap.lt_size e
 | tup xs=>obtain ⟨_,_,_,p⟩:=x;exact p.tup.lt
 | dK kvs=>obtain ⟨_,_,_,_,o,_,_,e,_⟩:=x;exact Heap.lt_size e
 | dT kvs=>obtain ⟨_,_,_,_,o,_,_,e,_⟩:=x;exact Heap.lt_size e
 | set S n=>obtain ⟨o,_,_,_,e,_⟩:=x;exact Heap.lt_size e
 | ins C dx fs=>obtain ⟨_,_,_,e,_⟩:=x;exact Heap.lt_size e
 | own y=>obtain ⟨_,e⟩:=x;exact Heap.lt_size e
 | xd fs=>obtain ⟨_,⟨_,_,_,e,_⟩,_⟩:=x;exact Heap.lt_size e
 | rng lo hi=>obtain ⟨_,_,_,e⟩:=x;exact Heap.lt_size e
 | frz ob u=>obtain ⟨e,_⟩:=x;exact Heap.lt_size e
 | tbl ps=>exact Heap.lt_size (show h.get? a=some _ from x)
 | met f y=>exact Heap.lt_size (show h.get? a=some _ from x)
 | ext φ=>obtain ⟨_,⟨_,e⟩,_⟩:=x;exact Heap.lt_size e
theorem Paired.mapP {α β:Type} {F G:α→β→Prop}:∀ {l₁:List α} {l₂:List β},Paired F l₁ l₂→(∀ a b,F a b→G a b)→Paired G l₁ l₂
 | _,_,.nil,_=>.nil
 | _,_,.cons r t,f=>.cons (f _ _ r) (Paired.mapP t f)
theorem ObjOk.stay (x:ObjOk P w H h a o) (k:∀ b u,(b=a∨H b=some (.own a))→h.get? b=some u→h'.get? b=some u)
 (ho:∀ b,H b=some (.own a)→H' b=some (.own a)) (ht:∀ b xs,H b=some (.tup xs)→H' b=some (.tup xs)):ObjOk P w H' h' a o:=by
 induction o with
 | lst xs=>obtain ⟨z,its,n,r,e⟩:=x;exact ⟨z,its,n,r,k _ _ (.inl rfl) e⟩
 | tup xs=>obtain ⟨z,its,r,ob,e⟩:=x;exact ⟨z,its,r,ob,k _ _ (.inl rfl) e⟩
 | dK kvs=>obtain ⟨z,y,vs,r,ob,es,ep,e,c⟩:=x;exact ⟨z,y,vs,r,ob,es,ep,k _ _ (.inl rfl) e,c⟩
 | dT kvs=>
   obtain ⟨z,y,xs,r,ob,es,ep,e,c⟩:=x
   exact ⟨z,y,xs,Paired.mapP r fun p q z=>⟨z.1,ht _ _ z.2.1,z.2.2⟩,ob,es,ep,k _ _ (.inl rfl) e,c⟩
 | set S n=>obtain ⟨ob,es,ep,t,e,c⟩:=x;exact ⟨ob,es,ep,t,k _ _ (.inl rfl) e,c⟩
 | ins C dx fs=>
   obtain ⟨d,z,ne,e,mA,⟨od,es,ep,e2,c⟩,r⟩:=x
   exact ⟨ho _ d,z,ne,k _ _ (.inl rfl) e,mA,⟨od,es,ep,k _ _ (.inr d) e2,c⟩,r⟩
 | own y=>obtain ⟨ob,e⟩:=x;exact ⟨ob,k _ _ (.inl rfl) e⟩
 | xd fs=>obtain ⟨mA,⟨od,es,ep,e,c⟩,r⟩:=x;exact ⟨mA,⟨od,es,ep,k _ _ (.inl rfl) e,c⟩,r⟩
 | rng lo hi=>obtain ⟨t,u,v,e⟩:=x;exact ⟨t,u,v,k _ _ (.inl rfl) e⟩
 | frz ob u ih=>obtain ⟨e,q⟩:=x;exact ⟨k _ _ (.inl rfl) e,ih q⟩
 | tbl ps=>
   have e:h.get? a=some { cls:=.none,data:=.fields ps }:=x
   show h'.get? a=some { cls:=.none,data:=.fields ps }
   exact k a _ (.inl rfl) e
 | met f y=>
   have e:h.get? a=some (PySem.W.methodObj (.ref f) (.ref y)):=x
   show h'.get? a=some (PySem.W.methodObj (.ref f) (.ref y))
   exact k a _ (.inl rfl) e
 | ext φ=>obtain ⟨p,⟨o,e⟩,st⟩:=x;exact ⟨st _ _ p fun o q=>k _ _ (.inl rfl) q,⟨o,k _ _ (.inl rfl) e⟩,st⟩
theorem HOk.lt (x:HOk P w H h) (e:H a=some o):a<h.objs.size:=(x a o e).lt
theorem HOk.fresh (x:HOk P w H h) (e:h.objs.size≤a):H a=none:=by
 cases q:H a with
 | none=>rfl
 | some u=>exact absurd (Nat.lt_of_lt_of_le (x.lt q) e) (Nat.lt_irrefl _)
theorem HOk.kept (x:HOk P w H h) (k:∀ b u,h.get? b=some u→h'.get? b=some u):HOk P w H h':=fun a o e=>
 (x a o e).stay (fun b u _ q=>k b u q) (fun _ q=>q) fun _ _ q=>q
theorem HOk.laid (x:HOk P w H h) (k:∀ b u,h.get? b=some u→h'.get? b=some u) (hp:h.objs.size≤a) (new:ObjOk P w (upd H a o) h' a o):HOk P w (upd H a o) h':=fun b u e=>by
 have hn:=x.fresh hp
 by_cases hb:b=a
 · subst hb;rw [upd_same] at e;cases e;exact new
 · rw [upd_ne hb] at e
   exact (x b u e).stay (fun c v _ q=>k c v q) (fun c q=>by rw [upd_ne (ne_of_none q hn)];exact q) fun c xs q=>by rw [upd_ne (ne_of_none q hn)];exact q
end
def Rd (H:Hp) (a:Addr) (u:HO):Prop:=H a=some u∨∃ o,H a=some (.frz o u)
theorem Rd.ok {P:Program} {w:World} {H:Hp} {h:Heap} {a:Addr} {u:HO} (r:Rd H a u) (x:HOk P w H h):ObjOk P w H h a u:=by
 rcases r with r | ⟨o,r⟩
 · exact x a u r
 · obtain ⟨_,q⟩:=x a _ r
   exact q
def Mut:Option HO→Prop
 | some (.lst _)=>True
 | some (.dK _)=>True
 | some (.dT _)=>True
 | some (.set _ _)=>True
 | some (.ins _ _ _)=>True
 | some (.ext _)=>True
 | _=>False
section
variable {P:Program} {w:World} {H:Hp} {h h':Heap} {x e:Addr} {o':HO}
theorem HOk.write (ok:HOk P w H h) (mu:Mut (H x)) (he:e=x∨H e=some (.own x)) (k:∀ b u,b≠e→h.get? b=some u→h'.get? b=some u) (heo:∃ u,h'.get? e=some u)
 (new:ObjOk P w (upd H x o') h' x o'):HOk P w (upd H x o') h':=fun b u q=>by
 have nown:∀ c y,H c=some (.own y)→c≠x:=fun c y r z=>by subst z;rw [r] at mu;exact mu
 have ntup:∀ c xs,H c=some (.tup xs)→c≠x:=fun c xs r z=>by subst z;rw [r] at mu;exact mu
 by_cases hb:b=x
 · subst hb;rw [upd_same] at q;cases q;exact new
 · rw [upd_ne hb] at q
   by_cases hbe:b=e
   · have q':H b=some (.own x):=by
      rcases he with z | z
      · exact absurd (hbe.trans z) hb
      · rw [hbe];exact z
     rw [q] at q';cases q'
     obtain ⟨v,hv⟩:=heo
     exact ⟨v,by rw [hbe];exact hv⟩
   · refine (ok b u q).stay (fun c v hc r=>k c v ?_ r) (fun c r=>by rw [upd_ne (nown c b r)];exact r) fun c xs r=>by rw [upd_ne (ntup c xs r)];exact r
     rcases hc with rfl | hc
     · exact hbe
     · rintro rfl
       rcases he with z | z
       · exact nown c b hc z
       · rw [hc] at z;cases z;exact hb rfl
end
structure Un (fs ex:List Addr) (H H':Hp) (h h':Heap):Prop where
 keep:∀ b o,h.get? b=some o→H b=none→b∉fs→b∉ex→h'.get? b=some o
 slot:∀ b o,h.get? b=some o→H b=none→b∈fs→b∉ex→∃ sl,h'.get? b=some { o with slots:=sl }
 free:∀ b o,h.get? b=some o→H b=none→b∉ex→H' b=none
 there:∀ b o,h.get? b=some o→b∉ex→∃ o',h'.get? b=some o'
 tups:∀ b xs,H b=some (.tup xs)→H' b=some (.tup xs)
 frzs:∀ b o u,H b=some (.frz o u)→H' b=some (.frz o u)
 tbls:∀ b ps,H b=some (.tbl ps)→∃ more,H' b=some (.tbl (ps++more))
section
variable {fs fs' ex ex':List Addr} {H H1 H2:Hp} {h h1 h2 h':Heap} {a x e:Addr} {o:HO}
theorem Un.any (u:Un fs ex H H1 h h1) {b:Addr} {ob:Obj} (q:h.get? b=some ob) (n:H b=none) (hx:b∉ex):∃ sl,h1.get? b=some { ob with slots:=sl }:=by
 by_cases hb:b∈fs
 · exact u.slot b ob q n hb hx
 · exact ⟨ob.slots,u.keep b ob q n hb hx⟩
theorem Un.kept (k:∀ b u,h.get? b=some u→h'.get? b=some u):Un fs ex H H h h':=
 ⟨fun b ob q _ _ _=>k b ob q,fun b ob q _ _ _=>⟨ob.slots,k b ob q⟩,fun _ _ _ n _=>n,fun b ob q _=>⟨ob,k b ob q⟩,fun _ _ q=>q,fun _ _ _ q=>q,fun _ ps q=>⟨#[],by rw [q];simp⟩⟩
theorem Un.refl:Un fs ex H H h h:=Un.kept fun _ _ q=>q
theorem Un.laid (k:∀ b u,h.get? b=some u→h'.get? b=some u) (hp:h.objs.size≤a) (hn:H a=none):Un fs ex H (upd H a o) h h' where
 keep:=fun b u q _ _ _=>k b u q
 slot:=fun b u q _ _ _=>⟨u.slots,k b u q⟩
 free:=fun b u q n _=>by rw [upd_ne (Nat.ne_of_lt (Nat.lt_of_lt_of_le (Heap.lt_size q) hp))];exact n
 there:=fun b u q _=>⟨u,k b u q⟩
 tups:=fun b xs q=>by rw [upd_ne (ne_of_none q hn)];exact q
 frzs:=fun b u xs q=>by rw [upd_ne (ne_of_none q hn)];exact q
 tbls:=fun b ps q=>⟨#[],by rw [upd_ne (ne_of_none q hn),q];simp⟩
theorem Un.write (mu:Mut (H x)) (he:e=x∨H e=some (.own x)) (k:∀ b u,b≠e→h.get? b=some u→h'.get? b=some u) (heo:∃ u,h'.get? e=some u):Un fs ex H (upd H x o) h h':=by
 have hx:∀ b,H b=none→b≠x:=fun b n z=>by subst z;rw [n] at mu;exact mu
 have hb:∀ b,H b=none→b≠e:=fun b n z=>by
  subst z
  rcases he with r | r
  · exact hx b n r
  · rw [n] at r;cases r
 have hm:∀ b u,H b=some u→¬ Mut (some u)→b≠x:=fun b u q nm z=>by subst z;rw [q] at mu;exact nm mu
 refine ⟨fun b u q n _ _=>k b u (hb b n) q,fun b u q n _ _=>⟨u.slots,k b u (hb b n) q⟩,fun b u q n _=>by rw [upd_ne (hx b n)];exact n,fun b u q _=>?_,
  fun b xs q=>by rw [upd_ne (hm b _ q fun z=>z)];exact q,fun b u xs q=>by rw [upd_ne (hm b _ q fun z=>z)];exact q,fun b ps q=>⟨#[],by rw [upd_ne (hm b _ q fun z=>z),q];simp⟩⟩
 by_cases hbe:b=e
 · subst hbe;exact heo
 · exact ⟨u,k b u hbe q⟩
end
def trk (h:Heap) (H:Hp):List Addr:=(List.range h.objs.size).filter fun a=>(H a).isSome
def hidT (h:Heap) (H:Hp):Heap:=PySem.W.hideAll h (trk h H)
theorem hidT_size (h:Heap) (H:Hp):(hidT h H).objs.size=h.objs.size:=PySem.W.hideAll_size _ _
theorem hidT_get {h:Heap} {H:Hp} {b:Addr} {o:Obj} (e:h.get? b=some o) (n:H b=none):(hidT h H).get? b=some o:=
 PySem.W.hideAll_get _ e fun hm=>by
  have q:(H b).isSome=true:=(List.mem_filter.mp hm).2
  rw [n] at q;simp at q
theorem of_hidT {h:Heap} {H:Hp} {b:Addr} {o:Obj} (e:(hidT h H).get? b=some o):h.get? b=some o∧H b=none:=by
 have e':h.get? b=some o:=PySem.W.of_hideAll (trk h H) e
 refine ⟨e',?_⟩
 cases q:H b with
 | none=>rfl
 | some x=>
   have hm:b∈trk h H:=List.mem_filter.mpr ⟨List.mem_range.mpr (Heap.lt_size e'),by simp [q]⟩
   have z:(hidT h H).get? b=none:=PySem.W.hideAll_none (trk h H) hm
   rw [z] at e;cases e
structure Mod (K:PySem.W.Frag) (mg:Str→Option Value) (base:Heap):Prop where
 kin:K.In base
 glob:base.Ns mainGlobals mg
 blt:∃ mb,base.Ns builtinsNs mb∧∀ x:Str,x≠"__name__"→mb x=bootBuiltins x
 nolimit:base.NoLimit
structure Cx where
 prog:Program
 w:World
 K:PySem.W.Frag
 mg:Str→Option Value
 base:Heap
 A:Around
 N:List Str
 s₀:Shared
 H₀:Hp
 env:Env
 outer:List Env
 stack:List Env
 ex:List Addr
 fn:Str→Bool
 calm:Bool
 pn:List (Addr×Obj)
 xe:Value→Shared→Prop
def frs (l:List Env):List Addr:=l.filterMap (·.frame)
abbrev Cx.fs (X:Cx):List Addr:=frs X.outer
def Vis (sc:Scope) (x:Str):Prop:=sc.names.lookup x=some .local∨sc.names.lookup x=some .cell∨sc.names.lookup x=some .free
def Loc (sc:Scope) (x:Str):Prop:=sc.names.lookup x=some .local∨sc.names.lookup x=some .cell
def Look (env:Env) (h:Heap) (m:Str→Option Value) (x:Str) (u:Value):Prop:=
 (env.kindOf x=some .local∧m x=some u)∨((env.kindOf x=some .cell∨env.kindOf x=some .free)∧∃ c,env.cells.lookup x=some c∧h.IsCell c (some u))
structure Cx.Ok (X:Cx):Prop where
 mod:Mod X.K X.mg X.base
 kind:X.env.scope.kind=.function
 glob:X.env.globals=mainGlobals
 blt:X.env.builtins=builtinsNs
 above:X.s₀.heap.objs.size≤X.env.locals
 inj:∀ x y c,X.env.cells.lookup x=some c→X.env.cells.lookup y=some c→x=y
 has:∀ x,(X.env.kindOf x=some .cell∨X.env.kindOf x=some .free)→∃ c,X.env.cells.lookup x=some c
 cab:∀ x c,X.fn x=true→X.env.cells.lookup x=some c→X.s₀.heap.objs.size≤c
 hd:X.calm=true→X.A.handled=none
 frames:X.A.frames=some X.stack
 stk:X.stack=X.outer∨(X.stack=X.env::X.outer∧X.env.frame=some X.env.locals)
 exf:∀ b∈X.ex,b≠X.env.locals∧∀ x c,X.env.cells.lookup x=some c→c≠b
 bs:∀ b o,X.base.get? b=some o→X.s₀.heap.get? b=some o∧X.H₀ b=none
 bsz:X.base.objs.size≤X.s₀.heap.objs.size
 noex:∀ b o,X.base.get? b=some o→b∉X.ex
 exfs:∀ b∈X.ex,b∉X.fs
 funs:X.s₀.heap.FunFrames X.base X.outer
 frf:∀ b∈X.fs,X.H₀ b=none
structure Inv (X:Cx) (pins:List (Addr×Obj)) (σ:List (Option V)) (H:Hp) (s:Shared):Prop where
 ok:X.Ok
 os:s.os=X.s₀.os
 bare:AllBare s.gens
 base:Un X.fs X.ex X.H₀ H X.s₀.heap s.heap
 loc:∃ m,s.heap.Ns X.env.locals m∧∀ (i:Nat) (x:Str) (v:V),X.N[i]? = some x→σ[i]? = some (some v)→Vis X.env.scope x→∃ u,RelV v u∧Look X.env s.heap m x u
 cell:∀ x c,X.env.cells.lookup x=some c→∃ v,s.heap.IsCell c v
 free:H X.env.locals=none
 freeC:∀ x c,X.env.cells.lookup x=some c→H c=none
 pin:∀ p∈X.pn++pins,s.heap.get? p.1=some p.2∧H p.1=none∧p.1≠X.env.locals∧p.1∉X.fs∧∀ v,p.2.data≠.cell v
 hok:HOk X.prog X.w H s.heap
 len:σ.length=X.N.length
section
variable {X:Cx} {pins:List (Addr×Obj)} {σ:List (Option V)} {H H':Hp} {s:Shared} {h':Heap}
theorem Cx.Ok.nofr (ok:X.Ok) {b:Addr} {o:Obj} (e:X.base.get? b=some o):b∉X.fs:=fun hb=>by
 have:=(ok.funs.mem hb).1
 rw [e] at this;cases this
theorem Inv.bs (I:Inv X pins σ H s):∀ b o,X.base.get? b=some o→s.heap.get? b=some o∧H b=none:=fun b o e=>
 ⟨I.base.keep b o (I.ok.bs b o e).1 (I.ok.bs b o e).2 (I.ok.nofr e) (I.ok.noex b o e),I.base.free b o (I.ok.bs b o e).1 (I.ok.bs b o e).2 (I.ok.noex b o e)⟩
theorem Inv.bk (I:Inv X pins σ H s):∀ b o,X.base.get? b=some o→s.heap.get? b=some o:=fun b o e=>(I.bs b o e).1
theorem Inv.mod (I:Inv X pins σ H s):Mod X.K X.mg X.base:=I.ok.mod
theorem Inv.kIn (I:Inv X pins σ H s):X.K.In s.heap:=I.ok.mod.kin.keeps I.bk
theorem Inv.lt (I:Inv X pins σ H s):X.env.locals<s.heap.objs.size:=let ⟨_,hn,_⟩:=I.loc;hn.lt
theorem Inv.sz (I:Inv X pins σ H s):X.s₀.heap.objs.size≤s.heap.objs.size:=Nat.le_trans I.ok.above (Nat.le_of_lt I.lt)
theorem Inv.nofs (I:Inv X pins σ H s) {a:Addr} (h:s.heap.objs.size≤a):a∉X.fs:=fun hb=>by
 obtain ⟨_,o,ho,_⟩:=I.ok.funs.mem hb
 exact absurd (Nat.lt_of_lt_of_le (Heap.lt_size ho) (Nat.le_trans I.sz h)) (Nat.lt_irrefl _)
theorem Inv.cne (I:Inv X pins σ H s):∀ x c,X.env.cells.lookup x=some c→c≠X.env.locals:=fun x c e z=>by
 obtain ⟨v,o,ho,hd⟩:=I.cell x c e
 obtain ⟨m,⟨o',es,ep,ho',hd',_⟩,_⟩:=I.loc
 rw [z,ho'] at ho;cases ho;rw [hd'] at hd;cases hd
theorem Inv.funs (I:Inv X pins σ H s):s.heap.FunFrames X.base X.outer:=by
 have all:∀ (l:List Env),(∀ b∈frs l,b∈X.fs)→X.s₀.heap.FunFrames X.base l→s.heap.FunFrames X.base l:=by
  intro l
  induction l with
  | nil=>intro _ _;trivial
  | cons env r ih=>
    intro hs hl
    obtain ⟨hk,⟨L,o,hf,hn,ho,hd⟩,hr⟩:=hl
    have hL:L∈X.fs:=hs L (by unfold frs;rw [List.filterMap_cons,hf];exact List.mem_cons_self)
    obtain ⟨sl,e⟩:=I.base.slot L o ho (I.ok.frf L hL) hL fun z=>I.ok.exfs L z hL
    exact ⟨hk,⟨L,_,hf,hn,e,hd⟩,ih (fun b hb=>hs b (by unfold frs;rw [List.filterMap_cons,hf];exact List.mem_cons_of_mem _ hb)) hr⟩
 exact all X.outer (fun _ hb=>hb) I.ok.funs
theorem Inv.stack (I:Inv X pins σ H s):s.heap.FunFrames X.base X.stack:=by
 rcases I.ok.stk with e | ⟨e,hf⟩
 · rw [e];exact I.funs
 · rw [e]
   obtain ⟨m,hn,_⟩:=I.loc
   refine .cons (by rw [I.ok.kind];decide) hf hn ?_ I.funs
   exact Heap.get?_none_of_le (Nat.le_trans I.ok.bsz I.ok.above)
theorem Inv.stkSub (I:Inv X pins σ H s):∀ b∈frs X.stack,b∈X.env.locals::X.fs:=fun b hb=>by
 rcases I.ok.stk with e | ⟨e,hf⟩
 · rw [e] at hb;exact List.mem_cons_of_mem _ hb
 · rw [e] at hb
   unfold frs at hb
   rw [List.filterMap_cons,hf] at hb
   exact hb
theorem Inv.stkFree (I:Inv X pins σ H s):∀ b∈frs X.stack,H b=none:=fun b hb=>by
 rcases List.mem_cons.mp (I.stkSub b hb) with e | hb
 · rw [e];exact I.free
 · obtain ⟨_,o,ho,_⟩:=I.ok.funs.mem hb
   exact I.base.free b o ho (I.ok.frf b hb) fun z=>I.ok.exfs b z hb
theorem Inv.step {g':Array GenState} {t':Nat} {d':Drawn} {ch:List Addr} (I:Inv X pins σ H s)
 (hch:∀ b∈ch,(b∈X.ex∨X.s₀.heap.objs.size≤b)∧b≠X.env.locals∧(∀ x c,X.env.cells.lookup x=some c→c≠b)∧∀ p∈X.pn++pins,p.1≠b)
 (keep:∀ b o,b≠X.env.locals→b∉X.fs→b∉ch→s.heap.get? b=some o→H b=none→h'.get? b=some o)
 (slot:∀ b o,b≠X.env.locals→b∈X.fs→b∉ch→s.heap.get? b=some o→H b=none→∃ sl,h'.get? b=some { o with slots:=sl }) (free:∀ b o,b∉ch→s.heap.get? b=some o→H b=none→H' b=none)
 (there:∀ b o,b∉ch→s.heap.get? b=some o→∃ o',h'.get? b=some o')
 (tups:∀ b xs,H b=some (.tup xs)→H' b=some (.tup xs)) (frzs:∀ b o u,H b=some (.frz o u)→H' b=some (.frz o u)) (tbls:∀ b ps,H b=some (.tbl ps)→∃ more,H' b=some (.tbl (ps++more)))
 (ns:∀ m,s.heap.Ns X.env.locals m→h'.Ns X.env.locals m) (hok:HOk X.prog X.w H' h') (hg:AllBare g') :
 Inv X pins σ H' { s with heap:=h',gens:=g',drawn:=d',toks:=t' }:=by
 have neL:∀ b o,X.s₀.heap.get? b=some o→b≠X.env.locals:=fun b o e=>Nat.ne_of_lt (Nat.lt_of_lt_of_le (Heap.lt_size e) I.ok.above)
 have neC:∀ b o,X.s₀.heap.get? b=some o→b∉X.ex→b∉ch:=fun b o e hx hb=>by
  rcases (hch b hb).1 with z | z
  · exact hx z
  · exact absurd (Nat.lt_of_lt_of_le (Heap.lt_size e) z) (Nat.lt_irrefl _)
 have cellK:∀ x c,X.env.cells.lookup x=some c→∀ v,s.heap.IsCell c v→h'.IsCell c v:=fun x c e v ⟨o,ho,hd⟩=>by
  have nch:c∉ch:=fun z=>(hch c z).2.2.1 x c e rfl
  by_cases hc:c∈X.fs
  · obtain ⟨sl,q⟩:=slot c o (I.cne x c e) hc nch ho (I.freeC x c e)
    exact ⟨_,q,hd⟩
  · exact ⟨o,keep c o (I.cne x c e) hc nch ho (I.freeC x c e),hd⟩
 refine ⟨I.ok,I.os,hg,⟨fun b o e n hb hx=>?_,fun b o e n hb hx=>?_,fun b o e n hx=>?_,fun b o e hx=>?_,fun b xs e=>tups b xs (I.base.tups b xs e),fun b o xs e=>frzs b o xs (I.base.frzs b o xs e),fun b ps e=>?_⟩,?_,fun x c e=>?_,?_,fun x c e=>?_,fun p hp=>?_,hok,I.len⟩
 · exact keep b o (neL b o e) hb (neC b o e hx) (I.base.keep b o e n hb hx) (I.base.free b o e n hx)
 · obtain ⟨sl,e1⟩:=I.base.slot b o e n hb hx
   obtain ⟨sl',e2⟩:=slot b _ (neL b o e) hb (neC b o e hx) e1 (I.base.free b o e n hx)
   exact ⟨sl',e2⟩
 · obtain ⟨o',e1⟩:=I.base.there b o e hx
   exact free b o' (neC b o e hx) e1 (I.base.free b o e n hx)
 · obtain ⟨o',e1⟩:=I.base.there b o e hx
   exact there b o' (neC b o e hx) e1
 · obtain ⟨m1,e1⟩:=I.base.tbls b ps e
   obtain ⟨m2,e2⟩:=tbls b _ e1
   exact ⟨m1++m2,by rw [e2,Array.append_assoc]⟩
 · obtain ⟨m,hn,hl⟩:=I.loc
   refine ⟨m,ns m hn,fun i x v e1 e2 e3=>?_⟩
   obtain ⟨u,r,l⟩:=hl i x v e1 e2 e3
   refine ⟨u,r,?_⟩
   rcases l with l | ⟨k,c,e,z⟩
   · exact .inl l
   · exact .inr ⟨k,c,e,cellK x c e _ z⟩
 · obtain ⟨v,z⟩:=I.cell x c e
   exact ⟨v,cellK x c e v z⟩
 · obtain ⟨m,⟨o,_,_,ho,_⟩,_⟩:=I.loc
   exact free _ o (fun z=>(hch _ z).2.1 rfl) ho I.free
 · obtain ⟨v,o,ho,hd⟩:=I.cell x c e
   exact free c o (fun z=>(hch c z).2.2.1 x c e rfl) ho (I.freeC x c e)
 · obtain ⟨e,n,ne,nf,d⟩:=I.pin p hp
   have nch:p.1∉ch:=fun z=>(hch p.1 z).2.2.2 p hp rfl
   exact ⟨keep p.1 p.2 ne nf nch e n,free p.1 p.2 nch e n,ne,nf,d⟩
theorem Inv.un {t':Nat} (I:Inv X pins σ H s) (u:Un X.fs [] H H' s.heap h') (hok:HOk X.prog X.w H' h'):Inv X pins σ H' { s with heap:=h',toks:=t' }:=by
 obtain ⟨m,⟨o,es,ep,ho,r⟩,_⟩:=id I.loc
 obtain ⟨sl,hL⟩:=u.any ho I.free (by simp)
 exact I.step (g':=s.gens) (d':=s.drawn) (ch:=[]) (fun _ z=>nomatch z) (fun b o _ hb _ e n=>u.keep b o e n hb (by simp)) (fun b o _ hb _ e n=>u.slot b o e n hb (by simp)) (fun b o _ e n=>u.free b o e n (by simp)) (fun b o _ e=>u.there b o e (by simp)) u.tups u.frzs u.tbls (fun m' hm=>by
  obtain ⟨o',es',ep',ho',r'⟩:=hm
  rw [ho] at ho';cases ho'
  exact ⟨_,es',ep',hL,r'⟩) hok I.bare
theorem Inv.call {g':Array GenState} {t':Nat} {d':Drawn} {ch:List Addr} (I:Inv X pins σ H s) (u:Un (frs X.stack) ch H H' s.heap h') (hok:HOk X.prog X.w H' h') (hg:AllBare g')
 (hch:∀ b∈ch,(b∈X.ex∨X.s₀.heap.objs.size≤b)∧b≠X.env.locals∧(∀ x c,X.env.cells.lookup x=some c→c≠b)∧∀ p∈X.pn++pins,p.1≠b) :
 Inv X pins σ H' { s with heap:=h',gens:=g',drawn:=d',toks:=t' }:=by
 obtain ⟨m,⟨o,es,ep,ho,r⟩,_⟩:=id I.loc
 obtain ⟨sl,hL⟩:=u.any ho I.free fun z=>(hch _ z).2.1 rfl
 exact I.step (ch:=ch) hch (fun b o hL hb hc e n=>u.keep b o e n (fun z=>(List.mem_cons.mp (I.stkSub b z)).elim hL hb) hc) (fun b o _ _ hc e n=>u.any e n hc) (fun b o hc e n=>u.free b o e n hc) (fun b o hc e=>u.there b o e hc) u.tups u.frzs u.tbls (fun m' hm=>by
  obtain ⟨o',es',ep',ho',r'⟩:=hm
  rw [ho] at ho';cases ho'
  exact ⟨_,es',ep',hL,r'⟩) hok hg
theorem Inv.turned {t':Nat} {it:Addr} (I:Inv X pins σ H s) (k:∀ b o,b≠it→s.heap.get? b=some o→h'.get? b=some o) (hn:H it=none) (hL:it≠X.env.locals)
 (h1:it∈X.ex∨X.s₀.heap.objs.size≤it) (h2:∀ x c,X.env.cells.lookup x=some c→c≠it) (h3:∀ p∈X.pn++pins,p.1≠it):Inv X pins σ H { s with heap:=h',toks:=t' }:=by
 have nit:∀ b u,H b=some u→b≠it:=fun b u e z=>by rw [z,hn] at e;cases e
 refine I.step (g':=s.gens) (d':=s.drawn) (ch:=[it]) (fun b hb=>?_) (fun b o _ _ hc e _=>k b o (fun z=>hc (by simp [z])) e) (fun b o _ _ hc e _=>⟨o.slots,k b o (fun z=>hc (by simp [z])) e⟩) (fun _ _ _ _ n=>n)
  (fun b o hc e=>⟨o,k b o (fun z=>hc (by simp [z])) e⟩) (fun _ _ e=>e) (fun _ _ _ e=>e) (fun b ps e=>⟨#[],by rw [e];simp⟩) (fun m hm=>?_) (fun b u e=>?_) I.bare
 · have e:b=it:=by simpa using hb
   subst e
   exact ⟨h1,hL,h2,h3⟩
 · obtain ⟨o,es,ep,ho,r⟩:=hm
   exact ⟨o,es,ep,k _ o (Ne.symm hL) ho,r⟩
 · refine (I.hok b u e).stay (fun c v hc q=>k c v ?_ q) (fun _ q=>q) fun _ _ q=>q
   rcases hc with z | z
   · rw [z];exact nit b u e
   · exact nit c _ z
theorem Inv.tok (I:Inv X pins σ H s) (t:Nat):Inv X pins σ H { s with toks:=t }:=I.un (h':=s.heap) (t':=t) Un.refl I.hok
theorem Inv.kept {t':Nat} (I:Inv X pins σ H s) (k:∀ b u,s.heap.get? b=some u→h'.get? b=some u):Inv X pins σ H { s with heap:=h',toks:=t' }:=I.un (Un.kept k) (I.hok.kept k)
theorem Inv.laid {a:Addr} {o:HO} {t':Nat} (I:Inv X pins σ H s) (k:∀ b u,s.heap.get? b=some u→h'.get? b=some u) (hp:s.heap.objs.size≤a) (new:ObjOk X.prog X.w (upd H a o) h' a o) :
 Inv X pins σ (upd H a o) { s with heap:=h',toks:=t' }:=I.un (Un.laid k hp (I.hok.fresh hp)) (I.hok.laid k hp new)
theorem Inv.write {x e:Addr} {o:HO} {t':Nat} (I:Inv X pins σ H s) (mu:Mut (H x)) (he:e=x∨H e=some (.own x)) (k:∀ b u,b≠e→s.heap.get? b=some u→h'.get? b=some u) (heo:∃ u,h'.get? e=some u)
 (new:ObjOk X.prog X.w (upd H x o) h' x o):Inv X pins σ (upd H x o) { s with heap:=h',toks:=t' }:=I.un (Un.write mu he k heo) (I.hok.write mu he k heo new)
theorem Inv.weak {σ':List (Option V)} (I:Inv X pins σ H s) (hl:σ'.length=σ.length) (w:∀ (i:Nat) v,σ'[i]? = some (some v)→σ[i]? = some (some v)):Inv X pins σ' H s:=
 ⟨I.ok,I.os,I.bare,I.base,let ⟨m,hn,hl'⟩:=I.loc;⟨m,hn,fun i x v e1 e2 e3=>hl' i x v e1 (w i v e2) e3⟩,I.cell,I.free,I.freeC,I.pin,I.hok,hl.trans I.len⟩
theorem Inv.pins_of {pins':List (Addr×Obj)} (I:Inv X pins σ H s) (h:∀ p∈pins',s.heap.get? p.1=some p.2∧H p.1=none∧p.1≠X.env.locals∧p.1∉X.fs∧∀ v,p.2.data≠.cell v):Inv X pins' σ H s:=
 ⟨I.ok,I.os,I.bare,I.base,I.loc,I.cell,I.free,I.freeC,fun p hp=>(List.mem_append.mp hp).elim (fun z=>I.pin p (List.mem_append_left _ z)) (h p),I.hok,I.len⟩
theorem nodup_ix {N:List Str} (hN:N.Nodup) {i j:Nat} {x:Str} (a:N[i]? = some x) (b:N[j]? = some x):i=j:=by
 obtain ⟨h1,e1⟩:=List.getElem?_eq_some_iff.mp a
 obtain ⟨h2,e2⟩:=List.getElem?_eq_some_iff.mp b
 exact (List.getElem_inj hN).mp (e1.trans e2.symm)
theorem store_ok2 {M:Model} {A:Around} {E:Value→Shared→Prop} {i:Nat} {x:Str} {v:V} {u:Value} {Q:Unit→Shared→Prop} (I:Inv X pins σ H s) (hN:X.N.Nodup) (hi:X.N[i]? = some x) (hx:Loc X.env.scope x) (r:RelV v u)
 (h:∀ s',Inv X pins (σ.set i (some v)) H s'→(∃ a,Heap.SameBut a s.heap s'.heap∧(a=X.env.locals∨X.env.cells.lookup x=some a))→Q () s') (hf:X.fn x=true∨X.env.scope.names.lookup x=some .local:=by first | exact .inl rfl | exact .inr rfl | assumption):wpAny M A (storeName X.env x u) Q E s:=by
 obtain ⟨m,hn,hl⟩:=id I.loc
 have hcls:(X.env.scope.kind == .class||(X.env.scope.kind == .module&&X.env.locals != X.env.globals))=false:=by rw [I.ok.kind];rfl
 have hiσ:i<σ.length:=by rw [I.len];exact (List.getElem?_eq_some_iff.mp hi).1
 have cne:=I.cne
 have tracked:∀ {a:Addr} {h':Heap},(∃ o,s.heap.get? a=some o∧H a=none)→Heap.SameBut a s.heap h'→HOk X.prog X.w H h':=fun {a h'} ha hs b ob e=>by
  obtain ⟨_,_,hfree⟩:=ha
  refine (I.hok b ob e).stay (fun c w' hc q=>(hs.2 c ?_).trans q) (fun _ q=>q) fun _ _ q=>q
  rintro rfl
  rcases hc with rfl | hc
  · rw [hfree] at e;cases e
  · rw [hfree] at hc;cases hc
 rcases hx with hk | hk
 · refine wpAny_storeName_local hk hn (fun h' hn' hs=>?_) hcls
   obtain ⟨oL,_,_,hoL,_⟩:=id hn
   refine h _ ⟨I.ok,I.os,I.bare,⟨fun b o e n hb hx=>?_,fun b o e n hb hx=>?_,I.base.free,fun b o e hx=>?_,I.base.tups,I.base.frzs,I.base.tbls⟩,⟨_,hn',fun j y v' e1 e2 e3=>?_⟩,fun y c e=>?_,I.free,I.freeC,fun p hp=>?_,tracked ⟨oL,hoL,I.free⟩ hs,by simpa using I.len⟩ ⟨_,hs,.inl rfl⟩
   · exact (hs.2 b (Nat.ne_of_lt (Nat.lt_of_lt_of_le (Heap.lt_size e) I.ok.above))).trans (I.base.keep b o e n hb hx)
   · obtain ⟨sl,e1⟩:=I.base.slot b o e n hb hx
     exact ⟨sl,(hs.2 b (Nat.ne_of_lt (Nat.lt_of_lt_of_le (Heap.lt_size e) I.ok.above))).trans e1⟩
   · obtain ⟨o',e1⟩:=I.base.there b o e hx
     exact ⟨o',(hs.2 b (Nat.ne_of_lt (Nat.lt_of_lt_of_le (Heap.lt_size e) I.ok.above))).trans e1⟩
   · by_cases hj:j=i
     · subst hj
       rw [hi] at e1;cases e1
       rw [List.getElem?_set_self hiσ] at e2
       cases e2
       exact ⟨u,r,.inl ⟨hk,by simp⟩⟩
     · rw [List.getElem?_set_ne (Ne.symm hj)] at e2
       obtain ⟨u',r',q⟩:=hl j y v' e1 e2 e3
       refine ⟨u',r',?_⟩
       rcases q with ⟨k,e⟩ | ⟨k,c,e,z⟩
       · refine .inl ⟨k,?_⟩
         have:y≠x:=fun e=>hj (nodup_ix hN e1 (e▸hi))
         simp [this,e]
       · exact .inr ⟨k,c,e,z.sameBut hs (cne y c e)⟩
   · obtain ⟨w',z⟩:=I.cell y c e
     exact ⟨w',z.sameBut hs (cne y c e)⟩
   · obtain ⟨e,n,ne,nf,d⟩:=I.pin p hp
     exact ⟨(hs.2 p.1 ne).trans e,n,ne,nf,d⟩
 · have hfn:X.fn x=true:=by
    rcases hf with z | z
    · exact z
    · rw [z] at hk;cases hk
   obtain ⟨c,hc⟩:=I.ok.has x (.inl hk)
   obtain ⟨w',z⟩:=I.cell x c hc
   refine wpAny_storeName_cell I.ok.kind hk hc z (fun h' hc' hs=>?_)
   obtain ⟨oc,hoc,hocd⟩:=id z
   refine h { s with heap:=h' } ⟨I.ok,I.os,I.bare,⟨fun b o e n hb hx=>?_,fun b o e n hb hx=>?_,I.base.free,fun b o e hx=>?_,I.base.tups,I.base.frzs,I.base.tbls⟩,⟨m,hn.sameBut hs (Ne.symm (cne x c hc)),fun j y v' e1 e2 e3=>?_⟩,fun y c' e=>?_,I.free,I.freeC,fun p hp=>?_,tracked ⟨oc,hoc,I.freeC x c hc⟩ hs,by simpa using I.len⟩ ⟨c,hs,.inr hc⟩
   · exact (hs.2 b (Nat.ne_of_lt (Nat.lt_of_lt_of_le (Heap.lt_size e) (I.ok.cab x c hfn hc)))).trans (I.base.keep b o e n hb hx)
   · obtain ⟨sl,e1⟩:=I.base.slot b o e n hb hx
     exact ⟨sl,(hs.2 b (Nat.ne_of_lt (Nat.lt_of_lt_of_le (Heap.lt_size e) (I.ok.cab x c hfn hc)))).trans e1⟩
   · obtain ⟨o',e1⟩:=I.base.there b o e hx
     exact ⟨o',(hs.2 b (Nat.ne_of_lt (Nat.lt_of_lt_of_le (Heap.lt_size e) (I.ok.cab x c hfn hc)))).trans e1⟩
   · by_cases hj:j=i
     · subst hj
       rw [hi] at e1;cases e1
       rw [List.getElem?_set_self hiσ] at e2
       cases e2
       exact ⟨u,r,.inr ⟨.inl hk,c,hc,hc'⟩⟩
     · rw [List.getElem?_set_ne (Ne.symm hj)] at e2
       obtain ⟨u',r',q⟩:=hl j y v' e1 e2 e3
       refine ⟨u',r',?_⟩
       rcases q with q | ⟨k,c',e,z'⟩
       · exact .inl q
       · refine .inr ⟨k,c',e,z'.sameBut hs ?_⟩
         rintro rfl
         exact hj (nodup_ix hN e1 (I.ok.inj _ _ _ e hc▸hi))
   · by_cases hcc:c'=c
     · subst hcc;exact ⟨_,hc'⟩
     · obtain ⟨w2,z2⟩:=I.cell y c' e
       exact ⟨w2,z2.sameBut hs hcc⟩
   · obtain ⟨e,n,ne,nf,d⟩:=I.pin p hp
     refine ⟨(hs.2 p.1 ?_).trans e,n,ne,nf,d⟩
     intro q
     rw [q,hoc] at e
     have q':oc=p.2:=Option.some.inj e
     exact d w' (by rw [← q'];exact hocd)
theorem store_ok {M:Model} {A:Around} {E:Value→Shared→Prop} {i:Nat} {x:Str} {v:V} {u:Value} {Q:Unit→Shared→Prop} (I:Inv X pins σ H s) (hN:X.N.Nodup) (hi:X.N[i]? = some x) (hx:Loc X.env.scope x) (r:RelV v u)
 (h:∀ s',Inv X pins (σ.set i (some v)) H s'→Q () s') (hf:X.fn x=true∨X.env.scope.names.lookup x=some .local:=by first | exact .inl rfl | exact .inr rfl | assumption):wpAny M A (storeName X.env x u) Q E s:=
 store_ok2 I hN hi hx r (fun s' I' _=>h s' I') hf
theorem Inv.call' {s':Shared} {ch:List Addr} (I:Inv X pins σ H s) (ho:s'.os=s.os) (u:Un (frs X.stack) ch H H' s.heap s'.heap) (hok:HOk X.prog X.w H' s'.heap) (hg:AllBare s'.gens)
 (hch:∀ b∈ch,(b∈X.ex∨X.s₀.heap.objs.size≤b)∧b≠X.env.locals∧(∀ x c,X.env.cells.lookup x=some c→c≠b)∧∀ p∈X.pn++pins,p.1≠b):Inv X pins σ H' s':=by
 obtain ⟨h',g',d',t',o'⟩:=s'
 have e:o'=s.os:=ho
 subst e
 exact I.call (g':=g') (t':=t') (d':=d') u hok hg hch
end
abbrev XK:=Value→Option Addr→Hp→Prop
abbrev St:=List (Option V)
abbrev VK:=V→Hp→Prop
abbrev TE:=St→Hp→VK→Prop
abbrev TT:=St→Hp→(Bool→Hp→Prop)→Prop
abbrev TA:=St→Hp→(List V→Hp→Prop)→Prop
structure Ends where
 nx:St→Hp→Prop
 rt:VK
 bk:St→Hp→Prop:=fun _ _=>False
 ct:St→Hp→Prop:=fun _ _=>False
abbrev TS:=Ends→St→Hp→Prop
def EP (X:Cx) (pins:List (Addr×Obj)) (σ:St) (Q:VK) (u:Value) (s':Shared):Prop:=∃ v H',Inv X pins σ H' s'∧RelV v u∧Q v H'
def TP (X:Cx) (pins:List (Addr×Obj)) (σ:St) (Q:Bool→Hp→Prop) (b:Bool) (s':Shared):Prop:=∃ H',Inv X pins σ H' s'∧Q b H'
def AP (X:Cx) (pins:List (Addr×Obj)) (σ:St) (Q:List V→Hp→Prop) (us:List Value) (s':Shared):Prop:=∃ vs H',Inv X pins σ H' s'∧Vals vs us∧Q vs H'
def SP (X:Cx) (pins:List (Addr×Obj)) (D:Ends) (f:Flow) (s':Shared):Prop:=
 match f with
 | .next=>∃ σ' H',Inv X pins σ' H' s'∧D.nx σ' H'
 | .brk=>∃ σ' H',Inv X pins σ' H' s'∧D.bk σ' H'
 | .cont=>∃ σ' H',Inv X pins σ' H' s'∧D.ct σ' H'
 | .ret u=>∃ v σ' H',Inv X pins σ' H' s'∧RelV v u∧D.rt v H'
def PE (X:Cx) (e:Expr) (t:TE):Prop:=
 ∀ (pins:List (Addr×Obj)) (s:Shared) (σ:St) (H:Hp) (Q:VK),Inv X pins σ H s→t σ H Q→wpAny (model X.prog X.w) X.A (eval e X.env) (EP X pins σ Q) X.xe s
@[irreducible] def ZE (X:Cx) (e:Expr) (t:TE):Prop:=PE X e t
def PT (X:Cx) (e:Expr) (t:TT):Prop:=
 ∀ (pins:List (Addr×Obj)) (s:Shared) (σ:St) (H:Hp) (Q:Bool→Hp→Prop),Inv X pins σ H s→t σ H Q→wpAny (model X.prog X.w) X.A (isTrue e X.env (eval e X.env)) (TP X pins σ Q) X.xe s
@[irreducible] def ZT (X:Cx) (e:Expr) (t:TT):Prop:=PT X e t
def PW (X:Cx) (e:Expr) (t:TT):Prop:=
 ∀ (whole:Sem Value) (pins:List (Addr×Obj)) (s:Shared) (σ:St) (H:Hp) (Q:Bool→Hp→Prop),Inv X pins σ H s→t σ H Q→wpAny (model X.prog X.w) X.A (isTrue e X.env whole) (TP X pins σ Q) X.xe s
@[irreducible] def ZW (X:Cx) (e:Expr) (t:TT):Prop:=PW X e t
theorem PW.pt {X:Cx} {e:Expr} {t:TT} (h:PW X e t):PT X e t:=h _
theorem ZW.zt {X:Cx} {e:Expr} {t:TT} (h:ZW X e t):ZT X e t:=by with_unfolding_all exact PW.pt h
def PA (X:Cx) (es:List Expr) (t:TA):Prop:=
 ∀ (pos:Pos) (pins:List (Addr×Obj)) (s:Shared) (σ:St) (H:Hp) (Q:List V→Hp→Prop),Inv X pins σ H s→t σ H Q→wpAny (model X.prog X.w) X.A (spliced (backTo pos (starEach es X.env))) (AP X pins σ Q) X.xe s
@[irreducible] def ZA (X:Cx) (es:List Expr) (t:TA):Prop:=PA X es t
def PS (X:Cx) (st:Stmt) (t:TS):Prop:=
 ∀ (pins:List (Addr×Obj)) (s:Shared) (σ:St) (H:Hp) (D:Ends),Inv X pins σ H s→t D σ H→wpAny (model X.prog X.w) X.A (exec st X.env) (SP X pins D) X.xe s
@[irreducible] def ZS (X:Cx) (st:Stmt) (t:TS):Prop:=PS X st t
def PSs (X:Cx) (st:List Stmt) (t:TS):Prop:=
 ∀ (pins:List (Addr×Obj)) (s:Shared) (σ:St) (H:Hp) (D:Ends),Inv X pins σ H s→t D σ H→wpAny (model X.prog X.w) X.A (execs st X.env) (SP X pins D) X.xe s
@[irreducible] def ZSs (X:Cx) (st:List Stmt) (t:TS):Prop:=PSs X st t
theorem ZSs.p {X:Cx} {st:List Stmt} {t:TS}  (h:ZSs X st t):PSs X st t:=by unfold ZSs at h;exact h
theorem thn {α:Type} {t:Sem α} {Q Q':α→Shared→Prop} {M:Model} {A:Around} {E:Value→Shared→Prop} {s:Shared} (h:wpAny M A t Q E s) (hQ:∀ a s,Q a s→Q' a s):wpAny M A t Q' E s:=wpAny_mono h hQ fun _ _ x=>x
section
variable {X:Cx}
def tVar (i:Nat):TE:=fun σ H Q=>∃ v,σ[i]? = some (some v)∧Q v H
def tC (v:V):TE:=fun _ H Q=>Q v H
theorem pe_var {i:Nat} {x:Str} {pos:Pos} (hN:X.N[i]? = some x) (hv:Vis X.env.scope x) (hd:(x == ("__debug__" : Str))=false:=by decide) (hcd:(x == ("__classdict__" : Str))=false:=by decide):PE X (.Name x pos) (tVar i):=by
 intro pins s σ H Q I h
 obtain ⟨v,e,h⟩:=h
 obtain ⟨m,hn,hl⟩:=I.loc
 obtain ⟨u,r,l⟩:=hl i x v hN e hv
 have fin:EP X pins σ Q u s:=⟨v,H,I,r,h⟩
 rcases l with ⟨hk,hm⟩ | ⟨hk,c,hc,hcell⟩
 · exact wpAny_Name (wpAny_loadName_local I.ok.kind hk hn hm fin) hd
 · rcases hk with hk | hk
   · exact wpAny_Name (wpAny_loadName_cell I.ok.kind hk hc hcell fin) hd
   · exact wpAny_Name (wpAny_loadName_free I.ok.kind hk hc hcell fin hcd) hd
theorem pe_int {i j pos}:PE X (.Constant (.int i) j pos) (tC (.int i)):=fun _ _ _ H _ I h=>wpAny_Constant_int ⟨.int i,H,I.tok _,⟨_,rfl⟩,h⟩
theorem ze_int {i j pos}:ZE X (.Constant (.int i) j pos) (tC (.int i)):=by with_unfolding_all exact pe_int
theorem pe_bl {b j pos}:PE X (.Constant (.bool b) j pos) (tC (.bl b)):=fun _ _ _ H _ I h=>Constant_bool ⟨.bl b,H,I,rfl,h⟩
theorem ze_bl {b j pos}:ZE X (.Constant (.bool b) j pos) (tC (.bl b)):=by with_unfolding_all exact pe_bl
theorem pe_non {j pos}:PE X (.Constant .none j pos) (tC .non):=fun _ _ _ H _ I h=>Constant_none ⟨.non,H,I,rfl,h⟩
theorem ze_non {j pos}:ZE X (.Constant .none j pos) (tC .non):=by with_unfolding_all exact pe_non
theorem pe_str {x j pos}:PE X (.Constant (.str x) j pos) (tC (.str x)):=fun _ _ _ H _ I h=>Calls.Constant_str ⟨.str x,H,I.tok _,⟨_,rfl⟩,h⟩
theorem ze_str {x j pos}:ZE X (.Constant (.str x) j pos) (tC (.str x)):=by with_unfolding_all exact pe_str
def Gl (X:Cx) (x:Str):Prop:=X.env.kindOf x=some .globalImplicit
theorem ld_glob {E:Value→Shared→Prop} {pins:List (Addr×Obj)} {s:Shared} {σ:St} {H:Hp} {x:Str} {u:Value} {pos:Pos} {Q:Value→Shared→Prop} (I:Inv X pins σ H s) (hg:Gl X x) (hm:X.mg x=some u) (h:Q u s)
 (hd:(x == ("__debug__" : Str))=false:=by decide):wpAny (model X.prog X.w) X.A (eval (.Name x pos) X.env) Q E s:=
 Calls.Name_function_global I.ok.kind hg (Calls.loadGlobal_global (by rw [I.ok.glob];exact I.mod.glob.keeps I.bk) hm h) hd
theorem ld_blt {E:Value→Shared→Prop} {pins:List (Addr×Obj)} {s:Shared} {σ:St} {H:Hp} {x:Str} {u:Value} {pos:Pos} {Q:Value→Shared→Prop} (I:Inv X pins σ H s) (hg:Gl X x) (hm:X.mg x=none) (hv:bootBuiltins x=some u) (h:Q u s)
 (hn:x≠"__name__":=by decide) (hd:(x == ("__debug__" : Str))=false:=by decide):wpAny (model X.prog X.w) X.A (eval (.Name x pos) X.env) Q E s:=by
 obtain ⟨mb,h1,h2⟩:=I.mod.blt
 exact Calls.Name_function_global I.ok.kind hg (Calls.loadGlobal_builtin (by rw [I.ok.glob];exact I.mod.glob.keeps I.bk) hm (by rw [I.ok.blt];exact h1.keeps I.bk) ((h2 x hn).trans hv) h) hd
theorem pe_glob {x:Str} {v:V} {u:Value} {pos:Pos} (hg:Gl X x) (hm:X.mg x=some u) (r:RelV v u) (hd:(x == ("__debug__" : Str))=false:=by decide):PE X (.Name x pos) (tC v):=
 fun _ _ _ H _ I h=>ld_glob I hg hm ⟨v,H,I,r,h⟩ hd
theorem pe_bltn {x:Str} {v:V} {u:Value} {pos:Pos} (hg:Gl X x) (hm:X.mg x=none) (hv:bootBuiltins x=some u) (r:RelV v u) (hn:x≠"__name__":=by decide) (hd:(x == ("__debug__" : Str))=false:=by decide):PE X (.Name x pos) (tC v):=
 fun _ _ _ H _ I h=>ld_blt I hg hm hv ⟨v,H,I,r,h⟩ hn hd
variable {a b:Expr} {ta tb:TE} {pos:Pos}
variable {tA tB':TT} {rest:List Expr}
def tAnd (t u:TT):TT:=fun σ H Q=>t σ H fun c H1=>if c=true then u σ H1 Q else Q false H1
def tOr (t u:TT):TT:=fun σ H Q=>t σ H fun c H1=>if c=true then Q true H1 else u σ H1 Q
def tNot (t:TT):TT:=fun σ H Q=>t σ H fun c H1=>Q (!c) H1
theorem pw_and1 (ha:PT X a tA):PW X (.BoolOp .And [a] pos) tA:=by
 intro wh pins s σ H Q I h
 refine isTrue_and (thn (ha pins s σ H Q I h) fun c s1 e=>?_)
 cases c with
 | true=>exact isTrue_and_nil e
 | false=>exact e
theorem zw_and1 (ha:ZT X a tA):ZW X (.BoolOp .And [a] pos) tA:=by with_unfolding_all exact pw_and1 ha
theorem pw_or1 (ha:PT X a tA):PW X (.BoolOp .Or [a] pos) tA:=by
 intro wh pins s σ H Q I h
 refine isTrue_or (thn (ha pins s σ H Q I h) fun c s1 e=>?_)
 cases c with
 | false=>exact isTrue_or_nil e
 | true=>exact e
theorem zw_or1 (ha:ZT X a tA):ZW X (.BoolOp .Or [a] pos) tA:=by with_unfolding_all exact pw_or1 ha
theorem pw_and (ha:PT X a tA) (hb:PW X (.BoolOp .And (b::rest) pos) tB'):PW X (.BoolOp .And (a::b::rest) pos) (tAnd tA tB'):=by
 intro wh pins s σ H Q I h
 refine isTrue_and (thn (ha pins s σ H _ I h) fun c s1 ⟨H1,I1,q1⟩=>?_)
 cases c with
 | true=>exact hb wh pins s1 σ H1 Q I1 q1
 | false=>exact ⟨H1,I1,q1⟩
theorem zw_and (ha:ZT X a tA) (hb:ZW X (.BoolOp .And (b::rest) pos) tB'):ZW X (.BoolOp .And (a::b::rest) pos) (tAnd tA tB'):=by with_unfolding_all exact pw_and ha hb
theorem pw_or (ha:PT X a tA) (hb:PW X (.BoolOp .Or (b::rest) pos) tB'):PW X (.BoolOp .Or (a::b::rest) pos) (tOr tA tB'):=by
 intro wh pins s σ H Q I h
 refine isTrue_or (thn (ha pins s σ H _ I h) fun c s1 ⟨H1,I1,q1⟩=>?_)
 cases c with
 | true=>exact ⟨H1,I1,q1⟩
 | false=>exact hb wh pins s1 σ H1 Q I1 q1
theorem zw_or (ha:ZT X a tA) (hb:ZW X (.BoolOp .Or (b::rest) pos) tB'):ZW X (.BoolOp .Or (a::b::rest) pos) (tOr tA tB'):=by with_unfolding_all exact pw_or ha hb
theorem pt_not (ha:PT X a tA):PT X (.UnaryOp .Not a pos) (tNot tA):=by
 intro pins s σ H Q I h
 exact isTrue_not (ha pins s σ H (fun c H1=>Q (!c) H1) I h)
theorem zt_not (ha:ZT X a tA):ZT X (.UnaryOp .Not a pos) (tNot tA):=by with_unfolding_all exact pt_not ha
theorem pe_one {op} {t:TE} (h:PE X a t):PE X (.BoolOp op [a] pos) t:=fun pins s σ H Q I hw=>BoolOp_one (h pins s σ H Q I hw)
theorem ze_one {op} {t:TE} (h:ZE X a t):ZE X (.BoolOp op [a] pos) t:=by with_unfolding_all exact pe_one h
def tIf (t:TT) (ta tb:TE):TE:=fun σ H Q=>t σ H fun c H1=>if c=true then ta σ H1 Q else tb σ H1 Q
theorem pe_ifExp {c:Expr} (hc:PT X c tA) (ha:PE X a ta) (hb:PE X b tb):PE X (.IfExp c a b pos) (tIf tA ta tb):=by
 intro pins s σ H Q I h
 refine wpAny_IfExp (thn (hc pins s σ H _ I h) fun d s1 ⟨H1,I1,q1⟩=>?_)
 cases d with
 | true=>exact ha pins s1 σ H1 Q I1 q1
 | false=>exact hb pins s1 σ H1 Q I1 q1
theorem ze_ifExp {c:Expr} (hc:ZT X c tA) (ha:ZE X a ta) (hb:ZE X b tb):ZE X (.IfExp c a b pos) (tIf tA ta tb):=by with_unfolding_all exact pe_ifExp hc ha hb
end
def SqL (K:PySem.W.Frag) (H:Hp) (a:Addr) (xs:List V):Prop:=
 Rd H a (.lst xs) ∨
  ∃ (o:Obj) (its:Array Value) (n:Nat),K.lookup a=some o∧o.cls=.type "list"∧o.dict=none∧o.data=.seq its n∧its.size≤sizeLine∧Vals xs its.toList
def SqT (K:PySem.W.Frag) (H:Hp) (a:Addr) (xs:List V):Prop:=
 Rd H a (.tup xs) ∨
  ∃ (o:Obj) (its:Array Value) (n:Nat),K.lookup a=some o∧o.cls=.type "tuple"∧o.data=.seq its n∧its.size≤sizeLine∧Vals xs its.toList
def absV:Value→Option V
 | .none=>some .non
 | .bool b=>some (.bl b)
 | .int i _=>some (.int i)
 | .str x _=>some (.str x)
 | .bytes b _=>some (.byt b)
 | .float b _=>some (.flt b)
 | .ref a=>some (.ref a)
 | .type n=>some (.ty n)
 | _=>none
theorem RelV.abs {x:V} {u:Value} (r:RelV x u):absV u=some x:=by
 cases x with
 | non=>cases r;rfl
 | bl _=>cases r;rfl
 | int _=>obtain ⟨t,rfl⟩:=r;rfl
 | str _=>obtain ⟨t,rfl⟩:=r;rfl
 | byt _=>obtain ⟨t,rfl⟩:=r;rfl
 | flt _=>obtain ⟨t,rfl⟩:=r;rfl
 | ref _=>cases r;rfl
 | ty _=>cases r;rfl
theorem RelV.inj {x y:V} {u:Value} (r:RelV x u) (q:RelV y u):x=y:=Option.some.inj (r.abs.symm.trans q.abs)
theorem Vals.inj:∀ {xs ys:List V} {us:List Value},Vals xs us→Vals ys us→xs=ys
 | _,_,_,.nil,.nil=>rfl
 | _,_,_,.cons r t,.cons r' t'=>by rw [r.inj r',Vals.inj t t']
section
variable {X:Cx} {pins:List (Addr×Obj)} {σ:St} {H:Hp} {s:Shared} {a:Addr} {xs ys:List V}
theorem SqL.of {K:PySem.W.Frag} (h:H a=some (.lst xs)):SqL K H a xs:=.inl (.inl h)
theorem SqT.of {K:PySem.W.Frag} (h:H a=some (.tup xs)):SqT K H a xs:=.inl (.inl h)
theorem Inv.list (I:Inv X pins σ H s) (h:SqL X.K H a xs):∃ its:List Value,Vals xs its∧PlainL s.heap a its.toArray∧xs.length≤sizeLine:=by
 rcases h with h | ⟨o,its,n,hk,hc,hd,hs,hz,r⟩
 · obtain ⟨z,its,n,r,e⟩:=h.ok I.hok
   exact ⟨its,r,⟨_,n,e,rfl,rfl,rfl⟩,z⟩
 · refine ⟨its.toList,r,⟨o,n,I.kIn a o hk,hc,hd,by simpa using hs⟩,?_⟩
   have e:=r.length
   simp only [Array.length_toList] at e
   omega
theorem Inv.tuple (I:Inv X pins σ H s) (h:SqT X.K H a xs):∃ its:List Value,Vals xs its∧IsTup s.heap a its.toArray∧xs.length≤sizeLine:=by
 rcases h with h | ⟨o,its,n,hk,hc,hs,hz,r⟩
 · obtain ⟨z,its,r,p⟩:=h.ok I.hok
   exact ⟨its,r,p.tup,z⟩
 · refine ⟨its.toList,r,⟨o,I.kIn a o hk,hc,n,by simpa using hs⟩,?_⟩
   have e:=r.length
   simp only [Array.length_toList] at e
   omega
theorem Inv.list_inj (I:Inv X pins σ H s) (h:SqL X.K H a xs) (h':SqL X.K H a ys):xs=ys:=by
 obtain ⟨its,r,⟨o,n,e,_,_,d⟩,_⟩:=I.list h
 obtain ⟨its',r',⟨o',n',e',_,_,d'⟩,_⟩:=I.list h'
 rw [e] at e';cases e'
 rw [d] at d'
 injection d' with d1 _
 have:its=its':=by simpa using congrArg Array.toList d1
 subst this
 exact r.inj r'
theorem Inv.tuple_inj (I:Inv X pins σ H s) (h:SqT X.K H a xs) (h':SqT X.K H a ys):xs=ys:=by
 obtain ⟨its,r,⟨o,e,_,n,d⟩,_⟩:=I.tuple h
 obtain ⟨its',r',⟨o',e',_,n',d'⟩,_⟩:=I.tuple h'
 rw [e] at e';cases e'
 rw [d] at d'
 injection d' with d1 _
 have:its=its':=by simpa using congrArg Array.toList d1
 subst this
 exact r.inj r'
end
abbrev Cx.wish (X:Cx) (E:Value→Shared→Prop):Cx:={ X with xe:=E }
abbrev Cx.nox (X:Cx):Cx:=X.wish fun _ _=>False
theorem Cx.Ok.wish {X:Cx} (ok:X.Ok) (E:Value→Shared→Prop):(X.wish E).Ok:=
 ⟨ok.mod,ok.kind,ok.glob,ok.blt,ok.above,ok.inj,ok.has,ok.cab,ok.hd,ok.frames,ok.stk,ok.exf,ok.bs,ok.bsz,ok.noex,ok.exfs,ok.funs,ok.frf⟩
theorem Cx.Ok.unwish {X:Cx} {E:Value→Shared→Prop} (ok:(X.wish E).Ok):X.Ok:=
 ⟨ok.mod,ok.kind,ok.glob,ok.blt,ok.above,ok.inj,ok.has,ok.cab,ok.hd,ok.frames,ok.stk,ok.exf,ok.bs,ok.bsz,ok.noex,ok.exfs,ok.funs,ok.frf⟩
section
variable {X:Cx} {pins:List (Addr×Obj)} {σ:St} {H:Hp} {s:Shared} {E:Value→Shared→Prop}
theorem Inv.wish (I:Inv X pins σ H s) (E:Value→Shared→Prop):Inv (X.wish E) pins σ H s:=⟨I.ok.wish E,I.os,I.bare,I.base,I.loc,I.cell,I.free,I.freeC,I.pin,I.hok,I.len⟩
theorem Inv.unwish (I:Inv (X.wish E) pins σ H s):Inv X pins σ H s:=⟨I.ok.unwish,I.os,I.bare,I.base,I.loc,I.cell,I.free,I.freeC,I.pin,I.hok,I.len⟩
theorem SP.unwish {D:Ends} {f:Flow} {s':Shared} (h:SP (X.wish E) pins D f s'):SP X pins D f s':=by
 cases f with
 | next=>obtain ⟨σ',H',I,q⟩:=h;exact ⟨σ',H',I.unwish,q⟩
 | brk=>obtain ⟨σ',H',I,q⟩:=h;exact ⟨σ',H',I.unwish,q⟩
 | cont=>obtain ⟨σ',H',I,q⟩:=h;exact ⟨σ',H',I.unwish,q⟩
 | ret u=>obtain ⟨v,σ',H',I,r,q⟩:=h;exact ⟨v,σ',H',I.unwish,r,q⟩
theorem PSs.nox {st:List Stmt} {t:TS} (h:PSs X.nox st t):PSs X st t:=fun pins s σ H D I hw=>
 wpAny_mono (h pins s σ H D (I.wish _) hw) (fun _ _ q=>q.unwish) fun _ _ z=>False.elim z
end
section
variable {X:Cx} {st:Stmt} {rest:List Stmt} {t u:TS} {e:Expr} {te:TE} {pos:Pos}
def tNext:TS:=fun D σ H=>D.nx σ H
def tSeq (t u:TS):TS:=fun D σ H=>t { D with nx:=u D } σ H
theorem pss_nil:PSs X [] tNext:=fun _ _ σ H _ I h=>wpAny_execs_nil ⟨σ,H,I,h⟩
theorem zss_nil:ZSs X [] tNext:=by with_unfolding_all exact pss_nil
theorem pss_cons (h1:PS X st t) (h2:PSs X rest u):PSs X (st::rest) (tSeq t u):=by
 intro pins s σ H D I h
 refine wpAny_execs_cons (thn (h1 pins s σ H { D with nx:=u D } I h) fun f s1 q=>?_)
 cases f with
 | next=>
   obtain ⟨σ',H',I',q⟩:=q
   exact h2 pins s1 σ' H' D I' q
 | ret v=>exact q
 | brk=>exact q
 | cont=>exact q
theorem zss_cons (h1:ZS X st t) (h2:ZSs X rest u):ZSs X (st::rest) (tSeq t u):=by with_unfolding_all exact pss_cons h1 h2
theorem pss_one (h1:PS X st t):PSs X [st] t:=by
 intro pins s σ H D I h
 refine wpAny_execs_cons (thn (h1 pins s σ H D I h) fun f s1 q=>?_)
 cases f with
 | next=>exact wpAny_execs_nil q
 | ret v=>exact q
 | brk=>exact q
 | cont=>exact q
theorem zss_one (h1:ZS X st t):ZSs X [st] t:=by with_unfolding_all exact pss_one h1
theorem Inv.quiet {pins:List (Addr×Obj)} {σ:St} {H:Hp} {s:Shared} (I:Inv X pins σ H s):interactive X.env=false:=by simp [interactive,I.ok.kind]
def tDrop (te:TE):TS:=fun D σ H=>te σ H fun _ H1=>D.nx σ H1
theorem ps_expr (he:PE X e te) (hs:swapsWith e none pos.line X.env=pure false:=by rfl):PS X (.Expr e pos) (tDrop te):=by
 intro pins s σ H D I h
 exact wpAny_Expr_any (thn (he pins s σ H _ I h) fun v s1 ⟨x,H1,I1,r1,q1⟩=>⟨σ,H1,I1,q1⟩) I.quiet hs
theorem zs_expr (he:ZE X e te) (hs:swapsWith e none pos.line X.env=pure false:=by rfl):ZS X (.Expr e pos) (tDrop te):=by with_unfolding_all exact ps_expr he hs
def tRet (te:TE):TS:=fun D σ H=>te σ H D.rt
theorem ps_ret (he:PE X e te):PS X (.Return (some e) pos) (tRet te):=by
 intro pins s σ H D I h
 exact wpAny_Return_some (thn (he pins s σ H _ I h) fun v s1 ⟨x,H1,I1,r1,q1⟩=>⟨x,σ,H1,I1,r1,q1⟩)
theorem zs_ret (he:ZE X e te):ZS X (.Return (some e) pos) (tRet te):=by with_unfolding_all exact ps_ret he
def tIfS (c:TT) (t u:TS):TS:=fun D σ H=>c σ H fun b H1=>if b=true then t D σ H1 else u D σ H1
theorem ps_if {c:Expr} {a b:List Stmt} {tc:TT} (hc:PT X c tc) (ha:PSs X a t) (hb:PSs X b u):PS X (.If c a b pos) (tIfS tc t u):=by
 intro pins s σ H D I h
 refine wpAny_If (thn (hc pins s σ H _ I h) fun d s1 ⟨H1,I1,q1⟩=>?_)
 cases d with
 | true=>exact ha pins s1 σ H1 D I1 q1
 | false=>exact hb pins s1 σ H1 D I1 q1
theorem zs_if {c:Expr} {a b:List Stmt} {tc:TT} (hc:ZT X c tc) (ha:ZSs X a t) (hb:ZSs X b u):ZS X (.If c a b pos) (tIfS tc t u):=by with_unfolding_all exact ps_if hc ha hb
def tNever:TS:=fun _ _ _=>False
theorem pss_never {sts:List Stmt}:PSs X sts tNever:=fun _ _ _ _ _ _ h=>h.elim
end
abbrev TG:=V→St→Hp→(St→Hp→Prop)→Prop
abbrev TGs:=List V→St→Hp→(St→Hp→Prop)→Prop
def PG (X:Cx) (target:Expr) (t:TG):Prop:=
 ∀ (pins:List (Addr×Obj)) (s:Shared) (σ:St) (H:Hp) (v:V) (u:Value) (Q:St→Hp→Prop),Inv X pins σ H s→RelV v u→t v σ H Q →
   wpAny (model X.prog X.w) X.A (assign target X.env u) (fun _ s'=>∃ σ' H',Inv X pins σ' H' s'∧Q σ' H') X.xe s
@[irreducible] def ZG (X:Cx) (target:Expr) (t:TG):Prop:=PG X target t
def PGs (X:Cx) (ts:List Expr) (t:TGs):Prop:=
 ∀ (pins:List (Addr×Obj)) (s:Shared) (σ:St) (H:Hp) (vs:List V) (us:List Value) (Q:St→Hp→Prop),Inv X pins σ H s→Vals vs us→t vs σ H Q →
   wpAny (model X.prog X.w) X.A (assignInOrder ((assignEach ts X.env).map (·.2)) us) (fun _ s'=>∃ σ' H',Inv X pins σ' H' s'∧Q σ' H') X.xe s
@[irreducible] def ZGs (X:Cx) (ts:List Expr) (t:TGs):Prop:=PGs X ts t
abbrev TSet:=V→V→V→Hp→(Hp→Prop)→Prop
def PSet (X:Cx) (t:TSet):Prop:=
 ∀ (pins:List (Addr×Obj)) (s:Shared) (σ:St) (H:Hp) (o i v:V) (ov iv u:Value) (Q:Hp→Prop),Inv X pins σ H s→RelV o ov→RelV i iv→RelV v u→t o i v H Q →
   wpAny (model X.prog X.w) X.A (setItem ov iv u) (fun _ s'=>∃ H',Inv X pins σ H' s'∧Q H') X.xe s
abbrev TIp:=V→V→Hp→VK→Prop
def PIp (X:Cx) (op:Operator) (t:TIp):Prop:=
 ∀ (pins:List (Addr×Obj)) (s:Shared) (σ:St) (H:Hp) (x y:V) (v u:Value) (Q:VK),Inv X pins σ H s→RelV x v→RelV y u→t x y H Q →
   wpAny (model X.prog X.w) X.A (inplaceOp op v u) (EP X pins σ Q) X.xe s
section
variable {X:Cx} {pos:Pos}
def gName (i:Nat):TG:=fun v σ H Q=>Q (σ.set i (some v)) H
theorem pg_name {i:Nat} {x:Str} (hN:X.N.Nodup) (hi:X.N[i]? = some x) (hx:Loc X.env.scope x) (hf:X.fn x=true∨X.env.scope.names.lookup x=some .local:=by first | exact .inl rfl | exact .inr rfl | assumption):PG X (.Name x pos) (gName i):=by
 intro pins s σ H v u Q I r h
 exact wpAny_assign_Name (store_ok I hN hi hx r (fun s' I'=>⟨_,H,I',h⟩) hf)
theorem zg_name {i:Nat} {x:Str} (hN:X.N.Nodup) (hi:X.N[i]? = some x) (hx:Loc X.env.scope x) (hf:X.fn x=true∨X.env.scope.names.lookup x=some .local:=by first | exact .inl rfl | exact .inr rfl | assumption):ZG X (.Name x pos) (gName i):=by with_unfolding_all exact pg_name hN hi hx hf
def gNil:TGs:=fun vs σ H Q=>vs=[]∧Q σ H
def gCons (t:TG) (u:TGs):TGs:=fun vs σ H Q=>∃ v r,vs=v::r∧t v σ H fun σ' H'=>u r σ' H' Q
theorem pgs_nil:PGs X [] gNil:=by
 intro pins s σ H vs us Q I r h
 obtain ⟨e,h⟩:=h
 subst e
 cases r
 exact assignInOrder_nil ⟨σ,H,I,h⟩
theorem zgs_nil:ZGs X [] gNil:=by with_unfolding_all exact pgs_nil
theorem pgs_cons {e:Expr} {es:List Expr} {t:TG} {u:TGs} (h1:PG X e t) (h2:PGs X es u)
 (hs:(assignEach (e::es) X.env).map (·.2)=assign e X.env::(assignEach es X.env).map (·.2):=by rfl):PGs X (e::es) (gCons t u):=by
 intro pins s σ H vs us Q I r h
 obtain ⟨v,vr,e1,h⟩:=h
 subst e1
 cases r with
 | cons r rr=>
   rw [hs]
   refine assignInOrder_cons (thn (h1 pins s σ H _ _ _ I r h) fun _ s1 ⟨σ1,H1,I1,q1⟩=>?_)
   exact h2 pins s1 σ1 H1 _ _ Q I1 rr q1
theorem zgs_cons {e:Expr} {es:List Expr} {t:TG} {u:TGs} (h1:ZG X e t) (h2:ZGs X es u)
 (hs:(assignEach (e::es) X.env).map (·.2)=assign e X.env::(assignEach es X.env).map (·.2):=by rfl):ZGs X (e::es) (gCons t u):=by with_unfolding_all exact pgs_cons h1 h2 hs
def gTup (K:PySem.W.Frag) (n:Nat) (t:TGs):TG:=fun v σ H Q=>∃ a xs,v=.ref a∧SqT K H a xs∧xs.length=n∧t xs σ H Q
theorem pg_tup {es:List Expr} {k:Nat} {t:TGs} {n:Nat} (hc:X.calm=true) (h:PGs X es t)
 (hn:(assignEach es X.env).length=n:=by rfl) (hst:(assignEach es X.env).findIdx? (·.1)=none:=by rfl):PG X (.Tuple es k pos) (gTup X.K n t):=by
 intro pins s σ H v u Q I r hw
 obtain ⟨a,xs,e1,hq,hl,hw⟩:=hw
 subst e1
 cases r
 obtain ⟨its,rv,ht,hz⟩:=I.tuple hq
 refine assign_Tuple_tuple (I.ok.hd hc) ht (by simp [hn,← hl,rv.length]) hst fun h' hx=>?_
 have I1:Inv X pins σ H { s with heap:=h' }:=I.kept (t':=s.toks) fun b o e=>hx b o (Nat.ne_of_lt (Heap.lt_size e)) e
 exact h pins _ σ H xs _ Q I1 (by simpa using rv) hw
theorem zg_tup {es:List Expr} {k:Nat} {t:TGs} {n:Nat} (hc:X.calm=true) (h:ZGs X es t)
 (hn:(assignEach es X.env).length=n:=by rfl) (hst:(assignEach es X.env).findIdx? (·.1)=none:=by rfl):ZG X (.Tuple es k pos) (gTup X.K n t):=by with_unfolding_all exact pg_tup hc h hn hst
def gSub (to ti:TE) (t:TSet):TG:=fun v σ H Q=>to σ H fun o H1=>ti σ H1 fun i H2=>t o i v H2 fun H3=>Q σ H3
theorem pg_sub {o i:Expr} {to ti:TE} {t:TSet} (ho:PE X o to) (hi:PE X i ti) (hs:PSet X t)
 (ha:∀ v,assign (.Subscript o i pos) X.env v=(do
   let ov ← holding [v] (eval o X.env)
   let iv ← holding [v,ov] (eval i X.env)
   standAt pos
   holding [v,ov,iv] (setItem ov iv v)
   release [v,ov,iv] []):=by intro _;rfl):PG X (.Subscript o i pos) (gSub to ti t):=by
 intro pins s σ H v u Q I r h
 rw [ha]
 refine wpAny_bind (wpAny_holding (thn (ho pins s σ H _ I h) fun ov s1 ⟨x,H1,I1,r1,q1⟩=>?_))
 refine wpAny_bind (wpAny_holding (thn (hi pins s1 σ H1 _ I1 q1) fun iv s2 ⟨y,H2,I2,r2,q2⟩=>?_))
 refine wpAny_bind (wpAny_standAt (wpAny_bind (wpAny_holding (thn (hs pins s2 σ H2 x y v ov iv u _ I2 r1 r2 r q2) fun _ s3 ⟨H3,I3,q3⟩=>?_))))
 exact wpAny_release ⟨σ,H3,I3,q3⟩
def tAsg (te:TE) (g:TG):TS:=fun D σ H=>te σ H fun x H1=>g x σ H1 D.nx
theorem ps_asg {tg e:Expr} {te:TE} {g:TG} (he:PE X e te) (hg:PG X tg g) (hs:swapsWithSole [tg] e pos.line X.env=pure false:=by rfl) (hw:swappedStores [tg] e X.env=pure none:=by rfl)
 (h1:(assignEach [tg] X.env).map (·.2)=[assign tg X.env]:=by rfl):PS X (.Assign [tg] e pos) (tAsg te g):=by
 intro pins s σ H D I h
 refine wpAny_Assign_stores (thn (he pins s σ H _ I h) fun v s1 ⟨x,H1,I1,r1,q1⟩=>?_) hs hw
 rw [h1]
 exact thn (hg pins s1 σ H1 x v _ I1 r1 q1) fun _ s2 q=>q
theorem zs_asg {tg e:Expr} {te:TE} {g:TG} (he:ZE X e te) (hg:ZG X tg g) (hs:swapsWithSole [tg] e pos.line X.env=pure false:=by rfl) (hw:swappedStores [tg] e X.env=pure none:=by rfl)
 (h1:(assignEach [tg] X.env).map (·.2)=[assign tg X.env]:=by rfl):ZS X (.Assign [tg] e pos) (tAsg te g):=by with_unfolding_all exact ps_asg he hg hs hw h1
theorem ps_set {i:Nat} {x:Str} {e:Expr} {te:TE} {pos':Pos} (hN:X.N.Nodup) (hi:X.N[i]? = some x) (hx:Loc X.env.scope x) (he:PE X e te) (hs:swapsWith e (some (.Name x pos')) pos.line X.env=pure false:=by rfl) (hf:X.fn x=true∨X.env.scope.names.lookup x=some .local:=by first | exact .inl rfl | exact .inr rfl | assumption) :
 PS X (.Assign [.Name x pos'] e pos) (tAsg te (gName i)):=by
 intro pins s σ H D I h
 refine wpAny_Assign_Name (thn (he pins s σ H _ I h) fun v s1 ⟨y,H1,I1,r1,q1⟩=>?_) hs
 exact store_ok I1 hN hi hx r1 (fun s2 I2=>⟨_,H1,I2,q1⟩) hf
theorem zs_set {i:Nat} {x:Str} {e:Expr} {te:TE} {pos':Pos} (hN:X.N.Nodup) (hi:X.N[i]? = some x) (hx:Loc X.env.scope x) (he:ZE X e te) (hs:swapsWith e (some (.Name x pos')) pos.line X.env=pure false:=by rfl) (hf:X.fn x=true∨X.env.scope.names.lookup x=some .local:=by first | exact .inl rfl | exact .inr rfl | assumption) :
 ZS X (.Assign [.Name x pos'] e pos) (tAsg te (gName i)):=by with_unfolding_all exact ps_set hN hi hx he hs hf
def tAug (i:Nat) (te:TE) (ti:TIp):TS:=fun D σ H=>∃ x,σ[i]? = some (some x)∧te σ H fun y H1=>ti x y H1 fun z H2=>D.nx (σ.set i (some z)) H2
theorem ps_aug {i:Nat} {x:Str} {e:Expr} {te:TE} {op:Operator} {ti:TIp} {pos':Pos} (hN:X.N.Nodup) (hi:X.N[i]? = some x) (hx:Loc X.env.scope x) (he:PE X e te) (ho:PIp X op ti) (hf:X.fn x=true∨X.env.scope.names.lookup x=some .local:=by first | exact .inl rfl | exact .inr rfl | assumption) :
 PS X (.AugAssign (.Name x pos') op e pos) (tAug i te ti):=by
 intro pins s σ H D I h
 obtain ⟨v,e1,h⟩:=h
 obtain ⟨m,hn,hl⟩:=I.loc
 have vis:Vis X.env.scope x:=by rcases hx with k | k;exact .inl k;exact .inr (.inl k)
 obtain ⟨u,r,l⟩:=hl i x v hi e1 vis
 refine wpAny_AugAssign_Name ?_
 have go:wpAny (model X.prog X.w) X.A (eval e X.env) (fun w s₂=>wpAny (model X.prog X.w) X.A (inplaceOp op u w) (fun r s₃=>wpAny (model X.prog X.w) X.A (storeName X.env x r) (fun _=>SP X pins D .next) X.xe s₃) X.xe s₂) X.xe s:=by
  refine thn (he pins s σ H _ I h) fun w s1 ⟨y,H1,I1,r1,q1⟩=>?_
  refine thn (ho pins s1 σ H1 v y u w _ I1 r r1 q1) fun z s2 ⟨zv,H2,I2,r2,q2⟩=>?_
  exact store_ok I2 hN hi hx r2 (fun s3 I3=>⟨_,H2,I3,q2⟩) hf
 rcases l with ⟨hk,hm⟩ | ⟨hk,c,hc,hcell⟩
 · exact wpAny_loadName_local I.ok.kind hk hn hm go
 · rcases hk with hk | hk
   · exact wpAny_loadName_cell I.ok.kind hk hc hcell go
   · rcases hx with k | k
     · have:X.env.scope.names.lookup x=some .free:=hk
       rw [k] at this;cases this
     · have:X.env.scope.names.lookup x=some .free:=hk
       rw [k] at this;cases this
theorem zs_aug {i:Nat} {x:Str} {e:Expr} {te:TE} {op:Operator} {ti:TIp} {pos':Pos} (hN:X.N.Nodup) (hi:X.N[i]? = some x) (hx:Loc X.env.scope x) (he:ZE X e te) (ho:PIp X op ti) (hf:X.fn x=true∨X.env.scope.names.lookup x=some .local:=by first | exact .inl rfl | exact .inr rfl | assumption) :
 ZS X (.AugAssign (.Name x pos') op e pos) (tAug i te ti):=by with_unfolding_all exact ps_aug hN hi hx he ho hf
def tAugS (to ti te:TE) (tget:V→V→Hp→VK→Prop) (tip:TIp) (tset:TSet):TS:=fun D σ H=>to σ H fun o H1=>ti σ H1 fun i H2=>tget o i H2 fun x H3=>te σ H3 fun y H4=>tip x y H4 fun z H5=>tset o i z H5 fun H6=>D.nx σ H6
def PGet (X:Cx) (t:V→V→Hp→VK→Prop):Prop:=
 ∀ (pins:List (Addr×Obj)) (s:Shared) (σ:St) (H:Hp) (o i:V) (ov iv:Value) (Q:VK),Inv X pins σ H s→RelV o ov→RelV i iv→t o i H Q →
   wpAny (model X.prog X.w) X.A (getItem ov iv) (EP X pins σ Q) X.xe s
theorem ps_augS {o i e:Expr} {to ti te:TE} {tget:V→V→Hp→VK→Prop} {tip:TIp} {tset:TSet} {op:Operator} {tpos:Pos} (ho:PE X o to) (hi:PE X i ti) (hg:PGet X tget) (he:PE X e te) (hp:PIp X op tip) (hs:PSet X tset)
 (ha:∀ ov iv new,augStore i ov iv new=(do holding [new,ov,iv] (setItem ov iv new);release [new,ov,iv] [];pure .next):=by intros;rfl):PS X (.AugAssign (.Subscript o i tpos) op e pos) (tAugS to ti te tget tip tset):=by
 intro pins s σ H D I h
 refine wpAny_AugAssign_SubscriptAny (thn (ho pins s σ H _ I h) fun ov s1 ⟨x1,H1,I1,r1,q1⟩=>?_) ha
 refine thn (hi pins s1 σ H1 _ I1 q1) fun iv s2 ⟨x2,H2,I2,r2,q2⟩=>?_
 refine thn (hg pins s2 σ H2 x1 x2 ov iv _ I2 r1 r2 q2) fun old s3 ⟨x3,H3,I3,r3,q3⟩=>?_
 refine thn (he pins s3 σ H3 _ I3 q3) fun v s4 ⟨x4,H4,I4,r4,q4⟩=>?_
 refine thn (hp pins s4 σ H4 x3 x4 old v _ I4 r3 r4 q4) fun new s5 ⟨x5,H5,I5,r5,q5⟩=>?_
 exact thn (hs pins s5 σ H5 x1 x2 x5 ov iv new _ I5 r1 r2 r5 q5) fun _ s6 ⟨H6,I6,q6⟩=>⟨σ,H6,I6,q6⟩
theorem zs_augS {o i e:Expr} {to ti te:TE} {tget:V→V→Hp→VK→Prop} {tip:TIp} {tset:TSet} {op:Operator} {tpos:Pos} (ho:ZE X o to) (hi:ZE X i ti) (hg:PGet X tget) (he:ZE X e te) (hp:PIp X op tip) (hs:PSet X tset)
 (ha:∀ ov iv new,augStore i ov iv new=(do holding [new,ov,iv] (setItem ov iv new);release [new,ov,iv] [];pure .next):=by intros;rfl):ZS X (.AugAssign (.Subscript o i tpos) op e pos) (tAugS to ti te tget tip tset):=by with_unfolding_all exact ps_augS ho hi hg he hp hs ha
def ipI (f:Int→Int→Int):TIp:=fun x y H Q=>∃ i j,x=.int i∧y=.int j∧Q (.int (f i j)) H
theorem ip_add:PIp X .Add (ipI fun i j=>i+j):=by
 intro pins s σ H x y v u Q I r1 r2 h
 obtain ⟨i,j,e1,e2,q⟩:=h
 subst e1;subst e2
 obtain ⟨t,rfl⟩:=r1
 obtain ⟨t',rfl⟩:=r2
 exact iadd_int ⟨.int _,H,I.tok _,⟨_,rfl⟩,q⟩
theorem ip_sub:PIp X .Sub (ipI fun i j=>i - j):=by
 intro pins s σ H x y v u Q I r1 r2 h
 obtain ⟨i,j,e1,e2,q⟩:=h
 subst e1;subst e2
 obtain ⟨t,rfl⟩:=r1
 obtain ⟨t',rfl⟩:=r2
 exact isub_int ⟨.int _,H,I.tok _,⟨_,rfl⟩,q⟩
end
section
variable {X:Cx} {pos:Pos}
def tWhile (c:TT) (tb:TS):TS:=fun D σ H=>∃ W:Nat→St→Hp→Prop,(∃ m,W m σ H)∧∀ m σ H,W m σ H →
 c σ H fun b H1=>if b=true then ∃ N:St→Hp→Prop,(∀ σ' H',N σ' H'→∃ m',m' < m∧W m' σ' H')∧tb { D with nx:=N,ct:=N,bk:=D.nx } σ H1 else D.nx σ H1
theorem ps_while {c:Expr} {body:List Stmt} {tc:TT} {tb:TS} (hp:PassesOwn (model X.prog X.w) X.A X.env X.xe) (hc:PT X c tc) (hb:PSs X body tb):PS X (.While c body [] pos) (tWhile tc tb):=by
 intro pins s σ H D I h
 obtain ⟨W,⟨m0,w0⟩,turn⟩:=h
 refine wpAny_While (codeAny_whileLoop (fun n s'=>∃ σ' H',Inv X pins σ' H' s'∧W n σ' H') ?_ m0 ⟨σ,H,I,w0⟩)
 rintro n s1 ⟨σ1,H1,I1,w1⟩
 refine wpAny_passesOwn hp (thn (hc pins s1 σ1 H1 _ I1 (turn n σ1 H1 w1)) fun b s2 ⟨H2,I2,q2⟩=>?_)
 cases b with
 | true=>
   obtain ⟨N,hN,q2⟩:=q2
   rw [if_pos rfl]
   refine wpAny_passesOwn hp (thn (hb pins s2 σ1 H2 _ I2 q2) fun f s3 q3=>?_)
   cases f with
   | next=>
     obtain ⟨σ3,H3,I3,n3⟩:=q3
     obtain ⟨m',hm,w3⟩:=hN σ3 H3 n3
     exact ⟨m',hm,σ3,H3,I3,w3⟩
   | cont=>
     obtain ⟨σ3,H3,I3,n3⟩:=q3
     obtain ⟨m',hm,w3⟩:=hN σ3 H3 n3
     exact ⟨m',hm,σ3,H3,I3,w3⟩
   | brk=>exact q3
   | ret v=>exact q3
 | false=>
   rw [if_neg Bool.false_ne_true]
   exact wpAny_execs_nil ⟨σ1,H2,I2,q2⟩
theorem zs_while {c:Expr} {body:List Stmt} {tc:TT} {tb:TS} (hp:PassesOwn (model X.prog X.w) X.A X.env X.xe) (hc:ZT X c tc) (hb:ZSs X body tb):ZS X (.While c body [] pos) (tWhile tc tb):=by with_unfolding_all exact ps_while hp hc hb
end
structure It where
 go:Nat→Hp→Prop
 yld:Nat→Hp→V→Hp→Prop
 stop:Nat→Hp→Prop
def FpOk (X:Cx) (pins:List (Addr×Obj)) (H:Hp) (b:Addr):Prop:=
 H b=none∧b≠X.env.locals∧b∉X.fs∧(b∈X.ex∨X.s₀.heap.objs.size≤b)∧(∀ x c,X.env.cells.lookup x=some c→c≠b)∧∀ p∈X.pn++pins,p.1≠b
theorem Inv.fpOk {X:Cx} {pins:List (Addr×Obj)} {σ:St} {H H':Hp} {s:Shared} {b:Addr} (I:Inv X pins σ H s) (hb:s.heap.objs.size≤b) (hn:H' b=none):FpOk X pins H' b:=by
 refine ⟨hn,Nat.ne_of_gt (Nat.lt_of_lt_of_le I.lt hb),I.nofs hb,.inr (Nat.le_trans I.sz hb),fun x c e z=>?_,fun p hp z=>?_⟩
 · obtain ⟨v,q⟩:=I.cell x c e
   exact absurd (Nat.lt_of_lt_of_le q.lt (by rw [z];exact hb)) (Nat.lt_irrefl _)
 · exact absurd (Nat.lt_of_lt_of_le (Heap.lt_size (I.pin p hp).1) (by rw [z];exact hb)) (Nat.lt_irrefl _)
structure Turn (P:Program) (w:World) (K:PySem.W.Frag) (tg:Expr) (J:It) (fp:List Addr) (it:Addr) (tn:Nat→Heap→Prop):Prop where
 mem:it∈fp
 obj:∀ i h,tn i h→∀ b∈fp,∃ o,h.get? b=some o∧∀ v,o.data≠.cell v
 keep:∀ i h h',tn i h→(∀ b∈fp,∀ o,h.get? b=some o→h'.get? b=some o)→tn i h'
 item:∀ (X:Cx),X.prog=P→X.w=w→X.K=K→X.calm=true→∀ (i:Nat) (pins:List (Addr×Obj)) (s:Shared) (σ:St) (H:Hp) (E:Value→Shared→Prop),Inv X pins σ H s→(∀ b∈fp,FpOk X pins H b)→tn i s.heap→J.go i H →
  wpAny (model P w) X.A (pyNext (.ref it)) (fun r s1=>∃ u,r=some u ∧
   wpAny (model P w) X.A (letOwnedTupleGo tg (.ref it) u) (fun _ s2=>∃ x H',Inv X pins σ H' s2∧RelV x u∧J.yld i H x H'∧tn (i+1) s2.heap∧∀ b∈fp,H' b=none) E s1) E s
 done:∀ (X:Cx),X.prog=P→X.w=w→X.K=K→X.calm=true→∀ (i:Nat) (pins:List (Addr×Obj)) (s:Shared) (σ:St) (H:Hp) (E:Value→Shared→Prop),Inv X pins σ H s→(∀ b∈fp,FpOk X pins H b)→tn i s.heap→J.stop i H →
  wpAny (model P w) X.A (pyNext (.ref it)) (fun r s1=>r=none∧Inv X pins σ H s1) E s
 self:∀ (A:Around) (i:Nat) (s:Shared) (Q:Value→Shared→Prop) (E:Value→Shared→Prop),tn i s.heap→Q (.ref it) s→wpAny (model P w) A (pyIter (.ref it)) Q E s
abbrev TI:=St→Hp→(It→Hp→Prop)→Prop
def PIE (X:Cx) (pins:List (Addr×Obj)) (σ:St) (tg:Expr) (R:It→Hp→Prop) (itv:Value) (s2:Shared):Prop:=
 ∃ (it:Addr) (fp:List Addr) (tn:Nat→Heap→Prop) (J:It) (H':Hp),itv=.ref it∧Inv X pins σ H' s2∧Turn X.prog X.w X.K tg J fp it tn∧tn 0 s2.heap∧(∀ b∈fp,FpOk X pins H' b)∧R J H'
def PI (X:Cx) (tg iter:Expr) (wi:TI):Prop:=
 ∀ (pins:List (Addr×Obj)) (s:Shared) (σ:St) (H:Hp) (R:It→Hp→Prop),Inv X pins σ H s→wi σ H R →
   wpAny (model X.prog X.w) X.A (eval iter X.env) (fun v s1=>wpAny (model X.prog X.w) X.A (pyIter v) (PIE X pins σ tg R) X.xe s1) X.xe s
@[irreducible] def ZI (X:Cx) (tg iter:Expr) (wi:TI):Prop:=PI X tg iter wi
theorem go_of {M:Model} {A:Around} {E:Value→Shared→Prop} {s:Shared} {tg:Expr} {it:Addr} {u:Value} {o:Obj} {n:String} {vs:Array Value} {Q:Unit→Shared→Prop} (ho:s.heap.get? it=some o) (hc:o.cls=.type n) (hd:o.data=.fields vs)
 (hn:["enumerate","zip","dict_itemiterator","dict_reverseitemiterator","odict_iterator","itertools.zip_longest","itertools.pairwise"].contains n=false) (hQ:Q () s):wpAny M A (letOwnedTupleGo tg (.ref it) u) Q E s:=by
 unfold letOwnedTupleGo
 cases tg <;> first
  | exact wpAny_pure hQ
  | (cases u <;> first
      | exact wpAny_pure hQ
      | (refine wpAny_bind (wpAny_load ho ?_)
         rw [hc,hd]
         show wpAny M A (if (["enumerate","zip","dict_itemiterator","dict_reverseitemiterator","odict_iterator","itertools.zip_longest","itertools.pairwise"].contains n&&vs[0]? == some (rawInt _))=true then _ else _) Q E s
         rw [if_neg (by intro h;rw [hn,Bool.false_and] at h;cases h)]
         exact wpAny_pure hQ))
def Itl (K:PySem.W.Frag) (a:Addr):It:=
 ⟨fun i H=>∃ xs x,SqL K H a xs∧xs[i]? = some x,fun i H x H'=>H'=H∧∀ xs,SqL K H a xs→xs[i]? = some x,fun i H=>∃ xs,SqL K H a xs∧xs.length≤i⟩
def Itt (K:PySem.W.Frag) (a:Addr):It:=
 ⟨fun i H=>∃ xs x,SqT K H a xs∧xs[i]? = some x,fun i H x H'=>H'=H∧∀ xs,SqT K H a xs→xs[i]? = some x,fun i H=>∃ xs,SqT K H a xs∧xs.length≤i⟩
def Itr (lo:Int) (n:Nat):It:=⟨fun i _=>i<n,fun i H x H'=>H'=H∧x=.int (lo+i),fun i _=>n≤i⟩
theorem turn_list {P:Program} {w:World} {K:PySem.W.Frag} {tg:Expr} (a it:Addr):Turn P w K tg (Itl K a) [it] it (fun i h=>h.IsListIter it a i) where
 mem:=by simp
 obj:=fun i h st b hb=>by
  have e:b=it:=by simpa using hb
  subst e
  obtain ⟨o,e,c,d⟩:=st
  exact ⟨o,e,fun v z=>by rw [d] at z;cases z⟩
 keep:=fun i h h' st k=>st.at fun o e=>k it (by simp) o e
 item:=by
  intro X hP hw hK hc i pins s σ H E I hf st hg
  subst hP hw hK
  obtain ⟨xs,x,hq,hx⟩:=hg
  obtain ⟨its,rv,p,hz⟩:=I.list hq
  obtain ⟨u,hu,ru⟩:=rv.get hx
  obtain ⟨f0,f1,f2,f3,f4,f5⟩:=hf it (by simp)
  refine wpAny_pyNext_list_item st p.isList (x:=u) (by simpa using hu) fun h' st' sb=>?_
  have I1:Inv X pins σ H { s with heap:=h' }:=I.turned (t':=s.toks) (fun b o hb e=>(sb.2 b hb).trans e) f0 f1 f3 f4 f5
  obtain ⟨o,e,c,d⟩:=id st'
  exact ⟨u,rfl,go_of (s:={ s with heap:=h' }) e c d (by decide) ⟨x,H,I1,ru,⟨rfl,fun ys hy=>by rw [I.list_inj hy hq];exact hx⟩,st',fun b hb=>(hf b hb).1⟩⟩
 done:=by
  intro X hP hw hK hc i pins s σ H E I hf st hg
  subst hP hw hK
  obtain ⟨xs,hq,hx⟩:=hg
  obtain ⟨its,rv,p,hz⟩:=I.list hq
  obtain ⟨f0,f1,f2,f3,f4,f5⟩:=hf it (by simp)
  have hl:=rv.length
  exact wpAny_pyNext_list_end (I.ok.hd hc) st p.isList (by simp;omega) fun h' eb=>⟨rfl,I.turned (t':=s.toks) (fun b o hb e=>eb b o hb e) f0 f1 f3 f4 f5⟩
 self:=fun _ _ _ _ _ st h=>wpAny_pyIter_listiter st h
theorem turn_tuple {P:Program} {w:World} {K:PySem.W.Frag} {tg:Expr} (a it:Addr):Turn P w K tg (Itt K a) [it] it (fun i h=>h.IsTupleIter it a i) where
 mem:=by simp
 obj:=fun i h st b hb=>by
  have e:b=it:=by simpa using hb
  subst e
  obtain ⟨o,e,c,d⟩:=st
  exact ⟨o,e,fun v z=>by rw [d] at z;cases z⟩
 keep:=fun i h h' st k=>st.at fun o e=>k it (by simp) o e
 item:=by
  intro X hP hw hK hc i pins s σ H E I hf st hg
  subst hP hw hK
  obtain ⟨xs,x,hq,hx⟩:=hg
  obtain ⟨its,rv,p,hz⟩:=I.tuple hq
  obtain ⟨u,hu,ru⟩:=rv.get hx
  obtain ⟨f0,f1,f2,f3,f4,f5⟩:=hf it (by simp)
  refine wpAny_pyNext_tuple_item st (show s.heap.IsTuple a its.toArray from p) (x:=u) (by simpa using hu) fun h' st' sb=>?_
  have I1:Inv X pins σ H { s with heap:=h' }:=I.turned (t':=s.toks) (fun b o hb e=>(sb.2 b hb).trans e) f0 f1 f3 f4 f5
  obtain ⟨o,e,c,d⟩:=id st'
  exact ⟨u,rfl,go_of (s:={ s with heap:=h' }) e c d (by decide) ⟨x,H,I1,ru,⟨rfl,fun ys hy=>by rw [I.tuple_inj hy hq];exact hx⟩,st',fun b hb=>(hf b hb).1⟩⟩
 done:=by
  intro X hP hw hK hc i pins s σ H E I hf st hg
  subst hP hw hK
  obtain ⟨xs,hq,hx⟩:=hg
  obtain ⟨its,rv,p,hz⟩:=I.tuple hq
  obtain ⟨f0,f1,f2,f3,f4,f5⟩:=hf it (by simp)
  have hl:=rv.length
  exact wpAny_pyNext_tuple_end (I.ok.hd hc) st (show s.heap.IsTuple a its.toArray from p) (by simp;omega) fun h' eb=>⟨rfl,I.turned (t':=s.toks) (fun b o hb e=>eb b o hb e) f0 f1 f3 f4 f5⟩
 self:=fun _ _ _ _ _ st h=>wpAny_pyIter_tupleiter st h
theorem turn_range {P:Program} {w:World} {K:PySem.W.Frag} {tg:Expr} (it:Addr) (lo:Int) (n:Nat):Turn P w K tg (Itr lo n) [it] it (fun i h=>IsRangeIter h it (lo+(i:Nat)*1) ((n:Int) - (i:Nat)) 1) where
 mem:=by simp
 obj:=fun i h st b hb=>by
  have e:b=it:=by simpa using hb
  subst e
  exact ⟨_,st,fun v z=>by
   have z':Data.fields _=Data.cell v:=z
   cases z'⟩
 keep:=fun i h h' st k=>k it (by simp) _ st
 item:=by
  intro X hP hw hK hc i pins s σ H E I hf st hg
  subst hP hw hK
  obtain ⟨f0,f1,f2,f3,f4,f5⟩:=hf it (by simp)
  have W:=Walks.range (prog:=X.prog) (w:=X.w) (I.ok.hd hc) it lo 1 n
  refine W.item i s _ _ hg st fun v h' tk hv st' kk=>?_
  obtain ⟨t,rfl⟩:=hv
  have I1:Inv X pins σ H { s with heap:=h',toks:=tk }:=I.turned (fun b o hb e=>kk b o (by simpa using hb) e) f0 f1 f3 f4 f5
  refine ⟨_,rfl,go_of (s:={ s with heap:=h',toks:=tk }) (n:="range_iterator") st' rfl rfl (by decide) ⟨.int (lo+i),H,I1,⟨t,?_⟩,⟨rfl,rfl⟩,st',fun b hb=>(hf b hb).1⟩⟩
  rw [Int.mul_one]
 done:=by
  intro X hP hw hK hc i pins s σ H E I hf st hg
  subst hP hw hK
  obtain ⟨f0,f1,f2,f3,f4,f5⟩:=hf it (by simp)
  exact wpAny_pyNext_range_end (I.ok.hd hc) st (by have:n≤i:=hg;omega) fun h' eb=>⟨rfl,I.turned (t':=s.toks) (fun b o hb e=>eb b o hb e) f0 f1 f3 f4 f5⟩
 self:=fun _ _ _ _ _ st h=>wpAny_pyIter_rangeiter st h
section
variable {X:Cx} {tg:Expr}
def iList (K:PySem.W.Frag) (tl:TE):TI:=fun σ H R=>tl σ H fun x H1=>∃ a,x=.ref a∧(∃ xs,SqL K H1 a xs)∧R (Itl K a) H1
def iTup (K:PySem.W.Frag) (tl:TE):TI:=fun σ H R=>tl σ H fun x H1=>∃ a,x=.ref a∧(∃ xs,SqT K H1 a xs)∧R (Itt K a) H1
theorem pi_list {l:Expr} {tl:TE} (hl:PE X l tl):PI X tg l (iList X.K tl):=by
 intro pins s σ H R I h
 refine thn (hl pins s σ H _ I h) fun v s1 ⟨x,H1,I1,r1,q1⟩=>?_
 obtain ⟨a,e,⟨xs,hq⟩,q⟩:=q1
 subst e
 cases r1
 obtain ⟨its,rv,p,hz⟩:=I1.list hq
 refine wpAny_pyIter_list p.isList ?_
 refine ⟨s1.heap.objs.size,[s1.heap.objs.size],_,_,H1,rfl,I1.kept (t':=s1.toks) fun b o e=>Heap.get?_push_of_some _ e,turn_list a _,⟨_,Heap.get?_push_size _ rfl,rfl,rfl⟩,fun b hb=>?_,q⟩
 have e:b=s1.heap.objs.size:=by simpa using hb
 subst e
 exact I1.fpOk (Nat.le_refl _) (I1.hok.fresh (Nat.le_refl _))
theorem zi_list {l:Expr} {tl:TE} (hl:ZE X l tl):ZI X tg l (iList X.K tl):=by with_unfolding_all exact pi_list hl
theorem pi_tup {l:Expr} {tl:TE} (hl:PE X l tl):PI X tg l (iTup X.K tl):=by
 intro pins s σ H R I h
 refine thn (hl pins s σ H _ I h) fun v s1 ⟨x,H1,I1,r1,q1⟩=>?_
 obtain ⟨a,e,⟨xs,hq⟩,q⟩:=q1
 subst e
 cases r1
 obtain ⟨its,rv,p,hz⟩:=I1.tuple hq
 refine wpAny_pyIter_tuple (show s1.heap.IsTuple a its.toArray from p) ?_
 refine ⟨s1.heap.objs.size,[s1.heap.objs.size],_,_,H1,rfl,I1.kept (t':=s1.toks) fun b o e=>Heap.get?_push_of_some _ e,turn_tuple a _,⟨_,Heap.get?_push_size _ rfl,rfl,rfl⟩,fun b hb=>?_,q⟩
 have e:b=s1.heap.objs.size:=by simpa using hb
 subst e
 exact I1.fpOk (Nat.le_refl _) (I1.hok.fresh (Nat.le_refl _))
theorem zi_tup {l:Expr} {tl:TE} (hl:ZE X l tl):ZI X tg l (iTup X.K tl):=by with_unfolding_all exact pi_tup hl
theorem range_it {pins:List (Addr×Obj)} {σ:St} {H:Hp} {s:Shared} {R:It→Hp→Prop} {E:Value→Shared→Prop} {lo hi:Int} {t u v:Tok} {tk:Nat} (I:Inv X pins σ H s) (h1:-(2 ^ 62)≤lo) (h2:lo<2 ^ 62) (h3:-(2 ^ 62)≤hi) (h4:hi<2 ^ 62)
 (q:R (Itr lo (hi - lo).toNat) H):wpAny (model X.prog X.w) X.A (pyIter (.ref s.heap.objs.size)) (PIE X pins σ tg R) E { s with heap:=s.heap.push { cls:=.type "range",data:=.fields #[.int lo t,.int hi u,.int 1 v] },toks:=tk }:=by
 refine wpAny_pyIter_range (IsRange.new ..) (small_one h1 h2 h3 h4) ?_
 have I1:Inv X pins σ H { s with heap:=s.heap.push { cls:=.type "range",data:=.fields #[.int lo t,.int hi u,.int 1 v] },toks:=tk }:=I.kept fun b o e=>Heap.get?_push_of_some _ e
 refine ⟨(s.heap.push { cls:=.type "range",data:=.fields #[.int lo t,.int hi u,.int 1 v] }).objs.size,[(s.heap.push { cls:=.type "range",data:=.fields #[.int lo t,.int hi u,.int 1 v] }).objs.size],_,_,H,rfl,
  I1.kept (t':=tk) fun b o e=>Heap.get?_push_of_some _ e,turn_range _ lo (hi - lo).toNat,?_,fun b hb=>?_,q⟩
 · have e1:lo+((0:Nat):Int)*1=lo:=by simp
   have e2:(((hi - lo).toNat:Nat):Int) - ((0:Nat):Int)=Builtin.Range.rangeSize lo hi 1:=by rw [rangeSize_one];split <;> omega
   show IsRangeIter _ _ (lo+((0:Nat):Int)*1) ((((hi - lo).toNat:Nat):Int) - ((0:Nat):Int)) 1
   rw [e1,e2]
   exact Heap.get?_push_size _ rfl
 · have e:b=(s.heap.push { cls:=.type "range",data:=.fields #[.int lo t,.int hi u,.int 1 v] }).objs.size:=by simpa using hb
   subst e
   exact I1.fpOk (Nat.le_refl _) (I1.hok.fresh (Nat.le_refl _))
def iRng1 (ta:TA):TI:=fun σ H R=>ta σ H fun vs H1=>∃ j:Int,vs=[.int j]∧-(2 ^ 62)≤j∧j<2 ^ 62∧R (Itr 0 j.toNat) H1
def iRng2 (ta:TA):TI:=fun σ H R=>ta σ H fun vs H1=>∃ i j:Int,vs=[.int i,.int j]∧(-(2 ^ 62)≤i∧i<2 ^ 62∧-(2 ^ 62)≤j∧j<2 ^ 62)∧R (Itr i (j - i).toNat) H1
theorem pi_range1 {a:Expr} {ta:TA} {p pos:Pos} (hg:Gl X "range") (hm:X.mg "range" = none) (ha:PA X [a] ta) (hs:starEach [a] X.env=[(false,eval a X.env)]:=by rfl):PI X tg (.Call (.Name "range" p) [a] [] pos) (iRng1 ta):=by
 intro pins s σ H R I h
 refine Call_ (ld_blt I hg hm boot_range (PyProof.Rows.callWith_type1 (thn (ha pos pins s σ H _ I h) fun us s1 ⟨vs,H1,I1,r1,q1⟩=>?_) hs rfl))
 obtain ⟨j,e,q1,q2,q⟩:=q1
 subst e
 cases r1 with
 | cons r rr=>
   cases rr
   obtain ⟨t,rfl⟩:=r
   exact call_range_1 (range_it I1 (by omega) (by omega) q1 q2 (by simpa using q))
theorem zi_range1 {a:Expr} {ta:TA} {p pos:Pos} (hg:Gl X "range") (hm:X.mg "range" = none) (ha:ZA X [a] ta) (hs:starEach [a] X.env=[(false,eval a X.env)]:=by rfl):ZI X tg (.Call (.Name "range" p) [a] [] pos) (iRng1 ta):=by with_unfolding_all exact pi_range1 hg hm ha hs
theorem pi_range2 {a b:Expr} {ta:TA} {p pos:Pos} (hg:Gl X "range") (hm:X.mg "range" = none) (ha:PA X [a,b] ta) (hs:starEach [a,b] X.env=[(false,eval a X.env),(false,eval b X.env)]:=by rfl) (hs2:starEach [b] X.env=[(false,eval b X.env)]:=by rfl) :
 PI X tg (.Call (.Name "range" p) [a,b] [] pos) (iRng2 ta):=by
 intro pins s σ H R I h
 refine Call_ (ld_blt I hg hm boot_range (PyProof.Rows.callWith_type1 (thn (ha pos pins s σ H _ I h) fun us s1 ⟨vs,H1,I1,r1,q1⟩=>?_) (by rw [hs,hs2]) (by rw [hs2];rfl)))
 obtain ⟨i,j,e,⟨q1,q2,q3,q4⟩,q⟩:=q1
 subst e
 cases r1 with
 | cons r rr=>
   cases rr with
   | cons r' rr=>
     cases rr
     obtain ⟨t,rfl⟩:=r
     obtain ⟨t',rfl⟩:=r'
     exact call_range_2 (range_it I1 q1 q2 q3 q4 q)
theorem zi_range2 {a b:Expr} {ta:TA} {p pos:Pos} (hg:Gl X "range") (hm:X.mg "range" = none) (ha:ZA X [a,b] ta) (hs:starEach [a,b] X.env=[(false,eval a X.env),(false,eval b X.env)]:=by rfl) (hs2:starEach [b] X.env=[(false,eval b X.env)]:=by rfl) :
 ZI X tg (.Call (.Name "range" p) [a,b] [] pos) (iRng2 ta):=by with_unfolding_all exact pi_range2 hg hm ha hs hs2
def tFor (wi:TI) (g:TG) (tb:TS):TS:=fun D σ H=>wi σ H fun J H1=>∃ W:Nat→Nat→St→Hp→Prop,(∃ m,W 0 m σ H1)∧∀ i m σ H,W i m σ H →
 (J.stop i H∧D.nx σ H)∨(J.go i H∧∃ N:St→Hp→Prop,(∀ σ' H',N σ' H'→∃ m',m' < m∧W (i+1) m' σ' H')∧∀ x H',J.yld i H x H'→g x σ H' fun σ2 H2=>tb { D with nx:=N,ct:=N,bk:=D.nx } σ2 H2)
def pinsAt (fp:List Addr) (h:Heap):List (Addr×Obj):=fp.filterMap fun b=>(h.get? b).map fun o=>(b,o)
theorem mem_pinsAt {fp:List Addr} {h:Heap} {b:Addr} {o:Obj} (hb:b∈fp) (e:h.get? b=some o):(b,o)∈pinsAt fp h:=List.mem_filterMap.mpr ⟨b,hb,by rw [e];rfl⟩
theorem of_pinsAt {fp:List Addr} {h:Heap} {p:Addr×Obj} (hp:p∈pinsAt fp h):p.1∈fp∧h.get? p.1=some p.2:=by
 obtain ⟨b,hb,e⟩:=List.mem_filterMap.mp hp
 cases q:h.get? b with
 | none=>rw [q] at e;cases e
 | some o=>
   rw [q] at e
   have e':(b,o)=p:=Option.some.inj e
   subst e'
   exact ⟨hb,q⟩
theorem Inv.pinned {pins:List (Addr×Obj)} {σ:St} {H:Hp} {s:Shared} {fp:List Addr} (I:Inv X pins σ H s) (hf:∀ b∈fp,FpOk X pins H b) (ho:∀ b∈fp,∃ o,s.heap.get? b=some o∧∀ v,o.data≠.cell v):Inv X (pins++pinsAt fp s.heap) σ H s:=
 I.pins_of fun p hp=>(List.mem_append.mp hp).elim (fun z=>I.pin p (List.mem_append_right _ z)) fun z=>by
  obtain ⟨hb,e⟩:=of_pinsAt z
  obtain ⟨f0,f1,f2,_⟩:=hf p.1 hb
  obtain ⟨o,e',d⟩:=ho p.1 hb
  rw [e] at e';cases e'
  exact ⟨e,f0,f1,f2,d⟩
theorem Inv.unpinned {pins pl:List (Addr×Obj)} {σ:St} {H:Hp} {s:Shared} (I:Inv X (pins++pl) σ H s):Inv X pins σ H s:=I.pins_of fun p hp=>I.pin p (List.mem_append_right _ (List.mem_append_left _ hp))
theorem ps_for {iter:Expr} {body:List Stmt} {wi:TI} {g:TG} {tb:TS} {pos:Pos} (hp:PassesOwn (model X.prog X.w) X.A X.env X.xe) (hc:X.calm=true) (hi:PI X tg iter wi) (hg:PG X tg g) (hb:PSs X body tb)
 (hs:∀ x,foldedSetIterable iter X.env x=pure x:=by intro _;rfl):PS X (.For tg iter body [] pos) (tFor wi g tb):=by
 intro pins s σ H D I h
 refine wpAny_For (thn (hi pins s σ H _ I h) fun v s1 h1=>thn h1 fun itv s2 h2=>?_) hs
 obtain ⟨it,fp,tn,J,H2,e,I2,T,st2,f2,W,⟨m0,w0⟩,turn⟩:=h2
 subst e
 -- what stays true of the iterator's objects through the loop
 have stat:∀ {H':Hp},(∀ b∈fp,H' b=none)→∀ b∈fp,FpOk X pins H' b:=fun hn b hb=>⟨hn b hb,(f2 b hb).2⟩
 refine codeAny_forLoop_any (fun n s'=>∃ i σ' H',Inv X pins σ' H' s'∧tn i s'.heap∧(∀ b∈fp,H' b=none)∧W i n σ' H') ?_ m0 ⟨0,σ,H2,I2,st2,fun b hb=>(f2 b hb).1,w0⟩
 rintro n s3 ⟨i,σ3,H3,I3,st3,fr3,w3⟩
 rcases turn i n σ3 H3 w3 with ⟨stop,qn⟩ | ⟨go,N,hN,step⟩
 · refine wpAny_passesOwn hp (thn (T.done X rfl rfl rfl hc i pins s3 σ3 H3 X.xe I3 (stat fr3) st3 stop) fun r s4 ⟨hr,I4⟩=>?_)
   subst hr
   exact wpAny_execs_nil ⟨σ3,H3,I4,qn⟩
 · refine wpAny_passesOwn hp (thn (T.item X rfl rfl rfl hc i pins s3 σ3 H3 X.xe I3 (stat fr3) st3 go) fun r s4 ⟨u,hr,h4⟩=>?_)
   subst hr
   refine wpAny_passesOwn hp (thn h4 fun _ s5 ⟨x,H5,I5,r5,y5,st5,fr5⟩=>?_)
   have I5':=I5.pinned (stat fr5) (T.obj _ _ st5)
   refine wpAny_passesOwn hp (thn (hg _ s5 σ3 H5 x u _ I5' r5 (step x H5 y5)) fun _ s6 ⟨σ6,H6,I6,q6⟩=>?_)
   refine wpAny_passesOwn hp (thn (hb _ s6 σ6 H6 _ I6 q6) fun f s7 q7=>?_)
   have again:∀ {σ7:St} {H7:Hp},Inv X (pins++pinsAt fp s5.heap) σ7 H7 s7→N σ7 H7→∃ m,m<n∧∃ i σ' H',Inv X pins σ' H' s7∧tn i s7.heap∧(∀ b∈fp,H' b=none)∧W i m σ' H':=fun {σ7 H7} I7 n7=>by
    obtain ⟨m',hm,w7⟩:=hN σ7 H7 n7
    refine ⟨m',hm,i+1,σ7,H7,I7.unpinned,T.keep _ _ _ st5 fun b hb o e=>(I7.pin (b,o) (List.mem_append_right _ (List.mem_append_right _ (mem_pinsAt hb e)))).1,fun b hb=>?_,w7⟩
    obtain ⟨o,e,d⟩:=T.obj _ _ st5 b hb
    exact (I7.pin (b,o) (List.mem_append_right _ (List.mem_append_right _ (mem_pinsAt hb e)))).2.1
   cases f with
   | next=>obtain ⟨σ7,H7,I7,n7⟩:=q7;exact again I7 n7
   | cont=>obtain ⟨σ7,H7,I7,n7⟩:=q7;exact again I7 n7
   | brk=>obtain ⟨σ7,H7,I7,q7⟩:=q7;exact ⟨σ7,H7,I7.unpinned,q7⟩
   | ret v=>obtain ⟨x7,σ7,H7,I7,r7,q7⟩:=q7;exact ⟨x7,σ7,H7,I7.unpinned,r7,q7⟩
theorem zs_for {iter:Expr} {body:List Stmt} {wi:TI} {g:TG} {tb:TS} {pos:Pos} (hp:PassesOwn (model X.prog X.w) X.A X.env X.xe) (hc:X.calm=true) (hi:ZI X tg iter wi) (hg:ZG X tg g) (hb:ZSs X body tb)
 (hs:∀ x,foldedSetIterable iter X.env x=pure x:=by intro _;rfl):ZS X (.For tg iter body [] pos) (tFor wi g tb):=by with_unfolding_all exact ps_for hp hc hi hg hb hs
end
theorem for_list {K:PySem.W.Frag} {a:Addr} {xs:List V} {g:TG} {tb:TS} {D:Ends} {σ:St} {H:Hp} (Pv:Nat→St→Hp→Prop) (h0:Pv 0 σ H) (hl:∀ i σ H,i≤xs.length→Pv i σ H→SqL K H a xs)
 (hs:∀ i x σ H,xs[i]? = some x→Pv i σ H→g x σ H fun σ2 H2=>tb { D with nx:=Pv (i+1),ct:=Pv (i+1),bk:=D.nx } σ2 H2) (hd:∀ σ H,Pv xs.length σ H→D.nx σ H) :
 ∃ W:Nat→Nat→St→Hp→Prop,(∃ m,W 0 m σ H)∧∀ i m σ H,W i m σ H →
   ((Itl K a).stop i H∧D.nx σ H)∨((Itl K a).go i H∧∃ N:St→Hp→Prop,(∀ σ' H',N σ' H'→∃ m',m' < m∧W (i+1) m' σ' H')∧∀ x H',(Itl K a).yld i H x H'→g x σ H' fun σ2 H2=>tb { D with nx:=N,ct:=N,bk:=D.nx } σ2 H2):=by
 refine ⟨fun i m σ H=>m=xs.length - i∧i≤xs.length∧Pv i σ H,⟨xs.length,by simp,Nat.zero_le _,h0⟩,?_⟩
 rintro i m σ H ⟨rfl,hi,p⟩
 have q:=hl i σ H hi p
 by_cases hlt:i<xs.length
 · refine .inr ⟨⟨xs,xs[i],q,by simp [hlt]⟩,Pv (i+1),fun σ' H' p'=>⟨xs.length - (i+1),by omega,rfl,hlt,p'⟩,fun x H' y=>?_⟩
   obtain ⟨e,y⟩:=y
   subst e
   exact hs i x σ _ (y xs q) p
 · have e:i=xs.length:=by omega
   subst e
   exact .inl ⟨⟨xs,q,Nat.le_refl _⟩,hd σ H p⟩
theorem for_tup {K:PySem.W.Frag} {a:Addr} {xs:List V} {g:TG} {tb:TS} {D:Ends} {σ:St} {H:Hp} (Pv:Nat→St→Hp→Prop) (h0:Pv 0 σ H) (hl:∀ i σ H,i≤xs.length→Pv i σ H→SqT K H a xs)
 (hs:∀ i x σ H,xs[i]? = some x→Pv i σ H→g x σ H fun σ2 H2=>tb { D with nx:=Pv (i+1),ct:=Pv (i+1),bk:=D.nx } σ2 H2) (hd:∀ σ H,Pv xs.length σ H→D.nx σ H) :
 ∃ W:Nat→Nat→St→Hp→Prop,(∃ m,W 0 m σ H)∧∀ i m σ H,W i m σ H →
   ((Itt K a).stop i H∧D.nx σ H)∨((Itt K a).go i H∧∃ N:St→Hp→Prop,(∀ σ' H',N σ' H'→∃ m',m' < m∧W (i+1) m' σ' H')∧∀ x H',(Itt K a).yld i H x H'→g x σ H' fun σ2 H2=>tb { D with nx:=N,ct:=N,bk:=D.nx } σ2 H2):=by
 refine ⟨fun i m σ H=>m=xs.length - i∧i≤xs.length∧Pv i σ H,⟨xs.length,by simp,Nat.zero_le _,h0⟩,?_⟩
 rintro i m σ H ⟨rfl,hi,p⟩
 have q:=hl i σ H hi p
 by_cases hlt:i<xs.length
 · refine .inr ⟨⟨xs,xs[i],q,by simp [hlt]⟩,Pv (i+1),fun σ' H' p'=>⟨xs.length - (i+1),by omega,rfl,hlt,p'⟩,fun x H' y=>?_⟩
   obtain ⟨e,y⟩:=y
   subst e
   exact hs i x σ _ (y xs q) p
 · have e:i=xs.length:=by omega
   subst e
   exact .inl ⟨⟨xs,q,Nat.le_refl _⟩,hd σ H p⟩
theorem for_range {lo:Int} {n:Nat} {g:TG} {tb:TS} {D:Ends} {σ:St} {H:Hp} (Pv:Nat→St→Hp→Prop) (h0:Pv 0 σ H)
 (hs:∀ i σ H,i<n→Pv i σ H→g (.int (lo+i)) σ H fun σ2 H2=>tb { D with nx:=Pv (i+1),ct:=Pv (i+1),bk:=D.nx } σ2 H2) (hd:∀ σ H,Pv n σ H→D.nx σ H) :
 ∃ W:Nat→Nat→St→Hp→Prop,(∃ m,W 0 m σ H)∧∀ i m σ H,W i m σ H →
   ((Itr lo n).stop i H∧D.nx σ H)∨((Itr lo n).go i H∧∃ N:St→Hp→Prop,(∀ σ' H',N σ' H'→∃ m',m' < m∧W (i+1) m' σ' H')∧∀ x H',(Itr lo n).yld i H x H'→g x σ H' fun σ2 H2=>tb { D with nx:=N,ct:=N,bk:=D.nx } σ2 H2):=by
 refine ⟨fun i m σ H=>m=n - i∧i≤n∧Pv i σ H,⟨n,by simp,Nat.zero_le _,h0⟩,?_⟩
 rintro i m σ H ⟨rfl,hi,p⟩
 by_cases hlt:i<n
 · refine .inr ⟨hlt,Pv (i+1),fun σ' H' p'=>⟨n - (i+1),by omega,rfl,hlt,p'⟩,fun x H' y=>?_⟩
   obtain ⟨e,y⟩:=y
   subst e y
   exact hs i σ _ hlt p
 · have e:i=n:=by omega
   subst e
   exact .inl ⟨Nat.le_refl _,hd σ H p⟩
abbrev R2:=V→V→Hp→VK→Prop
def OpR (X:Cx) (f:Value→Value→Sem Value) (r:R2):Prop:=
 ∀ (pins:List (Addr×Obj)) (s:Shared) (σ:St) (H:Hp) (x y:V) (v u:Value) (Q:VK),Inv X pins σ H s→RelV x v→RelV y u→r x y H Q →
   wpAny (model X.prog X.w) X.A (f v u) (EP X pins σ Q) X.xe s
def UnR (X:Cx) (f:Value→Sem Value) (r:V→Hp→VK→Prop):Prop:=
 ∀ (pins:List (Addr×Obj)) (s:Shared) (σ:St) (H:Hp) (x:V) (v:Value) (Q:VK),Inv X pins σ H s→RelV x v→r x H Q →
   wpAny (model X.prog X.w) X.A (f v) (EP X pins σ Q) X.xe s
def CallR (X:Cx) (f:Value) (r:List V→Hp→VK→Prop):Prop:=
 ∀ (pins:List (Addr×Obj)) (s:Shared) (σ:St) (H:Hp) (xs:List V) (us:List Value) (Q:VK),Inv X pins σ H s→Vals xs us→r xs H Q →
   wpAny (model X.prog X.w) X.A (call f us) (EP X pins σ Q) X.xe s
def tOp (r:R2) (ta tb:TE):TE:=fun σ H Q=>ta σ H fun x H1=>tb σ H1 fun y H2=>r x y H2 Q
def tUn (r:V→Hp→VK→Prop) (ta:TE):TE:=fun σ H Q=>ta σ H fun x H1=>r x H1 Q
def rI (C:Int→Int→Prop) (g:Int→Int→V):R2:=fun x y H Q=>∃ i j,x=.int i∧y=.int j∧C i j∧Q (g i j) H
def rI0 (g:Int→Int→V):R2:=fun x y H Q=>∃ i j,x=.int i∧y=.int j∧Q (g i j) H
def rU (g:Int→V):V→Hp→VK→Prop:=fun x H Q=>∃ i,x=.int i∧Q (g i) H
section
variable {X:Cx} {a b c:Expr} {ta tb tc:TE} {pos:Pos}
theorem binT (ha:PE X a ta) (hb:PE X b tb) {pins:List (Addr×Obj)} {s:Shared} {σ:St} {H:Hp} {R:V→V→Hp→Prop} (I:Inv X pins σ H s)
 (h:ta σ H fun x H1=>tb σ H1 fun y H2=>R x y H2) {Q:Value→Shared→Prop} {f:Value→Value→Sem Value}
 (hf:∀ v u s2 x y H2,Inv X pins σ H2 s2→RelV x v→RelV y u→R x y H2→wpAny (model X.prog X.w) X.A (f v u) Q X.xe s2) :
 wpAny (model X.prog X.w) X.A (eval a X.env) (fun v s₁=>wpAny (model X.prog X.w) X.A (eval b X.env) (fun u s₂=>wpAny (model X.prog X.w) X.A (f v u) Q X.xe s₂) X.xe s₁) X.xe s:=by
 refine thn (ha pins s σ H _ I h) fun v s1 ⟨x,H1,I1,r1,q1⟩=>?_
 refine thn (hb pins s1 σ H1 _ I1 q1) fun u s2 ⟨y,H2,I2,r2,q2⟩=>?_
 exact hf v u s2 x y H2 I2 r1 r2 q2
theorem pe_op {op:Operator} {r:R2} (ho:OpR X (binaryOp op) r) (ha:PE X a ta) (hb:PE X b tb):PE X (.BinOp a op b pos) (tOp r ta tb):=by
 intro pins s σ H Q I h
 exact wpAny_BinOp (binT ha hb I h fun v u s2 x y H2 I2 rx ry q=>ho pins s2 σ H2 x y v u Q I2 rx ry q)
theorem ze_op {op:Operator} {r:R2} (ho:OpR X (binaryOp op) r) (ha:ZE X a ta) (hb:ZE X b tb):ZE X (.BinOp a op b pos) (tOp r ta tb):=by with_unfolding_all exact pe_op ho ha hb
theorem pe_un {op:UnaryOp} {r:V→Hp→VK→Prop} (ho:UnR X (unaryOp op) r) (ha:PE X a ta):PE X (.UnaryOp op a pos) (tUn r ta):=by
 intro pins s σ H Q I h
 exact UnaryOp_ (thn (ha pins s σ H _ I h) fun v s1 ⟨x,H1,I1,r1,q1⟩=>ho pins s1 σ H1 x v Q I1 r1 q1)
theorem ze_un {op:UnaryOp} {r:V→Hp→VK→Prop} (ho:UnR X (unaryOp op) r) (ha:ZE X a ta):ZE X (.UnaryOp op a pos) (tUn r ta):=by with_unfolding_all exact pe_un ho ha
theorem opI {f:Value→Value→Sem Value} {C:Int→Int→Prop} {g:Int→Int→Int}
 (rule:∀ (i j:Int) (t u:Tok) (s:Shared) (Q:Value→Shared→Prop) (E:Value→Shared→Prop),C i j→Q (.int (g i j) s.toks) { s with toks:=s.toks+1 }→wpAny (model X.prog X.w) X.A (f (.int i t) (.int j u)) Q E s) :
 OpR X f (rI C fun i j=>.int (g i j)):=by
 intro pins s σ H x y v u Q I rx ry h
 obtain ⟨i,j,rfl,rfl,hc,q⟩:=h
 obtain ⟨t,rfl⟩:=rx
 obtain ⟨t',rfl⟩:=ry
 exact rule i j t t' s _ _ hc ⟨.int (g i j),H,I.tok _,⟨_,rfl⟩,q⟩
theorem opI0 {f:Value→Value→Sem Value} {g:Int→Int→Int}
 (rule:∀ (i j:Int) (t u:Tok) (s:Shared) (Q:Value→Shared→Prop) (E:Value→Shared→Prop),Q (.int (g i j) s.toks) { s with toks:=s.toks+1 }→wpAny (model X.prog X.w) X.A (f (.int i t) (.int j u)) Q E s) :
 OpR X f (rI0 fun i j=>.int (g i j)):=by
 intro pins s σ H x y v u Q I rx ry h
 obtain ⟨i,j,rfl,rfl,q⟩:=h
 obtain ⟨t,rfl⟩:=rx
 obtain ⟨t',rfl⟩:=ry
 exact rule i j t t' s _ _ ⟨.int (g i j),H,I.tok _,⟨_,rfl⟩,q⟩
theorem opB0 {f:Value→Value→Sem Value} {g:Int→Int→Bool}
 (rule:∀ (i j:Int) (t u:Tok) (s:Shared) (Q:Value→Shared→Prop) (E:Value→Shared→Prop),Q (.bool (g i j)) s→wpAny (model X.prog X.w) X.A (f (.int i t) (.int j u)) Q E s) :
 OpR X f (rI0 fun i j=>.bl (g i j)):=by
 intro pins s σ H x y v u Q I rx ry h
 obtain ⟨i,j,rfl,rfl,q⟩:=h
 obtain ⟨t,rfl⟩:=rx
 obtain ⟨t',rfl⟩:=ry
 exact rule i j t t' s _ _ ⟨.bl (g i j),H,I,rfl,q⟩
def CDiv (i j:Int):Prop:=0<j∧j<1073741824
def CPow (i j:Int):Prop:=0≤j∧j≤1000000∧i.natAbs<2 ^ 64
theorem op_add:OpR X (binaryOp .Add) (rI0 fun i j=>.int (i+j)):=opI0 fun _ _ _ _ _ _ _ q=>add_int q
theorem op_sub:OpR X (binaryOp .Sub) (rI0 fun i j=>.int (i - j)):=opI0 fun _ _ _ _ _ _ _ q=>sub_int q
theorem op_fdiv:OpR X (binaryOp .FloorDiv) (rI CDiv fun i j=>.int (i / j)):=opI fun i j _ _ _ _ _ hc q=>by
 have h1:(0:Int)<j:=hc.1
 have h2:j<1073741824:=hc.2
 exact floordiv_int (by omega) (by rw [Int.fdiv_eq_ediv_of_nonneg i (by omega)];exact q) (.inl (PyProof.noPylong_small (by omega)))
theorem op_mod:OpR X (binaryOp .Mod) (rI (fun _ j=>0<j) fun i j=>.int (i % j)):=opI fun i j _ _ _ _ _ hc q=>by
 have h1:(0:Int)<j:=hc
 exact mod_int' (by omega) (by rw [Int.fmod_eq_emod_of_nonneg i (by omega)];exact q)
theorem op_pow:OpR X (binaryOp .Pow) (rI CPow fun i j=>.int (i ^ j.toNat)):=opI fun _ _ _ _ _ _ _ hc q=>pow_int_small hc.1 hc.2.1 hc.2.2 q
theorem unI {f:Value→Sem Value} {g:Int→Int}
 (rule:∀ (i:Int) (t:Tok) (s:Shared) (Q:Value→Shared→Prop) (E:Value→Shared→Prop),Q (.int (g i) s.toks) { s with toks:=s.toks+1 }→wpAny (model X.prog X.w) X.A (f (.int i t)) Q E s) :
 UnR X f (rU fun i=>.int (g i)):=by
 intro pins s σ H x v Q I rx h
 obtain ⟨i,rfl,q⟩:=h
 obtain ⟨t,rfl⟩:=rx
 exact rule i t s _ _ ⟨.int (g i),H,I.tok _,⟨_,rfl⟩,q⟩
theorem un_neg:UnR X (unaryOp .USub) (rU fun i=>.int (-i)):=unI fun _ _ _ _ _ q=>neg_int q
end
def scal:V→V→Bool
 | .non,.non=>true | .non,.int _=>true | .int _,.non=>true | .non,.bl _=>true | .bl _,.non=>true | .non,.str _=>true | .str _,.non=>true
 | .int _,.int _=>true | .bl _,.bl _=>true | .str _,.str _=>true | .byt _,.byt _=>true
 | .int _,.str _=>true | .str _,.int _=>true | .bl _,.str _=>true | .str _,.bl _=>true
 | _,_=>false
def rEq:R2:=fun x y H Q=>scal x y=true∧Q (.bl (decide (x=y))) H
def rNe:R2:=fun x y H Q=>scal x y=true∧Q (.bl (!decide (x=y))) H
theorem dec_int {i j:Int}:decide (V.int i=V.int j)=(i == j):=by
 rw [Bool.eq_iff_iff]
 simp
theorem dec_bl {i j:Bool}:decide (V.bl i=V.bl j)=(i == j):=by
 rw [Bool.eq_iff_iff]
 simp
theorem dec_str {i j:Str}:decide (V.str i=V.str j)=(i == j):=by
 rw [Bool.eq_iff_iff]
 simp
theorem dec_byt {i j:Array UInt8}:decide (V.byt i=V.byt j)=(i.toList == j.toList):=by
 rw [Bool.eq_iff_iff]
 cases i
 cases j
 simp
section
variable {X:Cx} {a b c:Expr} {ta tb tc:TE} {pos:Pos}
theorem fin_bl {pins:List (Addr×Obj)} {σ:St} {H:Hp} {s:Shared} {Q:VK} {k k':Bool} (I:Inv X pins σ H s) (q:Q (.bl k) H) (e:k=k'):EP X pins σ Q (.bool k') s:=by
 subst e
 exact ⟨.bl k,H,I,rfl,q⟩
theorem op_eq:OpR X (compareOp .Eq) rEq:=by
 intro pins s σ H x y v u Q I rx ry h
 obtain ⟨hs,q⟩:=h
 cases x with
 | non=>
   cases rx
   cases y with
   | non=>cases ry;exact PySem.EqNone.eq_none_none (fin_bl I q (by simp))
   | bl j=>cases ry;exact PySem.EqNone.eq_none_bool (fin_bl I q (by simp))
   | int j=>obtain ⟨t',rfl⟩:=ry;exact PySem.EqNone.eq_none_int (fin_bl I q (by simp))
   | str j=>obtain ⟨t',rfl⟩:=ry;exact PySem.EqNone.eq_none_str (fin_bl I q (by simp))
   | _=>exact absurd (show false=true from hs) Bool.false_ne_true
 | bl i=>
   cases rx
   cases y with
   | non=>cases ry;exact PySem.EqNone.eq_bool_none (fin_bl I q (by simp))
   | bl j=>cases ry;exact eq_bool (fin_bl I q dec_bl)
   | str j=>obtain ⟨t',rfl⟩:=ry;exact PySem.EqMixed.eq_bool_str (fin_bl I q (by simp))
   | _=>exact absurd (show false=true from hs) Bool.false_ne_true
 | int i=>
   obtain ⟨t,rfl⟩:=rx
   cases y with
   | non=>cases ry;exact PySem.EqNone.eq_int_none (fin_bl I q (by simp))
   | int j=>obtain ⟨t',rfl⟩:=ry;exact eq_int (fin_bl I q dec_int)
   | str j=>obtain ⟨t',rfl⟩:=ry;exact PySem.EqMixed.eq_int_str (fin_bl I q (by simp))
   | _=>exact absurd (show false=true from hs) Bool.false_ne_true
 | str i=>
   obtain ⟨t,rfl⟩:=rx
   cases y with
   | non=>cases ry;exact PySem.EqNone.eq_str_none (fin_bl I q (by simp))
   | bl j=>cases ry;exact PySem.EqMixed.eq_str_bool (fin_bl I q (by simp))
   | int j=>obtain ⟨t',rfl⟩:=ry;exact PySem.EqMixed.eq_str_int (fin_bl I q (by simp))
   | str j=>obtain ⟨t',rfl⟩:=ry;exact eq_str (fin_bl I q dec_str)
   | _=>exact absurd (show false=true from hs) Bool.false_ne_true
 | byt i=>
   obtain ⟨t,rfl⟩:=rx
   cases y with
   | byt j=>obtain ⟨t',rfl⟩:=ry;exact PySem.W.eq_bytes (fin_bl I q dec_byt)
   | _=>exact absurd (show false=true from hs) Bool.false_ne_true
 | _=>cases y <;> exact absurd (show false=true from hs) Bool.false_ne_true
theorem op_ne:OpR X (compareOp .NotEq) rNe:=by
 intro pins s σ H x y v u Q I rx ry h
 obtain ⟨hs,q⟩:=h
 cases x with
 | non=>
   cases rx
   cases y with
   | non=>cases ry;exact PySem.EqNone.ne_none_none (fin_bl I q (by simp))
   | bl j=>cases ry;exact PySem.EqNone.ne_none_bool (fin_bl I q (by simp))
   | int j=>obtain ⟨t',rfl⟩:=ry;exact PySem.EqNone.ne_none_int (fin_bl I q (by simp))
   | str j=>obtain ⟨t',rfl⟩:=ry;exact PySem.EqNone.ne_none_str (fin_bl I q (by simp))
   | _=>exact absurd (show false=true from hs) Bool.false_ne_true
 | bl i=>
   cases rx
   cases y with
   | non=>cases ry;exact PySem.EqNone.ne_bool_none (fin_bl I q (by simp))
   | bl j=>cases ry;exact ne_bool (fin_bl I q (congrArg not dec_bl))
   | str j=>obtain ⟨t',rfl⟩:=ry;exact PySem.EqMixed.ne_bool_str (fin_bl I q (by simp))
   | _=>exact absurd (show false=true from hs) Bool.false_ne_true
 | int i=>
   obtain ⟨t,rfl⟩:=rx
   cases y with
   | non=>cases ry;exact PySem.EqNone.ne_int_none (fin_bl I q (by simp))
   | int j=>obtain ⟨t',rfl⟩:=ry;exact ne_int (fin_bl I q (congrArg not dec_int))
   | str j=>obtain ⟨t',rfl⟩:=ry;exact PySem.EqMixed.ne_int_str (fin_bl I q (by simp))
   | _=>exact absurd (show false=true from hs) Bool.false_ne_true
 | str i=>
   obtain ⟨t,rfl⟩:=rx
   cases y with
   | non=>cases ry;exact PySem.EqNone.ne_str_none (fin_bl I q (by simp))
   | bl j=>cases ry;exact PySem.EqMixed.ne_str_bool (fin_bl I q (by simp))
   | int j=>obtain ⟨t',rfl⟩:=ry;exact PySem.EqMixed.ne_str_int (fin_bl I q (by simp))
   | str j=>obtain ⟨t',rfl⟩:=ry;exact ne_str (fin_bl I q (congrArg not dec_str))
   | _=>exact absurd (show false=true from hs) Bool.false_ne_true
 | byt i=>
   obtain ⟨t,rfl⟩:=rx
   cases y with
   | byt j=>obtain ⟨t',rfl⟩:=ry;exact PySem.W.ne_bytes (fin_bl I q (congrArg not dec_byt))
   | _=>exact absurd (show false=true from hs) Bool.false_ne_true
 | _=>cases y <;> exact absurd (show false=true from hs) Bool.false_ne_true
theorem op_lt:OpR X (compareOp .Lt) (rI0 fun i j=>.bl (decide (i<j))):=opB0 fun _ _ _ _ _ _ _ q=>lt_int q
theorem op_le:OpR X (compareOp .LtE) (rI0 fun i j=>.bl (decide (i≤j))):=opB0 fun _ _ _ _ _ _ _ q=>le_int q
theorem op_gt:OpR X (compareOp .Gt) (rI0 fun i j=>.bl (decide (j<i))):=opB0 fun _ _ _ _ _ _ _ q=>gt_int q
theorem op_ge:OpR X (compareOp .GtE) (rI0 fun i j=>.bl (decide (j≤i))):=opB0 fun _ _ _ _ _ _ _ q=>ge_int q
theorem op_isN:OpR X (compareOp .Is) (fun x y H Q=>y=.non∧Q (.bl (decide (x=.non))) H):=by
 intro pins s σ H x y v u Q I rx ry h
 obtain ⟨rfl,q⟩:=h
 cases ry
 refine is_none_gen (fin_bl I q ?_)
 cases x <;> first
  | (cases rx;rfl)
  | (obtain ⟨t,rfl⟩:=rx;rfl)
theorem op_notN:OpR X (compareOp .IsNot) (fun x y H Q=>y=.non∧Q (.bl (!decide (x=.non))) H):=by
 intro pins s σ H x y v u Q I rx ry h
 obtain ⟨rfl,q⟩:=h
 cases ry
 refine isnot_none_gen (fin_bl I q ?_)
 cases x <;> first
  | (cases rx;rfl)
  | (obtain ⟨t,rfl⟩:=rx;rfl)
theorem nomark (b:Expr) {op:CmpOp} (h:op≠.In:=by decide) (h2:op≠.NotIn:=by decide):behindInMarks op b=false:=by
 have e1:(op == CmpOp.In)=false:=by cases op <;> first | rfl | exact absurd rfl h
 have e2:(op == CmpOp.NotIn)=false:=by cases op <;> first | rfl | exact absurd rfl h2
 cases b <;> simp [behindInMarks,e1,e2]
theorem pe_cmpR {op:CmpOp} {r:R2} (ho:OpR X (compareOp op) r) (ha:PE X a ta) (hb:PE X b tb) (hm:behindInMarks op b=false):PE X (.Compare a [op] [b] pos) (tOp r ta tb):=by
 intro pins s σ H Q I h
 exact wpAny_Compare1 (binT ha hb I h fun v u s2 x y H2 I2 rx ry q=>ho pins s2 σ H2 x y v u Q I2 rx ry q) hm
theorem ze_cmpR {op:CmpOp} {r:R2} (ho:OpR X (compareOp op) r) (ha:ZE X a ta) (hb:ZE X b tb) (hm:behindInMarks op b=false):ZE X (.Compare a [op] [b] pos) (tOp r ta tb):=by with_unfolding_all exact pe_cmpR ho ha hb hm
def tTest (t:TE):TT:=fun σ H Q=>t σ H fun x H'=>∃ k,x=.bl k∧Q k H'
def tChain (r r':R2) (ta tb tc:TE):TE:=fun σ H Q=>ta σ H fun x H1=>tb σ H1 fun y H2=>r x y H2 fun z H3=>∃ k,z=.bl k ∧
 (if k=true then tc σ H3 fun w' H4=>r' y w' H4 Q else Q (.bl false) H3)
theorem pe_chain {op op':CmpOp} {r r':R2} (ho:OpR X (compareOp op) r) (ho':OpR X (compareOp op') r') (ha:PE X a ta) (hb:PE X b tb) (hc:PE X c tc)
 (hm:lastMarks [op,op'] [b,c]=false:=by with_unfolding_all rfl):PE X (.Compare a [op,op'] [b,c] pos) (tChain r r' ta tb tc):=by
 intro pins s σ H Q I h
 refine Compare_chain (thn (ha pins s σ H _ I h) fun v s1 ⟨x,H1,I1,r1,q1⟩=>chain_link (thn (hb pins s1 σ H1 _ I1 q1) fun u s2 ⟨y,H2,I2,r2,q2⟩=>
  thn (ho pins s2 σ H2 x y v u _ I2 r1 r2 q2) fun d s3 ⟨z,H3,I3,r3,k,e,q3⟩=>?_)) hm
 subst e
 cases r3
 refine wpAny_truthy_bool ?_
 cases k with
 | false=>exact ite_ff ⟨.bl false,H3,I3,rfl,q3⟩
 | true=>exact ite_tt (chain_last (thn (hc pins s3 σ H3 _ I3 q3) fun w' s4 ⟨z',H4,I4,r4,q4⟩=>ho' pins s4 σ H4 y z' u w' Q I4 r2 r4 q4))
theorem ze_chain {op op':CmpOp} {r r':R2} (ho:OpR X (compareOp op) r) (ho':OpR X (compareOp op') r') (ha:ZE X a ta) (hb:ZE X b tb) (hc:ZE X c tc)
 (hm:lastMarks [op,op'] [b,c]=false:=by with_unfolding_all rfl):ZE X (.Compare a [op,op'] [b,c] pos) (tChain r r' ta tb tc):=by with_unfolding_all exact pe_chain ho ho' ha hb hc hm
theorem line63:(sizeLine:Nat)<2 ^ 63:=by rw [sizeLine_eq];decide
theorem op_add_str:OpR X (binaryOp .Add) (fun x y H Q=>∃ i j,x=.str i∧y=.str j∧i.length+j.length≤sizeLine∧Q (.str (i++j)) H):=by
 intro pins s σ H x y v u Q I rx ry h
 obtain ⟨i,j,rfl,rfl,hz,q⟩:=h
 obtain ⟨t,rfl⟩:=rx
 obtain ⟨t',rfl⟩:=ry
 exact add_str (fun t' tk=>⟨.str (i++j),H,I.tok _,⟨_,rfl⟩,q⟩) hz
theorem vals1 {x:V} {us:List Value} (r:Vals [x] us):∃ u,us=[u]∧RelV x u:=by
 cases r with
 | cons r1 r2=>cases r2;exact ⟨_,rfl,r1⟩
theorem vals2 {x y:V} {us:List Value} (r:Vals [x,y] us):∃ u w',us=[u,w']∧RelV x u∧RelV y w':=by
 cases r with
 | cons r1 r2=>
   cases r2 with
   | cons r3 r4=>cases r4;exact ⟨_,_,rfl,r1,r3⟩
theorem call_abs:CallR X (.builtin "abs") (fun xs H Q=>∃ i,xs=[.int i]∧Q (.int (if i<0 then -i else i)) H):=by
 intro pins s σ H xs us Q I r h
 obtain ⟨i,rfl,q⟩:=h
 obtain ⟨u,rfl,t,rfl⟩:=vals1 r
 exact call_abs_int fun u tk=>⟨.int (if i<0 then -i else i),H,I.tok _,⟨_,rfl⟩,q⟩
theorem call_max2 (hc:X.calm=true):CallR X (.builtin "max") (fun xs H Q=>∃ i j,xs=[.int i,.int j]∧Q (.int (if j > i then j else i)) H):=by
 intro pins s σ H xs us Q I r h
 obtain ⟨i,j,rfl,q⟩:=h
 obtain ⟨u,w',rfl,⟨t,rfl⟩,⟨t',rfl⟩⟩:=vals2 r
 refine max_two_ints (I.ok.hd hc) fun h' tk k=>⟨_,H,I.kept k,?_,q⟩
 by_cases hj:j > i
 · rw [if_pos hj,if_pos hj];exact ⟨_,rfl⟩
 · rw [if_neg hj,if_neg hj];exact ⟨_,rfl⟩
theorem call_min2 (hc:X.calm=true):CallR X (.builtin "min") (fun xs H Q=>∃ i j,xs=[.int i,.int j]∧Q (.int (if j<i then j else i)) H):=by
 intro pins s σ H xs us Q I r h
 obtain ⟨i,j,rfl,q⟩:=h
 obtain ⟨u,w',rfl,⟨t,rfl⟩,⟨t',rfl⟩⟩:=vals2 r
 refine min_two_ints (I.ok.hd hc) fun h' tk k=>⟨_,H,I.kept k,?_,q⟩
 by_cases hj:j<i
 · rw [if_pos hj,if_pos hj];exact ⟨_,rfl⟩
 · rw [if_neg hj,if_neg hj];exact ⟨_,rfl⟩
end
structure ObjM (h:Heap) (x dx C:Addr) (mA:Str→Option Value):Prop where
 obj:h.get? x=some (PySem.W.instObj C dx)
 ns:h.Ns1 dx mA
 ne:dx≠x
theorem lookIn_ns {h:Heap} {dx:Addr} {mA:Str→Option Value} (n:h.Ns1 dx mA):∃ od,h.get? dx=some od∧∀ name,PySem.W.lookIn name od=some (mA name):=by
 obtain ⟨o,es,ep,ho,hd,hk,_,hm⟩:=n
 refine ⟨o,ho,fun name=>?_⟩
 have e:=hm name
 unfold nsFind findBy at e
 rw [← Array.find?_toList] at e
 unfold PySem.W.lookIn
 rw [hd]
 dsimp only
 split
 · rename_i y q
   rw [q] at e
   exact congrArg some e
 · rename_i q
   rw [q] at e
   have a:es.toList.any (·.refKey)=false:=by
    rw [List.any_eq_false]
    intro y hy
    obtain ⟨z,t,hkey⟩:=hk y (Array.mem_toList_iff.mp hy)
    simp [DictEntry.refKey,hkey]
   have a':¬ es.toList.any (·.refKey)=true:=by rw [a];exact Bool.false_ne_true
   rw [if_neg a']
   exact congrArg some e
theorem ObjM.look {h:Heap} {x dx C:Addr} {mA:Str→Option Value} (I:ObjM h x dx C mA):∃ od,PySem.W.InstAt h x (PySem.W.instObj C dx) C (some od)∧∀ name,PySem.W.lookIn name od=some (mA name):=
 let ⟨od,ho,hl⟩:=lookIn_ns I.ns
 ⟨od,⟨I.obj,rfl,rfl,ho⟩,hl⟩
section
variable {P:Program} {w:World} {H H':Hp} {h h':Heap} {a C dx:Addr} {fs fs':List (Str×V)}
theorem ins_get (hok:HOk P w H h) (e:H a=some (.ins C dx fs)):∃ mA,ObjM h a dx C mA∧(∀ f,RelO (fs.lookup f) (mA f))∧PySem.Within mA (fs.map (·.1))∧fs.length≤1000∧H dx=some (.own a):=by
 obtain ⟨d,z,ne,ob,mA,n,r,q⟩:=(show ObjOk P w H h a (.ins C dx fs) from hok a _ e)
 exact ⟨mA,⟨ob,n,ne⟩,r,q,z,d⟩
end
structure Cls (K:PySem.W.Frag) (C:Addr):Prop where
 pg:PySem.W.plainGet K C Str.empty=true
 hd:PySem.W.hasDictIn K C=true
 po:PySem.W.plainOver K C=true
 sa:PySem.W.findIn K (.ref C) "__setattr__" = some (some (.builtin "object.__setattr__"))
theorem Cls.get {K:PySem.W.Frag} {C:Addr} (c:Cls K C) (f:Str):PySem.W.plainGet K C f=true:=c.pg
section
variable {X:Cx} {pins:List (Addr×Obj)} {σ:St} {H:Hp} {s:Shared} {A:Around} {E:Value→Shared→Prop} {Q:Value→Shared→Prop} {c:Value} {b:Bool}
inductive TyOf (K:PySem.W.Frag) (H:Hp):V→Value→Prop where
 | non:TyOf K H .non (.type "NoneType")
 | bl (x:Bool):TyOf K H (.bl x) (.type "bool")
 | int (i:Int):TyOf K H (.int i) (.type "int")
 | str (x:Str):TyOf K H (.str x) (.type "str")
 | flt (x:UInt64):TyOf K H (.flt x) (.type "float")
 | lst {a:Addr} {xs:List V} (e:H a=some (.lst xs)):TyOf K H (.ref a) (.type "list")
 | frz {a:Addr} {o:Obj} {xs:List V} (e:H a=some (.frz o (.lst xs))):TyOf K H (.ref a) (.type "list")
 | tup {a:Addr} {xs:List V} (e:H a=some (.tup xs)):TyOf K H (.ref a) (.type "tuple")
 | dK {a:Addr} {kvs:List (Key×V)} (e:H a=some (.dK kvs)):TyOf K H (.ref a) (.type "dict")
 | dT {a:Addr} {kvs:List (List Key×V)} (e:H a=some (.dT kvs)):TyOf K H (.ref a) (.type "dict")
 | ins {a C dx:Addr} {fs:List (Str×V)} (e:H a=some (.ins C dx fs)) (cl:Cls K C) (ha:PySem.W.findIn K (.ref C) "__class__" = some (some (.builtin "object.__class__")))
  (hn:PySem.W.specialIn K (.builtin "object.__class__") "__get__" = some (some (.builtin "getset_descriptor.__get__"))) (htk:PySem.W.takesIn K (.builtin "object.__class__")=some true)
  (hm:PySem.W.mroIn K C (.type "object")=some true):TyOf K H (.ref a) (.ref C)
theorem isinst_ok {x:V} {u t:Value} (I:Inv X pins σ H s) (rx:RelV x u) (ty:TyOf X.K H x t) (e:PySem.W.kitOne X.K t c=some b) (h:∀ tk,Q (.bool b) { s with toks:=tk }) :
 wpAny (model X.prog X.w) A (call (.builtin "isinstance") [u,c]) Q E s:=by
 cases ty with
 | non=>cases (show u=Value.none from rx);exact PySem.W.kia_one PySem.W.kitx_none I.kIn True.intro e (fun z=>nomatch z) h
 | bl y=>cases (show u=Value.bool y from rx);exact PySem.W.kia_one PySem.W.kitx_bool I.kIn True.intro e (fun z=>nomatch z) h
 | int i=>obtain ⟨t,q⟩:=(show ∃ t,u=Value.int i t from rx);cases q;exact PySem.W.kia_one PySem.W.kitx_int I.kIn True.intro e (fun z=>nomatch z) h
 | str y=>obtain ⟨t,q⟩:=(show ∃ t,u=Value.str y t from rx);cases q;exact PySem.W.kia_one PySem.W.kitx_str I.kIn True.intro e (fun z=>nomatch z) h
 | flt y=>obtain ⟨t,q⟩:=(show ∃ t,u=Value.float y t from rx);cases q;exact PySem.W.kia_one PySem.W.kitx_float I.kIn True.intro e (fun z=>nomatch z) h
 | @lst a xs ea=>
   cases (show u=Value.ref a from rx)
   obtain ⟨_,_,n,_,h1⟩:=(show ObjOk X.prog X.w H s.heap a (.lst xs) from I.hok a _ ea)
   exact PySem.W.kia_one PySem.W.kitx_list I.kIn ⟨_,h1,rfl⟩ e (fun z=>nomatch z) h
 | @frz a ob xs ea=>
   cases (show u=Value.ref a from rx)
   obtain ⟨_,_,_,n,_,h1⟩:=(show ObjOk X.prog X.w H s.heap a (.frz ob (.lst xs)) from I.hok a _ ea)
   exact PySem.W.kia_one PySem.W.kitx_list I.kIn ⟨_,h1,rfl⟩ e (fun z=>nomatch z) h
 | @tup a xs ea=>
   cases (show u=Value.ref a from rx)
   obtain ⟨_,_,_,p⟩:=(show ObjOk X.prog X.w H s.heap a (.tup xs) from I.hok a _ ea)
   obtain ⟨o,h1,h2,_⟩:=p.tup
   exact PySem.W.kia_one PySem.W.kitx_tuple I.kIn ⟨o,h1,h2⟩ e (fun z=>nomatch z) h
 | @dK a kvs ea=>
   cases (show u=Value.ref a from rx)
   obtain ⟨_,_,vs,_,p⟩:=(show ObjOk X.prog X.w H s.heap a (.dK kvs) from I.hok a _ ea)
   obtain ⟨o,es,ep,h1,h2,_⟩:=p
   exact PySem.W.kia_one PySem.W.kitx_dict I.kIn ⟨o,h1,h2.1⟩ e (fun z=>nomatch z) h
 | @dT a kvs ea=>
   cases (show u=Value.ref a from rx)
   obtain ⟨_,_,xs,_,o,es,ep,h1,h2,_⟩:=(show ObjOk X.prog X.w H s.heap a (.dT kvs) from I.hok a _ ea)
   exact PySem.W.kia_one PySem.W.kitx_dict I.kIn ⟨o,h1,h2.1⟩ e (fun z=>nomatch z) h
 | @ins a C dx fs ea cl ha hn htk hm=>
   cases (show u=Value.ref a from rx)
   obtain ⟨mA,O,_⟩:=ins_get I.hok ea
   obtain ⟨od,J,_⟩:=O.look
   exact PySem.W.kia_one (PySem.W.kitx_own (cl.get _) cl.hd ha hn htk hm) I.kIn J e (fun z=>nomatch z) h
end
structure Room (k:Nat) (A:Around):Prop where
 hd:A.handled=none
 dp:A.depth+3*k+5<recursionLimit
 un:A.units+16*k+200<cLine
 gd:A.guards=some []
theorem Room.mono {j k:Nat} {A:Around} (r:Room k A) (h:j≤k):Room j A:=⟨r.hd,by have:=r.dp;omega,by have:=r.un;omega,r.gd⟩
theorem Room.deeper {k:Nat} {A:Around} (r:Room (k+1) A) (env:Env):Room k (A.deeper env):=
 ⟨r.hd,by have:=r.dp;show A.depth+1+3*k+5<_;omega,by have:=r.un;show A.units+3+16*k+200<_;omega,r.gd⟩
theorem Room.depth {k:Nat} {A:Around} (r:Room k A):A.depth<recursionLimit:=by have:=r.dp;omega
theorem Room.units {k:Nat} {A:Around} (r:Room k A):A.units+64<cLine:=by have:=r.un;omega
def tNil:TA:=fun _ H Q=>Q [] H
def tCons (ta:TE) (tr:TA):TA:=fun σ H Q=>ta σ H fun x H1=>tr σ H1 fun xs H2=>Q (x::xs) H2
section
variable {X:Cx} {e:Expr} {es:List Expr} {te:TE} {t:TA} {pos:Pos}
theorem pa_nil:PA X [] tNil:=fun _ _ _ _ H Q I h=>Calls.spliced_nil ⟨[],H,I,.nil,h⟩
theorem za_nil:ZA X [] tNil:=by with_unfolding_all exact pa_nil
theorem pa_cons (ha:PE X e te) (hr:PA X es t) (hs:starEach (e::es) X.env=(false,eval e X.env)::starEach es X.env:=by rfl):PA X (e::es) (tCons te t):=by
 intro pos pins s σ H Q I h
 rw [hs]
 show wpAny _ _ (spliced ((false,eval e X.env)::backTo pos (starEach es X.env))) _ _ s
 refine Calls.spliced_cons (thn (ha pins s σ H _ I h) fun u s1 ⟨x,H1,I1,r1,q1⟩=>?_)
 exact thn (hr pos pins s1 σ H1 _ I1 q1) fun us s2 ⟨xs,H2,I2,r2,q2⟩=>⟨x::xs,H2,I2,.cons r1 r2,q2⟩
theorem za_cons (ha:ZE X e te) (hr:ZA X es t) (hs:starEach (e::es) X.env=(false,eval e X.env)::starEach es X.env:=by rfl):ZA X (e::es) (tCons te t):=by with_unfolding_all exact pa_cons ha hr hs
def tTup (t:TA):TE:=fun σ H Q=>t σ H fun xs H1=>xs.length≤sizeLine∧∀ p,H1 p=none→Q (.ref p) (upd H1 p (.tup xs))
def tLst (t:TA):TE:=fun σ H Q=>t σ H fun xs H1=>xs.length≤sizeLine∧∀ p,H1 p=none→Q (.ref p) (upd H1 p (.lst xs))
theorem pe_tup {x1} (h:PA X es t):PE X (.Tuple es x1 pos) (tTup t):=by
 intro pins s σ H Q I hq
 refine wpAny_Tuple_spliced (thn (h pos pins s σ H _ I hq) fun us s1 ⟨xs,H1,I1,r,z,q⟩=>⟨by rw [← r.length];exact z,?_⟩)
 have hf:H1 s1.heap.objs.size=none:=I1.hok.fresh (Nat.le_refl _)
 refine ⟨.ref s1.heap.objs.size,upd H1 s1.heap.objs.size (.tup xs),I1.laid (t':=s1.toks) (fun b u e=>Heap.get?_push_of_some _ e) (Nat.le_refl _) ?_,rfl,q _ hf⟩
 exact ⟨z,us,r,⟨_,Heap.get?_push_size _ rfl⟩⟩
theorem ze_tup {x1} (h:ZA X es t):ZE X (.Tuple es x1 pos) (tTup t):=by with_unfolding_all exact pe_tup h
theorem pe_lst (h:PA X es t):PE X (.List es pos) (tLst t):=by
 intro pins s σ H Q I hq
 refine wpAny_List_spliced (thn (h pos pins s σ H _ I hq) fun us s1 ⟨xs,H1,I1,r,z,q⟩=>⟨by rw [← r.length];exact z,?_⟩)
 have hf:H1 s1.heap.objs.size=none:=I1.hok.fresh (Nat.le_refl _)
 refine ⟨.ref s1.heap.objs.size,upd H1 s1.heap.objs.size (.lst xs),I1.laid (t':=s1.toks) (fun b u e=>Heap.get?_push_of_some _ e) (Nat.le_refl _) ?_,rfl,q _ hf⟩
 exact ⟨z,us,0,r,Heap.get?_push_size _ rfl⟩
theorem ze_lst (h:ZA X es t):ZE X (.List es pos) (tLst t):=by with_unfolding_all exact pe_lst h
end
abbrev Sp:=List V→Hp→VK→XK→Prop
abbrev CXT:=List Env→Hp→Shared→XK→Value→Shared→Prop
structure Env0 (P:Program) (w:World) (K:PySem.W.Frag) (mg:Str→Option Value) (base:Heap) (A:Around) (outer:List Env) (s:Shared) (H:Hp):Prop where
 frames:A.frames=some outer
 mod:Mod K mg base
 bs:∀ b o,base.get? b=some o→s.heap.get? b=some o∧H b=none
 bsz:base.objs.size≤s.heap.objs.size
 funs:s.heap.FunFrames base outer
 frf:∀ b∈frs outer,H b=none
 hok:HOk P w H s.heap
 bare:AllBare s.gens
def CE (outer:List Env) (P:Program) (w:World) (H:Hp) (s:Shared) (Q:VK) (u:Value) (s':Shared):Prop:=
 ∃ v H',s'.os=s.os∧AllBare s'.gens∧Un (frs outer) [] H H' s.heap s'.heap∧HOk P w H' s'.heap∧RelV v u∧Q v H'
def CR (CX:CXT) (outer:List Env) (P:Program) (w:World) (H:Hp) (s:Shared) (Q:VK) (E:XK) (r:Result) (s':Shared):Prop:=
 match r with
 | .ok (.ret u)=>CE outer P w H s Q u s'
 | .ok _=>False
 | .error e=>CX outer H s E e s'
structure FnOk (P:Program) (w:World) (K:PySem.W.Frag) (mg:Str→Option Value) (base:Heap) (CX:CXT) (k:Nat) (f:Addr) (fd:FuncData) (ps:List Str) (sp:Sp):Prop where
 len:∀ vs H Q E,sp vs H Q E→vs.length=ps.length
 run:∀ (A:Around) (outer:List Env) (s:Shared) (H:Hp) (args:Args) (us:List Value) (vs:List V) (Q:VK) (E:XK),Room k A→Env0 P w K mg base A outer s H→BindsTo s fd args (ps.zip us)→Vals vs us→sp vs H Q E →
  codeAny (model P w) A (.call (.ref f) args) (CR CX outer P w H s Q E) s
theorem FnOk.mono {P:Program} {w:World} {K:PySem.W.Frag} {mg:Str→Option Value} {base:Heap} {CX:CXT} {j k:Nat} {f:Addr} {fd:FuncData} {ps:List Str} {sp:Sp} (F:FnOk P w K mg base CX j f fd ps sp) (h:j≤k) :
 FnOk P w K mg base CX k f fd ps sp:=⟨F.len,fun A outer s H args us vs Q E hr=>F.run A outer s H args us vs Q E (hr.mono h)⟩
section
variable {X:Cx} {pins:List (Addr×Obj)} {σ:St} {H:Hp} {s s':Shared}
theorem Inv.env0 (I:Inv X pins σ H s):Env0 X.prog X.w X.K X.mg X.base X.A X.stack s H:=
 ⟨I.ok.frames,I.ok.mod,I.bs,Nat.le_trans I.ok.bsz I.sz,I.stack,I.stkFree,I.hok,I.bare⟩
theorem Inv.after {Q:VK} {u:Value} (I:Inv X pins σ H s) (h:CE X.stack X.prog X.w H s Q u s'):EP X pins σ Q u s':=by
 obtain ⟨v,H',os,bare,un,hok,r,q⟩:=h
 obtain ⟨hh,g,d,t,os'⟩:=s'
 obtain rfl:os'=s.os:=os
 exact ⟨v,H',I.call (h':=hh) (g':=g) (d':=d) (t':=t) (ch:=[]) un hok bare (fun b z=>absurd z (by simp)),r,q⟩
end
def tCall (sp:Sp) (dvs:List V) (E:XK) (t:TA):TE:=fun σ H Q=>t σ H fun vs H1=>sp (vs++dvs) H1 Q E
def Binds (K:PySem.W.Frag) (fd:FuncData) (ps:List Str) (ds:List Value):Prop:=
 ∀ (s:Shared) (us:List Value),K.In s.heap→(us++ds).length=ps.length→BindsTo s fd ⟨us,[]⟩ (ps.zip (us++ds))
theorem Binds.all {K:PySem.W.Frag} {fd:FuncData} {ps:List Str} (h:∀ us:List Value,us.length=ps.length→bindArgs fd ⟨us,[]⟩=pure (ps.zip us)):Binds K fd ps []:=fun s us _ hl=>by
 rw [List.append_nil] at hl ⊢
 exact .of_eq (h us hl)
def Passes (CX:CXT) (X:Cx) (E:XK):Prop:=∀ (pins:List (Addr×Obj)) (σ:St) (H:Hp) (s:Shared) (e:Value) (s':Shared),Inv X pins σ H s→CX X.stack H s E e s'→X.xe e s'
section
variable {X:Cx} {CX:CXT} {k:Nat} {f C:Addr} {fd:FuncData} {ps:List Str} {sp:Sp} {dvs:List V} {ds:List Value} {E:XK} {x m:Str} {p pos apos:Pos} {e o:Expr} {es:List Expr} {ta:TE} {t:TA}
theorem run_fn {pins:List (Addr×Obj)} {σ:St} {H:Hp} {s:Shared} {Q:VK} {us:List Value} {vs:List V} (F:FnOk X.prog X.w X.K X.mg X.base CX k f fd ps sp) (hr:Room k X.A) (hb:Binds X.K fd ps ds) (hd:Vals dvs ds) (hx:Passes CX X E)
 (I:Inv X pins σ H s) (r:Vals vs us) (h:sp (vs++dvs) H Q E):wpAny (model X.prog X.w) X.A (call (.ref f) us) (EP X pins σ Q) X.xe s:=by
 have r2:Vals (vs++dvs) (us++ds):=r.append hd
 have hl:(us++ds).length=ps.length:=by rw [← r2.length];exact F.len _ _ _ _ h
 refine wpAny_call (codeAny_mono (F.run X.A X.stack s H ⟨us,[]⟩ (us++ds) (vs++dvs) Q E hr I.env0 (hb s us I.kIn hl) r2 h) fun r s' hq=>?_)
 cases r with
 | error e=>exact hx pins σ H s e s' I hq
 | ok fl=>
   cases fl with
   | ret u=>exact I.after hq
   | next=>exact False.elim hq
   | brk=>exact False.elim hq
   | cont=>exact False.elim hq
theorem pe_call (F:FnOk X.prog X.w X.K X.mg X.base CX k f fd ps sp) (hr:Room k X.A) (hg:Gl X x) (hm:X.mg x=some (.ref f)) (hk:PySem.W.keepIn X.K (.ref f)=true) (hb:Binds X.K fd ps ds) (hd:Vals dvs ds) (hx:Passes CX X E)
 (ha:PA X (e::es) t) (hdb:(x == ("__debug__" : Str))=false:=by decide) (he:starEach (e::es) X.env=(false,eval e X.env)::starEach es X.env:=by rfl) (hpl:(backTo pos (starEach es X.env)).any (·.1)=false:=by rfl) :
 PE X (.Call (.Name x p) (e::es) [] pos) (tCall sp dvs E t):=by
 intro pins s σ H Q I h
 refine wpAny_Call_Name_kw (ld_glob I hg hm ?_ hdb)
 refine PySem.W.callWith_K (h₀:=X.base) I.ok.mod.kin hk (thn (ha pos pins s σ H _ I h) fun us s1 ⟨vs,H1,I1,r,q⟩=>⟨I1.kIn,?_⟩) he hpl
 exact run_fn F hr hb hd hx I1 r q
theorem pe_call0 (F:FnOk X.prog X.w X.K X.mg X.base CX k f fd ps sp) (hr:Room k X.A) (hg:Gl X x) (hm:X.mg x=some (.ref f)) (hk:PySem.W.keepIn X.K (.ref f)=true) (hb:Binds X.K fd ps ds) (hd:Vals dvs ds) (hx:Passes CX X E)
 (hdb:(x == ("__debug__" : Str))=false:=by decide):PE X (.Call (.Name x p) [] [] pos) (tCall sp dvs E tNil):=by
 intro pins s σ H Q I h
 refine wpAny_Call_Name_kw (ld_glob I hg hm ?_ hdb)
 exact PySem.W.callWith_K0 I.kIn hk (run_fn (us:=[]) F hr hb hd hx I .nil h)
end
structure FnScope (N P:List Str) (sc:Scope):Prop where
 kind:sc.kind=.function
 co:sc.isCoroutine=false
 gen:sc.isGenerator=false
 nd:N.Nodup
 pre:N.take P.length=P
 par:∀ x∈P,sc.names.lookup x=some .local∨sc.names.lookup x=some .cell
 nofree:∀ y∈sc.names,y.2≠.free
theorem bindL_out {kindOf:Str→Option NameKind} {x:Str}:∀ {binds:List (Str×Value)} {m:Str→Option Value},(∀ v,(x,v)∉binds)→bindL kindOf binds m x=m x
 | [],_,_=>rfl
 | (n,v)::r,m,h=>by
   unfold bindL
   rw [bindL_out fun w hw=>h w (List.mem_cons_of_mem _ hw)]
   split
   · have:x≠n:=by rintro rfl;exact h v List.mem_cons_self
     simp [this]
   · rfl
theorem bindC_out {kindOf:Str→Option NameKind} {x:Str}:∀ {binds:List (Str×Value)} {m:Str→Option Value},(∀ v,(x,v)∉binds)→bindC kindOf binds m x=m x
 | [],_,_=>rfl
 | (n,v)::r,m,h=>by
   unfold bindC
   rw [bindC_out fun w hw=>h w (List.mem_cons_of_mem _ hw)]
   split
   · rfl
   · have:x≠n:=by rintro rfl;exact h v List.mem_cons_self
     simp [this]
theorem bindL_get {kindOf:Str→Option NameKind} {x:Str} {v:Value}:∀ {P:List Str} {vs:List Value} {i:Nat} {m:Str→Option Value},P.Nodup→P[i]? = some x→vs[i]? = some v→kindOf x=some .local →
 bindL kindOf (P.zip vs) m x=some v
 | [],_,_,_,_,h,_,_=>by simp at h
 | _::_,[],_,_,_,_,h,_=>by simp at h
 | p::P,w::vs,0,m,nd,h1,h2,hk=>by
   simp at h1 h2;subst h1;subst h2
   show bindL kindOf ((p,w)::P.zip vs) m p=_
   unfold bindL
   rw [bindL_out fun v hv=>(List.nodup_cons.mp nd).1 (List.of_mem_zip hv).1,if_pos hk]
   simp
 | p::P,w::vs,i+1,m,nd,h1,h2,hk=>by
   show bindL kindOf ((p,w)::P.zip vs) m x=_
   unfold bindL
   exact bindL_get (i:=i) (List.nodup_cons.mp nd).2 (by simpa using h1) (by simpa using h2) hk
theorem bindC_get {kindOf:Str→Option NameKind} {x:Str} {v:Value}:∀ {P:List Str} {vs:List Value} {i:Nat} {m:Str→Option Value},P.Nodup→P[i]? = some x→vs[i]? = some v→kindOf x≠some .local →
 bindC kindOf (P.zip vs) m x=some v
 | [],_,_,_,_,h,_,_=>by simp at h
 | _::_,[],_,_,_,_,h,_=>by simp at h
 | p::P,w::vs,0,m,nd,h1,h2,hk=>by
   simp at h1 h2;subst h1;subst h2
   show bindC kindOf ((p,w)::P.zip vs) m p=_
   unfold bindC
   rw [bindC_out fun v hv=>(List.nodup_cons.mp nd).1 (List.of_mem_zip hv).1,if_neg hk]
   simp
 | p::P,w::vs,i+1,m,nd,h1,h2,hk=>by
   show bindC kindOf ((p,w)::P.zip vs) m x=_
   unfold bindC
   exact bindC_get (i:=i) (List.nodup_cons.mp nd).2 (by simpa using h1) (by simpa using h2) hk
def start (N:List Str) (vs:List V):St:=vs.map some++List.replicate (N.length - vs.length) none
def cxOf (CX:CXT) (P:Program) (w:World) (K:PySem.W.Frag) (mg:Str→Option Value) (base:Heap) (N:List Str) (qual:Str) (scope:Scope) (f:Addr) (cd:Value) (A:Around) (outer:List Env) (s:Shared) (H:Hp) (E:XK):Cx where
 prog:=P
 w:=w
 K:=K
 mg:=mg
 base:=base
 A:=A.deeper (envOfC qual scope s.heap.objs.size f cd)
 N:=N
 s₀:=s
 H₀:=H
 env:=envOfC qual scope s.heap.objs.size f cd
 outer:=outer
 stack:=envOfC qual scope s.heap.objs.size f cd::outer
 ex:=[]
 calm:=true
 fn:=fun _=>true
 pn:=[]
 xe:=fun e s'=>wpAny (model P w) (A.deeper (envOfC qual scope s.heap.objs.size f cd)) (leaving (envOfC qual scope s.heap.objs.size f cd) e) (fun _ s''=>CX outer H s E e s'') (fun e' s''=>CX outer H s E e' s'') s'
theorem cell_has {sc:Scope} {n:Nat} {x:Str} (h:sc.names.lookup x=some .cell):∃ c,(cellsFrom n sc.names []).lookup x=some c:=by
 have q:=PySem.W.cellsFrom_some sc.names n [] (.inl h)
 exact Option.isSome_iff_exists.mp q
theorem inv_start {CX:CXT} {P:Program} {w:World} {K:PySem.W.Frag} {mg:Str→Option Value} {base:Heap} {N ps:List Str} {qual:Str} {scope:Scope} {f:Addr} {cd:Value} {A:Around} {outer:List Env} {s s1:Shared} {H:Hp} {E:XK} {us:List Value} {vs:List V}
 (S:FnScope N ps scope) (hd:A.handled=none) (e0:Env0 P w K mg base A outer s H) (hl:vs.length=ps.length) (r:Vals vs us)
 (x:InCallC s s.heap.objs.size (bindL (envOfC qual scope s.heap.objs.size f cd).kindOf (ps.zip us) fun _=>none) (cellsFrom (s.heap.objs.size+1) scope.names []) (bindC (envOfC qual scope s.heap.objs.size f cd).kindOf (ps.zip us) fun _=>none) s1) :
 Inv (cxOf CX P w K mg base N qual scope f cd A outer s H E) [] (start N vs) H s1:=by
 have hpl:ps.length≤N.length:=by have:=congrArg List.length S.pre;rw [List.length_take] at this;omega
 obtain ⟨h1,tk,rfl,hk⟩:=x.done
 have noA:∀ b:Addr,b∉(cxOf CX P w K mg base N qual scope f cd A outer s H E).ex:=fun b z=>absurd (show b∈([]:List Addr) from z) (by simp)
 refine ⟨⟨e0.mod,S.kind,rfl,rfl,Nat.le_refl _,fun y z c h1 h2=>?_,fun y hy=>?_,fun y c _ h=>?_,fun _=>hd,Around.frames_deeper e0.frames,.inr ⟨rfl,rfl⟩,fun b z=>absurd z (noA b),e0.bs,e0.bsz,fun b _ _=>noA b,fun b z=>absurd z (noA b),e0.funs,e0.frf⟩,
  rfl,e0.bare,Un.kept hk,⟨_,x.toInCall.ns,fun i y v h1 h2 h3=>?_⟩,fun y c h=>⟨_,x.cell y c h⟩,e0.hok.fresh (Nat.le_refl _),fun y c h=>?_,fun p hp=>absurd (show p∈([]:List (Addr×Obj)) from hp) (by simp),e0.hok.kept hk,?_⟩
 · exact name_of_addr x.apart (PySem.mem_of_lookup h1) (PySem.mem_of_lookup h2)
 · have hy:scope.names.lookup y=some .cell∨scope.names.lookup y=some .free:=hy
   rcases hy with hy | hy
   · exact cell_has hy
   · exact absurd rfl (S.nofree _ (PySem.mem_of_lookup hy))
 · exact Nat.le_of_lt (x.above y c (PySem.mem_of_lookup h))
 · have hi:i<vs.length:=by
    unfold start at h2
    by_cases hi:i<vs.length
    · exact hi
    · rw [List.getElem?_append_right (by simpa using hi)] at h2
      rw [List.getElem?_replicate] at h2
      split at h2 <;> cases h2
   have ha:vs[i]? = some v:=by
    unfold start at h2
    rw [List.getElem?_append_left (by simpa using hi),List.getElem?_map] at h2
    cases e:vs[i]? with
    | none=>rw [e] at h2;cases h2
    | some a=>rw [e] at h2;cases h2;rfl
   obtain ⟨u,hu,rv⟩:=r.get ha
   have hp:ps[i]? = some y:=by
    rw [← S.pre,List.getElem?_take_of_lt (by omega)];exact h1
   have ndP:ps.Nodup:=by rw [← S.pre];exact S.nd.sublist (List.take_sublist _ _)
   refine ⟨u,rv,?_⟩
   rcases S.par y (List.mem_of_getElem? hp) with k | k
   · exact .inl ⟨k,bindL_get ndP hp hu k⟩
   · obtain ⟨c,e⟩:=cell_has (n:=s.heap.objs.size+1) k
     refine .inr ⟨.inl k,c,e,?_⟩
     have q:=x.cell y c e
     rw [bindC_get ndP hp hu (by show scope.names.lookup y≠_;rw [k];decide)] at q
     exact q
 · exact e0.hok.fresh (Nat.le_of_lt (x.above y c (PySem.mem_of_lookup h)))
 · unfold start
   show _=N.length
   rw [List.length_append,List.length_map,List.length_replicate]
   omega
theorem fn_of {CX:CXT} {P:Program} {w:World} {K:PySem.W.Frag} {mg:Str→Option Value} {base:Heap} {k:Nat} {f:Addr} {name qual:Str} {params:Arguments} {body:List Stmt} {scope:Scope} {dV kV doc pm cdv ct oc:Value} {an od:Option Addr}
 {osl:Array (Option Value)} {N ps:List Str} {sp:Sp} (lk:K.lookup f=some ⟨oc,od,.func (PySem.W.fnOf name qual params body scope dV kV doc pm an cdv ct),osl⟩) (hcd:PySem.W.codeIn K cdv qual=true) (S:FnScope N ps scope)
 (len:∀ vs H Q E,sp vs H Q E→vs.length=ps.length)
 (hbody:∀ (A:Around) (outer:List Env) (s:Shared) (H:Hp) (vs:List V) (Q:VK) (E:XK),Room k (A.deeper (envOfC qual scope s.heap.objs.size f cdv))→sp vs H Q E →
   ∃ t,PSs (cxOf CX P w K mg base N qual scope f cdv A outer s H E) body t∧t { nx:=fun _ H'=>Q .non H',rt:=Q } (start N vs) H) :
 FnOk P w K mg base CX (k+1) f (PySem.W.fnOf name qual params body scope dV kV doc pm an cdv ct) ps sp:=by
 refine ⟨len,fun A outer s H args us vs Q E hr e0 hb r hsp=>?_⟩
 have hl:=len _ _ _ _ hsp
 have KX:K.In s.heap:=e0.mod.kin.keeps fun b o e=>(e0.bs b o e).1
 have lim:s.heap.NoLimit:=e0.mod.nolimit.keeps fun b o e=>(e0.bs b o e).1
 have hkind:∀ y∈ps.zip us,scope.names.lookup y.1=some .local∨(scope.names.lookup y.1=some .cell∧((cellsFrom (s.heap.objs.size+1) scope.names []).lookup y.1).isSome=true):=fun ⟨n,v⟩ hy=>by
  rcases S.par n (List.of_mem_zip hy).1 with q | q
  · exact .inl q
  · exact .inr ⟨q,PySem.W.cellsFrom_some _ _ _ (.inl q)⟩
 refine codeAny_call_function hr.depth (KX _ _ lk) rfl S.co S.gen rfl (PySem.W.codeRec_of KX hcd) (hb _ _ _ _ ?_)
 refine wpAny_newFunctionEnv_cells S.kind hkind fun env he s1 x=>?_
 subst he
 refine ⟨lim.keeps x.toInCall.keep,codeAny_func ?_⟩
 obtain ⟨t,ht,hq⟩:=hbody A outer s H vs Q E (hr.deeper _) hsp
 have I:Inv (cxOf CX P w K mg base N qual scope f cdv A outer s H E) [] (start N vs) H s1:=inv_start S hr.hd e0 hl r x
 refine wpAny_mono (ht [] s1 (start N vs) H _ I hq) (fun fl s' hs=>?_) fun e s' hs=>hs
 have fin:∀ {σ':St} {H':Hp} {v:V} {u:Value},Inv (cxOf CX P w K mg base N qual scope f cdv A outer s H E) [] σ' H' s'→RelV v u→Q v H'→CE outer P w H s Q u s':=
  fun {σ' H' v u} J rv q=>⟨v,H',J.os,J.bare,J.base,J.hok,rv,q⟩
 cases fl with
 | ret u=>
   obtain ⟨v,σ',H',J,rv,q⟩:=hs
   exact fin J rv q
 | next=>
   obtain ⟨σ',H',J,q⟩:=hs
   exact fin (v:=V.non) (u:=Value.none) J rfl q
 | brk=>
   obtain ⟨_,_,_,q⟩:=hs
   exact False.elim q
 | cont=>
   obtain ⟨_,_,_,q⟩:=hs
   exact False.elim q
section
variable {X:Cx} {x:Str} {p pos:Pos} {e:Expr} {es:List Expr} {t:TA} {id T:String} {r:List V→Hp→VK→Prop}
def tCB (r:List V→Hp→VK→Prop) (t:TA):TE:=fun σ H Q=>t σ H fun vs H1=>r vs H1 Q
theorem pe_callB (hc:CallR X (.builtin id) r) (hg:Gl X x) (hm:X.mg x=none) (hv:bootBuiltins x=some (.builtin id)) (ha:PA X (e::es) t) (hn:x≠"__name__":=by decide) (hdb:(x == ("__debug__" : Str))=false:=by decide)
 (he:starEach (e::es) X.env=(false,eval e X.env)::starEach es X.env:=by rfl) (hpl:(backTo pos (starEach es X.env)).any (·.1)=false:=by rfl):PE X (.Call (.Name x p) (e::es) [] pos) (tCB r t):=by
 intro pins s σ H Q I h
 refine wpAny_Call_Name_kw (ld_blt I hg hm hv ?_ hn hdb)
 exact PyProof.Rows.callWith_builtin1 (thn (ha pos pins s σ H _ I h) fun us s1 ⟨vs,H1,I1,r1,q1⟩=>hc pins s1 σ H1 vs us Q I1 r1 q1) he hpl
theorem pe_callTy (hc:CallR X (.type T) r) (hg:Gl X x) (hm:X.mg x=none) (hv:bootBuiltins x=some (.type T)) (ha:PA X (e::es) t) (hn:x≠"__name__":=by decide) (hdb:(x == ("__debug__" : Str))=false:=by decide)
 (he:starEach (e::es) X.env=(false,eval e X.env)::starEach es X.env:=by rfl) (hpl:(backTo pos (starEach es X.env)).any (·.1)=false:=by rfl):PE X (.Call (.Name x p) (e::es) [] pos) (tCB r t):=by
 intro pins s σ H Q I h
 refine wpAny_Call_Name_kw (ld_blt I hg hm hv ?_ hn hdb)
 exact PyProof.Rows.callWith_type1 (thn (ha pos pins s σ H _ I h) fun us s1 ⟨vs,H1,I1,r1,q1⟩=>hc pins s1 σ H1 vs us Q I1 r1 q1) he hpl
end
end L2
namespace HT
open PySem PyProof.Rows
section
variable {prog:Program} {w:World} {A:Around} {E:Value→Shared→Prop} {s:Shared}
theorem cat_tup {t b:Addr} {vs ws:List Value} {Q:Value→Shared→Prop} (ht:IsTup s.heap t vs.toArray) (hb:IsTup s.heap b ws.toArray) (hv:vs≠[])
 (h1:ws=[]→Q (.ref t) s) (h2:ws≠[]→Q (.ref s.heap.objs.size) { s with heap:=s.heap.push { cls:=.type "tuple",data:=.seq (vs++ws).toArray } })
 (hsz:vs.length+ws.length≤sizeLine):wpAny (model prog w) A (binaryOp .Add (.ref t) (.ref b)) Q E s:=by
 obtain ⟨⟨cls,dd,data,sl⟩,ho,hc,n,hd⟩:=id ht
 obtain ⟨⟨cls2,dd2,data2,sl2⟩,ho2,hc2,n2,hd2⟩:=id hb
 simp only at hc hd hc2 hd2
 subst hc hd hc2 hd2
 have e:vs.toArray++ws.toArray=(vs++ws).toArray:=by simp
 by_cases hw:ws=[]
 · exact concat_meets ⟨_,ho,rfl⟩ ⟨_,ho2,rfl⟩ noFill_tuple_add seq_tuple_add PySem.F.slot_tuple_add PySem.F.entry_tuple_add (PySem.F.args_tuple_add_2 _ _)
    (tuple_addW1 t b vs.toArray ws.toArray n n2 dd dd2 sl sl2 (by simpa using hv) (by simp [hw])) ⟨ho,ho2,h1 hw⟩
 · refine concat_meets ⟨_,ho,rfl⟩ ⟨_,ho2,rfl⟩ noFill_tuple_add seq_tuple_add PySem.F.slot_tuple_add PySem.F.entry_tuple_add (PySem.F.args_tuple_add_2 _ _)
    (tuple_addW2 t b vs.toArray ws.toArray n n2 dd dd2 sl sl2 (by simpa using hv) (by simpa using hw) (by rw [List.size_toArray,List.size_toArray];exact hsz)) ⟨ho,ho2,?_⟩
   rw [e]
   exact h2 hw
def sIx (n d:Nat):Option Int→Nat
 | none=>d
 | some v=>if v<0 then (v+(n:Int)).toNat else min v.toNat n
theorem sIx_none (n d:Nat):sIx n d none=d:=rfl
theorem sIx_le (n d:Nat) (hd:d≤n) (o:Option Int):sIx n d o≤n:=by
 cases o with
 | none=>exact hd
 | some v=>
   show (if v<0 then (v+(n:Int)).toNat else min v.toNat n)≤n
   by_cases hv:v<0
   · rw [if_pos hv];omega
   · rw [if_neg hv];exact Nat.min_le_right _ _
theorem clip_eq (v:Int) (n d:Nat):(if v<0 then max (v+(n:Int)) 0 else min v (n:Int))=((sIx n d (some v):Nat):Int):=by
 show (if v<0 then max (v+(n:Int)) 0 else min v (n:Int))=(((if v<0 then (v+(n:Int)).toNat else min v.toNat n):Nat):Int)
 by_cases hv:v<0
 · simp only [if_pos hv];omega
 · simp only [if_neg hv];omega
theorem adjust_gen (lo hi:Option Int) (n:Nat):Builtin.Slice.sliceAdjust lo hi 1 (n:Int)=(((sIx n 0 lo:Nat):Int),((sIx n n hi:Nat):Int)):=by
 have h1:¬ ((1:Int)<0):=by omega
 unfold Builtin.Slice.sliceAdjust
 simp only [h1,if_false]
 refine Prod.ext ?_ ?_
 · cases lo with
   | none=>rfl
   | some v=>exact clip_eq v n 0
 · cases hi with
   | none=>rfl
   | some v=>exact clip_eq v n n
theorem places_gen (i j:Nat):Builtin.Slice.slicePlaces (i:Int) (j:Int) 1=j - i:=by
 unfold Builtin.Slice.slicePlaces
 have h1:(1:Int) > 0:=by omega
 simp only [h1,if_true,Int.ediv_one]
 split <;> omega
theorem slicePart_ {v:Value} {o:Option Int} {Q:Option Int→Shared→Prop} (p:IsPart v o) (h:Q o s):wpAny (model prog w) A (Builtin.Slice.slicePartIndex v) Q E s:=by
 cases p with
 | none=>exact slicePart_none h
 | int i t=>exact slicePart_int h
theorem sliceApplied_gen {sl:Addr} {vl vu:Value} {lo hi:Option Int} {n:Nat} {Q:Int×Int×Nat→Shared→Prop} (hs:s.heap.IsSliceOf sl vl vu .none) (pl:IsPart vl lo) (pu:IsPart vu hi)
 (h:Q (((sIx n 0 lo:Nat):Int),1,sIx n n hi - sIx n 0 lo) s):wpAny (model prog w) A (Builtin.Slice.sliceApplied (.ref sl) (pure (n:Int))) Q E s:=by
 obtain ⟨os,hos,hcs,hds⟩:=id hs
 unfold Builtin.Slice.sliceApplied Builtin.Slice.sliceFields
 refine wpAny_bind (wpAny_bind (wpAny_field hos hds (x:=vl) rfl (wpAny_bind (wpAny_field hos hds (x:=vu) rfl (wpAny_bind (wpAny_field hos hds (x:=.none) rfl (wpAny_pure ?_)))))))
 refine wpAny_bind (slicePart_none ?_)
 show wpAny _ _ (if ((1:Int) == 0)=true then _ else _) _ _ s
 rw [if_neg (by decide)]
 refine wpAny_bind (slicePart_ pl (wpAny_bind (slicePart_ pu (wpAny_bind (wpAny_pure ?_)))))
 show wpAny _ _ (match Builtin.Slice.sliceAdjust lo hi 1 (n:Int) with | (lo,hi)=>pure (lo,(1:Int),Builtin.Slice.slicePlaces lo hi 1)) _ _ s
 rw [adjust_gen lo hi n]
 show wpAny _ _ (pure (((sIx n 0 lo:Nat):Int),(1:Int),Builtin.Slice.slicePlaces ((sIx n 0 lo:Nat):Int) ((sIx n n hi:Nat):Int) 1)) _ _ s
 rw [places_gen]
 exact wpAny_pure h
theorem pick_gen (xs:Array Value) (i k:Nat):((List.range k).filterMap fun (m:Nat)=>xs[((i:Int)+(m:Int)*1).toNat]?).toArray=((xs.toList.drop i).take k).toArray:=by
 have e:(fun (m:Nat)=>xs[((i:Int)+(m:Int)*1).toNat]?)=fun m=>xs[i+m]?:=by
  funext m
  have:((i:Int)+(m:Int)*1).toNat=i+m:=by omega
  rw [this]
 rw [e]
 have:=pick_run xs i k
 rw [List.filterMap_map] at this
 have e2:((fun x=>xs[x]?) ∘ fun x=>i+x)=fun m=>xs[i+m]?:=rfl
 rw [e2] at this
 rw [this]
theorem getItem_tuple_cut {t sl:Addr} {items:Array Value} {vl vu:Value} {lo hi:Option Int} {Q:Value→Shared→Prop} (ht:IsTup s.heap t items) (hs:s.heap.IsSliceOf sl vl vu .none) (pl:IsPart vl lo) (pu:IsPart vu hi)
 (hw:¬ (sIx items.size 0 lo=0∧sIx items.size items.size hi=items.size))
 (h:Q (.ref s.heap.objs.size) { s with heap:=s.heap.push { cls:=.type "tuple",data:=.seq ((items.toList.drop (sIx items.size 0 lo)).take (sIx items.size items.size hi - sIx items.size 0 lo)).toArray } })
 (hsz:items.size≤sizeLine):wpAny (model prog w) A (getItem (.ref t) (.ref sl)) Q E s:=by
 have htake:sizeOk (.seq ((items.toList.drop (sIx items.size 0 lo)).take (sIx items.size items.size hi - sIx items.size 0 lo)).toArray):=by
  show ((items.toList.drop (sIx items.size 0 lo)).take (sIx items.size items.size hi - sIx items.size 0 lo)).toArray.size≤sizeLine
  rw [List.size_toArray,List.length_take,List.length_drop,Array.length_toList]
  omega
 have hj:sIx items.size items.size hi≤items.size:=sIx_le _ _ (Nat.le_refl _) hi
 obtain ⟨os,hos,hcs,hds⟩:=id hs
 have hTs:s.TypeIs (.ref sl) "slice":=⟨os,hos,hcs⟩
 unfold getItem
 try with_reducible refine wpAny_holding ?_
 first | refine wpAny_bind (wpAny_pure ?_) | skip
 refine wpAny_bind (wpAny_sequenceKey ht.typeIs (by decide) ?_)
 refine wpAny_bind (wpAny_callSpecial?_slot (name:=Str.ofString "__getitem__") ht.typeIs PyProof.Rows.slot_tuple_getitem
  (wpAny_call_entry PyProof.Rows.slot_tuple_getitem ht.typeIs entry_tuple_getitem ?_ (args_tuple_getitem _ _)))
 show wpAny _ _ (Builtin.Tuple.tupleItemsOf (.ref t) >>= _) _ _ s
 refine wpAny_bind (tupleItemsOf_ ht ?_)
 refine wpAny_bind (wpAny_typeOf hTs ?_)
 rw [if_pos (by decide)]
 refine wpAny_bind (sliceApplied_gen hs pl pu ?_)
 have hno:¬ ((((sIx items.size 0 lo:Nat):Int) == 0&&(1:Int) == 1&&(sIx items.size items.size hi - sIx items.size 0 lo) == items.size)=true):=by
  intro q
  rw [Bool.and_eq_true,Bool.and_eq_true] at q
  have q1:((sIx items.size 0 lo:Nat):Int)=0:=eq_of_beq q.1.1
  have q2:sIx items.size items.size hi - sIx items.size 0 lo=items.size:=eq_of_beq q.2
  exact hw ⟨by omega,by omega⟩
 show wpAny _ _ (if (((sIx items.size 0 lo:Nat):Int) == 0&&(1:Int) == 1&&(sIx items.size items.size hi - sIx items.size 0 lo) == items.size)=true then _ else _) _ _ s
 rw [if_neg hno,pick_gen]
 first
  | exact wpAny_bind (m:=Builtin.Tuple.tupleExact _) (wpAny_newObj_type (wpAny_pure ⟨_,rfl,wpAny_pure h⟩) htake)
  | exact wpAny_bind (m:=Builtin.Tuple.tupleExact _) (wpAny_newObj_type (wpAny_bind (wpAny_pure (wpAny_pure ⟨_,rfl,wpAny_pure h⟩))) htake)
  | exact wpAny_bind (wpAny_bind (m:=Builtin.Tuple.tupleExact _) (wpAny_newObj_type (wpAny_pure (wpAny_pure ⟨_,rfl,wpAny_pure h⟩)) htake))
  | exact wpAny_bind (wpAny_bind (m:=Builtin.Tuple.tupleExact _) (wpAny_newObj_type (wpAny_pure ⟨_,rfl,wpAny_pure h⟩) htake))
end
end HT
namespace L2
open PySem PySem.Spec PyProof.Rows
abbrev TO:=St→Hp→(Option Int→Hp→Prop)→Prop
def PO (X:Cx) (e:Option Expr) (t:TO):Prop:=
 ∀ (pins:List (Addr×Obj)) (s:Shared) (σ:St) (H:Hp) (Q:Option Int→Hp→Prop),Inv X pins σ H s→t σ H Q →
   wpAny (model X.prog X.w) X.A (evalPart e X.env) (fun u s'=>∃ o H',Inv X pins σ H' s'∧IsPart u o∧Q o H') X.xe s
@[irreducible] def ZO (X:Cx) (e:Option Expr) (t:TO):Prop:=PO X e t
def tNoPart:TO:=fun _ H Q=>Q none H
def tPart (t:TE):TO:=fun σ H Q=>t σ H fun x H1=>∃ i,x=.int i∧Q (some i) H1
theorem intsAre_of {ns:List Int}:∀ {us:List Value},Vals (ns.map V.int) us→IntsAre us ns:=by
 induction ns with
 | nil=>intro us r;rw [List.map_nil] at r;cases r;exact .nil
 | cons n ns ih=>
   intro us r
   rw [List.map_cons] at r
   cases r with
   | cons r1 r2=>
     obtain ⟨t,e⟩:=r1
     subst e
     exact .cons n t (ih r2)
section
variable {X:Cx} {e:Expr} {te:TE} {lo hi:Option Expr} {tl th:TO} {pos p2:Pos}
theorem po_none:PO X none tNoPart:=by
 intro pins s σ H Q I h
 rw [evalPart_none]
 exact wpAny_pure ⟨none,H,I,.none,h⟩
theorem zo_none:ZO X none tNoPart:=by with_unfolding_all exact po_none
theorem po_some (h:PE X e te):PO X (some e) (tPart te):=by
 intro pins s σ H Q I hw
 rw [evalPart_some]
 refine thn (h pins s σ H _ I hw) fun u s1 ⟨x,H1,I1,r1,q1⟩=>?_
 obtain ⟨i,rfl,q⟩:=q1
 obtain ⟨t,rfl⟩:=r1
 exact ⟨some i,H1,I1,.int i t,q⟩
theorem zo_some (h:ZE X e te):ZO X (some e) (tPart te):=by with_unfolding_all exact po_some h
def SlR (X:Cx) (r:V→Option Int→Option Int→Hp→VK→Prop):Prop:=
 ∀ (pins:List (Addr×Obj)) (s:Shared) (σ:St) (H:Hp) (x:V) (v vl vu:Value) (lo hi:Option Int) (sl:Addr) (Q:VK),Inv X pins σ H s→RelV x v→s.heap.IsSliceOf sl vl vu .none→IsPart vl lo→IsPart vu hi→r x lo hi H Q →
   ∃ T id,typeLookup (.type T) "__getitem__" = pure (some (.builtin id))∧s.TypeIs v T∧wpAny (model X.prog X.w) X.A (getItem v (.ref sl)) (EP X pins σ Q) X.xe s
def tSl (r:V→Option Int→Option Int→Hp→VK→Prop) (te:TE) (tl th:TO):TE:=fun σ H Q=>te σ H fun x H1=>tl σ H1 fun l H2=>th σ H2 fun u H3=>r x l u H3 Q
theorem pe_slice {r:V→Option Int→Option Int→Hp→VK→Prop} (hr:SlR X r) (he:PE X e te) (hl:PO X lo tl) (hu:PO X hi th):PE X (.Subscript e (.Slice lo hi none p2) pos) (tSl r te tl th):=by
 intro pins s σ H Q I h
 refine Subscript_ (thn (he pins s σ H _ I h) fun v s1 ⟨x,H1,I1,r1,q1⟩=>?_)
 refine wpAny_Slice (thn (hl pins s1 σ H1 _ I1 q1) fun vl s2 ⟨l,H2,I2,pl,q2⟩=>thn (hu pins s2 σ H2 _ I2 q2) fun vu s3 ⟨u,H3,I3,pu,q3⟩=>?_)
 rw [evalPart_none]
 refine wpAny_pure ?_
 have I4:Inv X pins σ H3 { s3 with heap:=s3.heap.push { cls:=.type "slice",data:=.fields #[vl,vu,.none] } }:=I3.kept (t':=s3.toks) fun b ob q=>Heap.get?_push_of_some _ q
 obtain ⟨T,id,hT,ht,hg⟩:=hr pins { s3 with heap:=s3.heap.push { cls:=.type "slice",data:=.fields #[vl,vu,.none] } } σ H3 x v vl vu l u s3.heap.objs.size Q I4 r1 (Heap.IsSliceOf.new ..) pl pu q3
 show wpAny (model X.prog X.w) X.A (subscriptTail e (.Slice lo hi none p2) v (.ref s3.heap.objs.size)) (EP X pins σ Q) X.xe { s3 with heap:=s3.heap.push { cls:=.type "slice",data:=.fields #[vl,vu,.none] } }
 exact tail_any (ops:=[.ref s3.heap.objs.size,v]) ht hT hg (by with_unfolding_all rfl)
theorem ze_slice {r:V→Option Int→Option Int→Hp→VK→Prop} (hr:SlR X r) (he:ZE X e te) (hl:ZO X lo tl) (hu:ZO X hi th):ZE X (.Subscript e (.Slice lo hi none p2) pos) (tSl r te tl th):=by with_unfolding_all exact pe_slice hr he hl hu
def cutV (xs:List V) (lo hi:Option Int):List V:=(xs.drop (HT.sIx xs.length 0 lo)).take (HT.sIx xs.length xs.length hi - HT.sIx xs.length 0 lo)
theorem cutV_length (xs:List V) (lo hi:Option Int):(cutV xs lo hi).length≤xs.length:=by
 unfold cutV
 rw [List.length_take,List.length_drop]
 omega
def rSlT (K:PySem.W.Frag):V→Option Int→Option Int→Hp→VK→Prop:=fun x lo hi H Q=>∃ a xs,x=.ref a∧SqT K H a xs ∧
 ¬ (HT.sIx xs.length 0 lo=0∧HT.sIx xs.length xs.length hi=xs.length)∧∀ p,H p=none→Q (.ref p) (upd H p (.tup (cutV xs lo hi)))
theorem sl_tup:SlR X (rSlT X.K):=by
 intro pins s σ H x v vl vu lo hi sl Q I rx hs pl pu h
 obtain ⟨a,xs,rfl,hx,hw,q⟩:=h
 cases rx
 obtain ⟨its,r,ht,hz⟩:=I.tuple hx
 have hlen:its.toArray.size=xs.length:=by rw [List.size_toArray];exact r.length.symm
 refine ⟨"tuple",_,PyProof.Rows.slot_tuple_getitem.lookup,ht.typeIs,?_⟩
 refine HT.getItem_tuple_cut ht hs pl pu (by rw [hlen];exact hw) ?_ (by rw [hlen];exact hz)
 rw [hlen]
 refine ⟨.ref s.heap.objs.size,_,I.laid (t':=s.toks) (o:=.tup (cutV xs lo hi)) (fun b ob q=>Heap.get?_push_of_some _ q) (Nat.le_refl _) ?_,rfl,q _ (I.hok.fresh (Nat.le_refl _))⟩
 exact ⟨Nat.le_trans (cutV_length xs lo hi) hz,_,(r.drop (HT.sIx xs.length 0 lo)).take (HT.sIx xs.length xs.length hi - HT.sIx xs.length 0 lo),TupD.new _ _⟩
def rCatT (K:PySem.W.Frag):R2:=fun x y H Q=>∃ a b xs ys,x=.ref a∧y=.ref b∧SqT K H a xs∧SqT K H b ys∧xs≠[]∧xs.length+ys.length≤sizeLine ∧
 (ys=[]→Q (.ref a) H)∧(ys≠[]→∀ p,H p=none→Q (.ref p) (upd H p (.tup (xs++ys))))
theorem Vals.nil_iff {xs:List V} {us:List Value} (r:Vals xs us):us=[]↔xs=[]:=by
 cases r with
 | nil=>simp
 | cons _ _=>simp
theorem op_catT:OpR X (binaryOp .Add) (rCatT X.K):=by
 intro pins s σ H x y v u Q I rx ry h
 obtain ⟨a,b,xs,ys,rfl,rfl,ha,hb,hx,hz,q1,q2⟩:=h
 cases rx
 cases ry
 obtain ⟨its,r1,p1,_⟩:=I.tuple ha
 obtain ⟨its2,r2,p2,_⟩:=I.tuple hb
 refine HT.cat_tup p1 p2 (fun z=>hx (r1.nil_iff.mp z)) (fun z=>⟨.ref a,H,I,rfl,q1 (r2.nil_iff.mp z)⟩) (fun z=>?_) (by rw [← r1.length,← r2.length];exact hz)
 refine ⟨.ref s.heap.objs.size,_,I.laid (t':=s.toks) (o:=.tup (xs++ys)) (fun b ob q=>Heap.get?_push_of_some _ q) (Nat.le_refl _) ?_,rfl,q2 (fun w=>z (r2.nil_iff.mpr w)) _ (I.hok.fresh (Nat.le_refl _))⟩
 exact ⟨by rw [List.length_append];exact hz,_,r1.append r2,TupD.new _ _⟩
end
def ixN (n:Nat) (i:Int):Option Nat:=if 0≤i then (if i<n then some i.toNat else none) else if -(n:Int)≤i then some (i+n).toNat else none
def atI {α:Type} (xs:List α) (i:Int):Option α:=(ixN xs.length i).bind fun j=>xs[j]?
theorem ixN_seq {n:Nat} {i:Int} {j:Nat} (h:ixN n i=some j):seqIndex? i n=some j∧j<n∧-(n:Int)≤i∧i<n:=by
 unfold ixN at h
 by_cases h0:0≤i
 · rw [if_pos h0] at h
   by_cases h1:i<n
   · rw [if_pos h1] at h
     have e:i.toNat=j:=Option.some.inj h
     exact ⟨by rw [seqIndex_of h0 h1,e],by omega,by omega,h1⟩
   · rw [if_neg h1] at h;cases h
 · rw [if_neg h0] at h
   by_cases h1:-(n:Int)≤i
   · rw [if_pos h1] at h
     have e:(i+n).toNat=j:=Option.some.inj h
     exact ⟨by rw [seqIndex_neg (by omega) h1,e],by omega,h1,by omega⟩
   · rw [if_neg h1] at h;cases h
theorem atI_get {α:Type} {xs:List α} {i:Int} {v:α} (h:atI xs i=some v):∃ j,seqIndex? i xs.length=some j∧xs[j]? = some v∧j<xs.length∧-(xs.length:Int)≤i∧i<xs.length:=by
 unfold atI at h
 cases e:ixN xs.length i with
 | none=>rw [e] at h;cases h
 | some j=>
   rw [e] at h
   obtain ⟨h1,h2,h3,h4⟩:=ixN_seq e
   exact ⟨j,h1,h,h2,h3,h4⟩
theorem atI_nat {α:Type} {xs:List α} {j:Nat} {v:α} (h:xs[j]? = some v):atI xs (j:Int)=some v:=by
 have hj:j<xs.length:=(List.getElem?_eq_some_iff.mp h).1
 have e:ixN xs.length (j:Int)=some j:=by
  unfold ixN
  rw [if_pos (by omega),if_pos (by omega)];simp
 unfold atI;rw [e];exact h
def PlainIx (b:Expr):Prop:=∀ o i,subscripted b false o i=operate [o,i] (getItem o i)
def IxR (X:Cx) (r:R2):Prop:=
 ∀ (value slice:Expr) (pins:List (Addr×Obj)) (s:Shared) (σ:St) (H:Hp) (x y:V) (v u:Value) (Q:VK),Inv X pins σ H s→RelV x v→RelV y u→r x y H Q →
   subscripted slice false v u=operate [v,u] (getItem v u)→wpAny (model X.prog X.w) X.A (subscriptTail value slice v u) (EP X pins σ Q) X.xe s
def MtR (X:Cx) (id:String) (r:V→List V→Hp→VK→Prop):Prop:=
 ∀ (pins:List (Addr×Obj)) (s:Shared) (σ:St) (H:Hp) (x:V) (xs:List V) (v:Value) (us:List Value) (Q:VK),Inv X pins σ H s→RelV x v→Vals xs us→r x xs H Q →
   wpAny (model X.prog X.w) X.A (call (.builtin id) (v::us)) (EP X pins σ Q) X.xe s
section
variable {X:Cx} {a b:Expr} {ta tb:TE} {pos:Pos}
theorem pe_ix {r:R2} (hr:IxR X r) (ha:PE X a ta) (hb:PE X b tb) (hs:PlainIx b):PE X (.Subscript a b pos) (tOp r ta tb):=by
 intro pins s σ H Q I h
 exact Subscript_ (binT ha hb I h fun v u s2 x y H2 I2 rx ry q=>hr a b pins s2 σ H2 x y v u Q I2 rx ry q (hs _ _))
theorem ze_ix {r:R2} (hr:IxR X r) (ha:ZE X a ta) (hb:ZE X b tb) (hs:PlainIx b):ZE X (.Subscript a b pos) (tOp r ta tb):=by with_unfolding_all exact pe_ix hr ha hb hs
def rIxL (K:PySem.W.Frag):R2:=fun x y H Q=>∃ p xs i v,x=.ref p∧y=.int i∧SqL K H p xs∧atI xs i=some v∧Q v H
def rIxT (K:PySem.W.Frag):R2:=fun x y H Q=>∃ p xs i v,x=.ref p∧y=.int i∧SqT K H p xs∧atI xs i=some v∧Q v H
theorem ix_list:IxR X (rIxL X.K):=by
 intro value slice pins s σ H x y v u Q I rx ry h hs
 obtain ⟨p,xs,i,z,rfl,rfl,hq,he,q⟩:=h
 cases rx
 obtain ⟨t,rfl⟩:=ry
 obtain ⟨its,r,pl,hz⟩:=I.list hq
 obtain ⟨j,h1,h2,h3,h4,h5⟩:=atI_get he
 obtain ⟨w,ew,rw'⟩:=r.get h2
 have hl:=r.length
 have hn:=line63
 have fin:EP X pins σ Q w s:=⟨z,H,I,rw',q⟩
 by_cases h0:0≤i
 · have hj:i.toNat=j:=by
    rw [seqIndex_of h0 h5] at h1
    exact Option.some.inj h1
   exact item_listR pl.isList h0 (by omega) (by rw [hj];simpa using ew) fin hs
 · have hj:(i+(its.toArray.size:Int)).toNat=j:=by
    rw [seqIndex_neg (by omega) h4] at h1
    rw [List.size_toArray,← hl]
    exact Option.some.inj h1
   exact subscriptTail_builtinR (x:=w) pl.isList.typeIs slot_list_getitem.lookup
    (wpAny_getItem_list_neg (Q:=fun r s'=>r=w∧EP X pins σ Q r s') pl.isList (by omega) (by rw [List.size_toArray] <;> omega) (by omega) (by rw [hj];simpa using ew) ⟨rfl,fin⟩) hs
theorem ix_tup:IxR X (rIxT X.K):=by
 intro value slice pins s σ H x y v u Q I rx ry h hs
 obtain ⟨p,xs,i,z,rfl,rfl,hq,he,q⟩:=h
 cases rx
 obtain ⟨t,rfl⟩:=ry
 obtain ⟨its,r,pl,hz⟩:=I.tuple hq
 obtain ⟨j,h1,h2,h3,h4,h5⟩:=atI_get he
 obtain ⟨w,ew,rw'⟩:=r.get h2
 have hl:=r.length
 have hn:=line63
 have fin:EP X pins σ Q w s:=⟨z,H,I,rw',q⟩
 exact subscriptTail_builtinR (x:=w) pl.typeIs slot_tuple_getitem.lookup
  (getItem_tuple (j:=j) (Q:=fun r s'=>r=w∧EP X pins σ Q r s') pl (by omega) (by omega) (by rw [List.size_toArray,← hl];exact h1) (by simpa using ew) ⟨rfl,fin⟩) hs
theorem mapSeq_set (its:List Value) (n j:Nat) (u:Value):Obj.mapSeq (·.setIfInBounds j u) { cls:=.type "list",data:=.seq its.toArray n }={ cls:=.type "list",data:=.seq (its.set j u).toArray n }:=by
 simp [Obj.mapSeq]
theorem Inv.lst {pins:List (Addr×Obj)} {σ:St} {H:Hp} {s:Shared} {p:Addr} {xs:List V} (I:Inv X pins σ H s) (h:H p=some (.lst xs)) :
 ∃ (its:List Value) (n:Nat),Vals xs its∧s.heap.get? p=some { cls:=.type "list",data:=.seq its.toArray n }∧xs.length≤sizeLine:=by
 obtain ⟨z,its,n,r,e⟩:=I.hok p _ h
 exact ⟨its,n,r,e,z⟩
theorem Inv.lstUpd {pins:List (Addr×Obj)} {σ:St} {H:Hp} {s:Shared} {p:Addr} {xs ys:List V} {its its':List Value} {n n':Nat} {f:Obj→Obj} (I:Inv X pins σ H s) (h:H p=some (.lst xs))
 (ho:s.heap.get? p=some { cls:=.type "list",data:=.seq its.toArray n }) (hf:f { cls:=.type "list",data:=.seq its.toArray n }={ cls:=.type "list",data:=.seq its'.toArray n' }) (r:Vals ys its') (hz:ys.length≤sizeLine) (t:Nat) :
 Inv X pins σ (upd H p (.lst ys)) { s with heap:=s.heap.update p f,toks:=t }:=by
 have e:(s.heap.update p f).get? p=some { cls:=.type "list",data:=.seq its'.toArray n' }:=by
  rw [Heap.get?_update_self f ho (by rw [hf] <;> rfl),hf]
 refine I.write (x:=p) (e:=p) (by rw [h];trivial) (.inl rfl) (fun b u hb q=>(Heap.get?_update_other _ _ (Ne.symm hb)).trans q) ⟨_,e⟩ ?_
 exact ⟨hz,its',n',r,e⟩
def rSetL:V→V→V→Hp→(Hp→Prop)→Prop:=fun o i v H Q=>∃ p xs k j,o=.ref p∧i=.int k∧H p=some (.lst xs)∧ixN xs.length k=some j∧Q (upd H p (.lst (xs.set j v)))
theorem set_list:PSet X rSetL:=by
 intro pins s σ H o i v ov iv u Q I ro ri rv h
 obtain ⟨p,xs,k,j,rfl,rfl,hp,hj,q⟩:=h
 cases ro
 obtain ⟨t,rfl⟩:=ri
 obtain ⟨its,n,r,ho,hz⟩:=I.lst hp
 obtain ⟨h1,h2,h3,h4⟩:=ixN_seq hj
 have hl:=r.length
 have hn:=line63
 have I':Inv X pins σ (upd H p (.lst (xs.set j v))) { s with heap:=s.heap.update p (Obj.mapSeq (·.setIfInBounds j u)) }:=
  I.lstUpd hp ho (mapSeq_set its n j u) (r.set rv j) (by rw [List.length_set];exact hz) s.toks
 by_cases h0:0≤k
 · have hk:k.toNat=j:=by
    rw [seqIndex_of h0 h4] at h1
    exact Option.some.inj h1
   exact PySem.W.ki_setAt ho h0 (by omega) (by rw [List.size_toArray,← hl];exact h4) (by rw [hk];exact ⟨_,I',q⟩)
 · have hk:(k+(its.toArray.size:Int)).toNat=j:=by
    rw [seqIndex_neg (by omega) h3] at h1
    rw [List.size_toArray,← hl]
    exact Option.some.inj h1
   exact PySem.W.ki_setBack ho (by omega) (by rw [List.size_toArray,← hl];exact h3) (by omega) (by rw [hk];exact ⟨_,I',q⟩)
theorem slice_bounds (lo hi:Option Int) (n:Nat):(sliceBounds lo hi none n).1=((HT.sIx n 0 lo:Nat):Int)∧(sliceBounds lo hi none n).2.1=((HT.sIx n n hi:Nat):Int)∧(sliceBounds lo hi none n).2.2=1:=by
 refine ⟨?_,?_,rfl⟩
 · cases lo with
   | none=>simp [sliceBounds,HT.sIx]
   | some i=>
     simp only [sliceBounds,HT.sIx,Option.getD_none,show (1:Int) > 0 by decide,if_true]
     by_cases h:i<0
     · simp only [h,if_true] <;> omega
     · simp only [h,if_false] <;> omega
 · cases hi with
   | none=>simp [sliceBounds,HT.sIx]
   | some i=>
     simp only [sliceBounds,HT.sIx,Option.getD_none,show (1:Int) > 0 by decide,if_true]
     by_cases h:i<0
     · simp only [h,if_true] <;> omega
     · simp only [h,if_false] <;> omega
theorem slicePick_cut (its:List Value) (lo hi:Option Int):slicePick its.toArray lo hi none=((its.drop (HT.sIx its.length 0 lo)).take (HT.sIx its.length its.length hi - HT.sIx its.length 0 lo)).toArray:=by
 obtain ⟨h1,h2,h3⟩:=slice_bounds lo hi its.toArray.size
 unfold slicePick
 rw [h1,h2,h3]
 simp only [sliceRange_one,pick_run,List.size_toArray] <;> rfl
def rSlL (K:PySem.W.Frag):V→Option Int→Option Int→Hp→VK→Prop:=fun x lo hi H Q=>∃ a xs,x=.ref a∧SqL K H a xs∧∀ p,H p=none→Q (.ref p) (upd H p (.lst (cutV xs lo hi)))
theorem sl_list:SlR X (rSlL X.K):=by
 intro pins s σ H x v vl vu lo hi sl Q I rx hs pl pu h
 obtain ⟨a,xs,rfl,hx,q⟩:=h
 cases rx
 obtain ⟨its,r,ht,hz⟩:=I.list hx
 have hlen:=r.length
 refine ⟨"list",_,slot_list_getitem.lookup,ht.isList.typeIs,?_⟩
 refine wpAny_getItem_list_slice ht.isList hs pl pu .none (by simp) ?_ (by rw [List.size_toArray] <;> omega)
 rw [slicePick_cut,← hlen]
 refine ⟨.ref s.heap.objs.size,_,I.laid (t':=s.toks) (o:=.lst (cutV xs lo hi)) (fun b ob q=>Heap.get?_push_of_some _ q) (Nat.le_refl _) ?_,rfl,q _ (I.hok.fresh (Nat.le_refl _))⟩
 exact ⟨Nat.le_trans (cutV_length xs lo hi) hz,_,0,(r.drop (HT.sIx xs.length 0 lo)).take (HT.sIx xs.length xs.length hi - HT.sIx xs.length 0 lo),Heap.get?_push_size _ rfl⟩
def flatV:V→Bool
 | .non=>true
 | .bl _=>true
 | .int _=>true
 | .str _=>true
 | _=>false
def eqV:V→V→Bool
 | .non,.non=>true
 | .bl a,.bl b=>a == b
 | .bl a,.int b=>(if a then 1 else 0) == b
 | .int a,.bl b=>a == (if b then 1 else 0)
 | .int a,.int b=>a == b
 | .str a,.str b=>a == b
 | _,_=>false
theorem eqAt_V {A:Around} {s:Shared} {y x:V} {u v:Value} (ry:RelV y u) (rx:RelV x v) (fy:flatV y=true) (fx:flatV x=true):SeqAt.EqAt A s u v (eqV y x):=by
 cases y with
 | non=>
   cases ry
   cases x with
   | non=>cases rx;exact SeqAt.EqAt.same _
   | bl b=>cases rx;exact SeqAt.EqAt.none_bool b
   | int b=>obtain ⟨t,rfl⟩:=rx;exact SeqAt.EqAt.none_int b t
   | str b=>obtain ⟨t,rfl⟩:=rx;exact SeqAt.EqAt.none_str b t
   | _=>exact absurd (show false=true from fx) Bool.false_ne_true
 | bl a=>
   cases ry
   cases x with
   | non=>cases rx;exact SeqAt.EqAt.bool_none a
   | bl b=>cases rx;exact SeqAt.EqAt.bool_bool a b
   | int b=>obtain ⟨t,rfl⟩:=rx;exact SeqAt.EqAt.bool_int a b t
   | str b=>obtain ⟨t,rfl⟩:=rx;exact SeqAt.EqAt.bool_str a b t
   | _=>exact absurd (show false=true from fx) Bool.false_ne_true
 | int a=>
   obtain ⟨t',rfl⟩:=ry
   cases x with
   | non=>cases rx;exact SeqAt.EqAt.int_none a t'
   | bl b=>cases rx;exact SeqAt.EqAt.int_bool a t' b
   | int b=>obtain ⟨t,rfl⟩:=rx;exact SeqAt.EqAt.int_int a t' b t
   | str b=>obtain ⟨t,rfl⟩:=rx;exact SeqAt.EqAt.int_str a t' b t
   | _=>exact absurd (show false=true from fx) Bool.false_ne_true
 | str a=>
   obtain ⟨t',rfl⟩:=ry
   cases x with
   | non=>cases rx;exact SeqAt.EqAt.str_none a t'
   | bl b=>cases rx;exact SeqAt.EqAt.str_bool a t' b
   | int b=>obtain ⟨t,rfl⟩:=rx;exact SeqAt.EqAt.str_int a t' b t
   | str b=>obtain ⟨t,rfl⟩:=rx;exact SeqAt.EqAt.str_str a t' b t
   | _=>exact absurd (show false=true from fx) Bool.false_ne_true
 | _=>exact absurd (show false=true from fy) Bool.false_ne_true
def eqU (x:V) (u:Value):Bool:=match u with
 | .none=>eqV .non x
 | .bool b=>eqV (.bl b) x
 | .int i _=>eqV (.int i) x
 | .str z _=>eqV (.str z) x
 | _=>false
theorem eqU_of {x y:V} {u:Value} (r:RelV y u) (f:flatV y=true):eqU x u=eqV y x:=by
 cases y with
 | non=>cases r;rfl
 | bl b=>cases r;rfl
 | int i=>obtain ⟨t,rfl⟩:=r;rfl
 | str z=>obtain ⟨t,rfl⟩:=r;rfl
 | _=>exact absurd (show false=true from f) Bool.false_ne_true
theorem any_eqU {x:V}:∀ {xs:List V} {us:List Value},Vals xs us→xs.all flatV=true→us.any (eqU x)=xs.any fun y=>eqV y x
 | _,_,.nil,_=>rfl
 | y::xs,u::us,.cons r t,f=>by
   rw [List.all_cons,Bool.and_eq_true] at f
   rw [List.any_cons,List.any_cons,eqU_of r f.1,any_eqU t f.2]
theorem mem_eqAt {A:Around} {s:Shared} {x:V} {v:Value} (rx:RelV x v) (fx:flatV x=true):∀ {xs:List V} {us:List Value},Vals xs us→xs.all flatV=true→∀ u∈us,SeqAt.EqAt A s u v (eqU x u)
 | _,_,.nil,_=>fun u hu=>by cases hu
 | y::xs,u::us,.cons r t,f=>fun u' hu=>by
   rw [List.all_cons,Bool.and_eq_true] at f
   rcases List.mem_cons.mp hu with rfl | hu
   · rw [eqU_of r f.1];exact eqAt_V r rx f.1 fx
   · exact mem_eqAt rx fx t f.2 u' hu
def inV (x:V) (xs:List V):Bool:=xs.any fun y=>eqV y x
def rIn (K:PySem.W.Frag) (neg:Bool):R2:=fun x y H Q=>∃ p xs,y=.ref p∧(SqL K H p xs∨SqT K H p xs)∧flatV x=true∧xs.all flatV=true∧Q (.bl (if neg then !inV x xs else inV x xs)) H
theorem op_in_seq:OpR X (compareOp .In) (rIn X.K false):=by
 intro pins s σ H x y v u Q I rx ry h
 obtain ⟨p,xs,rfl,hq,fx,fs,q⟩:=h
 cases ry
 rcases hq with hq | hq
 · obtain ⟨its,r,pl,hz⟩:=I.list hq
   refine SeqAt.in_listAt (eqU x) pl.isList (fun w hw=>mem_eqAt rx fx r fs w (by simpa using hw)) ⟨.bl _,H,I,rfl,?_⟩
   rw [show its.toArray.any (eqU x)=its.any (eqU x) by simp,any_eqU r fs]
   exact q
 · obtain ⟨its,r,pl,hz⟩:=I.tuple hq
   refine SeqAt.in_tupleAt (eqU x) pl (fun w hw=>mem_eqAt rx fx r fs w (by simpa using hw)) ⟨.bl _,H,I,rfl,?_⟩
   rw [show its.toArray.any (eqU x)=its.any (eqU x) by simp,any_eqU r fs]
   exact q
theorem call_len_seq:CallR X (.builtin "len") (fun xs H Q=>∃ p ys,xs=[.ref p]∧(SqL X.K H p ys∨SqT X.K H p ys)∧Q (.int ys.length) H):=by
 intro pins s σ H xs us Q I r h
 obtain ⟨p,ys,rfl,hq,q⟩:=h
 obtain ⟨u,rfl,rx⟩:=vals1 r
 cases rx
 have hn:=line63
 rcases hq with hq | hq
 · obtain ⟨its,r',pl,hz⟩:=I.list hq
   have hlen:=r'.length
   exact Calls.call_len_list pl.isList (by simp only [List.size_toArray] <;> omega) ⟨.int ys.length,H,I.tok _,⟨s.toks+1,by rw [List.size_toArray,hlen]⟩,q⟩
 · obtain ⟨its,r',pl,hz⟩:=I.tuple hq
   have hlen:=r'.length
   exact len_tuple pl (by simp only [List.size_toArray] <;> omega) ⟨.int ys.length,H,I.tok _,⟨s.toks+1,by rw [List.size_toArray,hlen]⟩,q⟩
theorem call_list_of:CallR X (.type "list") (fun xs H Q=>∃ p ys,xs=[.ref p]∧(SqL X.K H p ys∨SqT X.K H p ys)∧∀ l,H l=none→Q (.ref l) (upd H l (.lst ys))):=by
 intro pins s σ H xs us Q I r h
 obtain ⟨p,ys,rfl,hq,q⟩:=h
 obtain ⟨u,rfl,rx⟩:=vals1 r
 cases rx
 have fin:∀ (its:List Value),Vals ys its→ys.length≤sizeLine→∀ (h':Heap) (c':Nat),(∀ b o',s.heap.get? b=some o'→h'.get? b=some o') →
  h'.get? s.heap.objs.size=some { cls:=.type "list",dict:=none,data:=.seq its.toArray c',slots:=#[] }→EP X pins σ Q (.ref s.heap.objs.size) { s with heap:=h' }:=fun its r' hz h' c' kp e=>
  ⟨.ref s.heap.objs.size,_,I.laid (t':=s.toks) kp (Nat.le_refl _) (show ObjOk X.prog X.w _ h' _ (.lst ys) from ⟨hz,its,c',r',e⟩),rfl,q _ (I.hok.fresh (Nat.le_refl _))⟩
 rcases hq with hq | hq
 · obtain ⟨its,r',pl,hz⟩:=I.list hq
   have hlen:=r'.length
   obtain ⟨o,ho,hc,n,hd⟩:=pl.isList
   exact call_list_seq p (.inl rfl) ho hc hd (fun h' c' kp e=>fin its r' hz h' c' kp e) (by simp only [List.size_toArray] <;> omega)
 · obtain ⟨its,r',pl,hz⟩:=I.tuple hq
   have hlen:=r'.length
   obtain ⟨o,ho,hc,n,hd⟩:=pl
   exact call_list_seq p (.inr rfl) ho hc hd (fun h' c' kp e=>fin its r' hz h' c' kp e) (by simp only [List.size_toArray] <;> omega)
theorem call_tuple_of:CallR X (.type "tuple") (fun xs H Q=>∃ p ys,xs=[.ref p]∧((SqL X.K H p ys∧∀ l,H l=none→Q (.ref l) (upd H l (.tup ys)))∨(SqT X.K H p ys∧Q (.ref p) H))):=by
 intro pins s σ H xs us Q I r h
 obtain ⟨p,ys,rfl,h⟩:=h
 obtain ⟨u,rfl,rx⟩:=vals1 r
 cases rx
 rcases h with ⟨hq,q⟩ | ⟨hq,q⟩
 · obtain ⟨its,r',pl,hz⟩:=I.list hq
   have hlen:=r'.length
   refine call_tuple_list pl.isList (fun h' kp=>?_) (by simp only [List.size_toArray] <;> omega)
   have I1:Inv X pins σ H { s with heap:=h' }:=I.kept (t':=s.toks) kp
   have I2:Inv X pins σ (upd H h'.objs.size (.tup ys)) { s with heap:=h'.push { cls:=.type "tuple",data:=.seq its.toArray } }:=
    I1.laid (t':=s.toks) (fun b o e=>Heap.get?_push_of_some _ e) (Nat.le_refl _) (show ObjOk X.prog X.w _ _ _ (.tup ys) from ⟨hz,its,r',TupD.new _ _⟩)
   exact ⟨.ref h'.objs.size,_,I2,rfl,q _ (I1.hok.fresh (Nat.le_refl _))⟩
 · obtain ⟨its,r',pl,hz⟩:=I.tuple hq
   exact call_tuple_same pl ⟨.ref p,H,I,rfl,q⟩
def tyV (K:PySem.W.Frag) (T:String) (x:V) (H:Hp):Prop:=match x with
 | .str _=>T="str"
 | .int _=>T="int"
 | .ref p=>(T="list"∧∃ xs,SqL K H p xs)∨(T="tuple"∧∃ o,K.lookup p=some o∧o.cls=.type "tuple"∧o.dict=none) ∨
  (T="dict"∧((∃ kvs,H p=some (.dK kvs))∨∃ kvs,H p=some (.dT kvs)))∨(T="set"∧∃ S n,H p=some (.set S n))∨(T="tuple"∧∃ xs,H p=some (.tup xs))
 | _=>False
theorem tyV_is {pins:List (Addr×Obj)} {σ:St} {H:Hp} {s:Shared} {T:String} {x:V} {v:Value} (I:Inv X pins σ H s) (r:RelV x v) (ty:tyV X.K T x H) :
 s.TypeIs v T∧∀ a,v=.ref a→∃ ob,s.heap.get? a=some ob∧ob.dict=none:=by
 cases x with
 | str z=>
   obtain ⟨t,rfl⟩:=r
   cases (show T="str" from ty)
   exact ⟨typeIs_str s z t,fun _ e=>nomatch e⟩
 | int i=>
   obtain ⟨t,rfl⟩:=r
   cases (show T="int" from ty)
   exact ⟨typeIs_int s i t,fun _ e=>nomatch e⟩
 | ref p=>
   cases r
   rcases ty with ⟨rfl,xs,hq⟩ | ⟨rfl,o,hk,hc,hd⟩ | ⟨rfl,hk⟩ | ⟨rfl,S,n,hk⟩ | ⟨rfl,xs,hk⟩
   · obtain ⟨its,_,pl,_⟩:=I.list hq
     refine ⟨pl.isList.typeIs,fun a e=>?_⟩
     cases e
     obtain ⟨o,n,e,c,hd,_⟩:=pl
     exact ⟨o,e,hd⟩
   · refine ⟨⟨o,I.kIn p o hk,hc⟩,fun a e=>?_⟩
     cases e
     exact ⟨o,I.kIn _ o hk,hd⟩
   · have z:∃ o,s.heap.get? p=some o∧o.ExactDict:=by
      rcases hk with ⟨kvs,hk⟩ | ⟨kvs,hk⟩
      · obtain ⟨_,_,_,_,o,_,_,e,ex,_⟩:=I.hok p _ hk
        exact ⟨o,e,ex⟩
      · obtain ⟨_,_,_,_,o,_,_,e,ex,_⟩:=I.hok p _ hk
        exact ⟨o,e,ex⟩
     obtain ⟨o,e,ex⟩:=z
     refine ⟨⟨o,e,ex.1⟩,fun a e2=>?_⟩
     cases e2
     exact ⟨o,e,ex.2.1⟩
   · obtain ⟨o,_,_,_,e,ex,_⟩:=I.hok p _ hk
     refine ⟨⟨o,e,ex.1⟩,fun a e2=>?_⟩
     cases e2
     exact ⟨o,e,ex.2.1⟩
   · obtain ⟨_,_,_,n,e⟩:=I.hok p _ hk
     refine ⟨⟨_,e,rfl⟩,fun a e2=>?_⟩
     cases e2
     exact ⟨_,e,rfl⟩
 | _=>exact False.elim ty
def tBM (K:PySem.W.Frag) (T:String) (r:V→List V→Hp→VK→Prop) (to:TE) (t:TA):TE:=fun σ H Q=>to σ H fun x H1=>tyV K T x H1∧t σ H1 fun xs H2=>r x xs H2 Q
variable {o e:Expr} {es:List Expr} {to:TE} {t:TA} {name:Str} {apos cpos:Pos} {T id:String} {r:V→List V→Hp→VK→Prop}
theorem pe_bm (pa:PlainAttrs T) (slot:Slot T name id) (hty:typeOf (.builtin id)=pure (.type "method_descriptor")) (hm:MtR X id r) (ho:PE X o to) (ha:PA X (e::es) t)
 (hbase:attributeBase o name X.env (eval o X.env)=eval o X.env:=by rfl)
 (hfew:((backTo cpos (starEach (e::es) X.env)).all (fun x=>!x.1)&&(backToKw cpos (keywordEach [] X.env)).all (fun x=>x.1.isSome)
   && decide ((e::es).length+([]:List Keyword).length+(if ([]:List Keyword).isEmpty then 0 else 1)<30))=true:=by rfl)
 (hline:(apos.endLine == cpos.line)=true:=by rfl) (hs:starEach (e::es) X.env=(false,eval e X.env)::starEach es X.env:=by rfl) (hplain:(backTo cpos (starEach es X.env)).any (·.1)=false:=by rfl) :
 PE X (.Call (.Attribute o name apos) (e::es) [] cpos) (tBM X.K T r to t):=by
 intro pins s σ H Q I h
 refine wpAny_Call_method_late hbase hfew hline rfl (thn (ho pins s σ H _ I h) fun v s1 ⟨x,H1,I1,r1,ty,q1⟩=>?_)
 obtain ⟨h1,h2⟩:=tyV_is I1 r1 ty
 refine ⟨T,id,pa,slot,hty,h1,h2,?_⟩
 have hA:=ha cpos pins s1 σ H1 _ I1 q1
 rw [hs] at hA ⊢
 refine Calls.callWith_builtin (by show (false||(backTo cpos (starEach es X.env)).any (·.1))=false;rw [hplain] <;> rfl) (Calls.evalArgs_plain ?_)
 exact thn hA fun us s2 ⟨vs,H2,I2,r2,q2⟩=>hm pins s2 σ H2 x vs v us Q I2 r1 r2 q2
/- xs.append(e),list.index on a module's tuple .. are MtR facts of 06m -/
end
def MtM (X:Cx) (id:String) (r:V→List V→Hp→VK→Prop):Prop:=
 ∀ (pins:List (Addr×Obj)) (s:Shared) (σ:St) (H:Hp) (x:V) (xs:List V) (v:Value) (us:List Value) (Q:VK),Inv X pins σ H s→RelV x v→Vals xs us→r x xs H Q →
   wpAny (model X.prog X.w) X.A (call (.builtin id) (v::us)) (EP X pins σ Q) X.xe s
theorem Vals.one:∀ {x:V} {us:List Value},Vals [x] us→∃ u,us=[u]∧RelV x u
 | _,_,.cons r .nil=>⟨_,rfl,r⟩
theorem Vals.rep {xs:List V} {us:List Value} (h:Vals xs us):∀ k:Nat,Vals (List.replicate k xs).flatten (List.replicate k us).flatten
 | 0=>.nil
 | k+1=>by
   rw [List.replicate_succ,List.replicate_succ,List.flatten_cons,List.flatten_cons]
   exact Vals.append h (Vals.rep h k)
theorem foldl_rep (its:List Value):∀ (k:Nat) (acc:List Value),
 List.foldl (fun x1 x2=>x1++x2) acc.toArray (List.replicate k its.toArray)=(acc++(List.replicate k its).flatten).toArray
 | 0,acc=>by simp
 | k+1,acc=>by
   have e:acc.toArray++its.toArray=(acc++its).toArray:=by simp
   have e2:(acc++its)++(List.replicate k its).flatten=acc++(List.replicate (k+1) its).flatten:=by
    rw [List.replicate_succ,List.flatten_cons,List.append_assoc]
   rw [← e2,← foldl_rep its k (acc++its),← e,List.replicate_succ,List.foldl_cons]
section
variable {X:Cx} {pins:List (Addr×Obj)} {σ:St} {H:Hp} {s:Shared} {l b:Addr} {xs ys zs:List V}
theorem Inv.lset {its its':List Value} {n:Nat} {f:Array Value→Array Value} {t':Nat} (I:Inv X pins σ H s) (hH:H l=some (.lst xs))
 (e:s.heap.get? l=some { cls:=.type "list",data:=.seq its.toArray n }) (hf:f its.toArray=its'.toArray) (hv:Vals ys its') (hz:ys.length≤sizeLine) :
 Inv X pins σ (upd H l (.lst ys)) { s with heap:=s.heap.update l (Obj.mapSeq f),toks:=t' }:=by
 have q:=PySem.IsL.update e f
 rw [hf] at q
 refine I.write (x:=l) (e:=l) (by rw [hH];exact trivial) (.inl rfl) (fun b' u hb hu=>(Heap.get?_update_other s.heap (Obj.mapSeq f) (Ne.symm hb)).trans hu) ⟨_,q⟩ ?_
 exact ⟨hz,its',_,hv,q⟩
theorem Inv.lnew {its:List Value} {t':Nat} (I:Inv X pins σ H s) (hv:Vals ys its) (hz:ys.length≤sizeLine) :
 Inv X pins σ (upd H s.heap.objs.size (.lst ys)) { s with heap:=s.heap.push { cls:=.type "list",data:=.seq its.toArray },toks:=t' }:=
 I.laid (fun _ _ q=>Heap.get?_push_of_some _ q) (Nat.le_refl _) ⟨hz,its,0,hv,Heap.get?_push_size _ rfl⟩
theorem Inv.fresh (I:Inv X pins σ H s):H s.heap.objs.size=none:=I.hok.fresh (Nat.le_refl _)
theorem Inv.lstM (I:Inv X pins σ H s) (hH:H l=some (.lst xs)):xs.length≤sizeLine∧∃ (its:List Value) (n:Nat),Vals xs its∧xs.length=its.length∧s.heap.get? l=some { cls:=.type "list",data:=.seq its.toArray n }:=by
 obtain ⟨z,its,n,r,e⟩:=I.hok l _ hH
 exact ⟨z,its,n,r,r.length,e⟩
theorem notLongL {n:Nat} (h:n≤sizeLine):Builtin.List.listTooLong n=false:=by
 unfold Builtin.List.listTooLong
 exact decide_eq_false (by omega)
end
section
variable {X:Cx}
def rAppend:V→List V→Hp→VK→Prop:=fun x vs H Q=>∃ l xs y,x=.ref l∧vs=[y]∧H l=some (.lst xs)∧xs.length<sizeLine∧Q .non (upd H l (.lst (xs++[y])))
theorem mt_append:MtM X "list.append" rAppend:=by
 intro pins s σ H x vs v us Q I rx rv h
 obtain ⟨l,xs,y,rfl,rfl,hH,hz,q⟩:=h
 cases rx
 obtain ⟨u,rfl,ru⟩:=rv.one
 obtain ⟨z,its,n,r,hl,e⟩:=I.lstM hH
 refine call_meets F.slot_list_append ⟨_,e,rfl⟩ F.entry_list_append (F.args_list_append_2 _ _) (PySem.list_append l its.toArray n u (by rw [List.size_toArray];omega)) ⟨e,?_⟩
 refine ⟨.non,_,I.lset (its':=its++[u]) hH e (by simp) (r.append (.cons ru .nil)) ?_,rfl,q⟩
 rw [List.length_append,List.length_singleton]
 omega
def rCat:R2:=fun x y H Q=>∃ l b xs zs,x=.ref l∧y=.ref b∧H l=some (.lst xs)∧H b=some (.lst zs)∧xs.length+zs.length≤sizeLine∧∀ p,H p=none→Q (.ref p) (upd H p (.lst (xs++zs)))
theorem op_cat:OpR X (binaryOp .Add) rCat:=by
 intro pins s σ H x y v u Q I rx ry h
 obtain ⟨l,b,xs,zs,rfl,rfl,hH,hB,hz,q⟩:=h
 cases rx
 cases ry
 obtain ⟨z,its,n,r,hl,e⟩:=I.lstM hH
 obtain ⟨z2,its2,n2,r2,hl2,e2⟩:=I.lstM hB
 refine PySem.P.add_list e e2 ?_ (by rw [List.size_toArray,List.size_toArray];omega)
 have ea:its.toArray++its2.toArray=(its++its2).toArray:=by simp
 rw [ea]
 exact ⟨.ref _,_,I.lnew (t':=s.toks) (r.append r2) (by rw [List.length_append];omega),rfl,q _ I.fresh⟩
def rRep:R2:=fun x y H Q=>∃ l k xs,x=.ref l∧y=.int k∧H l=some (.lst xs)∧-(2 ^ 63)≤k∧k<2 ^ 63∧xs.length*k.toNat≤sizeLine ∧
 ∀ p,H p=none→Q (.ref p) (upd H p (.lst (List.replicate k.toNat xs).flatten))
theorem len_rep {α:Type} (xs:List α) (k:Nat):(List.replicate k xs).flatten.length=k*xs.length:=by
 induction k with
 | zero=>simp
 | succ k ih=>rw [List.replicate_succ,List.flatten_cons,List.length_append,ih,Nat.succ_mul,Nat.add_comm]
theorem op_rep:OpR X (binaryOp .Mult) rRep:=by
 intro pins s σ H x y v u Q I rx ry h
 obtain ⟨l,k,xs,rfl,rfl,hH,h1,h2,hz,q⟩:=h
 cases rx
 obtain ⟨t,rfl⟩:=ry
 obtain ⟨z,its,n,r,hl,e⟩:=I.lstM hH
 have hlen:its.toArray.size*k.toNat≤sizeLine:=by rw [List.size_toArray,← hl];exact hz
 have hcap:¬ its.toArray.size*k.toNat > (2 ^ 63 - 1) / 8:=by
  have:(sizeLine:Nat)≤(2 ^ 63 - 1) / 8:=by decide
  omega
 have hfit:¬ (!Builtin.List.listFitsIndex k)=true:=by
  rw [fitsIndex_both h1 h2]
  exact Bool.false_ne_true
 have hlong:¬ Builtin.List.listTooLong (its.toArray.size*k.toNat)=true:=by
  rw [notLongL hlen]
  exact Bool.false_ne_true
 have hnew:List.foldl (fun x1 x2=>x1++x2) #[] (List.replicate (if its.toArray.isEmpty=true then 0 else k.toNat) its.toArray)=(List.replicate k.toNat its).flatten.toArray:=by
  have f0:∀ m:Nat,List.foldl (fun x1 x2=>x1++x2) #[] (List.replicate m its.toArray)=(List.replicate m its).flatten.toArray:=fun m=>by
   have:=foldl_rep its m []
   rw [List.nil_append] at this
   exact this
  rw [f0]
  cases its with
  | nil=>simp
  | cons a r'=>rw [if_neg (by simp)]
 refine wpAny_binaryOp_repeat_ref (T:="list") (U:="int") (by decide) ⟨_,e,rfl⟩ (fun s'=>typeIs_int s' k t) noFill_list_mul F.fills_int_mul F.slot_int_rmul repeat_list F.slot_int_index.lookup
  (call_meets F.slot_int_rmul (typeIs_int s k t) F.entry_int_rmul (F.args_int_rmul_2 _ _) (int___rmul___int_list k t l its.toArray n)
    ⟨e,rfl,⟨_,e,rfl⟩,call_meets F.slot_list_mul ⟨_,e,rfl⟩ F.entry_list_mul (F.args_list_mul_2 _ _) (AutoListH.list___mul___list_int_3 l its.toArray n k t hfit hcap hlong) ⟨e,?_⟩⟩)
 rw [hnew]
 exact ⟨.ref _,_,I.lnew (t':=s.toks) (r.rep k.toNat) (by rw [len_rep,Nat.mul_comm];exact hz),rfl,q _ I.fresh⟩
end
end L2
namespace Att
open PySem PySem.W PySem.Calls PyProof.Rows
theorem ints_of_wellAll {P:Params} {h:Heap}:∀ (ns:List Int) (vs:List Value),WellAll P h vs (ns.map WData.int)→IntsAre vs ns:=by
 intro ns
 induction ns with
 | nil=>
   intro vs w
   rw [List.map_nil] at w
   cases w
   exact .nil
 | cons n ns ih=>
   intro vs w
   rw [List.map_cons] at w
   cases w with
   | cons a b=>
     cases a
     exact .cons _ _ (ih _ b)
theorem script_of {l:OpenLaw} {n:Nat} (hn:l.most=some n) {P:Params} {h:Heap} {args:List WData} {vals:List Value}
 (hpre:l.row.toRowW.claim.pre args=true) (hwl:WellAll P h vals args) :
 ∃ a vs ns,vals=[Value.ref a]∧args=[WData.list (ns.map WData.int)]∧h.get? a=some { cls:=.type "list",data:=.seq vs.toArray }∧IntsAre vs ns∧ns.length≤n:=by
 have hsh:WShape.hasAll [] args [.list .int]=true:=(pre_splitW hpre).1
 have hc:l.pre.holds [] { args:=args }=true:=(pre_splitW hpre).2
 obtain ⟨d,r,rfl,h1,h2⟩:=hasAllW_cons hsh
 obtain rfl:=hasAllW_nil h2
 obtain ⟨xs,rfl,h3⟩:=hasW_list h1
 obtain ⟨ns,rfl⟩:=items_int h3
 have hlen:ns.length≤n:=by
  unfold OpenLaw.pre at hc
  have h4:(WTm.not (.lt (.lit (.int (n:Int))) (.len (.arg 0)))).holds [] { args:=[.list (ns.map .int)] }=true:=by
   have h4:=(holds_andW hc).1
   rw [hn] at h4
   exact h4
  have h5:=condW_of h4 (w_not (w_lt w_lit (w_len_list (w_arg rfl))))
  rw [List.length_map] at h5
  refine Nat.le_of_not_lt fun q=>?_
  have q':(n:Int)<((ns.length:Nat):Int):=by omega
  first
   | (rw [decide_eq_true q'] at h5;exact absurd h5 (by decide))
   | (simp at h5;omega)
 cases hwl with
 | cons w1 w2=>
   cases w2
   cases w1 with
   | list ho hall=>exact ⟨_,_,ns,rfl,rfl,ho,ints_of_wellAll ns _ hall,hlen⟩
theorem post_true (l:OpenLaw) (args:List WData):l.row.toRowW.claim.post args (.bool true) args=true:=
 postW_of (r:=l.row.toRowW) (X:=(true == true))
  (show WShape.has [] (.bool true) .bool=true by first | rfl | decide | simp [WShape.has,WShape.arms,WShape.armsAll])
  (show (WTm.eq .res (.lit (.bool true))).value [] { args:=args,res:=some (.bool true),after:=args }=some (.bool (true == true)) from w_eq_bool (w_res rfl) w_lit) rfl
theorem attach_call {l:OpenLaw} {n:Nat} {q:Program} {loose:List Str} {XP:(Str→Option Value)→Heap→Prop} {YP:World→Heap→Prop} {d:DefRec}
 (hn:l.most=some n) (hdf:d.params.defaults=[])
 (call:∀ (w:World) (s₀ s₁:Shared) (mg mb:Str→Option Value) (fa:Addr) (o:Obj) (pm cd doc:Value) (a:Addr) (vs:List Value) (ns:List Int),
   Ground q loose [] XP w s₀ mg mb s₁.heap→YP w s₁.heap →
   s₁.heap.get? fa=some o→o.data=.func (docDef d.name d.params d.body d.scope pm cd doc)→s₁.heap.CodeRec cd d.name→mg d.name=some (.ref fa) →
   s₁.heap.get? a=some { cls:=.type "list",data:=.seq vs.toArray }→IntsAre vs ns→ns.length≤n→s₁.gens=#[] →
   codeAny (model l.prog w) callerA (.call (.ref fa) ⟨[.ref a],[]⟩) (fun r s'=>r=.ok (.ret (.bool true))∧OldK s₁.heap s'.heap∧s'.os=s₁.os∧AllBare s'.gens) s₁) :
 WalkO q loose XP YP l.row.toRowW d [] (fun f vs=>PySem.call f vs):=by
 intro w s₀ s₁ mg mb G Y fa o pm cd doc dV kV ho hd hcd hD hmg hg args vals as hpre hlay hrd hwl hlo
 obtain rfl:dV=.none:=Dflts.none hD hdf
 obtain rfl:kV=.none:=Dflts.noKw hD
 obtain ⟨a,vs,ns,rfl,rfl,hobj,hints,hlen⟩:=script_of hn hpre hwl
 refine enter_call (codeAny_mono (call w s₀ s₁ mg mb fa o pm cd doc a vs ns G Y ho (fd_plain hd) hcd hmg hobj hints hlen hg) fun r s' hq=>?_)
 obtain ⟨rfl,h2,h3,h4⟩:=hq
 exact ⟨.inl ⟨.bool true,.bool true,[],rfl,fun _=>rfl,.bool true,post_true l _,fun _=>⟨List.Pairwise.nil,fun _ hm=>(nomatch hm)⟩⟩,h2,h3,h4⟩
end Att
namespace L2
open PySem PySem.Spec PyProof.Rows
theorem vals_ints:∀ {vs:List Value} {ns:List Int},IntsAre vs ns→Vals (ns.map V.int) vs
 | _,_,.nil=>.nil
 | _,_,.cons n t h=>.cons ⟨t,rfl⟩ (vals_ints h)
def Only (H:Hp):Prop:=∀ b,H b=none∨∃ o xs,H b=some (.frz o (.lst xs))
theorem law_call {P:Program} {w:World} {K:PySem.W.Frag} {mg mb:Str→Option Value} {CX:CXT} {k:Nat} {fa a:Addr} {fd:FuncData} {x:Str} {sp:Sp} {s₁:Shared} {vs:List Value} {ns:List Int}
 (KX:K.In s₁.heap) (hns:s₁.heap.Ns mainGlobals mg) (hb:s₁.heap.Ns builtinsNs mb) (hbb:∀ x:Str,x≠"__name__"→mb x=bootBuiltins x) (hlim:s₁.heap.NoLimit) (hg:s₁.gens=#[])
 (ha:s₁.heap.get? a=some { cls:=.type "list",data:=.seq vs.toArray }) (hi:IntsAre vs ns) (hl:ns.length≤sizeLine) (hr:Room k callerA)
 (F:∀ base:Heap,K.In base→base.Ns mainGlobals mg→FnOk P w K mg base CX k fa fd [x] sp) (hbind:∀ (s:Shared) (u:Value),BindsTo s fd ⟨[u],[]⟩ [(x,u)])
 (hsp:∀ H:Hp,Only H→SqL K H a (ns.map V.int)→sp [.ref a] H (fun v _=>v=.bl true) fun _ _ _=>False)
 (hCX:∀ H e s',CX [] H s₁ (fun _ _ _=>False) e s'→False) :
 codeAny (model P w) callerA (.call (.ref fa) ⟨[.ref a],[]⟩) (fun r s'=>r=.ok (.ret (.bool true))∧OldK s₁.heap s'.heap∧s'.os=s₁.os∧AllBare s'.gens) s₁:=by
 have rv:=vals_ints hi
 have lenV:=hi.length
 -- from an abstract heap in which nothing but the script may be tracked
 have core:∀ H:Hp,Only H→SqL K H a (ns.map V.int)→HOk P w H s₁.heap→(∀ b,H b≠none→b=a)→(H a≠none→K.lookup a=none) →
  codeAny (model P w) callerA (.call (.ref fa) ⟨[.ref a],[]⟩) (fun r s'=>r=.ok (.ret (.bool true))∧OldK s₁.heap s'.heap∧s'.os=s₁.os∧AllBare s'.gens) s₁:=by
  intro H hO hS hok hA hK
  have base_of:∀ {b:Addr} {o:Obj},s₁.heap.get? b=some o→H b=none→(hidT s₁.heap H).get? b=some o:=fun e n=>hidT_get e n
  have noA:∀ {b:Addr} {o:Obj} {es:Array DictEntry} {ep:Nat},s₁.heap.get? b=some o→o.data=.dict es ep→H b=none:=fun {b o es ep} e d=>by
   cases q:H b with
   | none=>rfl
   | some u=>
     have e':b=a:=hA b (by rw [q];simp)
     subst e'
     rw [ha] at e;cases e
     have d':Data.seq vs.toArray _=Data.dict es ep:=d
     cases d'
  have nsK:∀ {b:Addr} {m:Str→Option Value},s₁.heap.Ns b m→(hidT s₁.heap H).Ns b m:=fun {b m} ⟨o,es,ep,e,d,r⟩=>⟨o,es,ep,base_of e (noA e d),d,r⟩
  have hKb:K.In (hidT s₁.heap H):=fun b o e=>base_of (KX b o e) (by
   cases q:H b with
   | none=>rfl
   | some u=>
     have e':b=a:=hA b (by rw [q];simp)
     subst e'
     rw [hK (by rw [q];simp)] at e;cases e)
  have hM:Mod K mg (hidT s₁.heap H):=⟨hKb,nsK hns,⟨mb,nsK hb,hbb⟩,let ⟨mc,h1,h2⟩:=hlim;⟨mc,nsK h1,h2⟩⟩
  have e0:Env0 P w K mg (hidT s₁.heap H) callerA [] s₁ H:=⟨rfl,hM,fun b o e=>of_hidT e,Nat.le_of_eq (hidT_size _ _),trivial,fun b hb=>absurd (show b∈([]:List Addr) from hb) (by simp),hok,.of_eq hg⟩
  refine codeAny_mono ((F _ hKb (nsK hns)).run callerA [] s₁ H ⟨[.ref a],[]⟩ [.ref a] [.ref a] _ _ hr e0 (hbind s₁ (.ref a)) (.cons rfl .nil) (hsp H hO hS)) fun r s' h=>?_
  cases r with
  | error e=>exact (hCX H e s' h).elim
  | ok fl=>
    cases fl with
    | next=>exact False.elim h
    | brk=>exact False.elim h
    | cont=>exact False.elim h
    | ret u=>
      obtain ⟨v,H',os,bare,un,hok',r',q⟩:=h
      have q':v=.bl true:=q
      subst q'
      obtain rfl:u=Value.bool true:=r'
      refine ⟨rfl,OldK.of_keep fun b o e=>?_,os,bare⟩
      cases q:H b with
      | none=>exact un.keep b o e q (by intro z;exact absurd (show b∈([]:List Addr) from z) (by simp)) (by simp)
      | some u=>
        rcases hO b with z | ⟨ob,xs,z⟩
        · rw [q] at z;cases z
        · have z2:=un.frzs b ob _ z
          obtain ⟨e1,_⟩:=hok b _ z
          obtain ⟨e2,_⟩:=hok' b _ z2
          rw [e] at e1;cases e1
          exact e2
 cases hk:K.lookup a with
 | some o=>
   -- the script is one of the module's own objects
   have e:=KX a o hk
   rw [ha] at e
   cases e
   refine core (fun _=>none) (fun _=>.inl rfl) (.inr ⟨_,vs.toArray,_,hk,rfl,rfl,rfl,by rw [List.size_toArray,lenV];exact hl,by simpa using rv⟩) (fun b u z=>by have z':(none:Option HO)=some u:=z;cases z') (fun b z=>absurd rfl z) fun z=>absurd rfl z
 | none=>
   refine core (fun b=>if b=a then some (.frz { cls:=.type "list",data:=.seq vs.toArray } (.lst (ns.map V.int))) else none) (fun b=>?_) (.inl (.inr ⟨{ cls:=.type "list",data:=.seq vs.toArray },if_pos rfl⟩)) (fun b u z=>?_) (fun b z=>?_) fun _=>hk
   · by_cases hb:b=a
     · exact .inr ⟨_,_,if_pos hb⟩
     · exact .inl (if_neg hb)
   · by_cases hb:b=a
     · have z':=(if_pos hb).symm.trans z
       cases z'
       subst hb
       exact ⟨ha,by rw [List.length_map];exact hl,vs,_,rv,ha⟩
     · have z':=(if_neg hb).symm.trans z
       cases z'
   · by_cases hb:b=a
     · exact hb
     · exact absurd (if_neg hb) z
theorem walk_of {l:PySem.W.OpenLaw} {n k:Nat} {q:Program} {loose:List Str} {XP:(Str→Option Value)→Heap→Prop} {YP:World→Heap→Prop} {d:DefRec} {K:Params→PySem.W.Frag} {CX:World→CXT} {sp:World→Sp} {x:Str}
 (hn:l.most=some n) (hn2:n≤sizeLine) (hdf:d.params.defaults=[]) (hr:Room k callerA)
 (hY:∀ (w:World) (h:Heap),YP w h→(K w.params).In h)
 (F:∀ (w:World) (mg:Str→Option Value) (fa:Addr) (h:Heap),(K w.params).In h→h.Ns mainGlobals mg→mg d.name=some (.ref fa) →
   ∃ fd:FuncData,(∀ (s:Shared) (u:Value),BindsTo s fd ⟨[u],[]⟩ [(x,u)]) ∧
     ∀ base:Heap,(K w.params).In base→base.Ns mainGlobals mg→FnOk l.prog w (K w.params) mg base (CX w) k fa fd [x] (sp w))
 (hsp:∀ (w:World) (H:Hp) (a:Addr) (ns:List Int),ns.length≤n→Only H→SqL (K w.params) H a (ns.map V.int)→sp w [.ref a] H (fun v _=>v=.bl true) fun _ _ _=>False)
 (hCX:∀ (w:World) (H:Hp) (s:Shared) (e:Value) (s':Shared),CX w [] H s (fun _ _ _=>False) e s'→False) :
 PySem.W.WalkO q loose XP YP l.row.toRowW d [] (fun f vs=>PySem.call f vs):=by
 refine Att.attach_call hn hdf fun w s₀ s₁ mg mb fa o pm cd doc a vs ns G Y ho hd hcd hmg hobj hints hlen hg=>?_
 have KX:=hY w _ Y
 obtain ⟨fd,hb,hF⟩:=F w mg fa _ KX G.T.g hmg
 exact law_call KX G.T.g G.T.b G.T.builtins G.T.nolimit hg hobj hints (Nat.le_trans hlen hn2) hr hF hb (fun H hO hS=>hsp w H a ns hlen hO hS) fun H e s'=>hCX w H s₁ e s'
end L2
/- THE LAST THEOREM (shape;LID,My.* are yours):
   My.Adr: a structure of the addresses that your layer names (classes,functions);My.Txt K t: a structure (Prop) of the equations over K;
   My.txt_mk:{K} {implicit addresses ..} (e1:nsIn K mainGlobals "law" = some (some (.ref f))) (e2:K.lookup f=some ⟨oc,od,.func (fnOf "law" "law" params body scope dV kV doc pm an cdv ct),sl⟩) (e3:codeIn K cdv "law" = true) .. : ∃ t,My.Txt K t
(the tactic k_is has no namespace: write k_is) -/
namespace L2
open PySem PySem.Spec PyProof.Rows
def defArgs (s:Stmt):Arguments:=match s with
 | .FunctionDef _ a _ _ _ _ _ _ _ _=>a
 | _=>{ posonlyargs:=[],args:=[],vararg:=none,kwonlyargs:=[],kw_defaults:=[],kwarg:=none,defaults:=[] }
def defBody (s:Stmt):List Stmt:=match s with
 | .FunctionDef _ _ b _ _ _ _ _ _ _=>b
 | _=>[]
def defScope (s:Stmt):Scope:=match s with
 | .FunctionDef _ _ _ _ _ _ sc _ _ _=>sc
 | _=>{ kind:=.function,names:=[],isGenerator:=false,isCoroutine:=false }
abbrev CX0:CXT:=fun _ _ _ _ _ _=>False
abbrev E0:XK:=fun _ _ _=>False
theorem pass0 {X:Cx}:Passes CX0 X E0:=fun _ _ _ _ _ _ _ h=>h.elim
structure Fun (K:PySem.W.Frag) (x qual:Str) (st:Stmt) (f:Addr) (fd:FuncData):Prop where
 ex:∃ (oc:Value) (od:Option Addr) (kV doc pm:Value) (an:Option Addr) (cdv ct:Value) (osl:Array (Option Value)),
  fd=PySem.W.fnOf x qual (defArgs st) (defBody st) (defScope st) .none kV doc pm an cdv ct∧K.lookup f=some ⟨oc,od,.func fd,osl⟩∧PySem.W.codeIn K cdv qual=true
 kp:PySem.W.keepIn K (.ref f)=true
section
variable {P:Program} {w:World} {K:PySem.W.Frag} {mg:Str→Option Value} {base:Heap}
theorem Fun.ok {x qual:Str} {st:Stmt} {f:Addr} {fd:FuncData} {N ps:List Str} {k:Nat} {sp:Sp} (F:Fun K x qual st f fd) (S:FnScope N ps (defScope st)) (len:∀ vs H Q E,sp vs H Q E→vs.length=ps.length)
 (hbody:∀ (cdv:Value) (A:Around) (outer:List Env) (s:Shared) (H:Hp) (vs:List V) (Q:VK) (E:XK),Room k (A.deeper (envOfC qual (defScope st) s.heap.objs.size f cdv))→sp vs H Q E →
   ∃ t,PSs (cxOf CX0 P w K mg base N qual (defScope st) f cdv A outer s H E).nox (defBody st) t∧t { nx:=fun _ H'=>Q .non H',rt:=Q } (start N vs) H):FnOk P w K mg base CX0 (k+1) f fd ps sp:=by
 obtain ⟨oc,od,kV,doc,pm,an,cdv,ct,osl,rfl,lk,hcd⟩:=F.ex
 refine fn_of lk hcd S len fun A outer s H vs Q E hr hsp=>?_
 obtain ⟨t,h,q⟩:=hbody cdv A outer s H vs Q E hr hsp
 exact ⟨t,h.nox,q⟩
theorem Fun.okz {x qual:Str} {st:Stmt} {f:Addr} {fd:FuncData} {N ps:List Str} {k:Nat} {sp:Sp} (F:Fun K x qual st f fd) (S:FnScope N ps (defScope st)) (len:∀ vs H Q E,sp vs H Q E→vs.length=ps.length)
 (hbody:∀ (cdv:Value) (A:Around) (outer:List Env) (s:Shared) (H:Hp) (vs:List V) (Q:VK) (E:XK),Room k (A.deeper (envOfC qual (defScope st) s.heap.objs.size f cdv))→sp vs H Q E →
   ∃ t,ZSs (cxOf CX0 P w K mg base N qual (defScope st) f cdv A outer s H E).nox (defBody st) t∧t { nx:=fun _ H'=>Q .non H',rt:=Q } (start N vs) H):FnOk P w K mg base CX0 (k+1) f fd ps sp:=
 F.ok S len fun cdv A outer s H vs Q E hr h=>let ⟨t,h1,h2⟩:=hbody cdv A outer s H vs Q E hr h;⟨t,h1.p,h2⟩
theorem Fun.binds {x qual:Str} {st:Stmt} {f:Addr} {fd:FuncData} {ps:List Str} (F:Fun K x qual st f fd)
 (h:∀ (kV doc pm:Value) (an:Option Addr) (cdv ct:Value) (us:List Value),us.length=ps.length→bindArgs (PySem.W.fnOf x qual (defArgs st) (defBody st) (defScope st) .none kV doc pm an cdv ct) ⟨us,[]⟩=pure (ps.zip us)):Binds K fd ps []:=by
 obtain ⟨oc,od,kV,doc,pm,an,cdv,ct,osl,rfl,lk,hcd⟩:=F.ex
 exact .all (h kV doc pm an cdv ct)
theorem fun_mk {x qual:Str} {st:Stmt} {f:Addr} {oc:Value} {od an:Option Addr} {osl:Array (Option Value)} {kV doc pm cdv ct:Value} (l:K.lookup f=some ⟨oc,od,.func (PySem.W.fnOf x qual (defArgs st) (defBody st) (defScope st) .none kV doc pm an cdv ct),osl⟩)
 (c:PySem.W.codeIn K cdv qual=true) (k:PySem.W.keepIn K (.ref f)=true):Fun K x qual st f (PySem.W.fnOf x qual (defArgs st) (defBody st) (defScope st) .none kV doc pm an cdv ct):=⟨⟨oc,od,kV,doc,pm,an,cdv,ct,osl,rfl,l,c⟩,k⟩
end
theorem small1000 {n:Nat} (h:n≤1000):n<sizeLine:=Nat.lt_of_le_of_lt h (by decide)
theorem iteF {A B:Prop} (h:B):if false=true then A else B:=by
 rw [if_neg Bool.false_ne_true]
 exact h
theorem iteT {A B:Prop} (h:A):if true=true then A else B:=by
 rw [if_pos rfl]
 exact h
def Same (H H':Hp):Prop:=∀ b o,H b=some o→H' b=some o
theorem Same.refl (H:Hp):Same H H:=fun _ _ h=>h
theorem Same.trans {H H1 H2:Hp} (a:Same H H1) (b:Same H1 H2):Same H H2:=fun c o h=>b c o (a c o h)
end L2
set_option maxHeartbeats 4000000
namespace L2
open PySem PySem.Spec PyProof.Rows
def clsOf (env:Env):List (Str×NameKind)→List (Str×Addr)→List (Str×Addr)
 | [],cs=>cs
 | y::r,cs=>clsOf env r (if (y.2 == .free)=true then (y.1,(env.cells.lookup y.1).getD 0)::cs else cs)
theorem closure_ok {env:Env} {scope:Scope} (h:∀ y∈scope.names,y.2=.free→∃ c,env.cells.lookup y.1=some c):closureFor scope env=pure (clsOf env scope.names []):=by
 simp only [closureFor]
 generalize scope.names=ns at h
 have go:∀ (ns:List (Str×NameKind)) (cs:List (Str×Addr)),(∀ y∈ns,y.2=.free→∃ c,env.cells.lookup y.1=some c) →
  (forIn ns cs fun (x:Str×NameKind) (r:List (Str×Addr))=>(if (x.2 == NameKind.free)=true then do let a ← cellOf env x.1;pure (ForInStep.yield ((x.1,a)::r)) else pure (ForInStep.yield r):Sem (ForInStep (List (Str×Addr)))))=(pure (clsOf env ns cs):Sem (List (Str×Addr))):=by
  intro ns
  induction ns with
  | nil=>intro cs _;rfl
  | cons y r ih=>
    intro cs hy
    rw [List.forIn_cons]
    have hr:=fun z hz=>hy z (List.mem_cons_of_mem _ hz)
    by_cases hf:(y.2 == NameKind.free)=true
    · obtain ⟨c,hc⟩:=hy y List.mem_cons_self (by simpa using hf)
      have e:cellOf env y.1=pure c:=by unfold cellOf;rw [hc]
      rw [if_pos hf,e]
      refine Eq.trans (ih ((y.1,c)::cs) hr) (congrArg pure ?_)
      show _=clsOf env r (if (y.2 == .free)=true then (y.1,(env.cells.lookup y.1).getD 0)::cs else cs)
      rw [if_pos hf,hc]
      rfl
    · rw [if_neg hf]
      refine Eq.trans (ih cs hr) (congrArg pure ?_)
      show _=clsOf env r (if (y.2 == .free)=true then (y.1,(env.cells.lookup y.1).getD 0)::cs else cs)
      rw [if_neg hf]
 have e:=go ns [] h
 exact (congrArg (fun (t:Sem (List (Str×Addr)))=>t >>= fun cs=>pure cs) e).trans rfl
theorem clsOf_look {env:Env}:∀ (ns:List (Str×NameKind)) (cs:List (Str×Addr)),(∀ y∈ns,y.2=.free→∃ c,env.cells.lookup y.1=some c)→(∀ n c,cs.lookup n=some c→env.cells.lookup n=some c) →
 ∀ n c,(clsOf env ns cs).lookup n=some c→env.cells.lookup n=some c
 | [],cs,_,hc=>hc
 | y::r,cs,hy,hc=>by
   refine clsOf_look r _ (fun z hz=>hy z (List.mem_cons_of_mem _ hz)) fun n c e=>?_
   by_cases hf:(y.2 == NameKind.free)=true
   · rw [if_pos hf,List.lookup_cons] at e
     obtain ⟨c',hc'⟩:=hy y List.mem_cons_self (by simpa using hf)
     cases hn:n == y.1 with
     | true=>
       rw [hn] at e
       have en:n=y.1:=by simpa using hn
       rw [hc'] at e
       rw [en,hc']
       exact e
     | false=>rw [hn] at e;exact hc n c e
   · rw [if_neg hf] at e
     exact hc n c e
theorem clsOf_has {env:Env}:∀ (ns:List (Str×NameKind)) (cs:List (Str×Addr)) (n:Str),((n,NameKind.free)∈ns∨∃ c,cs.lookup n=some c)→∃ c,(clsOf env ns cs).lookup n=some c
 | [],cs,n,h=>by
   rcases h with h | h
   · cases h
   · exact h
 | y::r,cs,n,h=>by
   refine clsOf_has r _ n ?_
   rcases h with h | ⟨c,h⟩
   · rcases List.mem_cons.mp h with e | h
     · refine .inr ⟨(env.cells.lookup n).getD 0,?_⟩
       have e2:y.2=.free:=by rw [← e]
       have e1:y.1=n:=by rw [← e]
       rw [if_pos (by rw [e2];rfl),e1,List.lookup_cons]
       simp
     · exact .inl h
   · refine .inr ?_
     by_cases hf:(y.2 == NameKind.free)=true
     · rw [if_pos hf,List.lookup_cons]
       cases hn:n == y.1 with
       | true=>exact ⟨_,rfl⟩
       | false=>exact ⟨c,h⟩
     · rw [if_neg hf];exact ⟨c,h⟩
def rlOf (env:Env) (y:Str×NameKind):Str×NameKind:=if (y.2 == NameKind.free&&env.scope.kind == .function&&env.kindOf y.1 == some .cell)=true then (y.1,NameKind.cell) else (y.1,y.2)
theorem rl_look {env:Env}:∀ {names:List (Str×NameKind)} {x:Str} {k':NameKind},(names.map (rlOf env)).lookup x=some k' →
 ∃ k,(x,k)∈names∧names.lookup x=some k∧(k'=k∨(k=.free∧k'=.cell))
 | [],_,_,h=>by simp at h
 | (n,k)::r,x,k',h=>by
   have ih:=@rl_look env r x k'
   rw [List.map_cons] at h
   unfold rlOf at h
   dsimp only at h
   cases hx:x == n with
   | true=>
     have en:x=n:=by simpa using hx
     refine ⟨k,by rw [en];exact List.mem_cons_self,by simp [List.lookup_cons,hx],?_⟩
     by_cases hc:(k == NameKind.free&&env.scope.kind == .function&&env.kindOf n == some .cell)=true
     · rw [if_pos hc,List.lookup_cons,hx] at h
       have hk:k=.free:=by
        have:=(Bool.and_eq_true_iff.mp (Bool.and_eq_true_iff.mp hc).1).1
        simpa using this
       exact .inr ⟨hk,by cases h;rfl⟩
     · rw [if_neg hc,List.lookup_cons,hx] at h
       exact .inl (by cases h;rfl)
   | false=>
     have h':(r.map (rlOf env)).lookup x=some k':=by
      by_cases hc:(k == NameKind.free&&env.scope.kind == .function&&env.kindOf n == some .cell)=true
      · rw [if_pos hc,List.lookup_cons,hx] at h;exact h
      · rw [if_neg hc,List.lookup_cons,hx] at h;exact h
     obtain ⟨k,h1,h2,h3⟩:=ih h'
     exact ⟨k,List.mem_cons_of_mem _ h1,by rw [List.lookup_cons,hx];exact h2,h3⟩
theorem rl_has {env:Env}:∀ {names:List (Str×NameKind)} {x:Str} {k:NameKind},names.lookup x=some k→∃ k',(names.map (rlOf env)).lookup x=some k'
 | [],_,_,h=>by simp at h
 | (n,k0)::r,x,k,h=>by
   have ih:=@rl_has env r x k
   rw [List.map_cons]
   have e1:(rlOf env (n,k0)).1=n:=by unfold rlOf;split <;> rfl
   have e0:rlOf env (n,k0)=(n,(rlOf env (n,k0)).2):=by rw [Prod.ext_iff];exact ⟨e1,rfl⟩
   rw [e0,List.lookup_cons]
   cases hx:x == n with
   | true=>exact ⟨_,rfl⟩
   | false=>
     rw [List.lookup_cons,hx] at h
     exact ih h
def cmpX (X:Cx) (nv:List Str) (ix:List (Str×Nat)) (scope:Scope) (C:Addr) (s₀:Shared) (H₀:Hp) (fp:List Addr):Cx:=
 { X with N:=nv++ix.map (·.1),s₀:=s₀,H₀:=H₀,env:=compEnvC scope (clsOf X.env scope.names []) C X.env,outer:=X.stack,stack:=X.stack,ex:=fp,fn:=fun _=>false,pn:=[],xe:=fun _ _=>False }
def frV (σ:St) (ix:List (Str×Nat)):St:=ix.map fun p=>(σ[p.2]?).join
def st0 (nv:List Str) (ix:List (Str×Nat)) (σ:St):St:=nv.map (fun _=>none)++frV σ ix
structure CompOk (X:Cx) (nv:List Str) (ix:List (Str×Nat)) (scope:Scope):Prop where
 kind:scope.kind=.function
 nocell:∀ y∈scope.names,y.2≠.cell
 names:∀ y∈scope.names,y.2=.local→scope.names.lookup y.1=some .local
 free:(scope.names.all fun y=>!(y.2 == NameKind.free)||(X.env.kindOf y.1 == some NameKind.cell||X.env.kindOf y.1 == some NameKind.free))=true
 ix:(ix.all fun p=>(scope.names.lookup p.1 == some NameKind.free)&&(X.N[p.2]? == some p.1))=true
section
variable {X:Cx} {nv:List Str} {ix:List (Str×Nat)} {scope:Scope} {pins:List (Addr×Obj)} {σ:St} {H:Hp} {s:Shared}
theorem CompOk.fk (co:CompOk X nv ix scope) {y:Str×NameKind} (hy:y∈scope.names) (hf:y.2=.free):X.env.kindOf y.1=some .cell∨X.env.kindOf y.1=some .free:=by
 have q:=List.all_eq_true.mp co.free y hy
 rw [hf] at q
 simpa using q
theorem CompOk.cells (co:CompOk X nv ix scope) (ok:X.Ok):∀ y∈scope.names,y.2=.free→∃ c,X.env.cells.lookup y.1=some c:=fun y hy hf=>ok.has y.1 (co.fk hy hf)
theorem CompOk.look (co:CompOk X nv ix scope) (ok:X.Ok) {n:Str} {c:Addr} (h:(clsOf X.env scope.names []).lookup n=some c):X.env.cells.lookup n=some c:=
 clsOf_look _ _ (co.cells ok) (fun _ _ e=>by cases e) n c h
theorem CompOk.ixp (co:CompOk X nv ix scope) {p:Str×Nat} (hp:p∈ix):scope.names.lookup p.1=some .free∧X.N[p.2]? = some p.1:=by
 have q:=Bool.and_eq_true_iff.mp (List.all_eq_true.mp co.ix p hp)
 exact ⟨by simpa using q.1,by simpa using q.2⟩
theorem lookup_mem {α:Type}:∀ {l:List (Str×α)} {n:Str} {k:α},l.lookup n=some k→(n,k)∈l
 | [],_,_,h=>by cases h
 | (m,j)::r,n,k,h=>by
   rw [List.lookup_cons] at h
   cases e:n == m with
   | true=>rw [e] at h;cases h;have:n=m:=by simpa using e
           rw [this];exact List.mem_cons_self
   | false=>rw [e] at h;exact List.mem_cons_of_mem _ (lookup_mem h)
theorem cmpX_ok (co:CompOk X nv ix scope) (I:Inv X pins σ H s) {fp:List Addr} {C:Addr} (hC:s.heap.objs.size≤C) (hf:∀ b∈fp,FpOk X pins H b) (hlt:∀ b∈fp,b<s.heap.objs.size):(cmpX X nv ix scope C s H fp).Ok where
 mod:=I.mod
 kind:=co.kind
 glob:=I.ok.glob
 blt:=I.ok.blt
 above:=hC
 inj:=fun x y c a b=>I.ok.inj x y c (co.look I.ok a) (co.look I.ok b)
 has:=fun x hk=>by
  have z:∃ k,(x,k)∈scope.names∧k=.free:=by
   rcases hk with hk | hk
   · obtain ⟨k,h1,_,h3⟩:=rl_look (env:=X.env) (names:=scope.names) hk
     rcases h3 with h3 | ⟨h3,_⟩
     · exact absurd h3.symm (co.nocell _ h1)
     · exact ⟨k,h1,h3⟩
   · obtain ⟨k,h1,_,h3⟩:=rl_look (env:=X.env) (names:=scope.names) hk
     rcases h3 with h3 | ⟨_,h3⟩
     · exact ⟨k,h1,h3.symm⟩
     · cases h3
  obtain ⟨k,h1,rfl⟩:=z
  exact clsOf_has _ _ x (.inl h1)
 cab:=fun x c h _=>by cases h
 hd:=I.ok.hd
 frames:=I.ok.frames
 stk:=.inl rfl
 exf:=fun b hb=>⟨Nat.ne_of_lt (Nat.lt_of_lt_of_le (hlt b hb) hC),fun x c e=>(hf b hb).2.2.2.2.1 x c (co.look I.ok e)⟩
 bs:=fun b o e=>I.bs b o e
 bsz:=Nat.le_trans I.ok.bsz I.sz
 noex:=fun b o e hb=>by
  rcases (hf b hb).2.2.2.1 with z | z
  · exact I.ok.noex b o e z
  · exact absurd (Nat.lt_of_lt_of_le (Heap.lt_size e) (Nat.le_trans I.ok.bsz z)) (Nat.lt_irrefl _)
 exfs:=fun b hb hs=>by
  rcases List.mem_cons.mp (I.stkSub b hs) with e | h
  · exact (hf b hb).2.1 e
  · exact (hf b hb).2.2.1 h
 funs:=I.stack
 frf:=I.stkFree
abbrev lobj (its:List Value) (k:Nat):Obj:={ cls:=.type "list",data:=.seq its.toArray k }
theorem join_some {o:Option (Option V)} {v:V} (h:o.join=some v):o=some (some v):=by
 cases o with
 | none=>cases h
 | some o'=>exact congrArg some h
theorem cmp_start (co:CompOk X nv ix scope) (I:Inv X pins σ H s) {fp:List Addr} {h₁:Heap} {tk:Nat} {m:Str→Option Value} (hf:∀ b∈fp,FpOk X pins H b) (hlt:∀ b∈fp,b<s.heap.objs.size)
 (hn:h₁.Ns (s.heap.objs.size+1) m) (old:∀ b o,s.heap.get? b=some o→h₁.get? b=some o) (hD:h₁.get? s.heap.objs.size=some (lobj [] 0)) :
 Inv (cmpX X nv ix scope (s.heap.objs.size+1) s H fp) [(s.heap.objs.size,lobj [] 0)] (st0 nv ix σ) H { s with heap:=h₁,toks:=tk } where
 ok:=cmpX_ok co I (Nat.le_succ _) hf hlt
 os:=rfl
 bare:=I.bare
 base:=Un.kept old
 loc:=by
  refine ⟨m,hn,fun i x v e1 e2 hv=>?_⟩
  obtain ⟨m₀,_,hl⟩:=I.loc
  have e1':(nv++ix.map (·.1))[i]? = some x:=e1
  unfold st0 at e2
  by_cases hi:i<nv.length
  · rw [List.getElem?_append_left (by rw [List.length_map];exact hi),List.getElem?_map] at e2
    cases q:nv[i]? with
    | none=>rw [q] at e2;cases e2
    | some z=>rw [q] at e2;cases e2
  · have hi':nv.length≤i:=Nat.not_lt.mp hi
    rw [List.getElem?_append_right hi',List.getElem?_map] at e1'
    rw [List.getElem?_append_right (by rw [List.length_map];exact hi'),List.length_map] at e2
    unfold frV at e2
    rw [List.getElem?_map] at e2
    cases q:ix[i - nv.length]? with
    | none=>rw [q] at e1';cases e1'
    | some p=>
      rw [q] at e1' e2
      have hp:p∈ix:=List.mem_of_getElem? q
      have ex:p.1=x:=Option.some.inj e1'
      have ev:σ[p.2]? = some (some v):=join_some (Option.some.inj e2)
      obtain ⟨f1,f2⟩:=co.ixp hp
      have hk:=co.fk (lookup_mem f1) rfl
      obtain ⟨u,r,l⟩:=hl p.2 p.1 v f2 ev (hk.elim (fun z=>.inr (.inl z)) fun z=>.inr (.inr z))
      refine ⟨u,r,.inr ⟨?_,?_⟩⟩
      · obtain ⟨k',hk'⟩:=rl_has (env:=X.env) f1
        obtain ⟨k,h1,h2,h3⟩:=rl_look hk'
        rw [f1] at h2
        cases h2
        rw [← ex]
        rcases h3 with h3 | ⟨_,h3⟩
        · exact .inr (hk'.trans (congrArg some h3))
        · exact .inl (hk'.trans (congrArg some h3))
      · obtain ⟨c,hc⟩:=clsOf_has (env:=X.env) scope.names [] p.1 (.inl (lookup_mem f1))
        refine ⟨c,by rw [← ex];exact hc,?_⟩
        have hc':=co.look I.ok hc
        rcases l with ⟨z,_⟩ | ⟨_,c',z1,o,z2,z3⟩
        · have z':X.env.kindOf p.1=some .local:=z
          rcases hk with hk | hk
          · have hk':X.env.kindOf p.1=some .cell:=hk
            rw [z'] at hk';cases hk'
          · have hk':X.env.kindOf p.1=some .free:=hk
            rw [z'] at hk';cases hk'
        · rw [hc'] at z1
          cases z1
          exact ⟨o,old _ _ z2,z3⟩
 cell:=fun x c e=>by
  obtain ⟨v,o,h1,h2⟩:=I.cell x c (co.look I.ok e)
  exact ⟨v,o,old _ _ h1,h2⟩
 free:=I.hok.fresh (Nat.le_succ _)
 freeC:=fun x c e=>I.freeC x c (co.look I.ok e)
 pin:=fun p hp=>by
  have e:p=(s.heap.objs.size,lobj [] 0):=by simpa [cmpX] using hp
  subst e
  refine ⟨hD,I.hok.fresh (Nat.le_refl _),Nat.ne_of_lt (Nat.lt_succ_self _),fun hb=>?_,fun v z=>by cases z⟩
  rcases List.mem_cons.mp (I.stkSub _ hb) with e | h
  · exact absurd I.lt (by rw [← e];exact Nat.lt_irrefl _)
  · exact I.nofs (Nat.le_refl _) h
 hok:=I.hok.kept old
 len:=by
  show (nv.map (fun _=>none)++frV σ ix).length=(nv++ix.map (·.1)).length
  unfold frV
  simp
theorem Inv.track {D:Addr} {ys its:List _} {k:Nat} (I:Inv X pins σ H s) (rv:Vals ys its) (hz:ys.length≤sizeLine) (e:s.heap.get? D=some (lobj its k)) (hn:H D=none) (hd:FpOk X pins H D):Inv X pins σ (upd H D (.lst ys)) s:=by
 have nD:∀ b u,H b=some u→b≠D:=fun b u q z=>by rw [z,hn] at q;cases q
 obtain ⟨h1,h2,h3,h4,h5,h6⟩:=hd
 refine I.step (s:=s) (h':=s.heap) (g':=s.gens) (t':=s.toks) (d':=s.drawn) (ch:=[D]) (fun b hb=>?_) (fun b o _ _ _ q _=>q) (fun b o _ _ _ q _=>⟨o.slots,q⟩) (fun b o hb _ q=>?_) (fun b o _ q=>⟨o,q⟩)
  (fun b xs q=>by rw [upd_ne (nD b _ q)];exact q) (fun b o u q=>by rw [upd_ne (nD b _ q)];exact q) (fun b ps q=>⟨#[],by rw [upd_ne (nD b _ q),q];simp⟩) (fun m hm=>hm) (fun b u q=>?_) I.bare
 · have e:b=D:=by simpa using hb
   subst e
   exact ⟨h4,h2,h5,h6⟩
 · rw [upd_ne (fun z=>hb (by simp [z]))];exact q
 · by_cases hb:b=D
   · subst hb
     rw [upd_same] at q
     cases q
     exact ⟨hz,its,k,rv,e⟩
   · rw [upd_ne hb] at q
     exact (I.hok b u q).stay (fun c v _ r=>r) (fun c r=>by rw [upd_ne (nD c _ r)];exact r) fun c xs r=>by rw [upd_ne (nD c _ r)];exact r
theorem cmp_end {ps2:List (Addr×Obj)} {σ2:St} {H':Hp} {s':Shared} {fp:List Addr} {C:Addr} (I:Inv X pins σ H s) (hf:∀ b∈fp,FpOk X pins H b) (Ic:Inv (cmpX X nv ix scope C s H fp) ps2 σ2 H' s'):Inv X pins σ H' s':=
 I.call' (ch:=fp) Ic.os Ic.base Ic.hok Ic.bare fun b hb=>⟨(hf b hb).2.2.2.1,(hf b hb).2.1,(hf b hb).2.2.2.2.1,(hf b hb).2.2.2.2.2⟩
def PIf (X:Cx) (ifs:List Expr) (t:TT):Prop:=
 ∀ (pins:List (Addr×Obj)) (s:Shared) (σ:St) (H:Hp) (Q:Bool→Hp→Prop),Inv X pins σ H s→t σ H Q →
   wpAny (model X.prog X.w) X.A (forIn ifs true fun c r=>if r=true then do let ok ← isTrue c X.env (eval c X.env);pure (ForInStep.yield ok) else pure (ForInStep.yield r)) (TP X pins σ Q) X.xe s
@[irreducible] def ZIf (X:Cx) (ifs:List Expr) (t:TT):Prop:=PIf X ifs t
def tYes:TT:=fun _ H Q=>Q true H
theorem pif_nil:PIf X [] tYes:=fun _ _ _ H _ I h=>wpAny_tests_nil ⟨H,I,h⟩
theorem zif_nil:ZIf X [] tYes:=by with_unfolding_all exact pif_nil
theorem pif_one {c:Expr} {t:TT} (h:PT X c t):PIf X [c] t:=fun pins s σ H Q I q=>wpAny_tests_one (h pins s σ H Q I q)
theorem zif_one {c:Expr} {t:TT} (h:ZT X c t):ZIf X [c] t:=by with_unfolding_all exact pif_one h
end
section
variable {prog:Program} {w:World} {A:Around} {E:Value→Shared→Prop} {R:Result→Shared→Prop} {s:Shared}
theorem compLoop_go {elt target iter:Expr} {ifs:List Expr} {scope:Scope} {pos:Pos} {it acc:Value} {env:Env} (I:Nat→Shared→Prop)
 (turn:∀ n s,I n s→wpAny (model prog w) A (pyNext it) (fun r s₁=>match r with
   | none=>R (.ok .next) s₁
   | some v=>wpAny (model prog w) A (letOwnedTupleGo target it v) (fun _ s₁'=>wpAny (model prog w) A (assign target env v) (fun _ s₂=>
    wpAny (model prog w) A (forIn ifs true fun c r=>if r=true then do let ok ← isTrue c env (eval c env);pure (ForInStep.yield ok) else pure (ForInStep.yield r)) (fun ok s₃=>
     if ok=true then wpAny (model prog w) A (eval elt env) (fun x s₄=>
      wpAny (model prog w) A (call (.builtin "list.append") [acc,x]) (fun _ s₅=>∃ m,m<n∧I m s₅) (fun _ _=>False) s₄) (fun _ _=>False) s₃
     else ∃ m,m<n∧I m s₃) (fun _ _=>False) s₂) (fun _ _=>False) s₁') (fun _ _=>False) s₁) (fun _ _=>False) s)
 (n:Nat) (h:I n s) :
 codeAny (model prog w) A (.compLoop (.ListComp elt [⟨target,iter,ifs,0⟩] scope pos) 0 it acc env) R s:=by
 refine codeAny_loop rfl I (fun n s hI=>?_) n h
 show wpAny _ A ((compTurn (.ListComp elt [⟨target,iter,ifs,0⟩] scope pos) 0 it acc env).onRaise (fun x=>do noteFrame x env;theTreesLotGoes x)) _ _ s
 refine wpAny_noted ?_
 rw [compTurn_list]
 refine wpAny_bind (wpAny_standAt (wpAny_bind (wpAny_mono (turn n s hI) (fun r s₁ h₁=>?_) fun _ _ h'=>h'.elim)))
 cases r with
 | none=>exact wpAny_pure h₁
 | some v=>
   refine wpAny_bind (wpAny_mono h₁ (fun _ s₁' h₁'=>?_) fun _ _ h'=>h'.elim)
   refine wpAny_bind (wpAny_mono h₁' (fun _ s₂ h₂=>wpAny_bind (wpAny_mono h₂ (fun ok s₃ h₃=>?_) fun _ _ h'=>h'.elim)) fun _ _ h'=>h'.elim)
   cases ok with
   | false=>exact wpAny_pure ⟨rfl,h₃⟩
   | true=>
     exact wpAny_bind (wpAny_bind (wpAny_mono h₃ (fun x s₄ h₄=>wpAny_bind (wpAny_mono h₄ (fun _ s₅ h₅=>wpAny_pure (wpAny_pure ⟨rfl,h₅⟩)) fun _ _ h'=>h'.elim)) fun _ _ h'=>h'.elim))
end
section
variable {X:Cx} {nv:List Str} {ix:List (Str×Nat)} {scope:Scope} {pins:List (Addr×Obj)} {σ:St} {H:Hp} {s:Shared} {elt tg iter:Expr} {ifs:List Expr} {pos:Pos}
def Kp (σ σ2:St):Prop:=σ.length=σ2.length∧∀ (i:Nat) v,σ[i]? = some (some v)→σ2[i]? = some (some v)
def KpG (nv:List Str) (g:TG):Prop:=∀ (fr:St) (v:V) (H:Hp) (Q:St→Hp→Prop),g v (nv.map (fun _=>none)++fr) H Q→g v (nv.map (fun _=>none)++fr) H fun σ2 H2=>Kp (nv.map (fun _=>none)++fr) σ2∧Q σ2 H2
theorem kpg_name {x:Str}:KpG [x] (gName 0):=fun fr v H Q h=>by
 refine ⟨⟨by simp,fun i w e=>?_⟩,h⟩
 cases i with
 | zero=>cases e
 | succ i=>exact e
def CmpW (nv:List Str) (ix:List (Str×Nat)) (g:TG) (ti:TT) (te:TE) (σ:St) (J:It) (Fin:List V→Hp→Prop) (H1:Hp):Prop:=
 ∃ W:Nat→Nat→List V→Hp→Prop,(∃ m,W 0 m [] H1)∧∀ i m ys H,W i m ys H →
   (J.stop i H∧Fin ys H)∨(J.go i H∧ys.length<sizeLine∧∃ N:List V→Hp→Prop,(∀ ys' H',N ys' H'→∃ m',m' < m∧W (i+1) m' ys' H') ∧
     ∀ x H',J.yld i H x H'→g x (st0 nv ix σ) H' fun σ2 H2=>ti σ2 H2 fun b H3=>if b=true then te σ2 H3 fun y H4=>N (ys++[y]) H4 else N ys H3)
theorem comp_run {J:It} {fp:List Addr} {it:Addr} {tn:Nat→Heap→Prop} {g:TG} {ti:TT} {te:TE} {Fin:List V→Hp→Prop} {E:Value→Shared→Prop} {RR:Value→Addr→Result→Shared→Prop}
 (co:CompOk X nv ix scope) (hc:X.calm=true) (I:Inv X pins σ H s) (T:Turn X.prog X.w X.K tg J fp it tn) (st:tn 0 s.heap) (hf:∀ b∈fp,FpOk X pins H b)
 (kg:KpG nv g) (hg:∀ C s₀ H₀ fp,PG (cmpX X nv ix scope C s₀ H₀ fp) tg g) (hi:∀ C s₀ H₀ fp,PIf (cmpX X nv ix scope C s₀ H₀ fp) ifs ti) (he:∀ C s₀ H₀ fp,PE (cmpX X nv ix scope C s₀ H₀ fp) elt te)
 (q:CmpW nv ix g ti te σ J Fin H)
 (fin:∀ D C s' H' ys,Inv X pins σ (upd H' D (.lst ys)) s'→H' D=none→Fin ys H'→(∃ m,s'.heap.Ns C m)→FpOk X pins (upd H' D (.lst ys)) C→RR (.ref D) C (.ok .next) s') :
 wpAny (model X.prog X.w) X.A (newList []) (fun acc s₃=>wpAny (model X.prog X.w) X.A (newFunctionEnv scope X.env.globals (clsOf X.env scope.names []) [] X.env.qual none .none (some X.env)) (fun cenv s₄=>
  codeAny (model X.prog X.w) X.A (.compStart (.ListComp elt [⟨tg,iter,ifs,0⟩] scope pos) 0 (.ref it) acc { cenv with scope:=relabel scope X.env }) (RR acc cenv.locals) s₄) E s₃) E s:=by
 obtain ⟨W,⟨m0,w0⟩,turn⟩:=q
 refine wpAny_newObj_type (wpAny_newFunctionEnv co.nocell (by intro y hy;simp at hy) (fun h₁ hns₁ hsb₁=>?_) co.kind)
 dsimp only at hns₁ hsb₁ ⊢
 generalize hH2:s.heap.push { cls:=.type "list",dict:=none,data:=.seq ([]:List Value).toArray }=H2 at hns₁ hsb₁ ⊢
 have hC:H2.objs.size=s.heap.objs.size+1:=by rw [← hH2,Heap.size_push]
 rw [hC] at hns₁ hsb₁ ⊢
 have hDC:s.heap.objs.size≠s.heap.objs.size+1:=Nat.ne_of_lt (Nat.lt_succ_self _)
 have below:∀ b,b<s.heap.objs.size→b≠s.heap.objs.size+1∧b≠s.heap.objs.size:=fun b hb=>⟨Nat.ne_of_lt (Nat.lt_succ_of_lt hb),Nat.ne_of_lt hb⟩
 have old:∀ b o,s.heap.get? b=some o→h₁.get? b=some o:=fun b o e=>hsb₁.extBut b o (below b (Heap.lt_size e)).1 (Heap.get?_push_of_some _ (hH2▸Heap.get?_push_of_some _ e))
 have hacc:h₁.get? s.heap.objs.size=some (lobj [] 0):=hsb₁.extBut _ _ hDC (Heap.get?_push_of_some _ (hH2▸Heap.get?_push_size _ rfl))
 have hlt:∀ b∈fp,b<s.heap.objs.size:=fun b hb=>by
  obtain ⟨o,e,_⟩:=T.obj 0 _ st b hb
  exact Heap.lt_size e
 have I₁:=fun tk=>cmp_start (tk:=tk) co I hf hlt hns₁ old hacc
 have st₁:tn 0 h₁:=T.keep 0 _ _ st fun b _ o e=>old b o e
 have fpD:∀ {H':Hp},H' s.heap.objs.size=none→FpOk X pins H' s.heap.objs.size:=fun hn=>I.fpOk (Nat.le_refl _) hn
 have loop:∀ tk:Nat,codeAny (model X.prog X.w) X.A (.compLoop (.ListComp elt [⟨tg,iter,ifs,0⟩] scope pos) 0 (.ref it) (.ref s.heap.objs.size) (compEnvC scope (clsOf X.env scope.names []) (s.heap.objs.size+1) X.env))
  (RR (.ref s.heap.objs.size) (s.heap.objs.size+1)) { s with heap:=h₁,toks:=tk }:=by
  intro tk
  refine compLoop_go (fun n s'=>∃ i H' ys its k,Inv (cmpX X nv ix scope (s.heap.objs.size+1) s H fp) [(s.heap.objs.size,lobj its k)] (st0 nv ix σ) H' s'∧Vals ys its∧ys.length≤sizeLine∧tn i s'.heap∧(∀ b∈fp,H' b=none)∧W i n ys H')
   ?_ m0 ⟨0,H,[],[],0,I₁ tk,.nil,Nat.zero_le _,st₁,fun b hb=>(hf b hb).1,w0⟩
  rintro n s3 ⟨i,H3,ys,its,k,I3,rv,hz,st3,fr3,w3⟩
  have fpc:∀ {H':Hp} {its:List Value} {k:Nat},(∀ b∈fp,H' b=none)→∀ b∈fp,FpOk (cmpX X nv ix scope (s.heap.objs.size+1) s H fp) [(s.heap.objs.size,lobj its k)] H' b:=fun {H' its k} hn b hb=>by
   refine ⟨hn b hb,(below b (hlt b hb)).1,fun hs=>?_,.inl hb,fun x c e=>(hf b hb).2.2.2.2.1 x c (co.look I.ok e),fun p hp z=>?_⟩
   · rcases List.mem_cons.mp (I.stkSub b hs) with e | h
     · exact (hf b hb).2.1 e
     · exact (hf b hb).2.2.1 h
   · have e:p=(s.heap.objs.size,lobj its k):=by simpa [cmpX] using hp
     subst e
     exact (below b (hlt b hb)).2 z.symm
  have pD:=fun {ps:List (Addr×Obj)} {σ':St} {H':Hp} {s':Shared} (I':Inv (cmpX X nv ix scope (s.heap.objs.size+1) s H fp) ((s.heap.objs.size,lobj its k)::ps) σ' H' s')=>
   I'.pin (s.heap.objs.size,lobj its k) (List.mem_append_right _ List.mem_cons_self)
  rcases turn i n ys H3 w3 with ⟨stop,fin0⟩ | ⟨go,hlt',N,hN,step⟩
  · refine thn (T.done (cmpX X nv ix scope (s.heap.objs.size+1) s H fp) rfl rfl rfl hc i _ s3 _ H3 _ I3 (fpc fr3) st3 stop) fun r s4 ⟨hr,I4⟩=>?_
    subst hr
    obtain ⟨p1,p2,_⟩:=pD I4
    have I5:=(cmp_end I hf I4).track rv hz p1 p2 (fpD p2)
    obtain ⟨mC,hmC,_⟩:=I4.loc
    exact fin _ _ s4 H3 ys I5 p2 fin0 ⟨mC,hmC⟩ (I.fpOk (Nat.le_succ _) (by rw [upd_ne (Ne.symm hDC)];exact I4.free))
  · refine thn (T.item (cmpX X nv ix scope (s.heap.objs.size+1) s H fp) rfl rfl rfl hc i _ s3 _ H3 _ I3 (fpc fr3) st3 go) fun r s4 ⟨u,hr,h4⟩=>?_
    subst hr
    refine thn h4 fun _ s5 ⟨x,H5,I5,r5,y5,st5,fr5⟩=>?_
    have I5':=I5.pinned (fpc fr5) (T.obj _ _ st5)
    refine thn (hg _ _ _ _ _ s5 _ H5 x u _ I5' r5 (kg _ _ _ _ (step x H5 y5))) fun _ s6 ⟨σ6,H6,I6,kp,q6⟩=>?_
    refine thn (hi _ _ _ _ _ s6 σ6 H6 _ I6 q6) fun b s7 ⟨H7,I7,q7⟩=>?_
    have again:∀ {s7:Shared} {H7:Hp} {ys' its':List _} {k':Nat},Inv (cmpX X nv ix scope (s.heap.objs.size+1) s H fp) ([(s.heap.objs.size,lobj its' k')]++pinsAt fp s5.heap) σ6 H7 s7→Vals ys' its'→ys'.length≤sizeLine→N ys' H7 →
     ∃ m,m<n∧∃ i H' ys its k,Inv (cmpX X nv ix scope (s.heap.objs.size+1) s H fp) [(s.heap.objs.size,lobj its k)] (st0 nv ix σ) H' s7∧Vals ys its∧ys.length≤sizeLine∧tn i s7.heap∧(∀ b∈fp,H' b=none)∧W i m ys H':=fun {s7 H7 ys' its' k'} I8 rv' hz' n8=>by
     obtain ⟨m',hm,w8⟩:=hN _ _ n8
     have pn:=fun (b:Addr) (o:Obj) (hb:b∈fp) (e:s5.heap.get? b=some o)=>I8.pin (b,o) (List.mem_append_right _ (List.mem_append_right _ (mem_pinsAt hb e)))
     refine ⟨m',hm,i+1,H7,ys',its',k',(I8.unpinned).weak kp.1 kp.2,rv',hz',T.keep _ _ _ st5 fun b hb o e=>(pn b o hb e).1,fun b hb=>?_,w8⟩
     obtain ⟨o,e,d⟩:=T.obj _ _ st5 b hb
     exact (pn b o hb e).2.1
    cases b with
    | false=>
      rw [if_neg Bool.false_ne_true] at q7 ⊢
      exact again I7 rv hz q7
    | true=>
      rw [if_pos rfl] at q7 ⊢
      refine thn (he _ _ _ _ _ s7 σ6 H7 _ I7 q7) fun u8 s8 ⟨y,H8,I8,r8,q8⟩=>?_
      obtain ⟨p1,p2,p3,p4,p5⟩:=pD I8
      refine append_at (hsz:=by rw [List.size_toArray,← rv.length];exact Nat.le_of_lt hlt') p1 fun h9 hs9 hD9=>?_
      have I9:Inv (cmpX X nv ix scope (s.heap.objs.size+1) s H fp) (pinsAt fp s5.heap) σ6 H8 { s8 with heap:=h9 }:=by
       have Iu:Inv (cmpX X nv ix scope (s.heap.objs.size+1) s H fp) (pinsAt fp s5.heap) σ6 H8 s8:=I8.pins_of fun p hp=>I8.pin p (List.mem_append_right _ (List.mem_append_right _ hp))
       refine Iu.turned (t':=s8.toks) (it:=s.heap.objs.size) (fun b o hb e=>(hs9.2 b hb).trans e) p2 p3 (.inr (Nat.le_refl _)) (fun x c e z=>?_) fun p hp z=>?_
       · obtain ⟨v,o,e1,_⟩:=I.cell x c (co.look I.ok e)
         exact absurd (Heap.lt_size e1) (by rw [z];exact Nat.lt_irrefl _)
       · have hp':p∈pinsAt fp s5.heap:=by simpa [cmpX] using hp
         obtain ⟨hb,_⟩:=of_pinsAt hp'
         exact (below _ (hlt _ hb)).2 z
      have I10:Inv (cmpX X nv ix scope (s.heap.objs.size+1) s H fp) ([(s.heap.objs.size,lobj (its++[u8]) (k+1))]++pinsAt fp s5.heap) σ6 H8 { s8 with heap:=h9 }:=
       I9.pins_of fun p hp=>by
        rcases List.mem_append.mp hp with hp | hp
        · have e:p=(s.heap.objs.size,lobj (its++[u8]) (k+1)):=by simpa using hp
          subst e
          refine ⟨?_,p2,p3,p4,fun v z=>by cases z⟩
          rw [List.push_toArray] at hD9
          exact hD9
        · exact I9.pin p (List.mem_append_right _ hp)
      exact again I10 (rv.append (.cons r8 .nil)) (by rw [List.length_append,List.length_singleton];exact hlt') q8
 exact codeAny_compStart_list (loop _) (T.self _ 0 _ _ _ st₁ (loop _))
def tComp (nv:List Str) (ix:List (Str×Nat)) (wi:TI) (g:TG) (ti:TT) (te:TE):TE:=fun σ H Q=>wi σ H fun J H1=>CmpW nv ix g ti te σ J (fun ys H2=>∀ D,H2 D=none→Q (.ref D) (upd H2 D (.lst ys))) H1
theorem pe_comp {wi:TI} {g:TG} {ti:TT} {te:TE} (nv:List Str) (ix:List (Str×Nat)) (hc:X.calm=true) (co:CompOk X nv ix scope) (hit:PI X tg iter wi) (kg:KpG nv g) (hg:∀ C s₀ H₀ fp,PG (cmpX X nv ix scope C s₀ H₀ fp) tg g)
 (hi:∀ C s₀ H₀ fp,PIf (cmpX X nv ix scope C s₀ H₀ fp) ifs ti) (he:∀ C s₀ H₀ fp,PE (cmpX X nv ix scope C s₀ H₀ fp) elt te)
 (hs:∀ x,foldedSetIterable iter X.env x=pure x:=by intro _;rfl):PE X (.ListComp elt [⟨tg,iter,ifs,0⟩] scope pos) (tComp nv ix wi g ti te):=by
 intro pins s σ H Q I h
 rw [eval_ListComp]
 refine wpAny_comprehension_free (use:=none) rfl hs (closure_ok (co.cells I.ok)) co.kind co.names (thn (hit pins s σ H _ I h) fun v s1 h1=>thn h1 fun itv s2 h2=>?_)
 obtain ⟨it,fp,tn,J,H2,e,I2,T,st2,f2,q⟩:=h2
 subst e
 refine comp_run co hc I2 T st2 f2 kg hg hi he q fun D C s' H' ys I' hD fin ⟨m,hm⟩ hC=>?_
 obtain ⟨c0,c1,c2,c3,c4,c5⟩:=hC
 exact ⟨m,hm,fun h' hs'=>⟨.ref D,_,I'.turned (t':=s'.toks) (fun b o hb e=>(hs'.2 b hb).trans e) c0 c1 c3 c4 c5,rfl,fin D hD⟩⟩
theorem ze_comp {wi:TI} {g:TG} {ti:TT} {te:TE} (nv:List Str) (ix:List (Str×Nat)) (hc:X.calm=true) (co:CompOk X nv ix scope) (hit:ZI X tg iter wi) (kg:KpG nv g) (hg:∀ C s₀ H₀ fp,ZG (cmpX X nv ix scope C s₀ H₀ fp) tg g)
 (hi:∀ C s₀ H₀ fp,ZIf (cmpX X nv ix scope C s₀ H₀ fp) ifs ti) (he:∀ C s₀ H₀ fp,ZE (cmpX X nv ix scope C s₀ H₀ fp) elt te)
 (hs:∀ x,foldedSetIterable iter X.env x=pure x:=by intro _;rfl):ZE X (.ListComp elt [⟨tg,iter,ifs,0⟩] scope pos) (tComp nv ix wi g ti te):=by with_unfolding_all exact pe_comp nv ix hc co hit kg hg hi he hs
end
section
variable {nv:List Str} {ix:List (Str×Nat)} {σ:St} {H:Hp} {g:TG} {ti:TT} {te:TE} {Fin:List V→Hp→Prop} {K:PySem.W.Frag} {a:Addr} {xs:List V}
theorem cmp_list (Pv:Nat→List V→Hp→Prop) (h0:Pv 0 [] H) (hl:∀ i ys H,i≤xs.length→Pv i ys H→SqL K H a xs)
 (hs:∀ i x ys H,xs[i]? = some x→Pv i ys H→ys.length<sizeLine∧g x (st0 nv ix σ) H fun σ2 H2=>ti σ2 H2 fun b H3=>if b=true then te σ2 H3 fun y H4=>Pv (i+1) (ys++[y]) H4 else Pv (i+1) ys H3)
 (hd:∀ ys H,Pv xs.length ys H→Fin ys H):CmpW nv ix g ti te σ (Itl K a) Fin H:=by
 refine ⟨fun i m ys H=>m=xs.length - i∧i≤xs.length∧Pv i ys H,⟨xs.length,by simp,Nat.zero_le _,h0⟩,?_⟩
 rintro i m ys H ⟨rfl,hi,p⟩
 have q:=hl i ys H hi p
 by_cases hlt:i<xs.length
 · have e:=hs i xs[i] ys H (by simp [hlt]) p
   refine .inr ⟨⟨xs,xs[i],q,by simp [hlt]⟩,e.1,Pv (i+1),fun σ' H' p'=>⟨xs.length - (i+1),by omega,rfl,hlt,p'⟩,fun x H' y=>?_⟩
   obtain ⟨e',y⟩:=y
   subst e'
   exact (hs i x ys _ (y xs q) p).2
 · have e:i=xs.length:=by omega
   subst e
   exact .inl ⟨⟨xs,q,Nat.le_refl _⟩,hd ys H p⟩
theorem cmp_tup (Pv:Nat→List V→Hp→Prop) (h0:Pv 0 [] H) (hl:∀ i ys H,i≤xs.length→Pv i ys H→SqT K H a xs)
 (hs:∀ i x ys H,xs[i]? = some x→Pv i ys H→ys.length<sizeLine∧g x (st0 nv ix σ) H fun σ2 H2=>ti σ2 H2 fun b H3=>if b=true then te σ2 H3 fun y H4=>Pv (i+1) (ys++[y]) H4 else Pv (i+1) ys H3)
 (hd:∀ ys H,Pv xs.length ys H→Fin ys H):CmpW nv ix g ti te σ (Itt K a) Fin H:=by
 refine ⟨fun i m ys H=>m=xs.length - i∧i≤xs.length∧Pv i ys H,⟨xs.length,by simp,Nat.zero_le _,h0⟩,?_⟩
 rintro i m ys H ⟨rfl,hi,p⟩
 have q:=hl i ys H hi p
 by_cases hlt:i<xs.length
 · have e:=hs i xs[i] ys H (by simp [hlt]) p
   refine .inr ⟨⟨xs,xs[i],q,by simp [hlt]⟩,e.1,Pv (i+1),fun σ' H' p'=>⟨xs.length - (i+1),by omega,rfl,hlt,p'⟩,fun x H' y=>?_⟩
   obtain ⟨e',y⟩:=y
   subst e'
   exact (hs i x ys _ (y xs q) p).2
 · have e:i=xs.length:=by omega
   subst e
   exact .inl ⟨⟨xs,q,Nat.le_refl _⟩,hd ys H p⟩
theorem cmp_range {lo:Int} {n:Nat} (Pv:Nat→List V→Hp→Prop) (h0:Pv 0 [] H)
 (hs:∀ i ys H,i<n→Pv i ys H→ys.length<sizeLine∧g (.int (lo+i)) (st0 nv ix σ) H fun σ2 H2=>ti σ2 H2 fun b H3=>if b=true then te σ2 H3 fun y H4=>Pv (i+1) (ys++[y]) H4 else Pv (i+1) ys H3)
 (hd:∀ ys H,Pv n ys H→Fin ys H):CmpW nv ix g ti te σ (Itr lo n) Fin H:=by
 refine ⟨fun i m ys H=>m=n - i∧i≤n∧Pv i ys H,⟨n,by simp,Nat.zero_le _,h0⟩,?_⟩
 rintro i m ys H ⟨rfl,hi,p⟩
 by_cases hlt:i<n
 · refine .inr ⟨hlt,(hs i ys H hlt p).1,Pv (i+1),fun σ' H' p'=>⟨n - (i+1),by omega,rfl,hlt,p'⟩,fun x H' y=>?_⟩
   obtain ⟨e',y⟩:=y
   subst e' y
   exact (hs i ys _ hlt p).2
 · have e:i=n:=by omega
   subst e
   exact .inl ⟨Nat.le_refl _,hd ys H p⟩
end
theorem Same.new {H:Hp} {p:Addr} (h:H p=none) (o:HO):Same H (upd H p o):=fun b u q=>by rw [upd_ne (ne_of_none q h)];exact q
section
variable {X:Cx} {a b c:Expr} {ta tb tc:TE} {pos:Pos}
theorem op_mulB:OpR X (binaryOp .Mult) (rI (fun i j=>IntMulOk i j) fun i j=>.int (i*j)):=opI fun _ _ _ _ _ _ _ hc q=>mul_int q hc
end
section
variable {prog:Program} {w:World} {A:Around} {E:Value→Shared→Prop} {s:Shared}
theorem getItem_tuple_whole {t sl:Addr} {items:Array Value} {vl vu:Value} {lo hi:Option Int} {Q:Value→Shared→Prop} (ht:IsTup s.heap t items) (hs:s.heap.IsSliceOf sl vl vu .none) (pl:IsPart vl lo) (pu:IsPart vu hi)
 (hw:HT.sIx items.size 0 lo=0∧HT.sIx items.size items.size hi=items.size)
 (h:Q (.ref t) s):wpAny (model prog w) A (getItem (.ref t) (.ref sl)) Q E s:=by
 obtain ⟨os,hos,hcs,hds⟩:=id hs
 have hTs:s.TypeIs (.ref sl) "slice":=⟨os,hos,hcs⟩
 unfold getItem
 try with_reducible refine wpAny_holding ?_
 first | refine wpAny_bind (wpAny_pure ?_) | skip
 refine wpAny_bind (wpAny_sequenceKey ht.typeIs (by decide) ?_)
 refine wpAny_bind (wpAny_callSpecial?_slot (name:=Str.ofString "__getitem__") ht.typeIs PyProof.Rows.slot_tuple_getitem
  (wpAny_call_entry PyProof.Rows.slot_tuple_getitem ht.typeIs entry_tuple_getitem ?_ (args_tuple_getitem _ _)))
 show wpAny _ _ (Builtin.Tuple.tupleItemsOf (.ref t) >>= _) _ _ s
 refine wpAny_bind (tupleItemsOf_ ht ?_)
 refine wpAny_bind (wpAny_typeOf hTs ?_)
 rw [if_pos (by decide)]
 refine wpAny_bind (HT.sliceApplied_gen hs pl pu ?_)
 have hyes:((((HT.sIx items.size 0 lo:Nat):Int) == 0&&(1:Int) == 1&&(HT.sIx items.size items.size hi - HT.sIx items.size 0 lo) == items.size)=true):=by
  rw [hw.1,hw.2]
  simp
 show wpAny _ _ (if (((HT.sIx items.size 0 lo:Nat):Int) == 0&&(1:Int) == 1&&(HT.sIx items.size items.size hi - HT.sIx items.size 0 lo) == items.size)=true then _ else _) _ _ s
 rw [if_pos hyes]
 refine wpAny_bind (m:=Builtin.Tuple.tupleIsExact _) ?_
 unfold Builtin.Tuple.tupleIsExact
 refine wpAny_bind (wpAny_typeOf ht.typeIs (wpAny_pure ?_))
 rw [if_pos (by decide)]
 exact wpAny_bind (wpAny_rule (wpAny_pure ⟨_,rfl,wpAny_pure h⟩))
end
section
variable {X:Cx} {a b c:Expr} {ta tb tc:TE} {pos:Pos}
def rSlP (K:PySem.W.Frag):V→Option Int→Option Int→Hp→VK→Prop:=fun x lo hi H Q=>∃ a,x=.ref a∧((∃ xs,H a=some (.tup xs)∧∀ r H',Same H H'→H' r=some (.tup (cutV xs lo hi))→Q (.ref r) H') ∨
 ∃ xs,SqL K H a xs∧∀ p,H p=none→Q (.ref p) (upd H p (.lst (cutV xs lo hi))))
theorem sl_P:SlR X (rSlP X.K):=by
 intro pins s σ H x v vl vu lo hi sl Q I rx hs pl pu h
 obtain ⟨a,rfl,⟨xs,hx,q⟩ | ⟨xs,hx,q⟩⟩:=h
 · by_cases hw:HT.sIx xs.length 0 lo=0∧HT.sIx xs.length xs.length hi=xs.length
   · cases rx
     obtain ⟨its,r,ht,hz⟩:=I.tuple (SqT.of hx)
     have hlen:its.toArray.size=xs.length:=by rw [List.size_toArray];exact r.length.symm
     refine ⟨"tuple",_,PyProof.Rows.slot_tuple_getitem.lookup,ht.typeIs,?_⟩
     refine getItem_tuple_whole ht hs pl pu (by rw [hlen];exact hw) ⟨.ref a,H,I,rfl,q a H (Same.refl H) ?_⟩
     rw [hx]
     unfold cutV
     rw [hw.1,hw.2,List.drop_zero,Nat.sub_zero,List.take_of_length_le (Nat.le_refl _)]
   · exact sl_tup pins s σ H _ v vl vu lo hi sl Q I rx hs pl pu ⟨a,xs,rfl,SqT.of hx,hw,fun p hp=>q p _ (Same.new hp _) upd_same⟩
 · exact sl_list pins s σ H _ v vl vu lo hi sl Q I rx hs pl pu ⟨a,xs,rfl,hx,q⟩
theorem PE.imp {e:Expr} {t t':TE} (h:PE X e t) (i:∀ σ H Q,t' σ H Q→t σ H Q):PE X e t':=fun pins s σ H Q I q=>h pins s σ H Q I (i σ H Q q)
theorem OpR.imp {f:Value→Value→Sem Value} {r r':R2} (h:OpR X f r) (i:∀ x y H Q,r' x y H Q→r x y H Q):OpR X f r':=fun pins s σ H x y v u Q I rx ry q=>h pins s σ H x y v u Q I rx ry (i x y H Q q)
def tV (i:Nat):TE:=fun σ H Q=>match σ[i]? with | some (some v)=>Q v H | _=>False
theorem tV_var {i:Nat} (σ:St) (H:Hp) (Q:VK) (h:tV i σ H Q):tVar i σ H Q:=by
 unfold tV at h
 split at h
 · exact ⟨_,by assumption,h⟩
 · exact h.elim
theorem pn (i:Nat) {x:Str} {pos:Pos} (hN:X.N[i]? = some x:=by rfl) (hv:Vis X.env.scope x:=by first | exact Or.inl rfl | exact Or.inr (Or.inl rfl) | exact Or.inr (Or.inr rfl)) (hd:(x == ("__debug__" : Str))=false:=by decide)
 (hcd:(x == ("__classdict__" : Str))=false:=by decide):PE X (.Name x pos) (tV i):=(pe_var hN hv hd hcd).imp tV_var
theorem zn (i:Nat) {x:Str} {pos:Pos} (hN:X.N[i]? = some x:=by rfl) (hv:Vis X.env.scope x:=by first | exact Or.inl rfl | exact Or.inr (Or.inl rfl) | exact Or.inr (Or.inr rfl)) (hd:(x == ("__debug__" : Str))=false:=by decide)
 (hcd:(x == ("__classdict__" : Str))=false:=by decide):ZE X (.Name x pos) (tV i):=by with_unfolding_all exact pn i hN hv hd hcd
def rAddP (K:PySem.W.Frag):R2:=fun x y H Q=>match x,y with
 | .int i,.int j=>Q (.int (i+j)) H
 | .str i,.str j=>i.length+j.length≤sizeLine∧Q (.str (i++j)) H
 | .ref a,.ref b=>(∃ xs ys,H a=some (.lst xs)∧H b=some (.lst ys)∧xs.length+ys.length≤sizeLine∧∀ p,H p=none→Q (.ref p) (upd H p (.lst (xs++ys)))) ∨
  ∃ xs ys,H a=some (.tup xs)∧H b=some (.tup ys)∧xs.length+ys.length≤sizeLine∧∀ r H',Same H H'→H' r=some (.tup (xs++ys))→Q (.ref r) H'
 | _,_=>False
theorem op_catA':OpR X (binaryOp .Add) (fun x y H Q=>∃ a b xs ys,x=.ref a∧y=.ref b∧H a=some (.tup xs)∧H b=some (.tup ys)∧xs.length+ys.length≤sizeLine∧∀ r H',Same H H'→H' r=some (.tup (xs++ys))→Q (.ref r) H'):=by
 intro pins s σ H x y v u Q I rx ry h
 obtain ⟨a,b,xs,ys,rfl,rfl,ha,hb,hz,q⟩:=h
 by_cases hx:xs=[]
 · subst hx
   cases rx
   cases ry
   obtain ⟨its,r1,p1,_⟩:=I.tuple (SqT.of ha)
   obtain ⟨its2,r2,p2,_⟩:=I.tuple (SqT.of hb)
   cases r1
   obtain ⟨⟨cls,dd,data,sl⟩,ho,hc,n,hd⟩:=id p1
   obtain ⟨⟨cls2,dd2,data2,sl2⟩,ho2,hc2,n2,hd2⟩:=id p2
   simp only at hc hd hc2 hd2
   subst hc hd hc2 hd2
   exact concat_meets ⟨_,ho,rfl⟩ ⟨_,ho2,rfl⟩ noFill_tuple_add seq_tuple_add PySem.F.slot_tuple_add PySem.F.entry_tuple_add (PySem.F.args_tuple_add_2 _ _)
    (tuple_addW0 a b _ _ n n2 dd dd2 sl sl2 (by rfl)) ⟨ho,ho2,⟨.ref b,H,I,rfl,q b H (Same.refl H) hb⟩⟩
 · refine op_catT pins s σ H _ _ v u Q I rx ry ⟨a,b,xs,ys,rfl,rfl,SqT.of ha,SqT.of hb,hx,hz,fun e=>?_,fun e p hp=>?_⟩
   · subst e
     exact q a H (Same.refl H) (by rw [List.append_nil];exact ha)
   · exact q p _ (Same.new hp _) upd_same
theorem op_addP:OpR X (binaryOp .Add) (rAddP X.K):=by
 intro pins s σ H x y v u Q I rx ry h
 unfold rAddP at h
 split at h
 · exact op_add pins s σ H _ _ v u Q I rx ry ⟨_,_,rfl,rfl,h⟩
 · exact op_add_str pins s σ H _ _ v u Q I rx ry ⟨_,_,rfl,rfl,h⟩
 · rcases h with ⟨xs,ys,h1,h2,h3,q⟩ | ⟨xs,ys,h1,h2,h3,q⟩
   · exact op_cat pins s σ H _ _ v u Q I rx ry ⟨_,_,xs,ys,rfl,rfl,h1,h2,h3,q⟩
   · exact op_catA' pins s σ H _ _ v u Q I rx ry ⟨_,_,xs,ys,rfl,rfl,h1,h2,h3,q⟩
 · exact h.elim
def rP (C:Int→Int→Prop) (g:Int→Int→V):R2:=fun x y H Q=>match x,y with | .int i,.int j=>C i j∧Q (g i j) H | _,_=>False
def rP0 (g:Int→Int→V):R2:=fun x y H Q=>match x,y with | .int i,.int j=>Q (g i j) H | _,_=>False
theorem rP_rI {C:Int→Int→Prop} {g:Int→Int→V} (x y:V) (H:Hp) (Q:VK) (h:rP C g x y H Q):rI C g x y H Q:=by
 unfold rP at h
 split at h
 · exact ⟨_,_,rfl,rfl,h⟩
 · exact h.elim
theorem rP0_rI0 {g:Int→Int→V} (x y:V) (H:Hp) (Q:VK) (h:rP0 g x y H Q):rI0 g x y H Q:=by
 unfold rP0 at h
 split at h
 · exact ⟨_,_,rfl,rfl,h⟩
 · exact h.elim
theorem op_subP:OpR X (binaryOp .Sub) (rP0 fun i j=>.int (i - j)):=op_sub.imp rP0_rI0
theorem op_modP:OpR X (binaryOp .Mod) (rP (fun _ j=>0<j) fun i j=>.int (i % j)):=op_mod.imp rP_rI
theorem op_fdivP:OpR X (binaryOp .FloorDiv) (rP CDiv fun i j=>.int (i / j)):=op_fdiv.imp rP_rI
theorem op_powP:OpR X (binaryOp .Pow) (rP CPow fun i j=>.int (i ^ j.toNat)):=op_pow.imp rP_rI
theorem op_ltP:OpR X (compareOp .Lt) (rP0 fun i j=>.bl (decide (i<j))):=op_lt.imp rP0_rI0
theorem op_leP:OpR X (compareOp .LtE) (rP0 fun i j=>.bl (decide (i≤j))):=op_le.imp rP0_rI0
theorem op_gtP:OpR X (compareOp .Gt) (rP0 fun i j=>.bl (decide (j<i))):=op_gt.imp rP0_rI0
theorem op_geP:OpR X (compareOp .GtE) (rP0 fun i j=>.bl (decide (j≤i))):=op_ge.imp rP0_rI0
def rIsP (neg:Bool):R2:=fun x y H Q=>match y with
 | .non=>Q (.bl (if neg then !decide (x=y) else decide (x=y))) H
 | .bl _=>match x with
   | .flt _=>False
   | .byt _=>False
   | .ty _=>False
   | _=>Q (.bl (if neg then !decide (x=y) else decide (x=y))) H
 | _=>False
end
mutual
inductive DatV (H:Hp):V→PyData→Prop where
 | non:DatV H .non .none
 | bl (b:Bool):DatV H (.bl b) (.bool b)
 | int (i:Int):DatV H (.int i) (.int i)
 | str (x:Str):DatV H (.str x) (.str x)
 | lst {a:Addr} {xs:List V} {ds:List PyData} (e:H a=some (.lst xs)) (r:DatAll H xs ds):DatV H (.ref a) (.list ds)
 | tup {a:Addr} {xs:List V} {ds:List PyData} (e:H a=some (.tup xs)) (r:DatAll H xs ds):DatV H (.ref a) (.tuple ds)
inductive DatAll (H:Hp):List V→List PyData→Prop where
 | nil:DatAll H [] []
 | cons {x:V} {d:PyData} {xs:List V} {ds:List PyData} (h:DatV H x d) (r:DatAll H xs ds):DatAll H (x::xs) (d::ds)
end
theorem DatAll.ints {H:Hp}:∀ ns:List Int,DatAll H (ns.map V.int) (ns.map PyData.int)
 | []=>.nil
 | n::r=>.cons (.int n) (DatAll.ints r)
section
variable {X:Cx} {pins:List (Addr×Obj)} {σ:St} {H:Hp} {s:Shared}
mutual
theorem DatV.reads (I:Inv X pins σ H s):∀ {x:V} {d:PyData} {v:Value},DatV H x d→RelV x v→∃ as,Reads s.heap v d as
 | _,_,_,.non,r=>by cases r;exact ⟨_,.none⟩
 | _,_,_,.bl b,r=>by cases r;exact ⟨_,.bool b⟩
 | _,_,_,.int i,r=>by obtain ⟨t,rfl⟩:=r;exact ⟨_,.int i t⟩
 | _,_,_,.str x,r=>by obtain ⟨t,rfl⟩:=r;exact ⟨_,.str x t⟩
 | _,_,_,.lst e q,r=>by
   cases r
   obtain ⟨_,its,n,rv,h⟩:=I.lstM e
   obtain ⟨_,h⟩:=h
   obtain ⟨as,z⟩:=DatAll.reads I q rv
   exact ⟨_,reads_list_at h rfl rfl z⟩
 | _,_,_,.tup e q,r=>by
   cases r
   obtain ⟨its,rv,⟨o,h1,h2,n,h3⟩,_⟩:=I.tuple (SqT.of e)
   obtain ⟨as,z⟩:=DatAll.reads I q rv
   exact ⟨_,reads_tuple_at h1 h2 h3 z⟩
theorem DatAll.reads (I:Inv X pins σ H s):∀ {xs:List V} {ds:List PyData} {vs:List Value},DatAll H xs ds→Vals xs vs→∃ as,ReadsAll s.heap vs ds as
 | _,_,_,.nil,r=>by cases r;exact ⟨_,.nil⟩
 | _,_,_,.cons h q,r=>by
   cases r with
   | cons r1 r2=>
     obtain ⟨as,z⟩:=DatV.reads I h r1
     obtain ⟨bs,y⟩:=DatAll.reads I q r2
     exact ⟨_,.cons z y⟩
end
end
section
variable {X:Cx} {a b c:Expr} {ta tb tc:TE} {pos:Pos}
def rEqD (neg:Bool):R2:=fun x y H Q=>match scal x y with
 | true=>Q (.bl (if neg then !decide (x=y) else decide (x=y))) H
 | false=>∃ d e,DatV H x d∧DatV H y e∧SeqAt.shaped d=true∧SeqAt.shaped e=true∧Q (.bl (if neg then !PyData.eqv d e else PyData.eqv d e)) H
theorem op_eqD (hu:X.A.units+64<cLine):OpR X (compareOp .Eq) (rEqD false):=by
 intro pins s σ H x y v u Q I rx ry h
 unfold rEqD at h
 split at h
 · exact op_eq pins s σ H x y v u Q I rx ry ⟨by assumption,h⟩
 · obtain ⟨d,e,h1,h2,h3,h4,q⟩:=h
   obtain ⟨as,r1⟩:=h1.reads I rx
   obtain ⟨bs,r2⟩:=h2.reads I ry
   exact eq_dataH r1 r2 h3 h4 hu ⟨.bl _,H,I,rfl,q⟩
theorem op_neD (hu:X.A.units+64<cLine):OpR X (compareOp .NotEq) (rEqD true):=by
 intro pins s σ H x y v u Q I rx ry h
 unfold rEqD at h
 split at h
 · exact op_ne pins s σ H x y v u Q I rx ry ⟨by assumption,h⟩
 · obtain ⟨d,e,h1,h2,h3,h4,q⟩:=h
   obtain ⟨as,r1⟩:=h1.reads I rx
   obtain ⟨bs,r2⟩:=h2.reads I ry
   exact ne_dataH r1 r2 h3 h4 hu ⟨.bl _,H,I,rfl,q⟩
theorem op_isP:OpR X (compareOp .Is) (rIsP false):=by
 intro pins s σ H x y v u Q I rx ry h
 unfold rIsP at h
 split at h
 · exact op_isN pins s σ H x _ v u Q I rx ry ⟨rfl,h⟩
 · rename_i k
   cases ry
   split at h
   · exact h.elim
   · exact h.elim
   · exact h.elim
   · rename_i hf hb ht
     cases x with
     | non=>cases rx;exact wpAny_is_plain rfl (fin_bl I h (by simp))
     | bl j=>cases rx;exact wpAny_is_plain rfl (fin_bl I h (by rw [Bool.eq_iff_iff];simp))
     | int j=>obtain ⟨t,rfl⟩:=rx;exact wpAny_is_plain rfl (fin_bl I h (by simp))
     | str j=>obtain ⟨t,rfl⟩:=rx;exact wpAny_is_plain rfl (fin_bl I h (by simp))
     | byt j=>exact absurd rfl (hb j)
     | flt j=>exact absurd rfl (hf j)
     | ref j=>cases rx;exact wpAny_is_plain rfl (fin_bl I h (by simp))
     | ty j=>exact absurd rfl (ht j)
 · exact h.elim
theorem op_isntP:OpR X (compareOp .IsNot) (rIsP true):=by
 intro pins s σ H x y v u Q I rx ry h
 unfold rIsP at h
 split at h
 · exact op_notN pins s σ H x _ v u Q I rx ry ⟨rfl,h⟩
 · rename_i k
   cases ry
   split at h
   · exact h.elim
   · exact h.elim
   · exact h.elim
   · rename_i hf hb ht
     cases x with
     | non=>cases rx;exact wpAny_isNot_plain rfl (fin_bl I h (by simp))
     | bl j=>cases rx;exact wpAny_isNot_plain rfl (fin_bl I h (by rw [Bool.eq_iff_iff];simp))
     | int j=>obtain ⟨t,rfl⟩:=rx;exact wpAny_isNot_plain rfl (fin_bl I h (by simp))
     | str j=>obtain ⟨t,rfl⟩:=rx;exact wpAny_isNot_plain rfl (fin_bl I h (by simp))
     | byt j=>exact absurd rfl (hb j)
     | flt j=>exact absurd rfl (hf j)
     | ref j=>cases rx;exact wpAny_isNot_plain rfl (fin_bl I h (by simp))
     | ty j=>exact absurd rfl (ht j)
 · exact h.elim
def tBlP (t:TE):TT:=fun σ H Q=>t σ H fun x H1=>match x with | .bl c=>Q c H1 | _=>False
theorem blP {x:V} {P:Bool→Prop} (h:match x with | .bl c=>P c | _=>False):∃ c,x=.bl c∧P c:=by
 cases x <;> first | exact ⟨_,rfl,h⟩ | exact h.elim
theorem pt_cmpP {op:CmpOp} {r:R2} (ho:OpR X (compareOp op) r) (ha:PE X a ta) (hb:PE X b tb) (hm:behindInMarks op b=false):PT X (.Compare a [op] [b] pos) (tBlP (tOp r ta tb)):=by
 intro pins s σ H Q I h
 refine wpAny_isTrue_Compare1 (binT ha hb I h fun v u s2 x y H2 I2 rx ry q=>?_) hm
 refine thn (ho pins s2 σ H2 x y v u _ I2 rx ry q) fun z s3 ⟨w',H3,I3,r3,q3⟩=>?_
 obtain ⟨k,rfl,q3⟩:=blP q3
 cases r3
 exact wpAny_truthy_bool ⟨H3,I3,q3⟩
theorem zt_cmpP {op:CmpOp} {r:R2} (ho:OpR X (compareOp op) r) (ha:ZE X a ta) (hb:ZE X b tb) (hm:behindInMarks op b=false):ZT X (.Compare a [op] [b] pos) (tBlP (tOp r ta tb)):=by with_unfolding_all exact pt_cmpP ho ha hb hm
theorem pt_valP {e:Expr} {t:TE} (h:PE X e t) (he:∀ whole,isTrue e X.env whole=(do let v ← whole;standAt e.pos;holding [v] (truthy v)):=by intro _;rfl):PT X e (tBlP t):=by
 intro pins s σ H Q I q
 refine isTrue_plain (thn (h pins s σ H _ I q) fun v s1 ⟨x,H1,I1,r1,q1⟩=>?_) (he _)
 obtain ⟨k,rfl,q1⟩:=blP q1
 cases r1
 exact wpAny_truthy_bool ⟨H1,I1,q1⟩
theorem zt_valP {e:Expr} {t:TE} (h:ZE X e t) (he:∀ whole,isTrue e X.env whole=(do let v ← whole;standAt e.pos;holding [v] (truthy v)):=by intro _;rfl):ZT X e (tBlP t):=by with_unfolding_all exact pt_valP h he
def tAndP (ta tb:TE):TE:=fun σ H Q=>ta σ H fun x H1=>match x with | .bl c=>if c=true then tb σ H1 Q else Q (.bl false) H1 | _=>False
def tOrP (ta tb:TE):TE:=fun σ H Q=>ta σ H fun x H1=>match x with | .bl c=>if c=true then Q (.bl true) H1 else tb σ H1 Q | _=>False
def tNotP (ta:TE):TE:=fun σ H Q=>ta σ H fun x H1=>match x with | .bl c=>Q (.bl (!c)) H1 | _=>False
variable {rest:List Expr}
theorem pe_andP (ha:PE X a ta) (hb:PE X (.BoolOp .And (b::rest) pos) tb):PE X (.BoolOp .And (a::b::rest) pos) (tAndP ta tb):=by
 intro pins s σ H Q I h
 refine BoolOp_and (thn (ha pins s σ H _ I h) fun v s1 ⟨x,H1,I1,r1,q1⟩=>?_)
 obtain ⟨c,rfl,q1⟩:=blP q1
 cases r1
 refine wpAny_truthy_bool ?_
 cases c with
 | true=>exact hb pins s1 σ H1 Q I1 q1
 | false=>exact ⟨.bl false,H1,I1,rfl,q1⟩
theorem ze_andP (ha:ZE X a ta) (hb:ZE X (.BoolOp .And (b::rest) pos) tb):ZE X (.BoolOp .And (a::b::rest) pos) (tAndP ta tb):=by with_unfolding_all exact pe_andP ha hb
theorem pe_orP (ha:PE X a ta) (hb:PE X (.BoolOp .Or (b::rest) pos) tb):PE X (.BoolOp .Or (a::b::rest) pos) (tOrP ta tb):=by
 intro pins s σ H Q I h
 refine BoolOp_or (thn (ha pins s σ H _ I h) fun v s1 ⟨x,H1,I1,r1,q1⟩=>?_)
 obtain ⟨c,rfl,q1⟩:=blP q1
 cases r1
 refine wpAny_truthy_bool ?_
 cases c with
 | false=>exact hb pins s1 σ H1 Q I1 q1
 | true=>exact ⟨.bl true,H1,I1,rfl,q1⟩
theorem ze_orP (ha:ZE X a ta) (hb:ZE X (.BoolOp .Or (b::rest) pos) tb):ZE X (.BoolOp .Or (a::b::rest) pos) (tOrP ta tb):=by with_unfolding_all exact pe_orP ha hb
theorem pe_notP (ha:PE X a ta):PE X (.UnaryOp .Not a pos) (tNotP ta):=by
 intro pins s σ H Q I h
 refine UnaryOp_ (thn (ha pins s σ H _ I h) fun v s1 ⟨x,H1,I1,r1,q1⟩=>?_)
 obtain ⟨c,rfl,q1⟩:=blP q1
 cases r1
 exact not_of (wpAny_truthy_bool ⟨.bl (!c),H1,I1,rfl,q1⟩)
theorem ze_notP (ha:ZE X a ta):ZE X (.UnaryOp .Not a pos) (tNotP ta):=by with_unfolding_all exact pe_notP ha
def rIxP (K:PySem.W.Frag):R2:=fun x y H Q=>match x,y with
 | .ref p,.int i=>(∃ xs,(SqL K H p xs∨H p=some (.tup xs))∧∃ v,atI xs i=some v∧Q v H)
 | _,_=>False
theorem ix_P:IxR X (rIxP X.K):=by
 intro value slice pins s σ H x y v u Q I rx ry h hs
 unfold rIxP at h
 split at h
 · obtain ⟨xs,h1 | h1,w,e,q⟩:=h
   · exact ix_list value slice pins s σ H _ _ v u Q I rx ry ⟨_,xs,_,w,rfl,rfl,h1,e,q⟩ hs
   · exact ix_tup value slice pins s σ H _ _ v u Q I rx ry ⟨_,xs,_,w,rfl,rfl,SqT.of h1,e,q⟩ hs
 · exact h.elim
theorem CallR.imp {f:Value} {r r':List V→Hp→VK→Prop} (h:CallR X f r) (i:∀ xs H Q,r' xs H Q→r xs H Q):CallR X f r':=fun pins s σ H xs us Q I rs q=>h pins s σ H xs us Q I rs (i xs H Q q)
def rLenP (K:PySem.W.Frag):List V→Hp→VK→Prop:=fun xs H Q=>match xs with
 | [.ref p]=>∃ ys,(SqL K H p ys∨H p=some (.tup ys))∧Q (.int ys.length) H
 | _=>False
theorem call_lenP:CallR X (.builtin "len") (rLenP X.K):=call_len_seq.imp fun xs H Q h=>by
 unfold rLenP at h
 split at h
 · obtain ⟨ys,h1 | h1,q⟩:=h
   · exact ⟨_,ys,rfl,.inl h1,q⟩
   · exact ⟨_,ys,rfl,.inr (SqT.of h1),q⟩
 · exact h.elim
def tyName (H:Hp):V→Option String
 | .non=>some "NoneType"
 | .bl _=>some "bool"
 | .int _=>some "int"
 | .str _=>some "str"
 | .ref a=>match H a with
   | some (.lst _)=>some "list"
   | some (.tup _)=>some "tuple"
   | some (.dK _)=>some "dict"
   | _=>none
 | _=>none
def subTy (t c:String):Bool:=t == c||(t == "bool"&&c == "int")
theorem tyOf_name {K:PySem.W.Frag} {H:Hp} {x:V} {t:String} (h:tyName H x=some t):TyOf K H x (.type t):=by
 unfold tyName at h
 split at h
 all_goals first | (cases h;constructor) | skip
 · split at h
   all_goals first | (cases h;constructor;assumption) | cases h
 · cases h
def rIsiP:List V→Hp→VK→Prop:=fun xs H Q=>match xs with
 | [x,.ty c]=>∃ t,tyName H x=some t∧(c == "int"||c == "bool"||c == "tuple"||c == "str"||c == "list")=true∧Q (.bl (subTy t c)) H
 | _=>False
theorem kit_of {K:PySem.W.Frag} {H:Hp} {x:V} {t c:String} (h:tyName H x=some t) (hc:(c == "int"||c == "bool"||c == "tuple"||c == "str"||c == "list")=true):PySem.W.kitOne K (.type t) (.type c)=some (subTy t c):=by
 have ht:t∈["NoneType","bool","int","str","list","tuple","dict"]:=by
  unfold tyName at h
  split at h
  all_goals first | (cases h;decide) | skip
  · split at h
    all_goals first | (cases h;decide) | cases h
  · cases h
 have hc':c∈["int","bool","tuple","str","list"]:=by
  simp only [Bool.or_eq_true,beq_iff_eq] at hc
  simp only [List.mem_cons,List.not_mem_nil,or_false]
  rcases hc with (((hc | hc) | hc) | hc) | hc <;> simp [hc]
 have all:(["NoneType","bool","int","str","list","tuple","dict"].all fun t=>["int","bool","tuple","str","list"].all fun c=>decide (PySem.W.kitOne [] (.type t) (.type c)=some (subTy t c)))=true:=by decide +kernel
 have e:PySem.W.kitOne K (.type t) (.type c)=PySem.W.kitOne [] (.type t) (.type c):=rfl
 rw [e]
 exact of_decide_eq_true (List.all_eq_true.mp (List.all_eq_true.mp all t ht) c hc')
theorem call_isiP:CallR X (.builtin "isinstance") rIsiP:=by
 intro pins s σ H xs us Q I r h
 unfold rIsiP at h
 split at h
 · obtain ⟨t,h1,h2,q⟩:=h
   obtain ⟨u,w',rfl,r1,r2⟩:=vals2 r
   cases r2
   exact isinst_ok I r1 (tyOf_name h1) (kit_of h1 h2) fun tk=>⟨.bl _,H,I.tok tk,rfl,q⟩
 · exact h.elim
def rTupP (K:PySem.W.Frag):List V→Hp→VK→Prop:=fun xs H Q=>match xs with
 | [.ref p]=>∃ ys,(SqL K H p ys∨H p=some (.tup ys))∧∀ r H',Same H H'→H' r=some (.tup ys)→Q (.ref r) H'
 | _=>False
theorem call_tupP:CallR X (.type "tuple") (rTupP X.K):=call_tuple_of.imp fun xs H Q h=>by
 unfold rTupP at h
 split at h
 · obtain ⟨ys,h1 | h1,q⟩:=h
   · exact ⟨_,ys,rfl,.inl ⟨h1,fun l hl=>q l _ (Same.new hl _) upd_same⟩⟩
   · exact ⟨_,ys,rfl,.inr ⟨SqT.of h1,q _ H (Same.refl H) h1⟩⟩
 · exact h.elim
def rLstP (K:PySem.W.Frag):List V→Hp→VK→Prop:=fun xs H Q=>match xs with
 | [.ref p]=>∃ ys,(SqL K H p ys∨H p=some (.tup ys))∧∀ l,H l=none→Q (.ref l) (upd H l (.lst ys))
 | _=>False
theorem call_lstP:CallR X (.type "list") (rLstP X.K):=call_list_of.imp fun xs H Q h=>by
 unfold rLstP at h
 split at h
 · obtain ⟨ys,h1 | h1,q⟩:=h
   · exact ⟨_,ys,rfl,.inl h1,q⟩
   · exact ⟨_,ys,rfl,.inr (SqT.of h1),q⟩
 · exact h.elim
def rMinP:List V→Hp→VK→Prop:=fun xs H Q=>match xs with
 | [.int i,.int j]=>Q (.int (if j<i then j else i)) H
 | _=>False
theorem call_minP (hc:X.calm=true):CallR X (.builtin "min") rMinP:=(call_min2 hc).imp fun xs H Q h=>by
 unfold rMinP at h
 split at h
 · exact ⟨_,_,rfl,h⟩
 · exact h.elim
structure FnA (P:Program) (w:World) (K:PySem.W.Frag) (mg:Str→Option Value) (base:Heap) (x:Str) (k:Nat) (ps:List Str) (sp:Sp):Prop where
 ex:∃ f fd,FnOk P w K mg base CX0 k f fd ps sp∧Binds K fd ps []∧PySem.W.keepIn K (.ref f)=true∧mg x=some (.ref f)
def tFn (sp:Sp) (t:TA):TE:=fun σ H Q=>t σ H fun vs H1=>sp vs H1 Q E0
theorem pe_fn {x:Str} {k k':Nat} {ps:List Str} {sp:Sp} {e:Expr} {es:List Expr} {t:TA} {p:Pos} (F:FnA X.prog X.w X.K X.mg X.base x k ps sp) (hr:Room k' X.A) (hk:k≤k') (hg:Gl X x)
 (ha:PA X (e::es) t) (hdb:(x == ("__debug__" : Str))=false:=by decide) (he:starEach (e::es) X.env=(false,eval e X.env)::starEach es X.env:=by rfl) (hpl:(backTo pos (starEach es X.env)).any (·.1)=false:=by rfl) :
 PE X (.Call (.Name x p) (e::es) [] pos) (tFn sp t):=by
 obtain ⟨f,fd,F1,b1,k1,m1⟩:=F.ex
 refine (pe_call (F1.mono hk) hr hg m1 k1 b1 .nil pass0 ha hdb he hpl).imp fun σ H Q h=>?_
 have e:(fun (vs:List V) (H1:Hp)=>sp (vs++[]) H1 Q E0)=fun vs H1=>sp vs H1 Q E0:=by
  funext vs H1
  rw [List.append_nil]
 show t σ H fun vs H1=>sp (vs++[]) H1 Q E0
 rw [e]
 exact h
theorem ze_fn {x:Str} {k k':Nat} {ps:List Str} {sp:Sp} {e:Expr} {es:List Expr} {t:TA} {p:Pos} (F:FnA X.prog X.w X.K X.mg X.base x k ps sp) (hr:Room k' X.A) (hk:k≤k') (hg:Gl X x)
 (ha:ZA X (e::es) t) (hdb:(x == ("__debug__" : Str))=false:=by decide) (he:starEach (e::es) X.env=(false,eval e X.env)::starEach es X.env:=by rfl) (hpl:(backTo pos (starEach es X.env)).any (·.1)=false:=by rfl) :
 ZE X (.Call (.Name x p) (e::es) [] pos) (tFn sp t):=by with_unfolding_all exact pe_fn F hr hk hg ha hdb he hpl
end
theorem pe_ty {X:Cx} {x:Str} {T:String} {pos:Pos} (hg:Gl X x) (hm:X.mg x=none) (hv:bootBuiltins x=some (.type T)) (hn:x≠"__name__":=by decide) (hd:(x == ("__debug__" : Str))=false:=by decide):PE X (.Name x pos) (tC (.ty T)):=
 pe_bltn hg hm hv (show RelV (.ty T) (.type T) from rfl) hn hd
theorem iteD {p:Prop} [Decidable p] {A B:Prop} (h1:p→A) (h2:¬ p→B):if decide p=true then A else B:=by
 by_cases h:p
 · rw [decide_eq_true h];exact iteT (h1 h)
 · rw [decide_eq_false h];exact iteF (h2 h)
theorem iteB {b:Bool} {A B:Prop} (h1:b=true→A) (h2:b=false→B):if b=true then A else B:=by
 cases b with
 | true=>exact iteT (h1 rfl)
 | false=>exact iteF (h2 rfl)
theorem boot_isinstance:bootBuiltins "isinstance" = some (.builtin "isinstance"):=by decide +kernel
theorem boot_sorted':bootBuiltins "sorted" = some (.builtin "sorted"):=by decide +kernel
theorem boot_min':bootBuiltins "min" = some (.builtin "min"):=by decide +kernel
theorem boot_all':bootBuiltins "all" = some (.builtin "all"):=by decide +kernel
theorem boot_int':bootBuiltins "int" = some (.type "int"):=by decide +kernel
theorem boot_bool':bootBuiltins "bool" = some (.type "bool"):=by decide +kernel
theorem boot_tuple':bootBuiltins "tuple" = some (.type "tuple"):=by decide +kernel
theorem boot_list':bootBuiltins "list" = some (.type "list"):=by decide +kernel
def rAllP (K:PySem.W.Frag):List V→Hp→VK→Prop:=fun xs H Q=>match xs with
 | [.ref p]=>∃ bs:List Bool,SqL K H p (bs.map V.bl)∧Q (.bl (bs.all id)) H
 | _=>False
theorem call_allP {X:Cx} (hc:X.calm=true):CallR X (.builtin "all") (rAllP X.K):=by
 intro pins s σ H xs us Q I r h
 unfold rAllP at h
 split at h
 · rename_i p
   obtain ⟨bs,hq,q⟩:=h
   obtain ⟨u,rfl,rx⟩:=vals1 r
   cases rx
   obtain ⟨its,rv,pl,hz⟩:=I.list hq
   have hlen:its.length=bs.length:=by rw [← rv.length,List.length_map]
   have hlt:p<s.heap.objs.size:=by
    obtain ⟨_,e,_⟩:=pl.isList
    exact Heap.lt_size e
   refine call_all_walk (wpAny_pyIter_list pl.isList ?_)
   have W:Walks X.prog X.w X.A.in1 s.heap.objs.size [s.heap.objs.size,p] [s.heap.objs.size] its.toArray.size _ _:=Walks.list (show X.A.in1.handled=none from I.ok.hd hc) s.heap.objs.size p (Nat.ne_of_lt hlt) its.toArray
   refine ⟨s.heap.objs.size,_,_,_,_,_,fun i=>bs.getD i false,rfl,W,⟨⟨_,Heap.get?_push_size _ rfl,rfl,rfl⟩,pl.isList.push _⟩,?_,fun h' tk hk=>?_⟩
   · intro i v s' Q' E' hP hQ
     have hP':its[i]? = some v:=by simpa using hP
     have hi:i<bs.length:=by rw [← hlen];exact (List.getElem?_eq_some_iff.mp hP').1
     obtain ⟨w',e1,e2⟩:=rv.get (i:=i) (x:=.bl bs[i]) (by rw [List.getElem?_map,List.getElem?_eq_getElem hi];rfl)
     rw [hP'] at e1
     cases e1
     cases e2
     refine wpAny_truthy_bool ?_
     have e:bs.getD i false=bs[i]:=by rw [List.getD_eq_getElem?_getD,List.getElem?_eq_getElem hi];rfl
     have hQ':Q' (bs.getD i false) s':=hQ
     rw [e] at hQ'
     exact hQ'
   · have I1:Inv X pins σ H { s with heap:=h',toks:=tk }:=I.kept fun b o e=>hk b o (by simpa using Nat.ne_of_lt (Heap.lt_size e)) (Heap.get?_push_of_some _ e)
     refine ⟨.bl _,H,I1,rfl,?_⟩
     have e:(List.range its.toArray.size).all (fun i=>bs.getD i false)=bs.all id:=by
      rw [List.size_toArray,hlen]
      have key:∀ l:List Bool,(List.range l.length).all (fun i=>l.getD i false)=l.all id:=by
       intro l
       rw [Bool.eq_iff_iff,List.all_eq_true,List.all_eq_true]
       constructor
       · intro h x hx
         obtain ⟨i,hi,rfl⟩:=List.mem_iff_getElem.mp hx
         have:=h i (List.mem_range.mpr hi)
         rw [List.getD_eq_getElem?_getD,List.getElem?_eq_getElem hi] at this
         exact this
       · intro h i hi
         have hi':=List.mem_range.mp hi
         rw [List.getD_eq_getElem?_getD,List.getElem?_eq_getElem hi']
         exact h _ (List.getElem_mem hi')
      exact key bs
     rw [e]
     exact q
 · exact h.elim
section
variable {X:Cx} {e:Expr} {es:List Expr} {t:TA} {p pos:Pos}
theorem pcb_len (hg:Gl X "len") (hm:X.mg "len" = none) (ha:PA X (e::es) t) (he:starEach (e::es) X.env=(false,eval e X.env)::starEach es X.env) (hpl:(backTo pos (starEach es X.env)).any (·.1)=false) :
 PE X (.Call (.Name "len" p) (e::es) [] pos) (tCB (rLenP X.K) t):=pe_callB call_lenP hg hm PySem.boot_len ha (by decide) (by decide) he hpl
theorem zcb_len (hg:Gl X "len") (hm:X.mg "len" = none) (ha:ZA X (e::es) t) (he:starEach (e::es) X.env=(false,eval e X.env)::starEach es X.env) (hpl:(backTo pos (starEach es X.env)).any (·.1)=false) :
 ZE X (.Call (.Name "len" p) (e::es) [] pos) (tCB (rLenP X.K) t):=by with_unfolding_all exact pcb_len hg hm ha he hpl
theorem pcb_isinstance (hg:Gl X "isinstance") (hm:X.mg "isinstance" = none) (ha:PA X (e::es) t) (he:starEach (e::es) X.env=(false,eval e X.env)::starEach es X.env) (hpl:(backTo pos (starEach es X.env)).any (·.1)=false) :
 PE X (.Call (.Name "isinstance" p) (e::es) [] pos) (tCB rIsiP t):=pe_callB call_isiP hg hm boot_isinstance ha (by decide) (by decide) he hpl
theorem zcb_isinstance (hg:Gl X "isinstance") (hm:X.mg "isinstance" = none) (ha:ZA X (e::es) t) (he:starEach (e::es) X.env=(false,eval e X.env)::starEach es X.env) (hpl:(backTo pos (starEach es X.env)).any (·.1)=false) :
 ZE X (.Call (.Name "isinstance" p) (e::es) [] pos) (tCB rIsiP t):=by with_unfolding_all exact pcb_isinstance hg hm ha he hpl
theorem pcb_min (hc:X.calm=true) (hg:Gl X "min") (hm:X.mg "min" = none) (ha:PA X (e::es) t) (he:starEach (e::es) X.env=(false,eval e X.env)::starEach es X.env) (hpl:(backTo pos (starEach es X.env)).any (·.1)=false) :
 PE X (.Call (.Name "min" p) (e::es) [] pos) (tCB rMinP t):=pe_callB (call_minP hc) hg hm boot_min' ha (by decide) (by decide) he hpl
theorem zcb_min (hc:X.calm=true) (hg:Gl X "min") (hm:X.mg "min" = none) (ha:ZA X (e::es) t) (he:starEach (e::es) X.env=(false,eval e X.env)::starEach es X.env) (hpl:(backTo pos (starEach es X.env)).any (·.1)=false) :
 ZE X (.Call (.Name "min" p) (e::es) [] pos) (tCB rMinP t):=by with_unfolding_all exact pcb_min hc hg hm ha he hpl
theorem pcb_all (hc:X.calm=true) (hg:Gl X "all") (hm:X.mg "all" = none) (ha:PA X (e::es) t) (he:starEach (e::es) X.env=(false,eval e X.env)::starEach es X.env) (hpl:(backTo pos (starEach es X.env)).any (·.1)=false) :
 PE X (.Call (.Name "all" p) (e::es) [] pos) (tCB (rAllP X.K) t):=pe_callB (call_allP hc) hg hm boot_all' ha (by decide) (by decide) he hpl
theorem zcb_all (hc:X.calm=true) (hg:Gl X "all") (hm:X.mg "all" = none) (ha:ZA X (e::es) t) (he:starEach (e::es) X.env=(false,eval e X.env)::starEach es X.env) (hpl:(backTo pos (starEach es X.env)).any (·.1)=false) :
 ZE X (.Call (.Name "all" p) (e::es) [] pos) (tCB (rAllP X.K) t):=by with_unfolding_all exact pcb_all hc hg hm ha he hpl
theorem pcb_tuple (hg:Gl X "tuple") (hm:X.mg "tuple" = none) (ha:PA X (e::es) t) (he:starEach (e::es) X.env=(false,eval e X.env)::starEach es X.env) (hpl:(backTo pos (starEach es X.env)).any (·.1)=false) :
 PE X (.Call (.Name "tuple" p) (e::es) [] pos) (tCB (rTupP X.K) t):=pe_callTy call_tupP hg hm boot_tuple' ha (by decide) (by decide) he hpl
theorem zcb_tuple (hg:Gl X "tuple") (hm:X.mg "tuple" = none) (ha:ZA X (e::es) t) (he:starEach (e::es) X.env=(false,eval e X.env)::starEach es X.env) (hpl:(backTo pos (starEach es X.env)).any (·.1)=false) :
 ZE X (.Call (.Name "tuple" p) (e::es) [] pos) (tCB (rTupP X.K) t):=by with_unfolding_all exact pcb_tuple hg hm ha he hpl
theorem pcb_list (hg:Gl X "list") (hm:X.mg "list" = none) (ha:PA X (e::es) t) (he:starEach (e::es) X.env=(false,eval e X.env)::starEach es X.env) (hpl:(backTo pos (starEach es X.env)).any (·.1)=false) :
 PE X (.Call (.Name "list" p) (e::es) [] pos) (tCB (rLstP X.K) t):=pe_callTy call_lstP hg hm boot_list' ha (by decide) (by decide) he hpl
theorem zcb_list (hg:Gl X "list") (hm:X.mg "list" = none) (ha:ZA X (e::es) t) (he:starEach (e::es) X.env=(false,eval e X.env)::starEach es X.env) (hpl:(backTo pos (starEach es X.env)).any (·.1)=false) :
 ZE X (.Call (.Name "list" p) (e::es) [] pos) (tCB (rLstP X.K) t):=by with_unfolding_all exact pcb_list hg hm ha he hpl
theorem pty_int (hg:Gl X "int") (hm:X.mg "int" = none):PE X (.Name "int" pos) (tC (.ty "int")):=pe_ty hg hm boot_int' (by decide) (by decide)
theorem zty_int (hg:Gl X "int") (hm:X.mg "int" = none):ZE X (.Name "int" pos) (tC (.ty "int")):=by with_unfolding_all exact pty_int hg hm
theorem pty_bool (hg:Gl X "bool") (hm:X.mg "bool" = none):PE X (.Name "bool" pos) (tC (.ty "bool")):=pe_ty hg hm boot_bool' (by decide) (by decide)
theorem zty_bool (hg:Gl X "bool") (hm:X.mg "bool" = none):ZE X (.Name "bool" pos) (tC (.ty "bool")):=by with_unfolding_all exact pty_bool hg hm
theorem pty_tuple (hg:Gl X "tuple") (hm:X.mg "tuple" = none):PE X (.Name "tuple" pos) (tC (.ty "tuple")):=pe_ty hg hm boot_tuple' (by decide) (by decide)
theorem zty_tuple (hg:Gl X "tuple") (hm:X.mg "tuple" = none):ZE X (.Name "tuple" pos) (tC (.ty "tuple")):=by with_unfolding_all exact pty_tuple hg hm
end
section
variable {X:Cx}
theorem ints_at {ns:List Int} {its:List Value} (rv:Vals (ns.map V.int) its) {i:Nat} {v:Value} (h:its.toArray[i]? = some v):∃ t,v=.int (ns.getD i 0) t:=by
 have h':its[i]? = some v:=by simpa using h
 have hl:its.length=ns.length:=by rw [← rv.length,List.length_map]
 have hi:i<ns.length:=by rw [← hl];exact (List.getElem?_eq_some_iff.mp h').1
 obtain ⟨w',e1,t,e2⟩:=rv.get (i:=i) (x:=.int ns[i]) (by rw [List.getElem?_map,List.getElem?_eq_getElem hi];rfl)
 rw [h'] at e1
 cases e1
 refine ⟨t,?_⟩
 rw [e2,List.getD_eq_getElem?_getD,List.getElem?_eq_getElem hi]
 rfl
def rMax1P (K:PySem.W.Frag):List V→Hp→VK→Prop:=fun xs H Q=>match xs with
 | [.int i,.int j]=>Q (.int (if j > i then j else i)) H
 | [.ref p]=>∃ ns:List Int,(SqL K H p (ns.map V.int)∨H p=some (.tup (ns.map V.int)))∧ns≠[]∧∀ M,M∈ns→(∀ n∈ns,n≤M)→Q (.int M) H
 | _=>False
theorem best_is {ns:List Int} (h:ns≠[]):ns.getD (argBest (fun i j=>decide (ns.getD i 0 > ns.getD j 0)) (ns.length - 1)) 0∈ns∧∀ n∈ns,n≤ns.getD (argBest (fun i j=>decide (ns.getD i 0 > ns.getD j 0)) (ns.length - 1)) 0:=by
 have hp:0<ns.length:=List.length_pos_iff.mpr h
 obtain ⟨h1,h2⟩:=argBest_gt (fun i=>ns.getD i 0) (ns.length - 1)
 have hlt:argBest (fun i j=>decide (ns.getD i 0 > ns.getD j 0)) (ns.length - 1)<ns.length:=by omega
 refine ⟨?_,fun n hn=>?_⟩
 · rw [List.getD_eq_getElem?_getD,List.getElem?_eq_getElem hlt]
   exact List.getElem_mem hlt
 · obtain ⟨i,hi,rfl⟩:=List.mem_iff_getElem.mp hn
   have:=h2 i (by omega)
   have e:ns.getD i 0=ns[i]:=by rw [List.getD_eq_getElem?_getD,List.getElem?_eq_getElem hi];rfl
   rw [e] at this
   exact this
theorem call_maxP (hc:X.calm=true):CallR X (.builtin "max") (rMax1P X.K):=by
 intro pins s σ H xs us Q I r h
 unfold rMax1P at h
 split at h
 · exact call_max2 hc pins s σ H _ us Q I r ⟨_,_,rfl,h⟩
 · rename_i p
   obtain ⟨ns,hq,hne,q⟩:=h
   obtain ⟨u,rfl,rx⟩:=vals1 r
   cases rx
   have hh:X.A.in1.handled=none:=I.ok.hd hc
   have hb:=best_is hne
   rcases hq with hq | hq
   · obtain ⟨its,rv,pl,hz⟩:=I.list hq
     have hlen:its.length=ns.length:=by rw [← rv.length,List.length_map]
     have hlt:p<s.heap.objs.size:=by
      obtain ⟨_,e,_⟩:=pl.isList
      exact Heap.lt_size e
     refine call_max_walk (wpAny_pyIter_list pl.isList ?_)
     refine ⟨s.heap.objs.size,_,_,_,_,_,_,rfl,Walks.list hh s.heap.objs.size p (Nat.ne_of_lt hlt) its.toArray,⟨⟨_,Heap.get?_push_size _ rfl,rfl,rfl⟩,pl.isList.push _⟩,?_,?_,CmpOf.ints_gt (fun i=>ns.getD i 0) (fun i v hv=>ints_at rv hv),fun v h' tk hv hk=>?_⟩
     · intro b hb
       rw [Heap.size_push]
       rcases List.mem_cons.mp hb with rfl | hb
       · exact Nat.lt_succ_self _
       · rcases List.mem_cons.mp hb with rfl | hb
         · exact Nat.lt_succ_of_lt hlt
         · cases hb
     · rw [List.size_toArray,hlen];exact List.length_pos_iff.mpr hne
     · obtain ⟨t,rfl⟩:=ints_at rv hv
       refine ⟨.int _,H,I.kept fun b o e=>hk b o (by simpa using Nat.ne_of_lt (Heap.lt_size e)) (Heap.get?_push_of_some _ e),⟨t,rfl⟩,?_⟩
       rw [List.size_toArray,hlen]
       exact q _ hb.1 hb.2
   · obtain ⟨its,rv,pl,hz⟩:=I.tuple (SqT.of hq)
     have hlen:its.length=ns.length:=by rw [← rv.length,List.length_map]
     have hlt:p<s.heap.objs.size:=pl.lt
     refine call_max_walk (wpAny_pyIter_tuple (show s.heap.IsTuple p its.toArray from pl) ?_)
     refine ⟨s.heap.objs.size,_,_,_,_,_,_,rfl,Walks.tuple hh s.heap.objs.size p (Nat.ne_of_lt hlt) its.toArray,⟨⟨_,Heap.get?_push_size _ rfl,rfl,rfl⟩,IsTup.keeps pl fun b o e=>Heap.get?_push_of_some _ e⟩,?_,?_,CmpOf.ints_gt (fun i=>ns.getD i 0) (fun i v hv=>ints_at rv hv),fun v h' tk hv hk=>?_⟩
     · intro b hb
       rw [Heap.size_push]
       rcases List.mem_cons.mp hb with rfl | hb
       · exact Nat.lt_succ_self _
       · rcases List.mem_cons.mp hb with rfl | hb
         · exact Nat.lt_succ_of_lt hlt
         · cases hb
     · rw [List.size_toArray,hlen];exact List.length_pos_iff.mpr hne
     · obtain ⟨t,rfl⟩:=ints_at rv hv
       refine ⟨.int _,H,I.kept fun b o e=>hk b o (by simpa using Nat.ne_of_lt (Heap.lt_size e)) (Heap.get?_push_of_some _ e),⟨t,rfl⟩,?_⟩
       rw [List.size_toArray,hlen]
       exact q _ hb.1 hb.2
 · exact h.elim
theorem noFill_tuple_mul:fillsNumberSlot (.type "tuple") "mul" = pure false:=
 PySem.fillsNumberSlot_seq (id:="tuple.__mul__") (r:=some (.builtin "tuple.__rmul__")) F.slot_tuple_mul.lookup (by decide +kernel) F.slot_tuple_rmul.lookup (by decide +kernel)
theorem repeat_tuple:seqRepeat? (.type "tuple")=pure (some (.builtin "tuple.__mul__")):=by
 unfold seqRepeat?
 rw [PySem.seqSlot_of (T:="tuple") (name:="__mul__") (id:="tuple.__mul__") F.slot_tuple_mul.lookup (by decide +kernel),PySem.seqSlot_of (T:="tuple") (name:="__rmul__") (id:="tuple.__rmul__") F.slot_tuple_rmul.lookup (by decide +kernel)]
 rfl
theorem int_rmul_tuple (a:Int) (t:Tok) (l:Addr) (items:Array Value) (n:Nat) :
 Meets (Builtin.«int.__rmul__» ⟨[.int a t,.ref l],[]⟩) (fun _ R s=>s.heap.get? l=some { cls:=.type "tuple",dict:=none,data:=.seq items n,slots:=#[] }∧R (.ok (.ret Value.notImplemented)) s):=
 .of_wp fun prog w A R s h=>by obtain ⟨hp,g,d,tk,os⟩:=s;obtain ⟨hl,h⟩:=h;wp_walk;exact ⟨_,rfl,h⟩
theorem tuple_mul_same (l:Addr) (items:Array Value) (n:Nat) (x:Int) (u:Tok) (h1:(decide (x < -(2 ^ 63))||decide (x≥2 ^ 63))=false) (h2:(items.isEmpty||x == 1)=true) :
 Meets (Builtin.«tuple.__mul__» ⟨[.ref l,.int x u],[]⟩) (fun _ R s=>s.heap.get? l=some { cls:=.type "tuple",dict:=none,data:=.seq items n,slots:=#[] }∧R (.ok (.ret (.ref l))) s):=
 .of_wp fun prog w A R s h=>by
  obtain ⟨hp,g,d,tk,os⟩:=s;obtain ⟨hl,h⟩:=h
  wp_walk;refine wpAny_ite_false (by rw [h1];rfl) ?_;wp_walk;exact ⟨_,rfl,h⟩
theorem tuple_mul_none (l:Addr) (items:Array Value) (n:Nat) (x:Int) (u:Tok) (h1:(decide (x < -(2 ^ 63))||decide (x≥2 ^ 63))=false) (h2:(items.isEmpty||x == 1)=false) (h3:(decide (x≤0)||items.isEmpty)=true) :
 Meets (Builtin.«tuple.__mul__» ⟨[.ref l,.int x u],[]⟩) (fun _ R s=>s.heap.get? l=some { cls:=.type "tuple",dict:=none,data:=.seq items n,slots:=#[] }∧R (.ok (.ret (.ref s.heap.objs.size))) { s with heap:=s.heap.push { cls:=.type "tuple",data:=.seq #[] } }):=
 .of_wp fun prog w A R s h=>by
  obtain ⟨hp,g,d,tk,os⟩:=s;obtain ⟨hl,h⟩:=h
  wp_walk;refine wpAny_ite_false (by rw [h1];rfl) ?_;wp_walk;exact ⟨_,rfl,h⟩
theorem tuple_mul_many (l:Addr) (items:Array Value) (n:Nat) (x:Int) (u:Tok) (h1:(decide (x < -(2 ^ 63))||decide (x≥2 ^ 63))=false) (h2:(items.isEmpty||x == 1)=false) (h3:(decide (x≤0)||items.isEmpty)=false) (h4:decide ((items.size:Int)*x > (2 ^ 63 - 1) / 8)=false) (h5:Builtin.Tuple.tupleTooMany ((items.size:Int)*x)=false) (hz:((List.replicate x.toNat items).foldl (·++·) #[]).size≤sizeLine) :
 Meets (Builtin.«tuple.__mul__» ⟨[.ref l,.int x u],[]⟩) (fun _ R s=>s.heap.get? l=some { cls:=.type "tuple",dict:=none,data:=.seq items n,slots:=#[] }∧R (.ok (.ret (.ref s.heap.objs.size))) { s with heap:=s.heap.push { cls:=.type "tuple",data:=.seq ((List.replicate x.toNat items).foldl (·++·) #[]) } }):=
 .of_wp fun prog w A R s h=>by
  obtain ⟨hp,g,d,tk,os⟩:=s;obtain ⟨hl,h⟩:=h
  wp_walk;refine wpAny_ite_false (by rw [h1];rfl) ?_;wp_walk;refine wpAny_ite_false h4 ?_;wp_walk;exact ⟨_,rfl,h⟩
end
section
variable {X:Cx}
def rMulQ:R2:=fun x y H Q=>match x,y with
 | .int i,.int j=>IntMulOk i j∧Q (.int (i*j)) H
 | .ref a,.int k=>(-(2 ^ 63)≤k∧k<2 ^ 63)∧((∃ xs,H a=some (.lst xs)∧xs.length*k.toNat≤sizeLine∧∀ p,H p=none→Q (.ref p) (upd H p (.lst (List.replicate k.toNat xs).flatten))) ∨
  ∃ xs,H a=some (.tup xs)∧xs.length*k.toNat≤sizeLine∧∀ r H',Same H H'→H' r=some (.tup (List.replicate k.toNat xs).flatten)→Q (.ref r) H')
 | _,_=>False
theorem op_mulQ:OpR X (binaryOp .Mult) rMulQ:=by
 intro pins s σ H x y v u Q I rx ry h
 unfold rMulQ at h
 split at h
 · exact op_mulB pins s σ H _ _ v u Q I rx ry ⟨_,_,rfl,rfl,h⟩
 · obtain ⟨⟨hk1,hk2⟩,⟨xs,h1,h4,q⟩ | ⟨xs,hH,hz,q⟩⟩:=h
   · exact op_rep pins s σ H _ _ v u Q I rx ry ⟨_,_,xs,rfl,rfl,h1,hk1,hk2,h4,q⟩
   rename_i l k
   cases rx
   obtain ⟨t,rfl⟩:=ry
   obtain ⟨z,its,r,n,e⟩:=I.hok l _ hH
   have hl:its.length=xs.length:=r.length.symm
   have hemp:its.toArray.isEmpty=xs.isEmpty:=by
    cases r <;> rfl
   have g1:(decide (k < -(2 ^ 63))||decide (k≥2 ^ 63))=false:=by
    rw [Bool.or_eq_false_iff]
    exact ⟨decide_eq_false (by omega),decide_eq_false (by omega)⟩
   refine wpAny_binaryOp_repeat_ref (T:="tuple") (U:="int") (by decide) ⟨_,e,rfl⟩ (fun s'=>typeIs_int s' k t) noFill_tuple_mul F.fills_int_mul F.slot_int_rmul repeat_tuple F.slot_int_index.lookup
    (call_meets F.slot_int_rmul (typeIs_int s k t) F.entry_int_rmul (F.args_int_rmul_2 _ _) (int_rmul_tuple k t l its.toArray n) ⟨e,rfl,⟨_,e,rfl⟩,?_⟩)
   by_cases c1:(its.toArray.isEmpty||k == 1)=true
   · refine call_meets F.slot_tuple_mul ⟨_,e,rfl⟩ F.entry_tuple_mul (F.args_tuple_mul_2 _ _) (tuple_mul_same l its.toArray n k t g1 c1) ⟨e,?_⟩
     refine ⟨.ref l,H,I,rfl,q l H (Same.refl H) ?_⟩
     rw [hH]
     rw [Bool.or_eq_true] at c1
     rcases c1 with c1 | c1
     · rw [hemp,List.isEmpty_iff] at c1
       subst c1
       have:(List.replicate k.toNat ([]:List V)).flatten=[]:=by
        induction k.toNat with
        | zero=>rfl
        | succ m ih=>rw [List.replicate_succ,List.flatten_cons,ih];rfl
       rw [this]
     · have:k=1:=by simpa using c1
       subst this
       show some (HO.tup xs)=some (.tup (List.replicate 1 xs).flatten)
       simp
   · have c1':(its.toArray.isEmpty||k == 1)=false:=by simpa using c1
     have he:its.toArray.isEmpty=false:=(Bool.or_eq_false_iff.mp c1').1
     by_cases c2:k≤0
     · refine call_meets F.slot_tuple_mul ⟨_,e,rfl⟩ F.entry_tuple_mul (F.args_tuple_mul_2 _ _) (tuple_mul_none l its.toArray n k t g1 c1' (by rw [decide_eq_true c2];rfl)) ⟨e,?_⟩
       have e0:(List.replicate k.toNat xs).flatten=[]:=by
        have:k.toNat=0:=by omega
        rw [this];rfl
       have I2:Inv X pins σ (upd H s.heap.objs.size (.tup [])) { s with heap:=s.heap.push { cls:=.type "tuple",data:=.seq #[] } }:=
        I.laid (t':=s.toks) (o:=.tup []) (fun b ob q=>Heap.get?_push_of_some _ q) (Nat.le_refl _) ⟨Nat.zero_le _,[],.nil,TupD.new _ _⟩
       exact ⟨.ref s.heap.objs.size,_,I2,rfl,q _ _ (Same.new (I.hok.fresh (Nat.le_refl _)) _) (by rw [e0];exact upd_same)⟩
     · have hcast:(its.toArray.size:Int)*k=((xs.length*k.toNat:Nat):Int):=by
        rw [List.size_toArray,hl]
        have:k=(k.toNat:Int):=by omega
        conv=>lhs;rw [this]
        norm_cast
       have hb:(sizeLine:Nat)≤(2 ^ 63 - 1) / 8:=by decide
       have g4:decide ((its.toArray.size:Int)*k > (2 ^ 63 - 1) / 8)=false:=by
        refine decide_eq_false ?_
        rw [hcast]
        omega
       have g5:Builtin.Tuple.tupleTooMany ((its.toArray.size:Int)*k)=false:=by
        unfold Builtin.Tuple.tupleTooMany
        rw [hcast]
        exact decide_eq_false (by omega)
       have f0:List.foldl (fun x1 x2=>x1++x2) #[] (List.replicate k.toNat its.toArray)=(List.replicate k.toNat its).flatten.toArray:=by
        have:=foldl_rep its k.toNat []
        rw [List.nil_append] at this
        exact this
       refine call_meets F.slot_tuple_mul ⟨_,e,rfl⟩ F.entry_tuple_mul (F.args_tuple_mul_2 _ _) (tuple_mul_many l its.toArray n k t g1 c1' (by rw [decide_eq_false c2,he];rfl) g4 g5 (by rw [f0,List.size_toArray,len_rep,hl,Nat.mul_comm];exact hz)) ⟨e,?_⟩
       rw [f0]
       have I2:Inv X pins σ (upd H s.heap.objs.size (.tup (List.replicate k.toNat xs).flatten)) { s with heap:=s.heap.push { cls:=.type "tuple",data:=.seq (List.replicate k.toNat its).flatten.toArray } }:=
        I.laid (t':=s.toks) (o:=.tup (List.replicate k.toNat xs).flatten) (fun b ob q=>Heap.get?_push_of_some _ q) (Nat.le_refl _) ⟨by rw [len_rep,Nat.mul_comm];exact hz,_,r.rep k.toNat,TupD.new _ _⟩
       exact ⟨.ref s.heap.objs.size,_,I2,rfl,q _ _ (Same.new (I.hok.fresh (Nat.le_refl _)) _) upd_same⟩
 · exact h.elim
def Itrs (lo c:Int) (n:Nat):It:=⟨fun i _=>i<n,fun i H x H'=>H'=H∧x=.int (lo+i*c),fun i _=>n≤i⟩
theorem turn_rangeS {P:Program} {w:World} {K:PySem.W.Frag} {tg:Expr} (it:Addr) (lo c:Int) (n:Nat):Turn P w K tg (Itrs lo c n) [it] it (fun i h=>IsRangeIter h it (lo+(i:Nat)*c) ((n:Int) - (i:Nat)) c) where
 mem:=by simp
 obj:=fun i h st b hb=>by
  have e:b=it:=by simpa using hb
  subst e
  exact ⟨_,st,fun v z=>by
   have z':Data.fields _=Data.cell v:=z
   cases z'⟩
 keep:=fun i h h' st k=>k it (by simp) _ st
 item:=by
  intro X hP hw hK hc i pins s σ H E I hf st hg
  subst hP hw hK
  obtain ⟨f0,f1,f2,f3,f4,f5⟩:=hf it (by simp)
  have W:=Walks.range (prog:=X.prog) (w:=X.w) (I.ok.hd hc) it lo c n
  refine W.item i s _ _ hg st fun v h' tk hv st' kk=>?_
  obtain ⟨t,rfl⟩:=hv
  have I1:Inv X pins σ H { s with heap:=h',toks:=tk }:=I.turned (fun b o hb e=>kk b o (by simpa using hb) e) f0 f1 f3 f4 f5
  exact ⟨_,rfl,go_of (s:={ s with heap:=h',toks:=tk }) (n:="range_iterator") st' rfl rfl (by decide) ⟨.int (lo+i*c),H,I1,⟨t,rfl⟩,⟨rfl,rfl⟩,st',fun b hb=>(hf b hb).1⟩⟩
 done:=by
  intro X hP hw hK hc i pins s σ H E I hf st hg
  subst hP hw hK
  obtain ⟨f0,f1,f2,f3,f4,f5⟩:=hf it (by simp)
  exact wpAny_pyNext_range_end (I.ok.hd hc) st (by have:n≤i:=hg;omega) fun h' eb=>⟨rfl,I.turned (t':=s.toks) (fun b o hb e=>eb b o hb e) f0 f1 f3 f4 f5⟩
 self:=fun _ _ _ _ _ st h=>wpAny_pyIter_rangeiter st h
theorem size_nonneg {a b c:Int} (hc:c≠0):0≤Builtin.Range.rangeSize a b c:=by
 unfold Builtin.Range.rangeSize
 split
 · split
   · have:=Int.ediv_nonneg (a:=b - a - 1) (b:=c) (by omega) (by omega);omega
   · omega
 · split
   · have:=Int.ediv_nonneg (a:=a - b - 1) (b:=-c) (by omega) (by omega);omega
   · omega
def iRng3 {tg:Expr} (ta:TA):TI:=fun σ H R=>ta σ H fun vs H1=>∃ i j c:Int,vs=[.int i,.int j,.int c]∧(c≠0∧(c<2 ^ 29∧-(2 ^ 29)<c)∧Builtin.Range.small i j c=true)∧R (Itrs i c (Builtin.Range.rangeSize i j c).toNat) H1
theorem pi_range3 {tg:Expr} {a b d:Expr} {ta:TA} {p pos:Pos} (hg:Gl X "range") (hm:X.mg "range" = none) (ha:PA X [a,b,d] ta) (hs:starEach [a,b,d] X.env=[(false,eval a X.env),(false,eval b X.env),(false,eval d X.env)]:=by rfl) (hs2:starEach [b,d] X.env=[(false,eval b X.env),(false,eval d X.env)]:=by rfl) :
 PI X tg (.Call (.Name "range" p) [a,b,d] [] pos) (iRng3 (tg:=tg) ta):=by
 intro pins s σ H R I h
 refine Call_ (ld_blt I hg hm boot_range (PyProof.Rows.callWith_type1 (thn (ha pos pins s σ H _ I h) fun us s1 ⟨vs,H1,I1,r1,q1⟩=>?_) (by rw [hs,hs2]) (by rw [hs2];rfl)))
 obtain ⟨i,j,c,e,⟨hc0,⟨hcb,hcb2⟩,hsm⟩,q⟩:=q1
 subst e
 cases r1 with
 | cons r rr=>
   cases rr with
   | cons r' rr=>
     cases rr with
     | cons r'' rr=>
       cases rr
       obtain ⟨t,rfl⟩:=r
       obtain ⟨t',rfl⟩:=r'
       obtain ⟨t'',rfl⟩:=r''
       refine PySem.call_range_3 hc0 ?_ (Or.inl (PyProof.noPylong_small (by omega)))
       refine wpAny_pyIter_range (IsRange.new ..) hsm ?_
       have I2:Inv X pins σ H1 { s1 with heap:=s1.heap.push { cls:=.type "range",data:=.fields #[.int i t,.int j t',.int c t''] } }:=I1.kept (t':=s1.toks) fun b o e=>Heap.get?_push_of_some _ e
       refine ⟨(s1.heap.push { cls:=.type "range",data:=.fields #[.int i t,.int j t',.int c t''] }).objs.size,[(s1.heap.push { cls:=.type "range",data:=.fields #[.int i t,.int j t',.int c t''] }).objs.size],_,_,H1,rfl,
        I2.kept (t':=s1.toks) fun b o e=>Heap.get?_push_of_some _ e,turn_rangeS _ i c (Builtin.Range.rangeSize i j c).toNat,?_,fun b hb=>?_,q⟩
       · have e1:i+((0:Nat):Int)*c=i:=by simp
         have e2:(((Builtin.Range.rangeSize i j c).toNat:Nat):Int) - ((0:Nat):Int)=Builtin.Range.rangeSize i j c:=by have:=size_nonneg (a:=i) (b:=j) hc0;omega
         show IsRangeIter _ _ (i+((0:Nat):Int)*c) ((((Builtin.Range.rangeSize i j c).toNat:Nat):Int) - ((0:Nat):Int)) c
         rw [e1,e2]
         exact Heap.get?_push_size _ rfl
       · have e:b=(s1.heap.push { cls:=.type "range",data:=.fields #[.int i t,.int j t',.int c t''] }).objs.size:=by simpa using hb
         subst e
         exact I2.fpOk (Nat.le_refl _) (I2.hok.fresh (Nat.le_refl _))
theorem zi_range3 {tg:Expr} {a b d:Expr} {ta:TA} {p pos:Pos} (hg:Gl X "range") (hm:X.mg "range" = none) (ha:ZA X [a,b,d] ta) (hs:starEach [a,b,d] X.env=[(false,eval a X.env),(false,eval b X.env),(false,eval d X.env)]:=by rfl) (hs2:starEach [b,d] X.env=[(false,eval b X.env),(false,eval d X.env)]:=by rfl) :
 ZI X tg (.Call (.Name "range" p) [a,b,d] [] pos) (iRng3 (tg:=tg) ta):=by with_unfolding_all exact pi_range3 hg hm ha hs hs2
theorem for_rangeS {lo c:Int} {n:Nat} {g:TG} {tb:TS} {D:Ends} {σ:St} {H:Hp} (Pv:Nat→St→Hp→Prop) (h0:Pv 0 σ H)
 (hs:∀ i σ H,i<n→Pv i σ H→g (.int (lo+i*c)) σ H fun σ2 H2=>tb { D with nx:=Pv (i+1),ct:=Pv (i+1),bk:=D.nx } σ2 H2) (hd:∀ σ H,Pv n σ H→D.nx σ H) :
 ∃ W:Nat→Nat→St→Hp→Prop,(∃ m,W 0 m σ H)∧∀ i m σ H,W i m σ H →
   ((Itrs lo c n).stop i H∧D.nx σ H)∨((Itrs lo c n).go i H∧∃ N:St→Hp→Prop,(∀ σ' H',N σ' H'→∃ m',m' < m∧W (i+1) m' σ' H')∧∀ x H',(Itrs lo c n).yld i H x H'→g x σ H' fun σ2 H2=>tb { D with nx:=N,ct:=N,bk:=D.nx } σ2 H2):=by
 refine ⟨fun i m σ H=>m=n - i∧i≤n∧Pv i σ H,⟨n,by simp,Nat.zero_le _,h0⟩,?_⟩
 rintro i m σ H ⟨rfl,hi,p⟩
 by_cases hlt:i<n
 · refine .inr ⟨hlt,Pv (i+1),fun σ' H' p'=>⟨n - (i+1),by omega,rfl,hlt,p'⟩,fun x H' y=>?_⟩
   obtain ⟨e,y⟩:=y
   subst e y
   exact hs i σ _ hlt p
 · have e:i=n:=by omega
   subst e
   exact .inl ⟨Nat.le_refl _,hd σ H p⟩
theorem size_down {a b:Int}:(Builtin.Range.rangeSize a b (-1)).toNat=(a - b).toNat:=by
 unfold Builtin.Range.rangeSize
 rw [if_neg (by decide)]
 split
 · have:(- -1:Int)=1:=by decide
   rw [this,Int.ediv_one];omega
 · omega
theorem small_down {a b:Int} (ha:-(2 ^ 62)≤a) (ha':a<2 ^ 62) (hb:-(2 ^ 62)≤b) (hb':b<2 ^ 62):Builtin.Range.small a b (-1)=true:=by
 have e:Builtin.Range.rangeSize a b (-1)=if a > b then a - b else 0:=by
  unfold Builtin.Range.rangeSize
  rw [if_neg (by decide)]
  have:(- -1:Int)=1:=by decide
  rw [this]
  split
  · rw [Int.ediv_one];omega
  · rfl
 unfold Builtin.Range.small
 rw [e]
 simp only [Builtin.Range.rangeFitsLong,Bool.and_eq_true,Bool.or_eq_true,decide_eq_true_eq,beq_iff_eq,show ¬ ((-1:Int) > 0) by decide,if_false]
 split <;> omega
end
section
variable {X:Cx} {e:Expr} {es:List Expr} {t:TA} {p pos:Pos}
theorem boot_max':bootBuiltins "max" = some (.builtin "max"):=by decide +kernel
theorem boot_abs':bootBuiltins "abs" = some (.builtin "abs"):=by decide +kernel
theorem pcb_max (hc:X.calm=true) (hg:Gl X "max") (hm:X.mg "max" = none) (ha:PA X (e::es) t) (he:starEach (e::es) X.env=(false,eval e X.env)::starEach es X.env) (hpl:(backTo pos (starEach es X.env)).any (·.1)=false) :
 PE X (.Call (.Name "max" p) (e::es) [] pos) (tCB (rMax1P X.K) t):=pe_callB (call_maxP hc) hg hm boot_max' ha (by decide) (by decide) he hpl
theorem zcb_max (hc:X.calm=true) (hg:Gl X "max") (hm:X.mg "max" = none) (ha:ZA X (e::es) t) (he:starEach (e::es) X.env=(false,eval e X.env)::starEach es X.env) (hpl:(backTo pos (starEach es X.env)).any (·.1)=false) :
 ZE X (.Call (.Name "max" p) (e::es) [] pos) (tCB (rMax1P X.K) t):=by with_unfolding_all exact pcb_max hc hg hm ha he hpl
def rAbsP:List V→Hp→VK→Prop:=fun xs H Q=>match xs with
 | [.int i]=>Q (.int (if i<0 then -i else i)) H
 | _=>False
theorem call_absP:CallR X (.builtin "abs") rAbsP:=call_abs.imp fun xs H Q h=>by
 unfold rAbsP at h
 split at h
 · exact ⟨_,rfl,h⟩
 · exact h.elim
theorem pcb_abs (hg:Gl X "abs") (hm:X.mg "abs" = none) (ha:PA X (e::es) t) (he:starEach (e::es) X.env=(false,eval e X.env)::starEach es X.env) (hpl:(backTo pos (starEach es X.env)).any (·.1)=false) :
 PE X (.Call (.Name "abs" p) (e::es) [] pos) (tCB rAbsP t):=pe_callB call_absP hg hm boot_abs' ha (by decide) (by decide) he hpl
def rAppP:V→List V→Hp→VK→Prop:=fun x vs H Q=>match x,vs with
 | .ref l,[y]=>∃ xs,H l=some (.lst xs)∧xs.length<sizeLine∧Q .non (upd H l (.lst (xs++[y])))
 | _,_=>False
theorem mt_appP:MtM X "list.append" rAppP:=fun pins s σ H x vs v us Q I rx rv h=>by
 unfold rAppP at h
 split at h
 · obtain ⟨xs,h1,h2,q⟩:=h
   exact mt_append pins s σ H _ _ v us Q I rx rv ⟨_,xs,_,rfl,rfl,h1,h2,q⟩
 · exact h.elim
variable {o:Expr} {to:TE} {apos cpos:Pos}
theorem pm_append (ho:PE X o to) (ha:PA X (e::es) t) (hbase:attributeBase o "append" X.env (eval o X.env)=eval o X.env:=by rfl)
 (hfew:((backTo cpos (starEach (e::es) X.env)).all (fun x=>!x.1)&&(backToKw cpos (keywordEach [] X.env)).all (fun x=>x.1.isSome)
   && decide ((e::es).length+([]:List Keyword).length+(if ([]:List Keyword).isEmpty then 0 else 1)<30))=true:=by rfl)
 (hline:(apos.endLine == cpos.line)=true:=by rfl) (hs:starEach (e::es) X.env=(false,eval e X.env)::starEach es X.env:=by rfl) (hplain:(backTo cpos (starEach es X.env)).any (·.1)=false:=by rfl) :
 PE X (.Call (.Attribute o "append" apos) (e::es) [] cpos) (fun σ H Q=>to σ H fun x H1=>tyV X.K "list" x H1∧t σ H1 fun xs H2=>rAppP x xs H2 Q):=
 pe_bm PySem.F.plainAttrs_list PySem.F.slot_list_append PySem.F.type_list_append mt_appP ho ha hbase hfew hline hs hplain
theorem zm_append (ho:ZE X o to) (ha:ZA X (e::es) t) (hbase:attributeBase o "append" X.env (eval o X.env)=eval o X.env:=by rfl)
 (hfew:((backTo cpos (starEach (e::es) X.env)).all (fun x=>!x.1)&&(backToKw cpos (keywordEach [] X.env)).all (fun x=>x.1.isSome)
   && decide ((e::es).length+([]:List Keyword).length+(if ([]:List Keyword).isEmpty then 0 else 1)<30))=true:=by rfl)
 (hline:(apos.endLine == cpos.line)=true:=by rfl) (hs:starEach (e::es) X.env=(false,eval e X.env)::starEach es X.env:=by rfl) (hplain:(backTo cpos (starEach es X.env)).any (·.1)=false:=by rfl) :
 ZE X (.Call (.Attribute o "append" apos) (e::es) [] cpos) (fun σ H Q=>to σ H fun x H1=>tyV X.K "list" x H1∧t σ H1 fun xs H2=>rAppP x xs H2 Q):=by with_unfolding_all exact pm_append ho ha hbase hfew hline hs hplain
theorem tyL {K:PySem.W.Frag} {H:Hp} {l:Addr} {xs:List V} (h:H l=some (.lst xs)):tyV K "list" (.ref l) H:=.inl ⟨rfl,xs,SqL.of h⟩
end
theorem DatV.ints {H:Hp} {a:Addr} {ns:List Int} (e:H a=some (.tup (ns.map V.int))):DatV H (.ref a) (.tuple (ns.map PyData.int)):=.tup e (DatAll.ints ns)
def prD (p:Int×Int):PyData:=.tuple [.int p.1,.int p.2]
def PrAt (H:Hp) (v:V) (p:Int×Int):Prop:=∃ b,v=.ref b∧H b=some (.tup [.int p.1,.int p.2])
inductive Prs (H:Hp):List V→List (Int×Int)→Prop where
 | nil:Prs H [] []
 | cons {v p vs ps}:PrAt H v p→Prs H vs ps→Prs H (v::vs) (p::ps)
theorem Prs.same {H H':Hp} (y:Same H H'):∀ {vs ps},Prs H vs ps→Prs H' vs ps
 | _,_,.nil=>.nil
 | _,_,.cons ⟨b,e,h⟩ r=>.cons ⟨b,e,y _ _ h⟩ (Prs.same y r)
theorem Prs.dat {H:Hp}:∀ {vs ps},Prs H vs ps→DatAll H vs (ps.map prD)
 | _,_,.nil=>.nil
 | _,_,.cons ⟨b,e,h⟩ r=>by
   subst e
   exact .cons (.tup h (.cons (.int _) (.cons (.int _) .nil))) (Prs.dat r)
theorem Prs.length {H:Hp}:∀ {vs ps},Prs H vs ps→vs.length=ps.length
 | _,_,.nil=>rfl
 | _,_,.cons _ r=>by rw [List.length_cons,List.length_cons,Prs.length r]
theorem Prs.get {H:Hp}:∀ {vs ps} {i:Nat} {v:V},Prs H vs ps→vs[i]? = some v→∃ p,ps[i]? = some p∧PrAt H v p
 | _,_,_,_,.nil,h=>by simp at h
 | _,_,0,_,.cons h _,e=>by simp at e;subst e;exact ⟨_,rfl,h⟩
 | _,_,i+1,_,.cons _ r,e=>by
   obtain ⟨p,h1,h2⟩:=Prs.get (i:=i) r (by simpa using e)
   exact ⟨p,by simpa using h1,h2⟩
theorem Prs.snoc {H:Hp} {v:V} {p:Int×Int} (h:PrAt H v p):∀ {vs ps},Prs H vs ps→Prs H (vs++[v]) (ps++[p])
 | _,_,.nil=>.cons h .nil
 | _,_,.cons q r=>.cons q (Prs.snoc h r)
theorem Same.updN {H H':Hp} {t:Addr} {o:HO} (y:Same H H') (h:H t=none):Same H (upd H' t o):=fun b u e=>by
 rw [upd_ne (ne_of_none e h)]
 exact y b u e
theorem Prs.updL {H:Hp} {t:Addr} {xs ys:List V} (h:H t=some (.lst xs)):∀ {us ps},Prs H us ps→Prs (upd H t (.lst ys)) us ps
 | _,_,.nil=>.nil
 | _,_,.cons ⟨b,e,hb⟩ r=>.cons ⟨b,e,by rw [upd_ne (ne_of hb h (by intro z;cases z))];exact hb⟩ (Prs.updL h r)
theorem canInts:∀ ns:List Int,PyData.canLayAll0 (ns.map PyData.int)=true∧PyData.depthAll (ns.map PyData.int)≤1
 | []=>⟨by simp [PyData.canLayAll0],by simp [PyData.depthAll]⟩
 | n::r=>by
   obtain ⟨h1,h2⟩:=canInts r
   refine ⟨by simp only [List.map_cons,PyData.canLayAll0,PyData.canLay0,h1,Bool.and_self],?_⟩
   simp only [List.map_cons,PyData.depthAll,PyData.depth]
   omega
theorem shaped_ints (ns:List Int):SeqAt.shaped (.tuple (ns.map PyData.int))=true:=by
 obtain ⟨h1,h2⟩:=canInts ns
 unfold SeqAt.shaped
 rw [Bool.and_eq_true]
 exact ⟨by simp only [PyData.canLay0];exact h1,decide_eq_true (by simp only [PyData.depth];omega)⟩
theorem shaped_list_ints (ns:List Int):SeqAt.shaped (.list (ns.map PyData.int))=true:=by
 obtain ⟨h1,h2⟩:=canInts ns
 unfold SeqAt.shaped
 rw [Bool.and_eq_true]
 exact ⟨by simp only [PyData.canLay0];exact h1,decide_eq_true (by simp only [PyData.depth];omega)⟩
theorem canPrs:∀ ps:List (Int×Int),PyData.canLayAll0 (ps.map prD)=true∧PyData.depthAll (ps.map prD)≤2
 | []=>⟨by simp [PyData.canLayAll0],by simp [PyData.depthAll]⟩
 | n::r=>by
   obtain ⟨h1,h2⟩:=canPrs r
   refine ⟨by simp only [List.map_cons,PyData.canLayAll0,prD,PyData.canLay0,h1,Bool.and_self],?_⟩
   simp only [List.map_cons,PyData.depthAll,prD,PyData.depth]
   omega
theorem eqv_self {d:PyData} (h:SeqAt.shaped d=true):PyData.eqv d d=true:=SeqAt.eqv_refl d (SeqAt.canLay_of_shaped h)
theorem SqL.same {K:PySem.W.Frag} {H H':Hp} {a:Addr} {xs:List V} (e:Same H H') (h:SqL K H a xs):SqL K H' a xs:=by
 rcases h with (h | ⟨o,h⟩) | h
 · exact .inl (.inl (e _ _ h))
 · exact .inl (.inr ⟨o,e _ _ h⟩)
 · exact .inr h
theorem while_by2 {c:TT} {tb:TS} {D:Ends} {σ:St} {H:Hp} (Pv:Nat→St→Hp→Prop) (m0:Nat) (h0:Pv m0 σ H)
 (hs:∀ m σ H,Pv m σ H→c σ H fun b H1=>if b=true then ∃ N:St→Hp→Prop,(∀ σ' H',N σ' H'→∃ m',m' < m∧Pv m' σ' H')∧tb { D with nx:=N,ct:=N,bk:=D.nx } σ H1 else D.nx σ H1):tWhile c tb D σ H:=⟨Pv,⟨m0,h0⟩,hs⟩
end L2
namespace K31
open PySem L2
def top (i:Nat):Stmt:=PySem.Challenge.pw_partrests_k31_whole_known_claims.main.body.getD i (.Pass ⟨0,0,0,0⟩)
def Hand (H:Hp) (a:Addr) (n:Nat):Prop:=∃ g s c:Int,H a=some (.lst [.int g,.int s,.int c])∧0≤g∧0≤s∧s<2305843009213693951∧0≤c∧c≤n
def Step (a:Addr) (n:Nat) (H H':Hp):Prop:=(∀ b o,b≠a→H b=some o→H' b=some o)∧Hand H' a n
theorem Hand.mono {H:Hp} {a:Addr} {n m:Nat} (h:Hand H a n) (k:n≤m):Hand H a m:=let ⟨g,s,c,e,h1,h2,h3,h4,h5⟩:=h;⟨g,s,c,e,h1,h2,h3,h4,by omega⟩
theorem Hand.same {H H':Hp} {a:Addr} {n:Nat} (h:Hand H a n) (y:Same H H'):Hand H' a n:=let ⟨g,s,c,e,r⟩:=h;⟨g,s,c,y _ _ e,r⟩
theorem Hand.at {H:Hp} {a:Addr} {n:Nat} (h:Hand H a n):∃ xs,H a=some (.lst xs):=let ⟨_,_,_,e,_⟩:=h;⟨_,e⟩
theorem Hand.ne {H:Hp} {a b:Addr} {n:Nat} (h:Hand H a n) (hb:H b=none):b≠a:=fun z=>by
 obtain ⟨xs,e⟩:=h.at
 rw [z,e] at hb
 cases hb
theorem Step.trans {a:Addr} {n m:Nat} {H H1 H2:Hp} (x:Step a n H H1) (y:Step a m H1 H2):Step a m H H2:=⟨fun b o k e=>y.1 b o k (x.1 b o k e),y.2⟩
theorem Step.same {a:Addr} {n:Nat} {H H1 H2:Hp} (x:Step a n H H1) (y:Same H1 H2):Step a n H H2:=⟨fun b o k e=>y b o (x.1 b o k e),x.2.same y⟩
theorem Step.refl {a:Addr} {n:Nat} {H:Hp} (h:Hand H a n):Step a n H H:=⟨fun _ _ _ e=>e,h⟩
theorem Step.of_same {a:Addr} {n:Nat} {H H1:Hp} (h:Hand H a n) (y:Same H H1):Step a n H H1:=(Step.refl h).same y
theorem Step.mono {a:Addr} {n m:Nat} {H H':Hp} (x:Step a n H H') (k:n≤m):Step a m H H':=⟨x.1,x.2.mono k⟩
theorem Step.tup {a b:Addr} {n m:Nat} {H H1:Hp} {xs:List V} (h:Hand H a m) (x:Step a n H H1) (e:H b=some (.tup xs)):H1 b=some (.tup xs):=by
 obtain ⟨ys,e'⟩:=h.at
 exact x.1 b _ (ne_of e e' (by intro z;cases z)) e
theorem atI_of {xs:List V} {k:Int} {j:Nat} {v:V} (h:k=(j:Int)) (hx:xs[j]? = some v):atI xs k=some v:=by subst h;exact atI_nat hx
theorem getI {ns:List Int} {j:Nat} (h:j<ns.length):(ns.map V.int)[j]? = some (.int ns[j]):=by rw [List.getElem?_map,List.getElem?_eq_getElem h];rfl
theorem rep_flat (n:Nat) (x:Int):(List.replicate n [V.int x]).flatten=(List.replicate n x).map V.int:=by
 induction n with
 | zero=>rfl
 | succ n ih=>rw [List.replicate_succ,List.flatten_cons,ih,List.replicate_succ,List.map_cons];rfl
theorem le_line {n:Nat} (h:n≤1000):n≤sizeLine:=Nat.le_of_lt (small1000 h)
theorem mulR {a b:Int} (h1:-(2 ^ 64)<b) (h2:b<2 ^ 64):IntMulOk a b:=IntMulOk.of_right (intBits_le_64 h1 h2)
theorem mulL {a b:Int} (h1:-(2 ^ 64)<a) (h2:a<2 ^ 64):IntMulOk a b:=IntMulOk.of_left (intBits_le_64 h1 h2)
section
variable {P:Program} {w:World} {K:PySem.W.Frag} {mg:Str→Option Value} {base:Heap} {f:Addr} {fd:FuncData}
theorem sc_take:FnScope ["_law_hand_here","_law_many","_law_digit","_law_blent"] ["_law_hand_here","_law_many"] (defScope (top 34)):=⟨rfl,rfl,rfl,by decide +kernel,rfl,by decide +kernel,by decide +kernel⟩
def sp_take:Sp:=fun vs H Q _=>∃ (a:Addr) (m:Int) (n:Nat),vs=[.ref a,.int m]∧Hand H a n∧n<1000000000∧0<m∧m<1073741824∧∀ r H',0≤r→r<m→Step a (n+1) H H'→Q (.int r) H'
theorem ok_take (F:Fun K "_law_take" "_law_take" (top 34) f fd):FnOk P w K mg base CX0 1 f fd ["_law_hand_here","_law_many"] sp_take:=by
 refine F.ok sc_take (fun vs H Q E h=>?_) (fun cdv A outer s H vs Q E hr h=>?_)
 · obtain ⟨a,m,n,rfl,_⟩:=h;rfl
 obtain ⟨a,m,n,rfl,⟨g,z,c,hl,g0,z0,z1,c0,c1⟩,n1,m0,m1,q⟩:=h
 have nd:=sc_take.nd
 refine ⟨_,(pss_cons (ps_if (pt_cmpP op_gtP (pe_ix ix_P (pn 0) pe_int (fun _ _=>rfl)) pe_int (nomark _)) (pss_cons (ps_set (i:=2) nd rfl (Or.inl rfl) (pe_op op_modP (pe_ix ix_P (pn 0) pe_int (fun _ _=>rfl)) (pn 1)))
  (pss_cons (ps_asg (pe_op op_fdivP (pe_ix ix_P (pn 0) pe_int (fun _ _=>rfl)) (pn 1)) (pg_sub (pn 0) pe_int set_list))
  (pss_one (ps_ret (pn 2))))) pss_nil)
  (pss_cons (ps_asg (pe_op op_addP (pe_ix ix_P (pn 0) pe_int (fun _ _=>rfl)) pe_int) (pg_sub (pn 0) pe_int set_list))
  (pss_cons (ps_set (i:=3) nd rfl (Or.inl rfl) (pe_op op_modP (pe_op op_mulQ (pe_op op_addP (pe_op op_addP (pe_ix ix_P (pn 0) pe_int (fun _ _=>rfl)) (pe_op op_mulQ (pe_op op_mulQ pe_int (pe_ix ix_P (pn 0) pe_int (fun _ _=>rfl))) (pe_ix ix_P (pn 0) pe_int (fun _ _=>rfl)))) pe_int) pe_int) pe_int))
  (pss_cons (ps_set (i:=3) nd rfl (Or.inl rfl) (pe_op op_modP (pe_op op_mulQ (pn 3) (pe_op op_addP (pe_op op_modP (pn 3) pe_int) (pe_op op_mulQ pe_int (pe_ix ix_P (pn 0) pe_int (fun _ _=>rfl))))) pe_int))
  (pss_one (ps_ret (pe_op op_modP (pe_op op_addP (pe_op op_fdivP (pn 3) pe_int) (pe_op op_fdivP (pn 3) pe_int)) (pn 1)))))))),?_⟩
 refine ⟨_,.inl (SqL.of hl),.int g,rfl,?_⟩
 refine iteD (fun hg=>?_) (fun hg=>?_)
 · refine ⟨_,.inl (SqL.of hl),.int g,rfl,m0,?_⟩
   refine ⟨_,.inl (SqL.of hl),.int g,rfl,⟨m0,m1⟩,?_⟩
   refine ⟨a,_,_,_,rfl,rfl,hl,rfl,?_⟩
   refine q _ _ (Int.emod_nonneg _ (by omega)) (Int.emod_lt_of_pos _ m0) ⟨fun b o n e=>?_,g / m,z,c,upd_same,Int.ediv_nonneg g0 (by omega),z0,z1,c0,by omega⟩
   rw [upd_ne n];exact e
 · refine ⟨_,.inl (SqL.of hl),.int c,rfl,?_⟩
   refine ⟨a,_,_,_,rfl,rfl,hl,rfl,?_⟩
   refine ⟨_,.inl (SqL.of upd_same),.int z,rfl,?_⟩
   refine ⟨_,.inl (SqL.of upd_same),.int (c+1),rfl,mulL (by decide) (by decide),?_⟩
   refine ⟨_,.inl (SqL.of upd_same),.int (c+1),rfl,mulR (by omega) (by omega),mulR (by decide) (by decide),(show (0:Int)<2305843009213693921 by decide),?_⟩
   generalize hb1:(z+65537*(c+1)*(c+1)+11)*48271 % 2305843009213693921=b1
   have e1:0≤b1:=by rw [← hb1];exact Int.emod_nonneg _ (by decide)
   have e2:b1<2305843009213693921:=by rw [← hb1];exact Int.emod_lt_of_pos _ (by decide)
   refine ⟨(show (0:Int)<1000003 by decide),?_⟩
   refine ⟨_,.inl (SqL.of upd_same),.int (c+1),rfl,mulL (by decide) (by decide),mulL (by omega) (by omega),(show (0:Int)<2305843009213693907 by decide),?_⟩
   refine ⟨⟨by decide,by decide⟩,⟨by decide,by decide⟩,m0,?_⟩
   refine q _ _ (Int.emod_nonneg _ (by omega)) (Int.emod_lt_of_pos _ m0) ⟨fun b o n e=>?_,g,z,c+1,upd_same,g0,z0,z1,by omega,by omega⟩
   rw [upd_ne n];exact e
theorem sc_hand:FnScope ["_law_script","_law_k","_law_cell","_law_great"] ["_law_script","_law_k"] (defScope (top 33)):=⟨rfl,rfl,rfl,by decide +kernel,rfl,by decide +kernel,by decide +kernel⟩
def sp_hand (K:PySem.W.Frag):Sp:=fun vs H Q _=>∃ (a:Addr) (k:Int) (ns:List Int),vs=[.ref a,.int k]∧SqL K H a (ns.map V.int)∧0≤k∧k≤100∧∀ p H',H p=none→Same H H'→Hand H' p 0→Q (.ref p) H'
theorem big_ok2:IntMulOk ((10:Int) ^ Int.toNat 60) ((10:Int) ^ Int.toNat 60):=by unfold IntMulOk;decide +kernel
theorem big_ok3:IntMulOk ((10:Int) ^ Int.toNat 60*(10:Int) ^ Int.toNat 60) ((10:Int) ^ Int.toNat 60):=by unfold IntMulOk;decide +kernel
theorem big_ok4:IntMulOk ((10:Int) ^ Int.toNat 60*(10:Int) ^ Int.toNat 60*(10:Int) ^ Int.toNat 60) ((10:Int) ^ Int.toNat 60):=by unfold IntMulOk;decide +kernel
theorem ok_hand (F:Fun K "_law_hand" "_law_hand" (top 33) f fd) (m_abs:mg "abs" = none) (m_len:mg "len" = none):FnOk P w K mg base CX0 1 f fd ["_law_script","_law_k"] (sp_hand K):=by
 refine F.ok sc_hand (fun vs H Q E h=>?_) (fun cdv A outer s H vs Q E hr h=>?_)
 · obtain ⟨a,k,ns,rfl,_⟩:=h;rfl
 obtain ⟨a,k,ns,rfl,hS,k0,k1,q⟩:=h
 have nd:=sc_hand.nd
 have rest:∃ t,PSs (cxOf CX0 P w K mg base ["_law_script","_law_k","_law_cell","_law_great"] "_law_hand" (defScope (top 33)) f cdv A outer s H E).nox ((defBody (top 33)).drop 1) t ∧
  ∀ v:Int,0≤v→t { nx:=fun _ H'=>Q .non H',rt:=Q } [some (.ref a),some (.int k),some (.int v),none] H:=by
  refine ⟨_,(pss_cons (ps_set (i:=3) nd rfl (Or.inl rfl) (pe_ifExp (pt_cmpP op_geP (pn 2) (pe_op op_powP pe_int pe_int) (nomark _)) (pe_op op_modP (pn 2) (pe_op op_mulQ (pe_op op_mulQ (pe_op op_mulQ (pe_op op_powP pe_int pe_int) (pe_op op_powP pe_int pe_int)) (pe_op op_powP pe_int pe_int)) (pe_op op_powP pe_int pe_int))) pe_int))
   (pss_one (ps_ret (pe_lst (pa_cons (pn 3) (pa_cons (pe_op op_modP (pe_op op_mulQ (pe_op op_addP (pe_op op_addP (pe_op op_modP (pn 2) pe_int) (pe_op op_mulQ (pe_op op_mulQ pe_int (pn 1)) (pn 1))) pe_int) pe_int) pe_int) (pa_cons pe_int pa_nil))))))),?_⟩
  intro v v0
  have e1:0≤v % 2305843009213693951:=Int.emod_nonneg _ (by decide)
  have e2:v % 2305843009213693951<2305843009213693951:=Int.emod_lt_of_pos _ (by decide)
  have e3:0≤7919*k*k:=Int.mul_nonneg (Int.mul_nonneg (by decide) k0) k0
  have e5:0≤(v % 2305843009213693951+7919*k*k+3)*48271 % 2305843009213693921:=Int.emod_nonneg _ (by decide)
  have e6:(v % 2305843009213693951+7919*k*k+3)*48271 % 2305843009213693921<2305843009213693921:=Int.emod_lt_of_pos _ (by decide)
  refine ⟨⟨by decide,by decide,by decide⟩,?_⟩
  refine iteD (fun hv=>?_) (fun hv=>?_)
  · refine ⟨⟨by decide,by decide,by decide⟩,⟨by decide,by decide,by decide⟩,big_ok2,⟨by decide,by decide,by decide⟩,big_ok3,⟨by decide,by decide,by decide⟩,big_ok4,(show (0:Int)<10 ^ Int.toNat 60*10 ^ Int.toNat 60*10 ^ Int.toNat 60*10 ^ Int.toNat 60 by decide),?_⟩
    refine ⟨(show (0:Int)<2305843009213693951 by decide),mulL (by decide) (by decide),mulR (by omega) (by omega),mulR (by decide) (by decide),(show (0:Int)<2305843009213693921 by decide),(by show 3≤sizeLine;decide),fun p hp=>?_⟩
    exact q p _ hp (Same.new hp _) ⟨_,_,0,upd_same,Int.emod_nonneg _ (by decide),e5,by omega,by decide,by decide⟩
  · refine ⟨(show (0:Int)<2305843009213693951 by decide),mulL (by decide) (by decide),mulR (by omega) (by omega),mulR (by decide) (by decide),(show (0:Int)<2305843009213693921 by decide),(by show 3≤sizeLine;decide),fun p hp=>?_⟩
    exact q p _ hp (Same.new hp _) ⟨_,_,0,upd_same,by decide,e5,by omega,by decide,by decide⟩
 obtain ⟨t2,ht2,rest⟩:=rest
 refine ⟨_,(pss_cons (ps_set (i:=2) nd rfl (Or.inl rfl) (pe_ifExp (pt_cmpP op_ltP (pn 1) (pcb_len rfl m_len (pa_cons (pn 0) pa_nil) rfl rfl) (nomark _)) (pcb_abs rfl m_abs (pa_cons (pe_ix ix_P (pn 0) (pn 1) (fun _ _=>rfl)) pa_nil) rfl rfl) pe_int))
  ht2),?_⟩
 refine ⟨_,.inl hS,?_⟩
 refine iteD (fun hk=>?_) (fun hk=>?_)
 · rw [List.length_map] at hk
   have hj:k.toNat<ns.length:=by omega
   refine ⟨_,.inl hS,.int ns[k.toNat],atI_of (by omega) (getI hj),?_⟩
   exact rest _ (by split <;> omega)
 · exact rest 0 (by decide)
end
end K31
namespace L2
open PySem PySem.Spec PyProof.Rows
section
variable {X:Cx}
def rGetL (K:PySem.W.Frag):V→V→Hp→VK→Prop:=fun x y H Q=>match x,y with
 | .ref p,.int i=>∃ xs v,SqL K H p xs∧0≤i∧xs[i.toNat]? = some v∧Q v H
 | _,_=>False
theorem get_list:PGet X (rGetL X.K):=by
 intro pins s σ H x y v u Q I rx ry h
 unfold rGetL at h
 split at h
 · rename_i p i
   obtain ⟨xs,z,hq,h0,he,q⟩:=h
   cases rx
   obtain ⟨t,rfl⟩:=ry
   obtain ⟨its,r,pl,hz⟩:=I.list hq
   obtain ⟨w,ew,rw'⟩:=r.get he
   have hl:=r.length
   have hn:=line63
   have hi:i.toNat<its.length:=(List.getElem?_eq_some_iff.mp ew).1
   exact wpAny_getItem_list pl.isList h0 (by omega) (by simpa using ew) ⟨z,H,I,rw',q⟩
 · exact h.elim
def ipP (f:Int→Int→Int):TIp:=fun x y H Q=>match x,y with
 | .int i,.int j=>Q (.int (f i j)) H
 | _,_=>False
theorem ipP_I {f:Int→Int→Int} {x y:V} {H:Hp} {Q:VK} (h:ipP f x y H Q):ipI f x y H Q:=by
 unfold ipP at h
 split at h
 · exact ⟨_,_,rfl,rfl,h⟩
 · exact h.elim
theorem ip_addP:PIp X .Add (ipP fun i j=>i+j):=fun pins s σ H x y v u Q I r1 r2 h=>ip_add pins s σ H x y v u Q I r1 r2 (ipP_I h)
theorem ip_subP:PIp X .Sub (ipP fun i j=>i - j):=fun pins s σ H x y v u Q I r1 r2 h=>ip_sub pins s σ H x y v u Q I r1 r2 (ipP_I h)
def rSetP:V→V→V→Hp→(Hp→Prop)→Prop:=fun o i v H Q=>match o,i with
 | .ref p,.int k=>∃ xs,H p=some (.lst xs)∧0≤k∧k.toNat<xs.length∧Q (upd H p (.lst (xs.set k.toNat v)))
 | _,_=>False
theorem set_listP:PSet X rSetP:=fun pins s σ H o i v ov iv u Q I r1 r2 r3 h=>by
 unfold rSetP at h
 split at h
 · obtain ⟨xs,h1,h2,h3,q⟩:=h
   refine set_list pins s σ H _ _ v ov iv u Q I r1 r2 r3 ⟨_,xs,_,_,rfl,rfl,h1,?_,q⟩
   unfold ixN
   rw [if_pos h2,if_pos (by omega)]
 · exact h.elim
end
end L2
namespace L2
open PySem
def forBody:Stmt→List Stmt
 | .For _ _ b _ _=>b
 | .While _ b _ _=>b
 | _=>[]
end L2
namespace L2
open PySem PySem.Spec PyProof.Rows
section
variable {X:Cx}
def IntG (mg:Str→Option Value) (x:Str) (i:Int):Prop:=∃ t,mg x=some (.int i t)
theorem pe_ig {x:Str} {i:Int} {pos:Pos} (hg:Gl X x) (hm:IntG X.mg x i) (hd:(x == ("__debug__" : Str))=false:=by decide):PE X (.Name x pos) (tC (.int i)):=by
 obtain ⟨t,e⟩:=hm
 exact pe_glob hg e ⟨t,rfl⟩ hd
theorem ze_ig {x:Str} {i:Int} {pos:Pos} (hg:Gl X x) (hm:IntG X.mg x i) (hd:(x == ("__debug__" : Str))=false:=by decide):ZE X (.Name x pos) (tC (.int i)):=by with_unfolding_all exact pe_ig hg hm hd
theorem pe_fn0 {x:Str} {k k':Nat} {sp:Sp} {p pos:Pos} (F:FnA X.prog X.w X.K X.mg X.base x k [] sp) (hr:Room k' X.A) (hk:k≤k') (hg:Gl X x) (hdb:(x == ("__debug__" : Str))=false:=by decide) :
 PE X (.Call (.Name x p) [] [] pos) (tFn sp tNil):=by
 obtain ⟨f,fd,F1,b1,k1,m1⟩:=F.ex
 exact (pe_call0 (F1.mono hk) hr hg m1 k1 b1 .nil pass0 hdb).imp fun σ H Q h=>h
theorem ze_fn0 {x:Str} {k k':Nat} {sp:Sp} {p pos:Pos} (F:FnA X.prog X.w X.K X.mg X.base x k [] sp) (hr:Room k' X.A) (hk:k≤k') (hg:Gl X x) (hdb:(x == ("__debug__" : Str))=false:=by decide) :
 ZE X (.Call (.Name x p) [] [] pos) (tFn sp tNil):=by with_unfolding_all exact pe_fn0 F hr hk hg hdb
end
section
variable {X:Cx} {K:PySem.W.Frag}
theorem ix_P' (h:X.K=K):IxR X (rIxP K):=by subst h;exact ix_P
end
section
variable {prog:Program} {w:World} {A:Around} {E:Value→Shared→Prop} {s:Shared}
theorem nextOf_tup_item {it t:Addr} {i:Nat} {items:Array Value} {x:Value} {Q:Value→Shared→Prop} (hit:s.heap.IsTupleIter it t i) (ht:s.heap.IsTuple t items) (hx:items[i]? = some x)
 (hQ:∀ h',h'.IsTupleIter it t (i+1)→Heap.SameBut it s.heap h'→Q x { s with heap:=h' }):wpAny (model prog w) A (Builtin.SmallTypes.nextOf (.ref it)) Q E s:=by
 obtain ⟨ot,h1,c1,d1⟩:=id hit
 obtain ⟨og,h2,c2,n2,d2⟩:=ht
 unfold Builtin.SmallTypes.nextOf
 refine wpAny_bind (wpAny_callSpecial?_slot hit.typeIs F.slot_tuple_iterator_next (wpAny_call_entry F.slot_tuple_iterator_next hit.typeIs F.entry_tuple_iterator_next ?_ (F.args_tuple_iterator_next_1 _)))
 refine wpAny_bind (m:=field (.ref it) 0) (wpAny_field h1 d1 (x:=.ref t) rfl ?_)
 have hnn:¬ ((Value.ref t == Value.none)=true):=fun z=>Bool.false_ne_true z
 show wpAny _ _ (if (Value.ref t == Value.none)=true then _ else _) _ _ _
 rw [if_neg hnn]
 refine wpAny_bind (m:=field (.ref it) 1) (wpAny_field h1 d1 (x:=.int i 0) rfl (wpAny_bind (m:=seqItems? (.ref t)) (wpAny_seqItems h2 d2 ?_)))
 simp only [Int.toNat_natCast,hx]
 refine wpAny_bind (wpAny_setField h1 d1 (by simp) (wpAny_pure ⟨_,rfl,wpAny_pure (hQ _ ⟨_,Heap.get?_update_self _ h1 (Obj.isFreed_of_fields (Obj.data_mapFields d1 _)),(Obj.cls_mapFields ..).trans c1,?_⟩ (Heap.SameBut.update ..))⟩))
 rw [Obj.data_mapFields d1]
 simp [rawInt]
theorem nextOf_tup_end {it t:Addr} {i:Nat} {items:Array Value} {Q:Value→Shared→Prop} (hh:A.handled=none) (hit:s.heap.IsTupleIter it t i) (ht:s.heap.IsTuple t items) (hx:items[i]? = none)
 (hE:∀ h' e,Heap.ExtBut it s.heap h'→(∃ o,h'.get? e=some o∧o.cls=.type "StopIteration")→E (.ref e) { s with heap:=h' }):wpAny (model prog w) A (Builtin.SmallTypes.nextOf (.ref it)) Q E s:=by
 obtain ⟨ot,h1,c1,d1⟩:=id hit
 obtain ⟨og,h2,c2,n2,d2⟩:=ht
 unfold Builtin.SmallTypes.nextOf
 refine wpAny_bind (wpAny_callSpecial?_slot hit.typeIs F.slot_tuple_iterator_next (wpAny_call_entry F.slot_tuple_iterator_next hit.typeIs F.entry_tuple_iterator_next ?_ (F.args_tuple_iterator_next_1 _)))
 refine wpAny_bind (m:=field (.ref it) 0) (wpAny_field h1 d1 (x:=.ref t) rfl ?_)
 have hnn:¬ ((Value.ref t == Value.none)=true):=fun z=>Bool.false_ne_true z
 show wpAny _ _ (if (Value.ref t == Value.none)=true then _ else _) _ _ _
 rw [if_neg hnn]
 refine wpAny_bind (m:=field (.ref it) 1) (wpAny_field h1 d1 (x:=.int i 0) rfl (wpAny_bind (m:=seqItems? (.ref t)) (wpAny_seqItems h2 d2 ?_)))
 simp only [Int.toNat_natCast,hx]
 refine wpAny_bind (wpAny_rule (wpAny_bind (wpAny_setField h1 d1 (by simp) (wpAny_bind (m:=newExc (.type "StopIteration") []) ?_))))
 simp only [newExc,newTuple,raiseNew]
 refine wpAny_bind (wpAny_newObj_type (wpAny_bind (m:=firstArgMember _ _) (wpAny_of_eq (a:=Value.none) (by first | rfl | (simp only [firstArgMember];rfl)) (wpAny_newObj_type (wpAny_bind (wpAny_handled ?_)) (by size_fits)))) (by size_fits))
 first | rw [show A.in1.handled=none from hh] | rw [hh]
 exact wpAny_bind (wpAny_pure (wpAny_throw (hE _ _ (((Heap.SameBut.update ..).extBut.push _).push _) ⟨_,Heap.get?_push_size _ rfl,rfl⟩)))
end
section
variable {X:Cx} {pins:List (Addr×Obj)} {σ:St} {H:Hp} {s:Shared}
theorem Inv.turned2 {h':Heap} {t':Nat} {e it:Addr} (I:Inv X pins σ H s) (hk:∀ b o,b≠e→b≠it→s.heap.get? b=some o→h'.get? b=some o) (fe:FpOk X pins H e) (fi:FpOk X pins H it):Inv X pins σ H { s with heap:=h',toks:=t' }:=by
 have ne:∀ {b},b∉[e,it]→b≠e∧b≠it:=fun {b} hb=>⟨fun z=>hb (by simp [z]),fun z=>hb (by simp [z])⟩
 refine I.step (g':=s.gens) (d':=s.drawn) (ch:=[e,it]) (fun b hb=>?_) (fun b o _ _ hb q _=>hk b o (ne hb).1 (ne hb).2 q) (fun b o _ _ hb q _=>⟨o.slots,hk b o (ne hb).1 (ne hb).2 q⟩) (fun b o _ _ n=>n) (fun b o hb q=>⟨o,hk b o (ne hb).1 (ne hb).2 q⟩)
  (fun _ _ q=>q) (fun _ _ _ q=>q) (fun b ps q=>⟨#[],by rw [q];simp⟩) (fun m hm=>?_) (fun b u q=>?_) I.bare
 · rcases List.mem_cons.mp hb with rfl | hb
   · exact ⟨fe.2.2.2.1,fe.2.1,fe.2.2.2.2.1,fe.2.2.2.2.2⟩
   · have:b=it:=by simpa using hb
     subst this
     exact ⟨fi.2.2.2.1,fi.2.1,fi.2.2.2.2.1,fi.2.2.2.2.2⟩
 · obtain ⟨o,es,ep,ho,r⟩:=hm
   exact ⟨o,es,ep,hk _ o (Ne.symm fe.2.1) (Ne.symm fi.2.1) ho,r⟩
 · refine (I.hok b u q).stay (fun c v hc r=>?_) (fun c r=>r) fun c xs r=>r
   have nn:∀ x,FpOk X pins H x→c≠x:=fun x fx z=>by
    subst z
    rcases hc with rfl | hc
    · rw [fx.1] at q;cases q
    · rw [fx.1] at hc;cases hc
   exact hk c v (nn e fe) (nn it fi) r
theorem Inv.trackT {D:Addr} {ys:List V} {its:List Value} (I:Inv X pins σ H s) (rv:Vals ys its) (hz:ys.length≤sizeLine) (e:TupD s.heap D its.toArray) (hd:FpOk X pins H D):Inv X pins σ (upd H D (.tup ys)) s:=by
 obtain ⟨h1,h2,h3,h4,h5,h6⟩:=hd
 have nD:∀ b u,H b=some u→b≠D:=fun b u q z=>by rw [z,h1] at q;cases q
 refine I.step (s:=s) (h':=s.heap) (g':=s.gens) (t':=s.toks) (d':=s.drawn) (ch:=[D]) (fun b hb=>?_) (fun b o _ _ _ q _=>q) (fun b o _ _ _ q _=>⟨o.slots,q⟩) (fun b o hb _ q=>?_) (fun b o _ q=>⟨o,q⟩)
  (fun b xs q=>(upd_ne (nD b _ q)).trans q) (fun b o u q=>(upd_ne (nD b _ q)).trans q) (fun b ps q=>⟨#[],by rw [upd_ne (nD b _ q),q];simp⟩) (fun m hm=>hm) (fun b u q=>?_) I.bare
 · have:b=D:=by simpa using hb
   subst this
   exact ⟨h4,h2,h5,h6⟩
 · rw [upd_ne (fun z=>hb (by simp [z]))];exact q
 · by_cases hb:b=D
   · subst hb
     rw [upd_same] at q
     cases q
     exact ⟨hz,its,rv,e⟩
   · rw [upd_ne hb] at q
     exact (I.hok b u q).stay (fun c v _ r=>r) (fun c r=>(upd_ne (nD c _ r)).trans r) fun c xs r=>(upd_ne (nD c _ r)).trans r
theorem boot_enumerate':bootBuiltins "enumerate" = some (.type "enumerate"):=by decide +kernel
def rngO (p:Addr) (i j c:Int):HO:=.ext fun h=>∃ t u v,IsRange h p i j c t u v
theorem rng_laid {pins:List (Addr×Obj)} {σ:St} {H:Hp} {s:Shared} {i j c:Int} {t u v:Tok} {tk:Nat} (I:Inv X pins σ H s):Inv X pins σ (upd H s.heap.objs.size (rngO s.heap.objs.size i j c)) { s with heap:=s.heap.push { cls:=.type "range",data:=.fields #[.int i t,.int j u,.int c v] },toks:=tk }:=by
 refine I.laid (fun b o e=>Heap.get?_push_of_some _ e) (Nat.le_refl _) ⟨⟨t,u,v,IsRange.new ..⟩,⟨_,Heap.get?_push_size _ rfl⟩,?_⟩
 rintro h1 h2 ⟨t,u,v,e⟩ k
 exact ⟨t,u,v,k _ e⟩
def rRng:List V→Hp→VK→Prop:=fun vs H1 Q=>match vs with
 | [.int i,.int j]=>∀ p,H1 p=none→Q (.ref p) (upd H1 p (rngO p i j 1))
 | [.int i,.int j,.int c]=>(c≠0∧c<2 ^ 29∧-(2 ^ 29)<c)∧∀ p,H1 p=none→Q (.ref p) (upd H1 p (rngO p i j c))
 | _=>False
theorem call_rng:CallR X (.type "range") rRng:=by
 intro pins s σ H xs us Q I r h
 unfold rRng at h
 split at h
 · obtain ⟨u1,u2,rfl,⟨t1,rfl⟩,t2,rfl⟩:=vals2 r
   exact call_range_2 ⟨.ref s.heap.objs.size,_,rng_laid I,rfl,h _ (I.hok.fresh (Nat.le_refl _))⟩
 · obtain ⟨⟨h1,h2,h3⟩,q⟩:=h
   cases r with
   | cons a1 r=>
     cases r with
     | cons a2 r=>
       cases r with
       | cons a3 r=>
         cases r
         obtain ⟨t1,rfl⟩:=a1
         obtain ⟨t2,rfl⟩:=a2
         obtain ⟨t3,rfl⟩:=a3
         exact PySem.call_range_3 h1 ⟨.ref s.heap.objs.size,_,rng_laid I,rfl,q _ (I.hok.fresh (Nat.le_refl _))⟩ (Or.inl (PyProof.noPylong_small (by omega)))
 · exact h.elim
def rLstR:List V→Hp→VK→Prop:=fun vs H Q=>match vs with
 | [.ref p]=>∃ i j c,H p=some (rngO p i j c)∧Builtin.Range.small i j c=true∧c≠0∧(Builtin.Range.rangeSize i j c).toNat≤1000000∧∀ l,H l=none→Q (.ref l) (upd H l (.lst (((List.range (Builtin.Range.rangeSize i j c).toNat).map fun (k:Nat)=>i+(k:Int)*c).map V.int)))
 | _=>False
theorem vals_of_items {F:Nat→Int}:∀ (n:Nat) {us:List Value},us.length=n→(∀ (j:Nat) (v:Value),us[j]? = some v→∃ t,v=.int (F j) t)→Vals (((List.range n).map F).map V.int) us:=by
 intro n us hl h
 have:∀ (us:List Value) (G:Nat→Int),(∀ (j:Nat) (v:Value),us[j]? = some v→∃ t,v=.int (G j) t)→Vals (((List.range us.length).map G).map V.int) us:=by
  intro us
  induction us with
  | nil=>intro G _;exact .nil
  | cons u r ih=>
    intro G hG
    rw [List.length_cons,List.range_succ_eq_map,List.map_cons,List.map_cons]
    refine .cons (hG 0 u rfl) ?_
    have:=ih (fun j=>G (j+1)) fun j v e=>hG (j+1) v (by simpa using e)
    have e:((List.range r.length).map Nat.succ).map G=(List.range r.length).map (fun j=>G (j+1)):=by rw [List.map_map];rfl
    rw [e]
    exact this
 have:=this us F h
 rw [hl] at this
 exact this
theorem call_lrng (hc:X.calm=true):CallR X (.type "list") rLstR:=by
 intro pins s σ H xs us Q I r h
 unfold rLstR at h
 split at h
 · rename_i p
   obtain ⟨i,j,c,hp,hs,hc0,hn,q⟩:=h
   obtain ⟨u,rfl,rx⟩:=vals1 r
   cases rx
   obtain ⟨⟨t,u,v,hr⟩,_⟩:=I.hok p _ hp
   have h0:=size_nonneg (a:=i) (b:=j) hc0
   refine call_list_range (I.ok.hd hc) hr hs (n:=(Builtin.Range.rangeSize i j c).toNat) (by omega) (by omega) fun h' tk acc' c' hk hS hit=>?_
   have rv:Vals (((List.range (Builtin.Range.rangeSize i j c).toNat).map fun (k:Nat)=>i+(k:Int)*c).map V.int) acc'.toList:=vals_of_items _ (by rw [Array.length_toList];exact hit.1) fun k v e=>hit.2 k v (by simpa using e)
   refine ⟨.ref s.heap.objs.size,_,I.laid (t':=tk) hk (Nat.le_refl _) (show ObjOk X.prog X.w _ h' _ (.lst (((List.range (Builtin.Range.rangeSize i j c).toNat).map fun (k:Nat)=>i+(k:Int)*c).map V.int)) from ⟨?_,acc'.toList,c',rv,hS⟩),rfl,q _ (I.hok.fresh (Nat.le_refl _))⟩
   rw [List.length_map,List.length_map,List.length_range,sizeLine_eq]
   omega
 · exact h.elim
theorem boot_list'':bootBuiltins "list" = some (.type "list"):=by decide +kernel
variable {e:Expr} {es:List Expr} {t:TA} {p pos:Pos}
theorem pcb_range (hg:Gl X "range") (hm:X.mg "range" = none) (ha:PA X (e::es) t) (he:starEach (e::es) X.env=(false,eval e X.env)::starEach es X.env) (hpl:(backTo pos (starEach es X.env)).any (·.1)=false) :
 PE X (.Call (.Name "range" p) (e::es) [] pos) (tCB rRng t):=pe_callTy call_rng hg hm boot_range ha (by decide) (by decide) he hpl
theorem zcb_range (hg:Gl X "range") (hm:X.mg "range" = none) (ha:ZA X (e::es) t) (he:starEach (e::es) X.env=(false,eval e X.env)::starEach es X.env) (hpl:(backTo pos (starEach es X.env)).any (·.1)=false) :
 ZE X (.Call (.Name "range" p) (e::es) [] pos) (tCB rRng t):=by with_unfolding_all exact pcb_range hg hm ha he hpl
theorem pcb_lrange (hc:X.calm=true) (hg:Gl X "list") (hm:X.mg "list" = none) (ha:PA X (e::es) t) (he:starEach (e::es) X.env=(false,eval e X.env)::starEach es X.env) (hpl:(backTo pos (starEach es X.env)).any (·.1)=false) :
 PE X (.Call (.Name "list" p) (e::es) [] pos) (tCB rLstR t):=pe_callTy (call_lrng hc) hg hm boot_list'' ha (by decide) (by decide) he hpl
theorem zcb_lrange (hc:X.calm=true) (hg:Gl X "list") (hm:X.mg "list" = none) (ha:ZA X (e::es) t) (he:starEach (e::es) X.env=(false,eval e X.env)::starEach es X.env) (hpl:(backTo pos (starEach es X.env)).any (·.1)=false) :
 ZE X (.Call (.Name "list" p) (e::es) [] pos) (tCB rLstR t):=by with_unfolding_all exact pcb_lrange hc hg hm ha he hpl
end
def Itq (h:Heap) (i l:Addr) (k:Nat) (xs:Array Value):Prop:=(h.IsListIter i l k∧h.IsList l xs)∨(h.IsTupleIter i l k∧h.IsTuple l xs)
theorem Itq.at {h h':Heap} {i l:Addr} {k:Nat} {xs:Array Value} (x:Itq h i l k xs) (hi:∀ o,h.get? i=some o→h'.get? i=some o) (hl:∀ o,h.get? l=some o→h'.get? l=some o):Itq h' i l k xs:=
 x.elim (fun a=>.inl ⟨a.1.at hi,a.2.at hl⟩) fun a=>.inr ⟨a.1.at hi,a.2.at hl⟩
theorem Itq.but {h h':Heap} {i l z:Addr} {k:Nat} {xs:Array Value} (x:Itq h i l k xs) (e:Heap.ExtBut z h h') (n1:i≠z) (n2:l≠z):Itq h' i l k xs:=x.at (fun o q=>e _ _ n1 q) fun o q=>e _ _ n2 q
section
variable {prog:Program} {w:World} {A:Around} {E:Value→Shared→Prop} {s:Shared}
theorem Itq.item {i l:Addr} {k:Nat} {xs:Array Value} {v:Value} {Q:Value→Shared→Prop} (x:Itq s.heap i l k xs) (hne:l≠i) (hx:xs[k]? = some v)
 (hQ:∀ h',Itq h' i l (k+1) xs→Heap.SameBut i s.heap h'→Q v { s with heap:=h' }):wpAny (model prog w) A (Builtin.SmallTypes.nextOf (.ref i)) Q E s:=by
 rcases x with ⟨x1,x2⟩ | ⟨x1,x2⟩
 · exact wpAny_nextOf_list_item x1 x2 hx fun h' a b=>hQ h' (.inl ⟨a,x2.extBut b.extBut hne⟩) b
 · exact nextOf_tup_item x1 x2 hx fun h' a b=>hQ h' (.inr ⟨a,x2.extBut b.extBut hne⟩) b
theorem Itq.fin {i l:Addr} {k:Nat} {xs:Array Value} {Q:Value→Shared→Prop} (hh:A.handled=none) (x:Itq s.heap i l k xs) (hx:xs[k]? = none)
 (hE:∀ h' e,Heap.ExtBut i s.heap h'→(∃ o,h'.get? e=some o∧o.cls=.type "StopIteration")→E (.ref e) { s with heap:=h' }):wpAny (model prog w) A (Builtin.SmallTypes.nextOf (.ref i)) Q E s:=by
 rcases x with ⟨x1,x2⟩ | ⟨x1,x2⟩
 · exact wpAny_nextOf_list_end hh x1 x2 hx hE
 · exact nextOf_tup_end hh x1 x2 hx hE
theorem zq_item {z TI TO i1 i2 l1 l2:Addr} {k1 k2:Nat} {xs ys:Array Value} {x y a b:Value} {Q:Value→Shared→Prop} (D:ZipApart z TI TO i1 i2 l1 l2) (n12:l1≠TI) (n22:l2≠TI)
 (hz:IsZip s.heap z TI TO .none) (hTI:IsPair s.heap TI (.ref i1) (.ref i2)) (hTO:IsPair s.heap TO a b) (h1:Itq s.heap i1 l1 k1 xs) (h2:Itq s.heap i2 l2 k2 ys) (hx:xs[k1]? = some x) (hy:ys[k2]? = some y)
 (hQ:∀ h',IsZip h' z TI TO (rawInt s.heap.objs.size)→IsPair h' TO x y→Itq h' i1 l1 (k1+1) xs→Itq h' i2 l2 (k2+1) ys→IsPair h' s.heap.objs.size x y→h'.objs.size=s.heap.objs.size+1 →
   (∀ c o,c≠z→c≠TO→c≠i1→c≠i2→s.heap.get? c=some o→h'.get? c=some o)→Q (.ref s.heap.objs.size) { s with heap:=h' }) :
 wpAny (model prog w) A (Builtin.«zip.__next__» ⟨[.ref z],[]⟩) (fun fin s'=>∃ v,fin=.done (.ret v)∧Q v s') E s:=by
 show wpAny _ _ (field (.ref z) 2 >>= _) _ _ _;refine wpAny_bind (wpAny_field hz rfl (x:=.bool false) rfl ?_)
 show wpAny _ _ (field (.ref z) 3 >>= _) _ _ _;refine wpAny_bind (wpAny_field hz rfl (x:=.ref TI) rfl ?_)
 refine wpAny_bind (wpAny_seqItems hTI rfl ?_);show wpAny _ _ (Builtin.SmallTypes.ownedTupleIsFree (.ref z) >>= _) _ _ _
 refine wpAny_bind ?_;unfold Builtin.SmallTypes.ownedTupleIsFree
 refine wpAny_bind (wpAny_field hz rfl (x:=.none) rfl (wpAny_pure ?_));simp only [if_true]
 refine wpAny_bind (wpAny_rule ?_);refine wpAny_bind (wpAny_field hz rfl (x:=.ref TO) rfl ?_)
 refine wpAny_bind (wpAny_setField_rec hz (by simp) fun g1 hz1 e1=>?_)
 replace hz1:IsZip g1 z TI TO .ellipsis:=hz1
 refine wpAny_bind ?_;simp only [List.zipIdx_cons,List.zipIdx_nil,List.forIn_cons,List.forIn_nil]
 refine wpAny_bind (wpAny_bind (wpAny_onRaise ?_));show wpAny _ _ (Builtin.SmallTypes.nextOf (.ref i1) >>= _) _ _ _
 have h1a:Itq g1 i1 l1 k1 xs:=h1.but e1.extBut D.i1z D.l1z
 have h2a:Itq g1 i2 l2 k2 ys:=h2.but e1.extBut D.i2z D.l2z
 refine wpAny_bind (Itq.item (s:={ s with heap:=g1 }) h1a D.l1i1 hx fun g2 h1b e2=>wpAny_pure ?_)
 have hTO2:IsPair g2 TO a b:=e2.extBut _ _ D.TOi1 (e1.extBut _ _ D.TOz hTO)
 have h2b:Itq g2 i2 l2 k2 ys:=h2a.but e2.extBut (Ne.symm D.i12) D.l2i1
 refine wpAny_bind (wpAny_seqItems hTO2 rfl ?_);refine wpAny_bind (wpAny_updateSeq_pair hTO2 fun g3 hTO3 e3=>?_)
 replace hTO3:IsPair g3 TO x b:=hTO3
 have h1c:Itq g3 i1 l1 (k1+1) xs:=h1b.but e3.extBut (Ne.symm D.TOi1) D.l1TO
 have h2c:Itq g3 i2 l2 k2 ys:=h2b.but e3.extBut (Ne.symm D.TOi2) D.l2TO
 refine wpAny_bind (wpAny_letGo (wpAny_pure ?_));refine wpAny_bind (wpAny_bind (wpAny_onRaise ?_))
 show wpAny _ _ (Builtin.SmallTypes.nextOf (.ref i2) >>= _) _ _ _
 refine wpAny_bind (Itq.item (s:={ s with heap:=g3 }) h2c D.l2i2 hy fun g4 h2d e4=>wpAny_pure ?_)
 have hTO4:IsPair g4 TO x b:=e4.extBut _ _ D.TOi2 hTO3
 have h1d:Itq g4 i1 l1 (k1+1) xs:=h1c.but e4.extBut D.i12 D.l1i2
 refine wpAny_bind (wpAny_seqItems hTO4 rfl ?_);refine wpAny_bind (wpAny_updateSeq_pair hTO4 fun g5 hTO5 e5=>?_)
 replace hTO5:IsPair g5 TO x y:=hTO5
 have h1e:Itq g5 i1 l1 (k1+1) xs:=h1d.but e5.extBut (Ne.symm D.TOi1) D.l1TO
 have h2e:Itq g5 i2 l2 (k2+1) ys:=h2d.but e5.extBut (Ne.symm D.TOi2) D.l2TO
 refine wpAny_bind (wpAny_letGo (wpAny_pure (wpAny_pure ?_)));refine wpAny_bind (wpAny_seqItems hTO5 rfl ?_);refine wpAny_bind (wpAny_newTuple ?_)
 have hsz:g5.objs.size=s.heap.objs.size:=by rw [e5.1,e4.1,e3.1,e2.1,e1.1]
 have hz5:IsZip g5 z TI TO .ellipsis:=e5.extBut _ _ (Ne.symm D.TOz) (e4.extBut _ _ (Ne.symm D.i2z) (e3.extBut _ _ (Ne.symm D.TOz) (e2.extBut _ _ (Ne.symm D.i1z) hz1)))
 have k5:∀ c o,c≠z→c≠TO→c≠i1→c≠i2→s.heap.get? c=some o→g5.get? c=some o:=fun c o c1 c2 c3 c4 q=>e5.extBut _ _ c2 (e4.extBut _ _ c4 (e3.extBut _ _ c2 (e2.extBut _ _ c3 (e1.extBut _ _ c1 q))))
 have zlt:z<g5.objs.size:=Heap.lt_size hz5
 show wpAny _ _ (Builtin.SmallTypes.ownedTupleHandOut (.ref z) (.ref g5.objs.size) >>= _) _ _ _
 refine wpAny_bind ?_;unfold Builtin.SmallTypes.ownedTupleHandOut
 have hz6:IsZip (g5.push { cls:=.type "tuple",data:=.seq #[x,y] }) z TI TO .ellipsis:=Heap.get?_push_of_some _ hz5
 refine wpAny_bind (wpAny_setField_rec hz6 (by simp) fun g7 hz7 e7=>?_)
 replace hz7:IsZip g7 z TI TO (rawInt g5.objs.size):=hz7
 refine wpAny_setField_rec hz7 (by simp) fun g8 hz8 e8=>?_
 replace hz8:IsZip g8 z TI TO (rawInt g5.objs.size):=hz8
 have up:∀ c o,c≠z→g5.get? c=some o→g8.get? c=some o:=fun c o c1 q=>e8.extBut _ _ c1 (e7.extBut _ _ c1 (Heap.get?_push_of_some _ q))
 have hT8:IsPair g8 g5.objs.size x y:=e8.extBut _ _ (Nat.ne_of_gt zlt) (e7.extBut _ _ (Nat.ne_of_gt zlt) (Heap.get?_push_size _ rfl))
 have hs8:g8.objs.size=g5.objs.size+1:=by rw [e8.1,e7.1,Heap.size_push]
 rw [hsz] at hz8 hT8 hs8
 refine wpAny_pure ⟨_,rfl,?_⟩;show Q (.ref g5.objs.size) _;rw [hsz]
 exact hQ g8 hz8 (up _ _ D.TOz hTO5) (h1e.at (fun o q=>up _ o D.i1z q) fun o q=>up _ o D.l1z q) (h2e.at (fun o q=>up _ o D.i2z q) fun o q=>up _ o D.l2z q) hT8 hs8 fun c o c1 c2 c3 c4 q=>up c o c1 (k5 c o c1 c2 c3 c4 q)
theorem zq_end {z TI TO i1 i2 l1 l2:Addr} {k1 k2:Nat} {xs ys:Array Value} {a b:Value} {Q:PySem.Fin→Shared→Prop} (hh:A.handled=none) (D:ZipApart z TI TO i1 i2 l1 l2)
 (hz:IsZip s.heap z TI TO .none) (hTI:IsPair s.heap TI (.ref i1) (.ref i2)) (hTO:IsPair s.heap TO a b) (h1:Itq s.heap i1 l1 k1 xs) (h2:Itq s.heap i2 l2 k2 ys) (hend:xs[k1]? = none∨ys[k2]? = none)
 (hE:∀ h' e,(∀ c o,c≠z→c≠TO→c≠i1→c≠i2→s.heap.get? c=some o→h'.get? c=some o)→(∃ o,h'.get? e=some o∧o.cls=.type "StopIteration")→E (.ref e) { s with heap:=h' }):wpAny (model prog w) A (Builtin.«zip.__next__» ⟨[.ref z],[]⟩) Q E s:=by
 show wpAny _ _ (field (.ref z) 2 >>= _) _ _ _;refine wpAny_bind (wpAny_field hz rfl (x:=.bool false) rfl ?_)
 show wpAny _ _ (field (.ref z) 3 >>= _) _ _ _;refine wpAny_bind (wpAny_field hz rfl (x:=.ref TI) rfl ?_)
 refine wpAny_bind (wpAny_seqItems hTI rfl ?_);show wpAny _ _ (Builtin.SmallTypes.ownedTupleIsFree (.ref z) >>= _) _ _ _
 refine wpAny_bind ?_;unfold Builtin.SmallTypes.ownedTupleIsFree
 refine wpAny_bind (wpAny_field hz rfl (x:=.none) rfl (wpAny_pure ?_));simp only [if_true]
 refine wpAny_bind (wpAny_rule ?_);refine wpAny_bind (wpAny_field hz rfl (x:=.ref TO) rfl ?_)
 refine wpAny_bind (wpAny_setField_rec hz (by simp) fun g1 hz1 e1=>?_)
 replace hz1:IsZip g1 z TI TO .ellipsis:=hz1
 refine wpAny_bind ?_;simp only [List.zipIdx_cons,List.zipIdx_nil,List.forIn_cons,List.forIn_nil]
 refine wpAny_bind (wpAny_bind (wpAny_onRaise ?_));show wpAny _ _ (Builtin.SmallTypes.nextOf (.ref i1) >>= _) _ _ _
 have h1a:Itq g1 i1 l1 k1 xs:=h1.but e1.extBut D.i1z D.l1z
 have h2a:Itq g1 i2 l2 k2 ys:=h2.but e1.extBut D.i2z D.l2z
 cases hx:xs[k1]? with
 | none=>
   refine wpAny_bind (Itq.fin (s:={ s with heap:=g1 }) hh h1a hx fun g2 e e2 he=>?_)
   obtain ⟨oe,hoe,hce⟩:=he
   have hz2:IsZip g2 z TI TO .ellipsis:=e2 _ _ (Ne.symm D.i1z) hz1
   have hez:e≠z:=fun q=>by subst q;rw [hz2] at hoe;cases hoe;simp at hce
   exact wpAny_setField_rec hz2 (by simp) fun g3 _ e3=>hE g3 e (fun c o c1 _ c3 _ q=>e3.extBut _ _ c1 (e2 _ _ c3 (e1.extBut _ _ c1 q))) ⟨oe,e3.extBut _ _ hez hoe,hce⟩
 | some x=>
   have hy:ys[k2]? = none:=by
    rcases hend with h | h
    · rw [hx] at h;cases h
    · exact h
   refine wpAny_bind (Itq.item (s:={ s with heap:=g1 }) h1a D.l1i1 hx fun g2 h1b e2=>wpAny_pure ?_)
   have hTO2:IsPair g2 TO a b:=e2.extBut _ _ D.TOi1 (e1.extBut _ _ D.TOz hTO)
   have h2b:Itq g2 i2 l2 k2 ys:=h2a.but e2.extBut (Ne.symm D.i12) D.l2i1
   refine wpAny_bind (wpAny_seqItems hTO2 rfl ?_);refine wpAny_bind (wpAny_updateSeq_pair hTO2 fun g3 hTO3 e3=>?_)
   have h2c:Itq g3 i2 l2 k2 ys:=h2b.but e3.extBut (Ne.symm D.TOi2) D.l2TO
   refine wpAny_bind (wpAny_letGo (wpAny_pure ?_));refine wpAny_bind (wpAny_bind (wpAny_onRaise ?_))
   show wpAny _ _ (Builtin.SmallTypes.nextOf (.ref i2) >>= _) _ _ _
   refine wpAny_bind (Itq.fin (s:={ s with heap:=g3 }) hh h2c hy fun g4 e e4 he=>?_)
   obtain ⟨oe,hoe,hce⟩:=he
   have hz4:IsZip g4 z TI TO .ellipsis:=e4 _ _ (Ne.symm D.i2z) (e3.extBut _ _ (Ne.symm D.TOz) (e2.extBut _ _ (Ne.symm D.i1z) hz1))
   have hez:e≠z:=fun q=>by subst q;rw [hz4] at hoe;cases hoe;simp at hce
   exact wpAny_setField_rec hz4 (by simp) fun g5 _ e5=>hE g5 e (fun c o c1 c2 c3 c4 q=>e5.extBut _ _ c1 (e4 _ _ c4 (e3.extBut _ _ c2 (e2.extBut _ _ c3 (e1.extBut _ _ c1 q))))) ⟨oe,e5.extBut _ _ hez hoe,hce⟩
def itCls (b:Bool):String:=if b then "tuple_iterator" else "list_iterator"
def IsSq (h:Heap) (b:Bool) (l:Addr) (xs:Array Value):Prop:=if b=true then h.IsTuple l xs else h.IsList l xs
abbrev zqI (b:Bool) (l:Addr):Obj:={ cls:=.type (itCls b),data:=.fields #[.ref l,.int 0 0] }
theorem IsSq.push {h:Heap} {b:Bool} {l:Addr} {xs:Array Value} (x:IsSq h b l xs) (o:Obj):IsSq (h.push o) b l xs:=by
 cases b with
 | true=>exact (show h.IsTuple l xs from x).at fun u q=>Heap.get?_push_of_some _ q
 | false=>exact (show h.IsList l xs from x).push o
theorem iter_sq {b:Bool} {l:Addr} {xs:Array Value} {Q:Value→Shared→Prop} (x:IsSq s.heap b l xs) (h:Q (.ref s.heap.objs.size) { s with heap:=s.heap.push (zqI b l) }):wpAny (model prog w) A (pyIter (.ref l)) Q E s:=by
 cases b with
 | true=>exact wpAny_pyIter_tuple (show s.heap.IsTuple l xs from x) h
 | false=>exact wpAny_pyIter_list (show s.heap.IsList l xs from x) h
end
abbrev zq1 (h:Heap) (b:Bool) (l:Addr):Heap:=h.push (zqI b l)
abbrev zq2 (h:Heap) (b c:Bool) (l m:Addr):Heap:=(zq1 h b l).push (zqI c m)
abbrev zq3 (h:Heap) (b c:Bool) (l m:Addr):Heap:=(zq2 h b c l m).push { cls:=.type "tuple",data:=.seq #[.ref h.objs.size,.ref (zq1 h b l).objs.size] }
abbrev zq4 (h:Heap) (b c:Bool) (l m:Addr):Heap:=(zq3 h b c l m).push { cls:=.type "tuple",data:=.seq #[.none,.none] }
abbrev zq5 (h:Heap) (b c:Bool) (l m:Addr):Heap:=(zq4 h b c l m).push { cls:=.type "zip",data:=.fields #[.none,.bool false,.bool false,.ref (zq2 h b c l m).objs.size,.ref (zq3 h b c l m).objs.size] }
theorem meets_zq (b c:Bool) (l m:Addr) (xs ys:Array Value):Meets (Builtin.«zip.__new__» ⟨[.type "zip",.ref l,.ref m],[]⟩) (fun _ R s=>IsSq s.heap b l xs∧IsSq s.heap c m ys∧R (.ok (.ret (.ref (zq4 s.heap b c l m).objs.size))) { s with heap:=zq5 s.heap b c l m }):=
 .of_wp fun prog w A R s h=>by
  obtain ⟨hp,g,d,tk,os⟩:=s;obtain ⟨q1,q2,h⟩:=h
  have hsub:=sub_zip
  have r1:IsSq (Shared.heap ⟨hp,g,d,tk,os⟩) b l xs:=q1
  have r2:IsSq (Shared.heap ⟨hp.push (zqI b l),g,d,tk,os⟩) c m ys:=IsSq.push q2 _
  wp_walk using iter_sq r1,iter_sq r2
  exact ⟨_,rfl,h⟩
section
variable {prog:Program} {w:World} {A:Around} {E:Value→Shared→Prop} {s:Shared}
theorem call_zq {b c:Bool} {l m:Addr} {xs ys:Array Value} {Q:Value→Shared→Prop} (q1:IsSq s.heap b l xs) (q2:IsSq s.heap c m ys)
 (h:∀ h',IsZip h' (s.heap.objs.size+4) (s.heap.objs.size+2) (s.heap.objs.size+3) .none→IsPair h' (s.heap.objs.size+2) (.ref s.heap.objs.size) (.ref (s.heap.objs.size+1)) →
   IsPair h' (s.heap.objs.size+3) .none .none→Itq h' s.heap.objs.size l 0 xs→Itq h' (s.heap.objs.size+1) m 0 ys→(∀ c o,s.heap.get? c=some o→h'.get? c=some o)→Q (.ref (s.heap.objs.size+4)) { s with heap:=h' }) :
 wpAny (model prog w) A (call (.type "zip") [.ref l,.ref m]) Q E s:=by
 refine callType_new F.called_zip (by decide) (F.typeCall_zip_2 _ _) (F.newCall_zip_2 _ _) (fun obj=>F.args_object_init_3 obj _ _) F.entry_zip_new (meets_zq b c l m xs ys) ⟨q1,q2,?_⟩
 have z1:(zq1 s.heap b l).objs.size=s.heap.objs.size+1:=Heap.size_push ..
 have z2:(zq2 s.heap b c l m).objs.size=s.heap.objs.size+2:=by rw [Heap.size_push,z1]
 have z3:(zq3 s.heap b c l m).objs.size=s.heap.objs.size+3:=by rw [Heap.size_push,z2]
 have z4:(zq4 s.heap b c l m).objs.size=s.heap.objs.size+4:=by rw [Heap.size_push,z3]
 have g5:(zq5 s.heap b c l m).get? (zq4 s.heap b c l m).objs.size=some _:=Heap.get?_push_size _ rfl
 have g4:(zq5 s.heap b c l m).get? (zq3 s.heap b c l m).objs.size=some _:=Heap.get?_push_of_some _ (Heap.get?_push_size _ rfl)
 have g3:(zq5 s.heap b c l m).get? (zq2 s.heap b c l m).objs.size=some _:=Heap.get?_push_of_some _ (Heap.get?_push_of_some _ (Heap.get?_push_size _ rfl))
 have g2:(zq5 s.heap b c l m).get? (zq1 s.heap b l).objs.size=some (zqI c m):=Heap.get?_push_of_some _ (Heap.get?_push_of_some _ (Heap.get?_push_of_some _ (Heap.get?_push_size _ rfl)))
 have g1:(zq5 s.heap b c l m).get? s.heap.objs.size=some (zqI b l):=Heap.get?_push_of_some _ (Heap.get?_push_of_some _ (Heap.get?_push_of_some _ (Heap.get?_push_of_some _ (Heap.get?_push_size _ rfl))))
 have kp:∀ c' o,s.heap.get? c'=some o→(zq5 s.heap b c l m).get? c'=some o:=fun c' o q=>Heap.get?_push_of_some _ (Heap.get?_push_of_some _ (Heap.get?_push_of_some _ (Heap.get?_push_of_some _ (Heap.get?_push_of_some _ q))))
 show _∧_
 rw [z2,z3,z4] at g5
 rw [z1,z2] at g3
 rw [z3] at g4
 rw [z1] at g2
 rw [z4]
 have j1:Itq (zq5 s.heap b c l m) s.heap.objs.size l 0 xs:=by
  cases b with
  | true=>exact .inr ⟨⟨_,g1,rfl,rfl⟩,(show s.heap.IsTuple l xs from q1).at fun o q=>kp _ o q⟩
  | false=>exact .inl ⟨⟨_,g1,rfl,rfl⟩,(show s.heap.IsList l xs from q1).at fun o q=>kp _ o q⟩
 have j2:Itq (zq5 s.heap b c l m) (s.heap.objs.size+1) m 0 ys:=by
  cases c with
  | true=>exact .inr ⟨⟨_,g2,rfl,rfl⟩,(show s.heap.IsTuple m ys from q2).at fun o q=>kp _ o q⟩
  | false=>exact .inl ⟨⟨_,g2,rfl,rfl⟩,(show s.heap.IsList m ys from q2).at fun o q=>kp _ o q⟩
 exact ⟨⟨_,g5,rfl⟩,h _ g5 g3 g4 j1 j2 kp⟩
end
section
variable {X:Cx} {pins:List (Addr×Obj)} {σ:St} {H:Hp} {s:Shared}
theorem Inv.turnedL {h':Heap} {t':Nat} {ch:List Addr} (I:Inv X pins σ H s) (hk:∀ b o,b∉ch→s.heap.get? b=some o→h'.get? b=some o) (fc:∀ e∈ch,FpOk X pins H e):Inv X pins σ H { s with heap:=h',toks:=t' }:=by
 refine I.step (g':=s.gens) (d':=s.drawn) (ch:=ch) (fun b hb=>?_) (fun b o _ _ hb q _=>hk b o hb q) (fun b o _ _ hb q _=>⟨o.slots,hk b o hb q⟩) (fun b o _ _ n=>n) (fun b o hb q=>⟨o,hk b o hb q⟩)
  (fun _ _ q=>q) (fun _ _ _ q=>q) (fun b ps q=>⟨#[],by rw [q];simp⟩) (fun m hm=>?_) (fun b u q=>?_) I.bare
 · have f:=fc b hb
   exact ⟨f.2.2.2.1,f.2.1,f.2.2.2.2.1,f.2.2.2.2.2⟩
 · obtain ⟨o,es,ep,ho,r⟩:=hm
   exact ⟨o,es,ep,hk _ o (fun z=>(fc _ z).2.1 rfl) ho,r⟩
 · refine (I.hok b u q).stay (fun c v hc r=>hk c v (fun z=>?_) r) (fun c r=>r) fun c xs r=>r
   have f:=fc c z
   rcases hc with rfl | hc
   · rw [f.1] at q;cases q
   · rw [f.1] at hc;cases hc
def SqK (H:Hp) (c:Bool) (a:Addr) (xs:List V):Prop:=H a=some (if c=true then HO.tup xs else HO.lst xs)
theorem SqK.inj {c:Bool} {a:Addr} {xs ys:List V} (h:SqK H c a xs) (h':SqK H c a ys):xs=ys:=by
 unfold SqK at h h'
 rw [h] at h'
 cases c <;> (injection h' with h';injection h')
theorem SqK.ne {c:Bool} {a b:Addr} {xs:List V} (h:SqK H c a xs) (hb:H b=none):a≠b:=fun z=>by
 subst z
 unfold SqK at h
 rw [hb] at h;cases h
theorem SqK.tup {a:Addr} {xs:List V} (h:H a=some (.tup xs)):SqK H true a xs:=h
theorem Inv.sqK {c:Bool} {a:Addr} {xs:List V} (I:Inv X pins σ H s) (h:SqK H c a xs):∃ its:List Value,Vals xs its∧IsSq s.heap c a its.toArray:=by
 cases c with
 | true=>
   obtain ⟨its,r,p,_⟩:=I.tuple (SqT.of h)
   exact ⟨its,r,(show s.heap.IsTuple a its.toArray from p)⟩
 | false=>
   obtain ⟨its,r,p,_⟩:=I.list (SqL.of h)
   exact ⟨its,r,p.isList⟩
def Itz (c d:Bool) (a b:Addr):It:=⟨fun i H=>∃ xs ys x y,SqK H c a xs∧SqK H d b ys∧xs[i]? = some x∧ys[i]? = some y,
 fun i H v H'=>∃ p,H p=none∧v=.ref p∧∀ xs ys,SqK H c a xs→SqK H d b ys→∃ x y,xs[i]? = some x∧ys[i]? = some y∧H'=upd H p (.tup [x,y]),
 fun i H=>∃ xs ys,SqK H c a xs∧SqK H d b ys∧(xs[i]? = none∨ys[i]? = none)⟩
def Itk (h:Heap) (c:Bool) (i l:Addr) (k:Nat):Prop:=if c=true then h.IsTupleIter i l k else h.IsListIter i l k
theorem Itk.at {h h':Heap} {c:Bool} {i l:Addr} {k:Nat} (x:Itk h c i l k) (hi:∀ o,h.get? i=some o→h'.get? i=some o):Itk h' c i l k:=by
 cases c with
 | true=>exact (show h.IsTupleIter i l k from x).at hi
 | false=>exact (show h.IsListIter i l k from x).at hi
theorem Itk.obj {h:Heap} {c:Bool} {i l:Addr} {k:Nat} (x:Itk h c i l k):∃ o,h.get? i=some o∧∀ v,o.data≠.cell v:=by
 cases c with
 | true=>obtain ⟨o,e,_,d⟩:=(show h.IsTupleIter i l k from x);exact ⟨o,e,fun v z=>by rw [d] at z;cases z⟩
 | false=>obtain ⟨o,e,_,d⟩:=(show h.IsListIter i l k from x);exact ⟨o,e,fun v z=>by rw [d] at z;cases z⟩
theorem Itk.q {h:Heap} {c:Bool} {i l:Addr} {k:Nat} {xs:Array Value} (x:Itk h c i l k) (q:IsSq h c l xs):Itq h i l k xs:=by
 cases c with
 | true=>exact .inr ⟨x,q⟩
 | false=>exact .inl ⟨x,q⟩
theorem two_cls {h:Heap} {l:Addr} {xs ys:Array Value} (p:h.IsTuple l xs) (q:h.IsList l ys):False:=by
 obtain ⟨o,e,c1,_⟩:=p
 obtain ⟨o',e',c2,_⟩:=q
 rw [e] at e';cases e'
 rw [c1] at c2
 injection c2 with c2
 exact absurd c2 (by decide)
theorem Itq.k {h:Heap} {c:Bool} {i l:Addr} {k:Nat} {xs:Array Value} (x:Itq h i l k xs) (q:IsSq h c l xs):Itk h c i l k:=by
 rcases x with ⟨x1,x2⟩ | ⟨x1,x2⟩
 · cases c with
   | false=>exact x1
   | true=>exact (two_cls (show h.IsTuple l xs from q) x2).elim
 · cases c with
   | true=>exact x1
   | false=>exact (two_cls x2 (show h.IsList l xs from q)).elim
theorem IsSq.at {h h':Heap} {c:Bool} {l:Addr} {xs:Array Value} (x:IsSq h c l xs) (hl:∀ o,h.get? l=some o→h'.get? l=some o):IsSq h' c l xs:=by
 cases c with
 | true=>exact (show h.IsTuple l xs from x).at hl
 | false=>exact (show h.IsList l xs from x).at hl
def ZTn (c d:Bool) (z TI TO i1 i2 a b:Addr) (i:Nat) (h:Heap):Prop:=IsZip h z TI TO .none∧IsPair h TI (.ref i1) (.ref i2)∧(∃ u v,IsPair h TO u v)∧Itk h c i1 a i∧Itk h d i2 b i
structure ZAp (z TI TO i1 i2:Addr):Prop where
 h1:TI≠z
 h2:TO≠z
 h3:i1≠z
 h4:i2≠z
 h5:TI≠TO
 h6:TI≠i1
 h7:TI≠i2
 h8:TO≠i1
 h9:TO≠i2
 h10:i1≠i2
theorem ZAp.apart {z TI TO i1 i2 a b:Addr} (p:ZAp z TI TO i1 i2) (ha:∀ e∈[z,TI,TO,i1,i2],a≠e) (hb:∀ e∈[z,TI,TO,i1,i2],b≠e):ZipApart z TI TO i1 i2 a b:=
 ⟨p.h1,p.h2,p.h3,p.h4,p.h5,p.h6,p.h7,p.h8,p.h9,p.h10,ha _ (by simp),ha _ (by simp),ha _ (by simp),ha _ (by simp),hb _ (by simp),hb _ (by simp),hb _ (by simp),hb _ (by simp)⟩
theorem turn_zip {P:Program} {w:World} {K:PySem.W.Frag} {elts:List Expr} {k:Nat} {pos:Pos} {c d:Bool} {z TI TO i1 i2 a b:Addr} (ap:ZAp z TI TO i1 i2) :
 Turn P w K (.Tuple elts k pos) (Itz c d a b) [z,TI,TO,i1,i2] z (ZTn c d z TI TO i1 i2 a b) where
 mem:=List.mem_cons_self ..
 obj:=fun i h st e he=>by
  obtain ⟨hz,hTI,⟨u,v,hTO⟩,k1,k2⟩:=st
  simp only [List.mem_cons,List.not_mem_nil,or_false] at he
  rcases he with rfl | rfl | rfl | rfl | rfl
  · exact ⟨_,hz,fun v q=>by cases q⟩
  · exact ⟨_,hTI,fun v q=>by cases q⟩
  · exact ⟨_,hTO,fun v q=>by cases q⟩
  · exact k1.obj
  · exact k2.obj
 keep:=fun i h h' st kp=>by
  obtain ⟨hz,hTI,⟨u,v,hTO⟩,k1,k2⟩:=st
  exact ⟨kp z (by simp) _ hz,kp TI (by simp) _ hTI,⟨u,v,kp TO (by simp) _ hTO⟩,k1.at fun o q=>kp i1 (by simp) o q,k2.at fun o q=>kp i2 (by simp) o q⟩
 item:=by
  intro X hP hw hK hc i pins s σ H E I hf st hg
  subst hP hw hK
  obtain ⟨xs,ys,x,y,ha,hb,hx,hy⟩:=hg
  obtain ⟨hz,hTI,⟨u,v,hTO⟩,k1,k2⟩:=st
  obtain ⟨its,rv,q1⟩:=I.sqK ha
  obtain ⟨jts,rw',q2⟩:=I.sqK hb
  obtain ⟨u1,hu1,ru1⟩:=rv.get hx
  obtain ⟨u2,hu2,ru2⟩:=rw'.get hy
  have na:∀ e∈[z,TI,TO,i1,i2],a≠e:=fun e he=>ha.ne (hf e he).1
  have nb:∀ e∈[z,TI,TO,i1,i2],b≠e:=fun e he=>hb.ne (hf e he).1
  have D:=ap.apart na nb
  have hT:s.TypeIs (.ref z) "zip":=⟨_,hz,rfl⟩
  have step:wpAny (model X.prog X.w) X.A (pyNext (.ref z)) (fun r s1=>∃ h',r=some (.ref s.heap.objs.size)∧s1={ s with heap:=h' }∧IsZip h' z TI TO (rawInt s.heap.objs.size)∧IsPair h' TO u1 u2∧Itq h' i1 a (i+1) its.toArray∧Itq h' i2 b (i+1) jts.toArray∧IsPair h' s.heap.objs.size u1 u2∧∀ c o,c≠z→c≠TO→c≠i1→c≠i2→s.heap.get? c=some o→h'.get? c=some o) E s:=by
   unfold pyNext
   exact wpAny_bind (wpAny_attempt (wpAny_callSpecial?_slot (name:=Str.ofString "__next__") hT F.slot_zip_next (wpAny_call_entry F.slot_zip_next hT F.entry_zip_next (zq_item D (na _ (by simp)) (nb _ (by simp)) hz hTI hTO (k1.q q1) (k2.q q2) (by simpa using hu1) (by simpa using hu2) fun h' a1 a2 a3 a4 a5 a6 a7=>wpAny_pure ⟨h',rfl,rfl,a1,a2,a3,a4,a5,a7⟩) (F.args_zip_next_1 _))))
  refine thn step fun r s1 ⟨h',e1,e2,a1,a2,a3,a4,a5,a7⟩=>?_
  subst e1 e2
  refine ⟨_,rfl,wpAny_letOwnedTupleGo_zip a1 fun h2 b1 b2=>?_⟩
  have hn:H s.heap.objs.size=none:=I.hok.fresh (Nat.le_refl _)
  have zlt:z<s.heap.objs.size:=Heap.lt_size hz
  have up:∀ c o,c∉[z,TO,i1,i2]→s.heap.get? c=some o→h2.get? c=some o:=fun c o hc' q=>by
   simp only [List.mem_cons,List.not_mem_nil,or_false,not_or] at hc'
   exact b2.extBut _ _ hc'.1 (a7 c o hc'.1 hc'.2.1 hc'.2.2.1 hc'.2.2.2 q)
  have I1:Inv X pins σ H { s with heap:=h2,toks:=s.toks }:=I.turnedL (ch:=[z,TO,i1,i2]) up fun e he=>hf e (by
   simp only [List.mem_cons,List.not_mem_nil,or_false] at he ⊢
   rcases he with rfl | rfl | rfl | rfl <;> simp)
  have hTd:TupD h2 s.heap.objs.size [u1,u2].toArray:=⟨0,b2.extBut _ _ (Nat.ne_of_gt zlt) a5⟩
  have I2:=I1.trackT (ys:=[x,y]) (.cons ru1 (.cons ru2 .nil)) (by show 2≤sizeLine;decide) hTd (I.fpOk (Nat.le_refl _) hn)
  have q1':IsSq h' c a its.toArray:=q1.at fun o q=>a7 _ o (na _ (by simp)) (na _ (by simp)) (na _ (by simp)) (na _ (by simp)) q
  have q2':IsSq h' d b jts.toArray:=q2.at fun o q=>a7 _ o (nb _ (by simp)) (nb _ (by simp)) (nb _ (by simp)) (nb _ (by simp)) q
  refine ⟨.ref s.heap.objs.size,_,I2,rfl,⟨_,hn,rfl,fun xs' ys' ha' hb'=>?_⟩,⟨b1,b2.extBut _ _ ap.h1 (a7 _ _ ap.h1 ap.h5 ap.h6 ap.h7 hTI),⟨_,_,b2.extBut _ _ ap.h2 a2⟩,(a3.k q1').at fun o q=>b2.extBut _ _ ap.h3 q,(a4.k q2').at fun o q=>b2.extBut _ _ ap.h4 q⟩,fun e he=>?_⟩
  · cases ha.inj ha'
    cases hb.inj hb'
    exact ⟨x,y,hx,hy,rfl⟩
  · have le:e<s.heap.objs.size:=by
     obtain ⟨o,q,_⟩:∃ o,s.heap.get? e=some o∧True:=by
      simp only [List.mem_cons,List.not_mem_nil,or_false] at he
      rcases he with rfl | rfl | rfl | rfl | rfl
      · exact ⟨_,hz,trivial⟩
      · exact ⟨_,hTI,trivial⟩
      · exact ⟨_,hTO,trivial⟩
      · obtain ⟨o,q,_⟩:=k1.obj;exact ⟨o,q,trivial⟩
      · obtain ⟨o,q,_⟩:=k2.obj;exact ⟨o,q,trivial⟩
     exact Heap.lt_size q
    rw [upd_ne (Nat.ne_of_lt le)]
    exact (hf e he).1
 done:=by
  intro X hP hw hK hc i pins s σ H E I hf st hg
  subst hP hw hK
  obtain ⟨xs,ys,ha,hb,hend⟩:=hg
  obtain ⟨hz,hTI,⟨u,v,hTO⟩,k1,k2⟩:=st
  obtain ⟨its,rv,q1⟩:=I.sqK ha
  obtain ⟨jts,rw',q2⟩:=I.sqK hb
  have na:∀ e∈[z,TI,TO,i1,i2],a≠e:=fun e he=>ha.ne (hf e he).1
  have nb:∀ e∈[z,TI,TO,i1,i2],b≠e:=fun e he=>hb.ne (hf e he).1
  have D:=ap.apart na nb
  have hT:s.TypeIs (.ref z) "zip":=⟨_,hz,rfl⟩
  have e1:its.toArray[i]? = none∨jts.toArray[i]? = none:=by
   have l1:=rv.length
   have l2:=rw'.length
   rcases hend with h | h
   · left
     rw [List.getElem?_eq_none_iff] at h
     simp;omega
   · right
     rw [List.getElem?_eq_none_iff] at h
     simp;omega
  unfold pyNext
  refine wpAny_bind (wpAny_attempt (wpAny_callSpecial?_slot (name:=Str.ofString "__next__") hT F.slot_zip_next (wpAny_call_entry F.slot_zip_next hT F.entry_zip_next (zq_end (I.ok.hd hc) D hz hTI hTO (k1.q q1) (k2.q q2) e1 fun h' e hk he=>?_) (F.args_zip_next_1 _))))
  obtain ⟨o,ho,hcl⟩:=he
  refine wpAny_bind (wpAny_isInstance (T:="StopIteration") (b:=true) ⟨o,ho,hcl⟩ isSubtype_stop (wpAny_pure ⟨rfl,?_⟩))
  refine I.turnedL (t':=s.toks) (ch:=[z,TO,i1,i2]) (fun c o hc' q=>?_) fun e he=>hf e (by
   simp only [List.mem_cons,List.not_mem_nil,or_false] at he ⊢
   rcases he with rfl | rfl | rfl | rfl <;> simp)
  simp only [List.mem_cons,List.not_mem_nil,or_false,not_or] at hc'
  exact hk c o hc'.1 hc'.2.1 hc'.2.2.1 hc'.2.2.2 q
 self:=fun A i s Q E st h=>wpAny_pyIter_zip st.1 h
theorem boot_zip':bootBuiltins "zip" = some (.type "zip"):=by decide +kernel
def iZip (ta:TA):TI:=fun σ H R=>ta σ H fun vs H1=>match vs with
 | [.ref a,.ref b]=>∃ c d xs ys,SqK H1 c a xs∧SqK H1 d b ys∧R (Itz c d a b) H1
 | _=>False
theorem pi_zip {l m:Expr} {ta:TA} {elts:List Expr} {k:Nat} {tp p pos:Pos} (hg:Gl X "zip") (hm:X.mg "zip" = none) (ha:PA X [l,m] ta) (hs:starEach [l,m] X.env=[(false,eval l X.env),(false,eval m X.env)]:=by rfl) (hs2:starEach [m] X.env=[(false,eval m X.env)]:=by rfl) :
 PI X (.Tuple elts k tp) (.Call (.Name "zip" p) [l,m] [] pos) (iZip ta):=by
 intro pins s σ H R I h
 refine Call_ (ld_blt I hg hm boot_zip' (PyProof.Rows.callWith_type1 (thn (ha pos pins s σ H _ I h) fun us s1 ⟨vs,H1,I1,r1,q1⟩=>?_) (by rw [hs,hs2]) (by rw [hs2];rfl)))
 dsimp only at q1
 split at q1
 · rename_i a b
   obtain ⟨c,d,xs,ys,ka,kb,q⟩:=q1
   obtain ⟨u,u',rfl,rx,ry⟩:=vals2 r1
   cases rx
   cases ry
   obtain ⟨its,rv,p1⟩:=I1.sqK ka
   obtain ⟨jts,rv',p2⟩:=I1.sqK kb
   refine call_zq p1 p2 fun h' hz hTI hTO j1 j2 hk=>?_
   have I2:Inv X pins σ H1 { s1 with heap:=h' }:=I1.kept (t':=s1.toks) hk
   have ap:ZAp (s1.heap.objs.size+4) (s1.heap.objs.size+2) (s1.heap.objs.size+3) s1.heap.objs.size (s1.heap.objs.size+1):=by
    have e:∀ n m:Nat,n≠m→s1.heap.objs.size+n≠s1.heap.objs.size+m:=fun n m h z=>h (Nat.add_left_cancel z)
    exact ⟨e 2 4 (by decide),e 3 4 (by decide),e 0 4 (by decide),e 1 4 (by decide),e 2 3 (by decide),e 2 0 (by decide),e 2 1 (by decide),e 3 0 (by decide),e 3 1 (by decide),e 0 1 (by decide)⟩
   refine wpAny_pyIter_zip (s:={ s1 with heap:=h' }) hz ⟨s1.heap.objs.size+4,_,_,_,H1,rfl,I2,turn_zip ap,⟨hz,hTI,⟨_,_,hTO⟩,j1.k (p1.at fun o q=>hk _ o q),j2.k (p2.at fun o q=>hk _ o q)⟩,fun e he=>?_,q⟩
   have hb':s1.heap.objs.size≤e:=by
    simp only [List.mem_cons,List.not_mem_nil,or_false] at he
    rcases he with rfl | rfl | rfl | rfl | rfl
    · exact Nat.le_add_right _ 4
    · exact Nat.le_add_right _ 2
    · exact Nat.le_add_right _ 3
    · exact Nat.le_refl _
    · exact Nat.le_add_right _ 1
   exact I1.fpOk hb' (I1.hok.fresh hb')
 · exact q1.elim
theorem zi_zip {l m:Expr} {ta:TA} {elts:List Expr} {k:Nat} {tp p pos:Pos} (hg:Gl X "zip") (hm:X.mg "zip" = none) (ha:ZA X [l,m] ta) (hs:starEach [l,m] X.env=[(false,eval l X.env),(false,eval m X.env)]:=by rfl) (hs2:starEach [m] X.env=[(false,eval m X.env)]:=by rfl) :
 ZI X (.Tuple elts k tp) (.Call (.Name "zip" p) [l,m] [] pos) (iZip ta):=by with_unfolding_all exact pi_zip hg hm ha hs hs2
theorem cmp_zip {nv:List Str} {ix:List (Str×Nat)} {σ:St} {g:TG} {ti:TT} {te:TE} {Fin:List V→Hp→Prop} {c d:Bool} {a b:Addr} {xs ys:List V} (Pv:Nat→List V→Hp→Prop) (h0:Pv 0 [] H) (hl:∀ i zs H,i≤min xs.length ys.length→Pv i zs H→SqK H c a xs∧SqK H d b ys)
 (hn:∀ i zs H,i<min xs.length ys.length→Pv i zs H→zs.length<sizeLine)
 (hs:∀ i x y zs H p,xs[i]? = some x→ys[i]? = some y→Pv i zs H→H p=none→g (.ref p) (st0 nv ix σ) (upd H p (.tup [x,y])) fun σ2 H2=>ti σ2 H2 fun b H3=>if b=true then te σ2 H3 fun y H4=>Pv (i+1) (zs++[y]) H4 else Pv (i+1) zs H3)
 (hd:∀ zs H,Pv (min xs.length ys.length) zs H→Fin zs H):CmpW nv ix g ti te σ (Itz c d a b) Fin H:=by
 refine ⟨fun i m zs H=>m=min xs.length ys.length - i∧i≤min xs.length ys.length∧Pv i zs H,⟨_,rfl,Nat.zero_le _,h0⟩,?_⟩
 rintro i m zs H ⟨rfl,hi,p⟩
 obtain ⟨q1,q2⟩:=hl i zs H hi p
 by_cases hlt:i<min xs.length ys.length
 · have l1:i<xs.length:=by omega
   have l2:i<ys.length:=by omega
   refine .inr ⟨⟨xs,ys,xs[i],ys[i],q1,q2,by simp [l1],by simp [l2]⟩,hn i zs H hlt p,Pv (i+1),fun σ' H' p'=>⟨_,by omega,rfl,hlt,p'⟩,fun x H' y=>?_⟩
   obtain ⟨pp,hn',rfl,hy⟩:=y
   obtain ⟨x1,y1,e1,e2,rfl⟩:=hy xs ys q1 q2
   exact hs i x1 y1 zs H pp e1 e2 p hn'
 · have e:i=min xs.length ys.length:=by omega
   refine .inl ⟨⟨xs,ys,q1,q2,?_⟩,hd zs H (e▸p)⟩
   by_cases l1:i<xs.length
   · right;rw [List.getElem?_eq_none_iff];omega
   · left;rw [List.getElem?_eq_none_iff];omega
theorem kpg_two {K:PySem.W.Frag} {x y:Str}:KpG [x,y] (gTup K 2 (gCons (gName 0) (gCons (gName 1) gNil))):=fun fr v H Q h=>by
 obtain ⟨a,xs,e,hq,hl,v1,r1,e1,v2,r2,e2,e3,q⟩:=h
 refine ⟨a,xs,e,hq,hl,v1,r1,e1,v2,r2,e2,e3,⟨by simp,fun i w e=>?_⟩,q⟩
 match i,e with
 | 0,e=>cases e
 | 1,e=>cases e
 | i+2,e=>exact e
end
end L2
namespace SRV
open PySem
open PyProof.Rows hiding K SortedTo K_bubble K_mirror K_congr K_mirror_equal
class KV where
 sh:Shared
 kind:SortKind
 kv:Keyed→Int
 good:Keyed→Prop
 lt:∀ {prog:Program} {w:World} {A:Around} {E:Value→Shared→Prop} {st:SortSt} {x y:Keyed} {Q:Option Bool→SortSt→Prop},kindOf st=kind→good x→good y→Q (some (decide (kv x<kv y))) st→wpS (model prog w) A E sh (lt' x y) Q st
variable [KV]
def kv (p:Keyed):Int:=KV.kv p
def IsI (p:Keyed):Prop:=KV.good p
def AllI (xs:Array Keyed):Prop:=∀ p∈xs.toList,IsI p
def K (xs:Array Keyed) (i:Nat):Int:=match xs[i]? with
 | some p=>kv p
 | none=>0
def SortedTo (xs:Array Keyed) (k:Nat):Prop:=∀ i j,i≤j→j<k→K xs i≤K xs j
theorem K_congr {xs ys:Array Keyed} {i j:Nat} (h:xs[i]? = ys[j]?):K xs i=K ys j:=by unfold K;rw [h]
theorem K_bubble {xs:Array Keyed} {src d:Nat} (hs:src<xs.size) (hd:d≤src) (k:Nat) :
 K (bubble xs src d) k=if k=src - d then K xs src else if src - d<k∧k≤src then K xs (k - 1) else K xs k:=by
 have e:=getElem?_bubble hs d hd k
 by_cases h1:k=src - d
 · rw [if_pos h1] at e ⊢;exact K_congr e
 · rw [if_neg h1] at e ⊢
   by_cases h2:src - d<k∧k≤src
   · rw [if_pos h2] at e ⊢;exact K_congr e
   · rw [if_neg h2] at e ⊢;exact K_congr e
theorem K_mirror {xs:Array Keyed} {i j:Nat} (hj:j≤xs.size) (k:Nat) :
 K (mirror xs i j ((j - i) / 2)) k=if i≤k∧k<j then K xs (i+j - 1 - k) else K xs k:=by
 have e:=getElem?_mirror_all (i:=i) hj k
 by_cases h1:i≤k∧k<j
 · rw [if_pos h1] at e ⊢;exact K_congr e
 · rw [if_neg h1] at e ⊢;exact K_congr e
theorem K_mirror_equal {xs:Array Keyed} {i j:Nat} (hj:j≤xs.size) (heq:∀ k,i≤k→k<j→K xs k=K xs (j - 1)) (k:Nat) :
 K (mirror xs i j ((j - i) / 2)) k=K xs k:=by
 rw [K_mirror hj]
 split
 · rename_i h
   rw [heq k h.1 h.2,heq (i+j - 1 - k) (by omega) (by omega)]
 · rfl
section
variable {prog:Program} {w:World} {A:Around} {E:Value→Shared→Prop}
theorem s_lt {st:SortSt} {x y:Keyed} {Q:Option Bool→SortSt→Prop} (hk:kindOf st=KV.kind) (hx:IsI x) (hy:IsI y) (h:Q (some (decide (kv x<kv y))) st):wpS (model prog w) A E KV.sh (lt' x y) Q st:=KV.lt hk hx hy h
theorem s_elem {st:SortSt} {xs:Array Keyed} {i:Nat} {p:Keyed} {Q:Keyed→SortSt→Prop} (e:xs[i]? = some p) (h:Q p st):wpS (model prog w) A E KV.sh (elem' xs i) Q st:=by
 rw [elem'_eq,e];exact wpS_pure h
def gal:Bool→Keyed→Array Keyed→Nat→Nat→Nat→StateT SortSt Sem (Option Nat):=sortPriv% PySem.Builtin.gallop
theorem gal_eq (lf:Bool) (ky:Keyed) (ar:Array Keyed) (bs n ht:Nat):gal lf ky ar bs n ht=(do
 let byd (i:Nat):StateT SortSt Sem (Option Bool):=do
  let x ← elem' ar (bs+i)
  if lf then lt' x ky else return (← lt' ky x).map (!·)
 let mut la:=0
 let mut os:=1
 let mut lo:=0
 let mut hi:=0
 let some rt ← byd ht | return none
 if rt then
  let mo:=n - ht
  for _ in [0:n] do
   if os≥mo then break
   let some mr ← byd (ht+os) | return none
   if !mr then break
   la:=os
   os:=2*os+1
  lo:=ht+la+1
  hi:=ht+min os mo
 else
  let mo:=ht+1
  for _ in [0:n] do
   if os≥mo then break
   let some fd ← byd (ht - os) | return none
   if fd then break
   la:=os
   os:=2*os+1
  lo:=ht+1 - min os mo
  hi:=ht - la
 for _ in [0:n] do
  if lo≥hi then break
  let m:=lo+(hi - lo) / 2
  let some mr ← byd m | return none
  if mr then lo:=m+1 else hi:=m
 return some hi):=rfl
def Byd (lf:Bool) (ky:Keyed) (ar:Array Keyed) (bs i:Nat):Bool:=if lf then decide (K ar (bs+i)<kv ky) else !decide (kv ky<K ar (bs+i))
theorem K_of {ar:Array Keyed} {i:Nat} {p:Keyed} (e:ar[i]? = some p):K ar i=kv p:=by unfold K;rw [e]
theorem at_of {ar:Array Keyed} {i:Nat} (h:i<ar.size) (hI:AllI ar):∃ p,ar[i]? = some p∧IsI p:=⟨ar[i],getElem?_pos ar i h,hI _ (by simp)⟩
theorem s_byd {st:SortSt} {lf:Bool} {ky:Keyed} {ar:Array Keyed} {bs i:Nat} {Q:Option Bool→SortSt→Prop} (hk:kindOf st=KV.kind) (hI:AllI ar) (hy:IsI ky) (hi:bs+i<ar.size) (h:Q (some (Byd lf ky ar bs i)) st) :
 wpS (model prog w) A E KV.sh (do let x ← elem' ar (bs+i);if lf then lt' x ky else return (← lt' ky x).map (!·)) Q st:=by
 obtain ⟨p,e,hp⟩:=at_of hi hI
 have hK:=K_of e
 unfold Byd at h
 refine wpS_bind (s_elem e ?_)
 cases lf with
 | true=>
   simp only [if_true] at h ⊢
   rw [hK] at h
   exact s_lt hk hp hy h
 | false=>
   simp only [Bool.false_eq_true,if_false] at h ⊢
   rw [hK] at h
   exact wpS_bind (s_lt hk hy hp (wpS_pure h))
theorem s_gal {st:SortSt} {lf:Bool} {ky:Keyed} {ar:Array Keyed} {bs n ht c:Nat} {Q:Option Nat→SortSt→Prop} (hk:kindOf st=KV.kind) (hI:AllI ar) (hy:IsI ky) (hn:bs+n≤ar.size) (hh:ht<n) (hc:c≤n)
 (cut:∀ i,i<n→Byd lf ky ar bs i=decide (i<c)) (h:Q (some c) st):wpS (model prog w) A E KV.sh (gal lf ky ar bs n ht) Q st:=by
 have byd:∀ {i:Nat} {R:Option Bool→SortSt→Prop},i<n→R (some (decide (i<c))) st→wpS (model prog w) A E KV.sh (do let x ← elem' ar (bs+i);if lf then lt' x ky else return (← lt' ky x).map (!·)) R st:=fun {i R} hi hR=>
  s_byd hk hI hy (by omega) (by rw [cut i hi];exact hR)
 rw [gal_eq]
 dsimp only
 refine wpS_bind (byd hh ?_)
 by_cases hr:ht<c
 · simp only [hr,decide_true,if_true]
   refine wpS_bind (wpS_mono (wpS_forRange (I:=fun x r st'=>st=st'∧∃ l o,r=(none,l,o)∧ht+l<c∧l<o∧x+1≤o) (Q:=fun r st'=>st=st'∧∃ l o,r=(none,l,o)∧ht+l<c∧l<o∧c≤ht+min o (n - ht)) ?_ ?_ ⟨rfl,0,1,rfl,by omega,by omega,by omega⟩) ?_)
   · rintro x r st' _ hx ⟨rfl,l,o,rfl,g1,g2,g3⟩
     dsimp only
     by_cases hge:o≥n - ht
     · rw [if_pos hge]
       exact wpS_pure ⟨rfl,l,o,rfl,g1,g2,by omega⟩
     · rw [if_neg hge]
       refine wpS_bind (byd (by omega) ?_)
       by_cases hm:ht+o<c
       · simp only [hm,decide_true,Bool.not_true,Bool.false_eq_true,if_false]
         exact wpS_pure ⟨rfl,_,_,rfl,hm,by omega,by omega⟩
       · simp only [hm,decide_false,Bool.not_false,if_true]
         exact wpS_pure ⟨rfl,l,o,rfl,g1,g2,by omega⟩
   · rintro r st' ⟨rfl,l,o,rfl,g1,g2,g3⟩
     exact ⟨rfl,l,o,rfl,g1,g2,by omega⟩
   · rintro r st' ⟨rfl,l,o,rfl,g1,g2,g3⟩
     dsimp only
     refine wpS_bind (wpS_mono (wpS_forRange (I:=fun x r st'=>st=st'∧∃ l u,r=(none,l,u)∧l≤c∧c≤u∧u≤n∧u - l≤n - x) (Q:=fun r st'=>st=st'∧∃ l,r=(none,l,c)) ?_ ?_ ⟨rfl,(ht+l+1),(ht+min o (n - ht)),rfl,(by omega),g3,(by omega),by omega⟩) ?_)
     · rintro x r st' _ hx ⟨rfl,l,u,rfl,g1,g2,g3,g4⟩
       dsimp only
       by_cases hge:l≥u
       · rw [if_pos hge]
         have:u=c:=by omega
         subst this
         exact wpS_pure ⟨rfl,l,rfl⟩
       · rw [if_neg hge]
         refine wpS_bind (byd (by omega) ?_)
         by_cases hm:l+(u - l) / 2<c
         · simp only [hm,decide_true,if_true]
           exact wpS_pure ⟨rfl,_,_,rfl,by omega,g2,g3,by omega⟩
         · simp only [hm,decide_false,Bool.false_eq_true,if_false]
           exact wpS_pure ⟨rfl,_,_,rfl,g1,by omega,by omega,by omega⟩
     · rintro r st' ⟨rfl,l,u,rfl,g1,g2,g3,g4⟩
       have:u=c:=by
        have:max 0 n=n:=by omega
        omega
       subst this
       exact ⟨rfl,l,rfl⟩
     · rintro r st' ⟨rfl,l,rfl⟩
       exact wpS_pure h
 · simp only [hr,decide_false,Bool.false_eq_true,if_false]
   refine wpS_bind (wpS_mono (wpS_forRange (I:=fun x r st'=>st=st'∧∃ l o,r=(none,l,o)∧c≤ht - l∧l≤ht∧l<o∧x+1≤o) (Q:=fun r st'=>st=st'∧∃ l o,r=(none,l,o)∧c≤ht - l∧l≤ht∧l<o∧ht+1 - min o (ht+1)≤c) ?_ ?_ ⟨rfl,0,1,rfl,by omega,by omega,by omega,by omega⟩) ?_)
   · rintro x r st' _ hx ⟨rfl,l,o,rfl,g1,g0,g2,g3⟩
     dsimp only
     by_cases hge:o≥ht+1
     · rw [if_pos hge]
       exact wpS_pure ⟨rfl,l,o,rfl,g1,g0,g2,by omega⟩
     · rw [if_neg hge]
       refine wpS_bind (byd (by omega) ?_)
       by_cases hm:ht - o<c
       · simp only [hm,decide_true,if_true]
         exact wpS_pure ⟨rfl,l,o,rfl,g1,g0,g2,by omega⟩
       · simp only [hm,decide_false,Bool.false_eq_true,if_false]
         exact wpS_pure ⟨rfl,_,_,rfl,by omega,by omega,by omega,by omega⟩
   · rintro r st' ⟨rfl,l,o,rfl,g1,g0,g2,g3⟩
     exact ⟨rfl,l,o,rfl,g1,g0,g2,by omega⟩
   · rintro r st' ⟨rfl,l,o,rfl,g1,g0,g2,g3⟩
     dsimp only
     refine wpS_bind (wpS_mono (wpS_forRange (I:=fun x r st'=>st=st'∧∃ l u,r=(none,l,u)∧l≤c∧c≤u∧u≤n∧u - l≤n - x) (Q:=fun r st'=>st=st'∧∃ l,r=(none,l,c)) ?_ ?_ ⟨rfl,(ht+1 - min o (ht+1)),(ht - l),rfl,g3,g1,(by omega),by omega⟩) ?_)
     · rintro x r st' _ hx ⟨rfl,l,u,rfl,g1,g2,g3,g4⟩
       dsimp only
       by_cases hge:l≥u
       · rw [if_pos hge]
         have:u=c:=by omega
         subst this
         exact wpS_pure ⟨rfl,l,rfl⟩
       · rw [if_neg hge]
         refine wpS_bind (byd (by omega) ?_)
         by_cases hm:l+(u - l) / 2<c
         · simp only [hm,decide_true,if_true]
           exact wpS_pure ⟨rfl,_,_,rfl,by omega,g2,g3,by omega⟩
         · simp only [hm,decide_false,Bool.false_eq_true,if_false]
           exact wpS_pure ⟨rfl,_,_,rfl,g1,by omega,by omega,by omega⟩
     · rintro r st' ⟨rfl,l,u,rfl,g1,g2,g3,g4⟩
       have:u=c:=by
        have:max 0 n=n:=by omega
        omega
       subst this
       exact ⟨rfl,l,rfl⟩
     · rintro r st' ⟨rfl,l,rfl⟩
       exact wpS_pure h
end
open PyProof.Rows hiding K SortedTo K_bubble K_mirror K_congr K_mirror_equal
variable [KV]
def Le (x y:Keyed):Prop:=kv x≤kv y
structure MI (A B:List Keyed) (o:List Keyed) (ia ib:Nat):Prop where
 perm:o.Perm (A.take ia++B.take ib)
 srt:o.Pairwise Le
 lea:∀ x∈o,∀ y∈A.drop ia,kv x≤kv y
 leb:∀ x∈o,∀ y∈B.drop ib,kv x≤kv y
structure Mer (A B:List Keyed) (o:List Keyed):Prop where
 perm:o.Perm (A++B)
 srt:o.Pairwise Le
theorem pw_drop {l:List Keyed} (h:l.Pairwise Le) {i:Nat} (hi:i<l.length):∀ y∈l.drop (i+1),kv l[i]≤kv y:=by
 have e:l.drop i=l[i]::l.drop (i+1):=List.drop_eq_getElem_cons hi
 have h2:(l.drop i).Pairwise Le:=h.sublist (List.drop_sublist i l)
 rw [e] at h2
 exact (List.pairwise_cons.mp h2).1
theorem mem_drop_succ {l:List Keyed} {i:Nat} {y:Keyed} (h:y∈l.drop (i+1)):y∈l.drop i:=by
 rw [← List.drop_drop] at h
 exact List.mem_of_mem_drop h
theorem MI.pushB {A B o:List Keyed} {ia ib:Nat} (m:MI A B o ia ib) (hB:B.Pairwise Le) (hi:ib<B.length) (h:∀ z∈A.drop ia,kv B[ib]≤kv z):MI A B (o++[B[ib]]) ia (ib+1):=by
 have hm:B[ib]∈B.drop ib:=by rw [List.drop_eq_getElem_cons hi];exact List.mem_cons_self
 refine ⟨?_,?_,fun x hx y hy=>?_,fun x hx y hy=>?_⟩
 · have e:B.take (ib+1)=B.take ib++[B[ib]]:=by rw [List.take_succ,List.getElem?_eq_getElem hi];rfl
   rw [e,← List.append_assoc]
   exact m.perm.append_right _
 · refine List.pairwise_append.mpr ⟨m.srt,List.pairwise_singleton _ _,fun x hx y hy=>?_⟩
   rw [List.mem_singleton.mp hy]
   exact m.leb x hx _ hm
 · rcases List.mem_append.mp hx with hx | hx
   · exact m.lea x hx y hy
   · rw [List.mem_singleton.mp hx];exact h y hy
 · rcases List.mem_append.mp hx with hx | hx
   · exact m.leb x hx y (mem_drop_succ hy)
   · rw [List.mem_singleton.mp hx];exact pw_drop hB hi y hy
theorem MI.pushA {A B o:List Keyed} {ia ib:Nat} (m:MI A B o ia ib) (hA:A.Pairwise Le) (hi:ia<A.length) (h:∀ z∈B.drop ib,kv A[ia]≤kv z):MI A B (o++[A[ia]]) (ia+1) ib:=by
 have hm:A[ia]∈A.drop ia:=by rw [List.drop_eq_getElem_cons hi];exact List.mem_cons_self
 refine ⟨?_,?_,fun x hx y hy=>?_,fun x hx y hy=>?_⟩
 · have e:A.take (ia+1)=A.take ia++[A[ia]]:=by rw [List.take_succ,List.getElem?_eq_getElem hi];rfl
   rw [e,List.append_assoc]
   refine (m.perm.append_right _).trans ?_
   rw [List.append_assoc]
   exact List.Perm.append_left _ List.perm_append_comm
 · refine List.pairwise_append.mpr ⟨m.srt,List.pairwise_singleton _ _,fun x hx y hy=>?_⟩
   rw [List.mem_singleton.mp hy]
   exact m.lea x hx _ hm
 · rcases List.mem_append.mp hx with hx | hx
   · exact m.lea x hx y (mem_drop_succ hy)
   · rw [List.mem_singleton.mp hx];exact pw_drop hA hi y hy
 · rcases List.mem_append.mp hx with hx | hx
   · exact m.leb x hx y hy
   · rw [List.mem_singleton.mp hx];exact h y hy
theorem MI.extA {A B o:List Keyed} {ia ib:Nat} (m:MI A B o ia ib) (hA:A.Pairwise Le):∀ (k:Nat),ia+k≤A.length→(∀ i (hi:ia+i<A.length),i<k→∀ z∈B.drop ib,kv A[ia+i]≤kv z)→MI A B (o++(A.drop ia).take k) (ia+k) ib
 | 0,_,_=>by rw [List.take_zero,List.append_nil];exact m
 | k+1,hk,h=>by
   have ih:=MI.extA m hA k (by omega) fun i hi hik=>h i hi (by omega)
   have hi:ia+k<A.length:=by omega
   have e:(A.drop ia).take (k+1)=(A.drop ia).take k++[A[ia+k]]:=by rw [List.take_succ,List.getElem?_drop,List.getElem?_eq_getElem hi];rfl
   rw [e,← List.append_assoc]
   exact ih.pushA hA hi (h k hi (by omega))
theorem MI.extB {A B o:List Keyed} {ia ib:Nat} (m:MI A B o ia ib) (hB:B.Pairwise Le):∀ (k:Nat),ib+k≤B.length→(∀ i (hi:ib+i<B.length),i<k→∀ z∈A.drop ia,kv B[ib+i]≤kv z)→MI A B (o++(B.drop ib).take k) ia (ib+k)
 | 0,_,_=>by rw [List.take_zero,List.append_nil];exact m
 | k+1,hk,h=>by
   have ih:=MI.extB m hB k (by omega) fun i hi hik=>h i hi (by omega)
   have hi:ib+k<B.length:=by omega
   have e:(B.drop ib).take (k+1)=(B.drop ib).take k++[B[ib+k]]:=by rw [List.take_succ,List.getElem?_drop,List.getElem?_eq_getElem hi];rfl
   rw [e,← List.append_assoc]
   exact ih.pushB hB hi (h k hi (by omega))
theorem perm_mid (a b c d:List Keyed):(a++b++(c++d)).Perm (a++c++(b++d)):=by
 rw [List.append_assoc,List.append_assoc]
 refine List.Perm.append_left a ?_
 rw [← List.append_assoc,← List.append_assoc]
 exact List.Perm.append_right d List.perm_append_comm
theorem MI.finAB {A B o:List Keyed} {ia ib:Nat} (m:MI A B o ia ib) (hA:A.Pairwise Le) (hB:B.Pairwise Le) (h:∀ x∈A.drop ia,∀ y∈B.drop ib,kv x≤kv y):Mer A B (o++A.drop ia++B.drop ib):=by
 refine ⟨?_,?_⟩
 · have e:=(m.perm.append_right (A.drop ia++B.drop ib)).trans (perm_mid (A.take ia) (B.take ib) (A.drop ia) (B.drop ib))
   rw [List.take_append_drop,List.take_append_drop] at e
   rw [List.append_assoc];exact e
 · refine List.pairwise_append.mpr ⟨List.pairwise_append.mpr ⟨m.srt,hA.sublist (List.drop_sublist _ _),fun x hx y hy=>m.lea x hx y hy⟩,hB.sublist (List.drop_sublist _ _),fun x hx y hy=>?_⟩
   rcases List.mem_append.mp hx with hx | hx
   · exact m.leb x hx y hy
   · exact h x hx y hy
theorem MI.finBA {A B o:List Keyed} {ia ib:Nat} (m:MI A B o ia ib) (hA:A.Pairwise Le) (hB:B.Pairwise Le) (h:∀ x∈A.drop ia,∀ y∈B.drop ib,kv y≤kv x):Mer A B (o++B.drop ib++A.drop ia):=by
 refine ⟨?_,?_⟩
 · have e:=(m.perm.append_right (A.drop ia++B.drop ib)).trans (perm_mid (A.take ia) (B.take ib) (A.drop ia) (B.drop ib))
   rw [List.take_append_drop,List.take_append_drop] at e
   rw [List.append_assoc]
   exact (List.Perm.append_left o List.perm_append_comm).trans e
 · refine List.pairwise_append.mpr ⟨List.pairwise_append.mpr ⟨m.srt,hB.sublist (List.drop_sublist _ _),fun x hx y hy=>m.leb x hx y hy⟩,hA.sublist (List.drop_sublist _ _),fun x hx y hy=>?_⟩
   rcases List.mem_append.mp hx with hx | hx
   · exact m.lea x hx y hy
   · exact h y hy x hx
def mlo:Array Keyed→Array Keyed→StateT SortSt Sem (Array Keyed):=sortPriv% PySem.Builtin.mergeLo
def setG:Nat→StateT SortSt Sem Unit:=sortPriv% PySem.Builtin.setMinGallop
theorem setG_eq (g:Nat):setG g=modify fun z=>SortSt.mk' (kindOf z) (arrOf z) (pendingOf z) g (failedOf z):=rfl
theorem mlo_eq (xa xb:Array Keyed):mlo xa xb=(do
 rule "list.sort.merge-lo"
 let tot:=xa.size+xb.size
 let dn (ou:Array Keyed) (i j:Nat):=ou++xa.extract i xa.size++xb.extract j xb.size
 let la (ou:Array Keyed) (i j:Nat):=ou++xb.extract j xb.size++xa.extract i xa.size
 let mut ou:Array Keyed:=#[← elem' xb 0]
 let mut i:=0
 let mut j:=1
 if j == xb.size then return dn ou i j
 if i+1 == xa.size then return la ou i j
 let mut mg:=gallopOf (← get)
 for _ in [0:tot] do
  let mut ac:=0
  let mut bc:=0
  for _ in [0:tot] do
   let some bw ← lt' (← elem' xb j) (← elem' xa i) | return dn ou i j
   if bw then
    ou:=ou.push (← elem' xb j);j:=j+1;bc:=bc+1;ac:=0
    if j == xb.size then return dn ou i j
    if bc≥mg then break
   else
    ou:=ou.push (← elem' xa i);i:=i+1;ac:=ac+1;bc:=0
    if i+1 == xa.size then return la ou i j
    if ac≥mg then break
  rule "list.sort.gallop"
  mg:=mg+1
  for _ in [0:tot] do
   if mg > 1 then mg:=mg - 1
   setG mg
   let some k ← gal false (← elem' xb j) xa i (xa.size - i) 0 | return dn ou i j
   ac:=k
   if k > 0 then
    ou:=ou++xa.extract i (i+k);i:=i+k
    if i+1 == xa.size then return la ou i j
    if i == xa.size then return dn ou i j
   ou:=ou.push (← elem' xb j);j:=j+1
   if j == xb.size then return dn ou i j
   let some k ← gal true (← elem' xa i) xb j (xb.size - j) 0 | return dn ou i j
   bc:=k
   if k > 0 then
    ou:=ou++xb.extract j (j+k);j:=j+k
    if j == xb.size then return dn ou i j
   ou:=ou.push (← elem' xa i);i:=i+1
   if i+1 == xa.size then return la ou i j
   if ac<7&&bc<7 then break
  mg:=mg+1
  setG mg
 unsupported "internal:list.sort.merge-bound"):=rfl
open PyProof.Rows hiding K SortedTo K_bubble K_mirror K_congr K_mirror_equal
variable [KV]
structure SameSt (a b:SortSt):Prop where
 kind:kindOf b=kindOf a
 arr:arrOf b=arrOf a
 pend:pendingOf b=pendingOf a
 fail:failedOf b=failedOf a
theorem SameSt.refl (a:SortSt):SameSt a a:=⟨rfl,rfl,rfl,rfl⟩
theorem SameSt.setG {a b:SortSt} (h:SameSt a b) (g:Nat):SameSt a (SortSt.mk' (kindOf b) (arrOf b) (pendingOf b) g (failedOf b)):=⟨h.kind,h.arr,h.pend,h.fail⟩
theorem toL_end (o x y:Array Keyed) (i j:Nat):(o++x.extract i x.size++y.extract j y.size).toList=o.toList++x.toList.drop i++y.toList.drop j:=by
 have e:∀ (z:Array Keyed) (k:Nat),(z.extract k z.size).toList=z.toList.drop k:=fun z k=>by
  rw [Array.toList_extract,List.extract_eq_drop_take,List.take_of_length_le]
  rw [List.length_drop,Array.length_toList]
  exact Nat.le_refl _
 rw [Array.toList_append,Array.toList_append,e,e]
theorem toL_ext (o x:Array Keyed) (i k:Nat):(o++x.extract i (i+k)).toList=o.toList++(x.toList.drop i).take k:=by
 rw [Array.toList_append,Array.toList_extract,List.extract_eq_drop_take,Nat.add_sub_cancel_left]
section
variable {A B:List Keyed} {o:List Keyed} {ia ib:Nat}
theorem drop_len {l:List Keyed} {i:Nat} (h:i=l.length):l.drop i=[]:=List.drop_of_length_le (by omega)
theorem one_left {l:List Keyed} {i:Nat} (h:i+1=l.length):∀ x∈l.drop i,kv x=kv (l[l.length - 1]'(by omega)):=fun x hx=>by
 have e:l.drop i=l[i]::l.drop (i+1):=List.drop_eq_getElem_cons (by omega)
 rw [e,drop_len h] at hx
 have:x=l[i]:=by simpa using hx
 subst this
 congr 2
 omega
end
section
variable {prog:Program} {w:World} {A:Around} {E:Value→Shared→Prop}
theorem s_elemL {st:SortSt} {xs:Array Keyed} {i:Nat} {Q:Keyed→SortSt→Prop} (hi:i<xs.toList.length) (h:Q xs.toList[i] st):wpS (model prog w) A E KV.sh (elem' xs i) Q st:=
 s_elem (by rw [← Array.getElem?_toList,List.getElem?_eq_getElem hi]) h
theorem s_setG {st:SortSt} {g:Nat} {Q:Unit→SortSt→Prop} (h:Q () (SortSt.mk' (kindOf st) (arrOf st) (pendingOf st) g (failedOf st))):wpS (model prog w) A E KV.sh (setG g) Q st:=by
 rw [setG_eq];exact wpS_modify h
theorem cut_of {xs:Array Keyed} (hs:xs.toList.Pairwise Le) (ky:Keyed) (lf:Bool) (bs n:Nat) (hn:bs+n≤xs.size):∃ c,c≤n∧∀ i,i<n→Byd lf ky xs bs i=decide (i<c):=by
 have mono:∀ i j,i≤j→bs+j<xs.size→K xs (bs+i)≤K xs (bs+j):=fun i j hij hj=>by
  have e1:xs[bs+i]? = some (xs.toList[bs+i]'(by rw [Array.length_toList];omega)):=by rw [← Array.getElem?_toList,List.getElem?_eq_getElem]
  have e2:xs[bs+j]? = some (xs.toList[bs+j]'(by rw [Array.length_toList];omega)):=by rw [← Array.getElem?_toList,List.getElem?_eq_getElem]
  rw [K_of e1,K_of e2]
  by_cases h:i=j
  · subst h;exact Int.le_refl _
  · exact List.pairwise_iff_getElem.mp hs _ _ _ _ (by omega)
 have down:∀ i j,i≤j→j<n→Byd lf ky xs bs j=true→Byd lf ky xs bs i=true:=fun i j hij hj h=>by
  have:=mono i j hij (by omega)
  unfold Byd at h ⊢
  cases lf with
  | true=>simp only [if_true,decide_eq_true_eq] at h ⊢;omega
  | false=>simp only [Bool.false_eq_true,if_false,Bool.not_eq_true',decide_eq_false_iff_not] at h ⊢;omega
 induction n with
 | zero=>exact ⟨0,Nat.le_refl _,fun i hi=>absurd hi (Nat.not_lt_zero _)⟩
 | succ n ih=>
   obtain ⟨c,hc,hd⟩:=ih (by omega) (fun i j hij hj h=>down i j hij (by omega) h)
   by_cases hb:Byd lf ky xs bs n=true
   · refine ⟨n+1,Nat.le_refl _,fun i hi=>?_⟩
     rw [decide_eq_true hi]
     exact down i n (by omega) (by omega) hb
   · refine ⟨c,by omega,fun i hi=>?_⟩
     by_cases h:i=n
     · subst h
       rw [decide_eq_false (by omega)]
       exact Bool.not_eq_true _▸(by simpa using hb)
     · exact hd i (by omega)
theorem K_at {xs:Array Keyed} {i:Nat} (hi:i<xs.toList.length):K xs i=kv xs.toList[i]:=K_of (by rw [← Array.getElem?_toList,List.getElem?_eq_getElem hi])
end
open PyProof.Rows hiding K SortedTo K_bubble K_mirror K_congr K_mirror_equal
variable [KV]
theorem mem_dropE {l:List Keyed} {k:Nat} {z:Keyed} (h:z∈l.drop k):∃ u,∃ h:k+u<l.length,z=l[k+u]:=by
 obtain ⟨u,hu,rfl⟩:=List.mem_iff_getElem.mp h
 rw [List.length_drop] at hu
 exact ⟨u,by omega,by rw [List.getElem_drop]⟩
theorem head_le {l:List Keyed} (h:l.Pairwise Le) {i:Nat} (hi:i<l.length):∀ z∈l.drop i,kv l[i]≤kv z:=fun z hz=>by
 rw [List.drop_eq_getElem_cons hi] at hz
 rcases List.mem_cons.mp hz with rfl | hz
 · exact Int.le_refl _
 · exact pw_drop h hi z hz
theorem gfalse {xs:Array Keyed} {ky:Keyed} {bs n c:Nat} (hn:bs+n=xs.toList.length) (cut:∀ i,i<n→Byd false ky xs bs i=decide (i<c)) :
 (∀ t (h:bs+t<xs.toList.length),t<c→kv xs.toList[bs+t]≤kv ky)∧(∀ z∈xs.toList.drop (bs+c),kv ky<kv z):=by
 constructor
 · intro t h ht
   have:=cut t (by omega)
   rw [decide_eq_true ht] at this
   unfold Byd at this
   rw [K_at h] at this
   simp only [Bool.false_eq_true,if_false,Bool.not_eq_true',decide_eq_false_iff_not] at this
   omega
 · intro z hz
   obtain ⟨u,hu,rfl⟩:=mem_dropE hz
   have:=cut (c+u) (by omega)
   rw [decide_eq_false (by omega)] at this
   unfold Byd at this
   have e:bs+(c+u)=bs+c+u:=by omega
   rw [e,K_at hu] at this
   simpa using this
theorem gtrue {xs:Array Keyed} {ky:Keyed} {bs n c:Nat} (hn:bs+n=xs.toList.length) (cut:∀ i,i<n→Byd true ky xs bs i=decide (i<c)) :
 (∀ t (h:bs+t<xs.toList.length),t<c→kv xs.toList[bs+t]<kv ky)∧(∀ z∈xs.toList.drop (bs+c),kv ky≤kv z):=by
 constructor
 · intro t h ht
   have:=cut t (by omega)
   rw [decide_eq_true ht] at this
   unfold Byd at this
   rw [K_at h] at this
   simpa using this
 · intro z hz
   obtain ⟨u,hu,rfl⟩:=mem_dropE hz
   have:=cut (c+u) (by omega)
   rw [decide_eq_false (by omega)] at this
   unfold Byd at this
   have e:bs+(c+u)=bs+c+u:=by omega
   rw [e,K_at hu] at this
   simpa using this
theorem MI.start {A B:List Keyed} (hB:B.Pairwise Le) (hb:0<B.length) (h0:∀ z∈A,kv B[0]≤kv z):MI A B [B[0]] 0 1:=by
 have m:MI A B [] 0 0:=⟨by simp,List.Pairwise.nil,fun x hx=>(nomatch hx),fun x hx=>(nomatch hx)⟩
 exact m.pushB hB hb fun z hz=>h0 z (by simpa using hz)
theorem MI.doneB {xa xb ou:Array Keyed} {i j:Nat} (m:MI xa.toList xb.toList ou.toList i j) (hA:xa.toList.Pairwise Le) (hB:xb.toList.Pairwise Le) (h:j=xb.toList.length):Mer xa.toList xb.toList (ou++xa.extract i xa.size++xb.extract j xb.size).toList:=by
 rw [toL_end]
 exact m.finAB hA hB fun x _ y hy=>by rw [drop_len h] at hy;cases hy
theorem MI.doneA {xa xb ou:Array Keyed} {i j:Nat} (m:MI xa.toList xb.toList ou.toList i j) (hA:xa.toList.Pairwise Le) (hB:xb.toList.Pairwise Le) (h:i=xa.toList.length):Mer xa.toList xb.toList (ou++xa.extract i xa.size++xb.extract j xb.size).toList:=by
 rw [toL_end]
 exact m.finAB hA hB fun x hx y _=>by rw [drop_len h] at hx;cases hx
theorem MI.last {xa xb ou:Array Keyed} {i j:Nat} (m:MI xa.toList xb.toList ou.toList i j) (hA:xa.toList.Pairwise Le) (hB:xb.toList.Pairwise Le) (h:i+1=xa.toList.length) (hl:∀ z∈xb.toList,kv z≤kv (xa.toList[xa.toList.length - 1]'(by omega))):Mer xa.toList xb.toList (ou++xb.extract j xb.size++xa.extract i xa.size).toList:=by
 rw [toL_end]
 exact m.finBA hA hB fun x hx y hy=>by rw [one_left h x hx];exact hl y (List.mem_of_mem_drop hy)
section
variable {prog:Program} {w:World} {A:Around} {E:Value→Shared→Prop}
theorem s_mlo {st:SortSt} {xa xb:Array Keyed} {Q:Array Keyed→SortSt→Prop} (hk:kindOf st=KV.kind) (hIa:AllI xa) (hIb:AllI xb) (hA:xa.toList.Pairwise Le) (hB:xb.toList.Pairwise Le) (ha:0<xa.toList.length) (hb:0<xb.toList.length)
 (h0:∀ z∈xa.toList,kv (xb.toList[0])≤kv z) (hl:∀ z∈xb.toList,kv z≤kv (xa.toList[xa.toList.length - 1]'(by omega)))
 (h:∀ o st',SameSt st st'→Mer xa.toList xb.toList o.toList→Q o st'):wpS (model prog w) A E KV.sh (mlo xa xb) Q st:=by
 have hsa:xa.size=xa.toList.length:=(Array.length_toList ..).symm
 have hsb:xb.size=xb.toList.length:=(Array.length_toList ..).symm
 rw [mlo_eq]
 refine wpS_bind (wpS_lift (wpAny_rule ⟨rfl,?_⟩))
 dsimp only
 refine wpS_bind (s_elemL hb ?_)
 have m0:MI xa.toList xb.toList (#[xb.toList[0]]:Array Keyed).toList 0 1:=MI.start hB hb h0
 by_cases c1:1=xb.size
 · rw [if_pos (by simpa using c1)]
   exact wpS_pure (h _ _ (SameSt.refl _) (m0.doneB hA hB (by omega)))
 rw [if_neg (by simpa using c1)]
 by_cases c2:0+1=xa.size
 · rw [if_pos (by simpa using c2)]
   exact wpS_pure (h _ _ (SameSt.refl _) (m0.last hA hB (by omega) hl))
 rw [if_neg (by simpa using c2)]
 refine wpS_bind (wpS_get ?_)
 refine wpS_bind (wpS_mono (wpS_forRange (I:=fun x c st'=>SameSt st st'∧∃ ou i j mg,c=(none,ou,i,j,mg)∧MI xa.toList xb.toList ou.toList i j∧i+1<xa.size∧j<xb.toList.length∧x+1≤i+j) (Q:=fun c st'=>SameSt st st'∧∃ res rest,c=(some res,rest)∧Mer xa.toList xb.toList res.toList) ?step ?fin ⟨SameSt.refl _,_,_,_,_,rfl,m0,by omega,by omega,by omega⟩) ?post)
 case post=>
  rintro c st' ⟨sm,res,rest,rfl,me⟩
  exact wpS_pure (h _ _ sm me)
 case fin=>
  rintro c st' ⟨sm,ou,i,j,mg,rfl,m,hi,hj,hx⟩
  exfalso
  omega
 case step=>
  rintro x c st1 _ hx ⟨sm,ou,i,j,mg,rfl,m,hi,hj,hx2⟩
  dsimp only
  refine wpS_bind (wpS_mono (wpS_forRange (I:=fun y c st'=>SameSt st st'∧∃ ou i j ac bc,c=(none,ou,i,j,ac,bc)∧MI xa.toList xb.toList ou.toList i j∧i+1<xa.size∧j<xb.toList.length∧x+1+min y 1≤i+j)
   (Q:=fun c st'=>SameSt st st'∧((∃ res rest,c=(some res,rest)∧Mer xa.toList xb.toList res.toList)∨∃ ou i j ac bc,c=(none,ou,i,j,ac,bc)∧MI xa.toList xb.toList ou.toList i j∧i+1<xa.size∧j<xb.toList.length∧x+2≤i+j)) ?s1 ?f1 ⟨sm,_,_,_,_,_,rfl,m,hi,hj,by omega⟩) ?p1)
  case f1=>
   rintro c st2 ⟨sm2,ou,i,j,ac,bc,rfl,m,hi,hj,hx3⟩
   exact ⟨sm2,.inr ⟨_,_,_,_,_,rfl,m,hi,hj,by omega⟩⟩
  case s1=>
   rintro y c st2 _ hy ⟨sm2,ou,i,j,ac,bc,rfl,m,hi,hj,hx3⟩
   dsimp only
   refine wpS_bind (s_elemL hj (wpS_bind (s_elemL (i:=i) (by omega) ?_)))
   refine wpS_bind (s_lt (sm2.kind.trans hk) (hIb _ (List.getElem_mem _)) (hIa _ (List.getElem_mem _)) ?_)
   by_cases bw:kv xb.toList[j]<kv (xa.toList[i]'(by omega))
   · simp only [bw,decide_true,if_true]
     refine wpS_bind (s_elemL hj ?_)
     have m2:MI xa.toList xb.toList (ou.push xb.toList[j]).toList i (j+1):=by
      rw [Array.toList_push]
      exact m.pushB hB hj fun z hz=>Int.le_trans (Int.le_of_lt bw) (head_le hA (by omega) z hz)
     by_cases e1:j+1=xb.size
     · rw [if_pos (by simpa using e1)]
       exact wpS_pure ⟨sm2,.inl ⟨_,_,rfl,m2.doneB hA hB (by omega)⟩⟩
     · rw [if_neg (by simpa using e1)]
       split
       · exact wpS_pure ⟨sm2,.inr ⟨_,_,_,_,_,rfl,m2,hi,by omega,by omega⟩⟩
       · exact wpS_pure ⟨sm2,_,_,_,_,_,rfl,m2,hi,by omega,by omega⟩
   · simp only [bw,decide_false,Bool.false_eq_true,if_false]
     refine wpS_bind (s_elemL (i:=i) (by omega) ?_)
     have m2:MI xa.toList xb.toList (ou.push (xa.toList[i]'(by omega))).toList (i+1) j:=by
      rw [Array.toList_push]
      exact m.pushA hA (by omega) fun z hz=>Int.le_trans (Int.not_lt.mp bw) (head_le hB hj z hz)
     by_cases e1:i+1+1=xa.size
     · rw [if_pos (by simpa using e1)]
       exact wpS_pure ⟨sm2,.inl ⟨_,_,rfl,m2.last hA hB (by omega) hl⟩⟩
     · rw [if_neg (by simpa using e1)]
       split
       · exact wpS_pure ⟨sm2,.inr ⟨_,_,_,_,_,rfl,m2,by omega,hj,by omega⟩⟩
       · exact wpS_pure ⟨sm2,_,_,_,_,_,rfl,m2,by omega,hj,by omega⟩
  case p1=>
   rintro c st2 ⟨sm2,⟨res,rest,rfl,me⟩ | ⟨ou,i,j,ac,bc,rfl,m,hi,hj,hx3⟩⟩
   · exact wpS_pure ⟨sm2,_,_,rfl,me⟩
   dsimp only
   refine wpS_bind (wpS_lift (wpAny_rule ⟨rfl,?_⟩))
   refine wpS_bind (wpS_mono (wpS_forRange (I:=fun y c st'=>SameSt st st'∧∃ ou i j mg ac bc,c=(none,ou,i,j,mg,ac,bc)∧MI xa.toList xb.toList ou.toList i j∧i+1<xa.size∧j<xb.toList.length∧x+2≤i+j)
    (Q:=fun c st'=>SameSt st st'∧((∃ res rest,c=(some res,rest)∧Mer xa.toList xb.toList res.toList)∨∃ ou i j mg ac bc,c=(none,ou,i,j,mg,ac,bc)∧MI xa.toList xb.toList ou.toList i j∧i+1<xa.size∧j<xb.toList.length∧x+2≤i+j)) ?s2 ?f2 ⟨sm2,_,_,_,_,_,_,rfl,m,hi,hj,hx3⟩) ?p2)
   case f2=>
    rintro c st3 ⟨sm3,ou,i,j,mg,ac,bc,rfl,m,hi,hj,hx4⟩
    exact ⟨sm3,.inr ⟨_,_,_,_,_,_,rfl,m,hi,hj,hx4⟩⟩
   case p2=>
    rintro c st3 ⟨sm3,⟨res,rest,rfl,me⟩ | ⟨ou,i,j,mg,ac,bc,rfl,m,hi,hj,hx4⟩⟩
    · exact wpS_pure ⟨sm3,_,_,rfl,me⟩
    · dsimp only
      refine wpS_bind (s_setG ?_)
      exact wpS_pure ⟨sm3.setG _,_,_,_,_,rfl,m,hi,hj,by omega⟩
   case s2=>
    rintro y c st3 _ hy ⟨sm3',ou,i,j,mg,ac,bc,rfl,m,hi,hj,hx4⟩
    dsimp only
    have sm3:=fun g=>sm3'.setG g
    obtain ⟨c1,hc1,cut1⟩:=cut_of hA xb.toList[j] false i (xa.size - i) (by omega)
    obtain ⟨le1,gt1⟩:=gfalse (by omega) cut1
    have m1:MI xa.toList xb.toList (ou++xa.extract i (i+c1)).toList (i+c1) j:=by
     rw [toL_ext]
     exact m.extA hA c1 (by omega) fun t ht htc z hz=>Int.le_trans (le1 t ht htc) (head_le hB hj z hz)
    by_cases hmg:mg > 1
    · rw [if_pos hmg]
      refine wpS_bind (s_setG (wpS_bind (s_elemL hj ?_)))
      refine wpS_bind (s_gal (c:=c1) ((sm3 _).kind.trans hk) hIa (hIb _ (List.getElem_mem _)) (by omega) (by omega) hc1 cut1 ?_)
      dsimp only
      by_cases k0:c1 > 0
      · rw [if_pos k0]
        by_cases e1:i+c1+1=xa.size
        · rw [if_pos (by simpa using e1)]
          exact wpS_pure ⟨sm3 _,.inl ⟨_,_,rfl,m1.last hA hB (by omega) hl⟩⟩
        · rw [if_neg (by simpa using e1)]
          by_cases e2:i+c1=xa.size
          · rw [if_pos (by simpa using e2)]
            exact wpS_pure ⟨sm3 _,.inl ⟨_,_,rfl,m1.doneA hA hB (by omega)⟩⟩
          · rw [if_neg (by simpa using e2)]
            refine wpS_bind (s_elemL hj ?_)
            have M2:MI xa.toList xb.toList (Array.push (ou++xa.extract i (i+c1)) xb.toList[j]).toList (i+c1) (j+1):=by rw [Array.toList_push];exact MI.pushB m1 hB hj (fun z hz=>Int.le_of_lt (gt1 z hz))
            by_cases e3:j+1=xb.size
            · rw [if_pos (by simpa using e3)]
              exact wpS_pure ⟨sm3 _,.inl ⟨_,_,rfl,M2.doneB hA hB (by omega)⟩⟩
            · rw [if_neg (by simpa using e3)]
              refine wpS_bind (s_elemL (i:=(i+c1)) (by omega) ?_)
              obtain ⟨c2,hc2,cut2⟩:=cut_of hB (xa.toList[(i+c1)]'(by omega)) true (j+1) (xb.size - (j+1)) (by omega)
              obtain ⟨lt2,ge2⟩:=gtrue (by omega) cut2
              refine wpS_bind (s_gal (c:=c2) ((sm3 _).kind.trans hk) hIb (hIa _ (List.getElem_mem _)) (by omega) (by omega) hc2 cut2 ?_)
              dsimp only
              by_cases k1:c2 > 0
              · rw [if_pos k1]
                have M3:MI xa.toList xb.toList (Array.push (ou++xa.extract i (i+c1)) xb.toList[j]++xb.extract (j+1) (j+1+c2)).toList (i+c1) (j+1+c2):=by
                 rw [toL_ext]
                 exact M2.extB hB c2 (by omega) fun t ht htc z hz=>Int.le_trans (Int.le_of_lt (lt2 t ht htc)) (head_le hA (by omega) z hz)
                by_cases e4:j+1+c2=xb.size
                · rw [if_pos (by simpa using e4)]
                  exact wpS_pure ⟨sm3 _,.inl ⟨_,_,rfl,M3.doneB hA hB (by omega)⟩⟩
                · rw [if_neg (by simpa using e4)]
                  refine wpS_bind (s_elemL (i:=(i+c1)) (by omega) ?_)
                  have M4:MI xa.toList xb.toList (Array.push (Array.push (ou++xa.extract i (i+c1)) xb.toList[j]++xb.extract (j+1) (j+1+c2)) (xa.toList[(i+c1)]'(by omega))).toList ((i+c1)+1) (j+1+c2):=by rw [Array.toList_push];exact MI.pushA M3 hA (by omega) ge2
                  by_cases e5:(i+c1)+1+1=xa.size
                  · rw [if_pos (by simpa using e5)]
                    exact wpS_pure ⟨sm3 _,.inl ⟨_,_,rfl,M4.last hA hB (by omega) hl⟩⟩
                  · rw [if_neg (by simpa using e5)]
                    split
                    · exact wpS_pure ⟨sm3 _,.inr ⟨_,_,_,_,_,_,rfl,M4,by omega,by omega,by omega⟩⟩
                    · exact wpS_pure ⟨sm3 _,_,_,_,_,_,_,rfl,M4,by omega,by omega,by omega⟩
              · rw [if_neg k1]
                have c20:c2=0:=by omega
                refine wpS_bind (s_elemL (i:=(i+c1)) (by omega) ?_)
                have M4:MI xa.toList xb.toList (Array.push (Array.push (ou++xa.extract i (i+c1)) xb.toList[j]) (xa.toList[(i+c1)]'(by omega))).toList ((i+c1)+1) (j+1):=by rw [Array.toList_push];exact MI.pushA M2 hA (by omega) (fun z hz=>ge2 z (by rw [c20,Nat.add_zero];exact hz))
                by_cases e5:(i+c1)+1+1=xa.size
                · rw [if_pos (by simpa using e5)]
                  exact wpS_pure ⟨sm3 _,.inl ⟨_,_,rfl,M4.last hA hB (by omega) hl⟩⟩
                · rw [if_neg (by simpa using e5)]
                  split
                  · exact wpS_pure ⟨sm3 _,.inr ⟨_,_,_,_,_,_,rfl,M4,by omega,by omega,by omega⟩⟩
                  · exact wpS_pure ⟨sm3 _,_,_,_,_,_,_,rfl,M4,by omega,by omega,by omega⟩
      · rw [if_neg k0]
        have c10:c1=0:=by omega
        refine wpS_bind (s_elemL hj ?_)
        have M2:MI xa.toList xb.toList (Array.push ou xb.toList[j]).toList i (j+1):=by rw [Array.toList_push];exact MI.pushB m hB hj (fun z hz=>Int.le_of_lt (gt1 z (by rw [c10,Nat.add_zero];exact hz)))
        by_cases e3:j+1=xb.size
        · rw [if_pos (by simpa using e3)]
          exact wpS_pure ⟨sm3 _,.inl ⟨_,_,rfl,M2.doneB hA hB (by omega)⟩⟩
        · rw [if_neg (by simpa using e3)]
          refine wpS_bind (s_elemL (i:=i) (by omega) ?_)
          obtain ⟨c2,hc2,cut2⟩:=cut_of hB (xa.toList[i]'(by omega)) true (j+1) (xb.size - (j+1)) (by omega)
          obtain ⟨lt2,ge2⟩:=gtrue (by omega) cut2
          refine wpS_bind (s_gal (c:=c2) ((sm3 _).kind.trans hk) hIb (hIa _ (List.getElem_mem _)) (by omega) (by omega) hc2 cut2 ?_)
          dsimp only
          by_cases k1:c2 > 0
          · rw [if_pos k1]
            have M3:MI xa.toList xb.toList (Array.push ou xb.toList[j]++xb.extract (j+1) (j+1+c2)).toList i (j+1+c2):=by
             rw [toL_ext]
             exact M2.extB hB c2 (by omega) fun t ht htc z hz=>Int.le_trans (Int.le_of_lt (lt2 t ht htc)) (head_le hA (by omega) z hz)
            by_cases e4:j+1+c2=xb.size
            · rw [if_pos (by simpa using e4)]
              exact wpS_pure ⟨sm3 _,.inl ⟨_,_,rfl,M3.doneB hA hB (by omega)⟩⟩
            · rw [if_neg (by simpa using e4)]
              refine wpS_bind (s_elemL (i:=i) (by omega) ?_)
              have M4:MI xa.toList xb.toList (Array.push (Array.push ou xb.toList[j]++xb.extract (j+1) (j+1+c2)) (xa.toList[i]'(by omega))).toList (i+1) (j+1+c2):=by rw [Array.toList_push];exact MI.pushA M3 hA (by omega) ge2
              by_cases e5:i+1+1=xa.size
              · rw [if_pos (by simpa using e5)]
                exact wpS_pure ⟨sm3 _,.inl ⟨_,_,rfl,M4.last hA hB (by omega) hl⟩⟩
              · rw [if_neg (by simpa using e5)]
                split
                · exact wpS_pure ⟨sm3 _,.inr ⟨_,_,_,_,_,_,rfl,M4,by omega,by omega,by omega⟩⟩
                · exact wpS_pure ⟨sm3 _,_,_,_,_,_,_,rfl,M4,by omega,by omega,by omega⟩
          · rw [if_neg k1]
            have c20:c2=0:=by omega
            refine wpS_bind (s_elemL (i:=i) (by omega) ?_)
            have M4:MI xa.toList xb.toList (Array.push (Array.push ou xb.toList[j]) (xa.toList[i]'(by omega))).toList (i+1) (j+1):=by rw [Array.toList_push];exact MI.pushA M2 hA (by omega) (fun z hz=>ge2 z (by rw [c20,Nat.add_zero];exact hz))
            by_cases e5:i+1+1=xa.size
            · rw [if_pos (by simpa using e5)]
              exact wpS_pure ⟨sm3 _,.inl ⟨_,_,rfl,M4.last hA hB (by omega) hl⟩⟩
            · rw [if_neg (by simpa using e5)]
              split
              · exact wpS_pure ⟨sm3 _,.inr ⟨_,_,_,_,_,_,rfl,M4,by omega,by omega,by omega⟩⟩
              · exact wpS_pure ⟨sm3 _,_,_,_,_,_,_,rfl,M4,by omega,by omega,by omega⟩
    · rw [if_neg hmg]
      refine wpS_bind (s_setG (wpS_bind (s_elemL hj ?_)))
      refine wpS_bind (s_gal (c:=c1) ((sm3 _).kind.trans hk) hIa (hIb _ (List.getElem_mem _)) (by omega) (by omega) hc1 cut1 ?_)
      dsimp only
      by_cases k0:c1 > 0
      · rw [if_pos k0]
        by_cases e1:i+c1+1=xa.size
        · rw [if_pos (by simpa using e1)]
          exact wpS_pure ⟨sm3 _,.inl ⟨_,_,rfl,m1.last hA hB (by omega) hl⟩⟩
        · rw [if_neg (by simpa using e1)]
          by_cases e2:i+c1=xa.size
          · rw [if_pos (by simpa using e2)]
            exact wpS_pure ⟨sm3 _,.inl ⟨_,_,rfl,m1.doneA hA hB (by omega)⟩⟩
          · rw [if_neg (by simpa using e2)]
            refine wpS_bind (s_elemL hj ?_)
            have M2:MI xa.toList xb.toList (Array.push (ou++xa.extract i (i+c1)) xb.toList[j]).toList (i+c1) (j+1):=by rw [Array.toList_push];exact MI.pushB m1 hB hj (fun z hz=>Int.le_of_lt (gt1 z hz))
            by_cases e3:j+1=xb.size
            · rw [if_pos (by simpa using e3)]
              exact wpS_pure ⟨sm3 _,.inl ⟨_,_,rfl,M2.doneB hA hB (by omega)⟩⟩
            · rw [if_neg (by simpa using e3)]
              refine wpS_bind (s_elemL (i:=(i+c1)) (by omega) ?_)
              obtain ⟨c2,hc2,cut2⟩:=cut_of hB (xa.toList[(i+c1)]'(by omega)) true (j+1) (xb.size - (j+1)) (by omega)
              obtain ⟨lt2,ge2⟩:=gtrue (by omega) cut2
              refine wpS_bind (s_gal (c:=c2) ((sm3 _).kind.trans hk) hIb (hIa _ (List.getElem_mem _)) (by omega) (by omega) hc2 cut2 ?_)
              dsimp only
              by_cases k1:c2 > 0
              · rw [if_pos k1]
                have M3:MI xa.toList xb.toList (Array.push (ou++xa.extract i (i+c1)) xb.toList[j]++xb.extract (j+1) (j+1+c2)).toList (i+c1) (j+1+c2):=by
                 rw [toL_ext]
                 exact M2.extB hB c2 (by omega) fun t ht htc z hz=>Int.le_trans (Int.le_of_lt (lt2 t ht htc)) (head_le hA (by omega) z hz)
                by_cases e4:j+1+c2=xb.size
                · rw [if_pos (by simpa using e4)]
                  exact wpS_pure ⟨sm3 _,.inl ⟨_,_,rfl,M3.doneB hA hB (by omega)⟩⟩
                · rw [if_neg (by simpa using e4)]
                  refine wpS_bind (s_elemL (i:=(i+c1)) (by omega) ?_)
                  have M4:MI xa.toList xb.toList (Array.push (Array.push (ou++xa.extract i (i+c1)) xb.toList[j]++xb.extract (j+1) (j+1+c2)) (xa.toList[(i+c1)]'(by omega))).toList ((i+c1)+1) (j+1+c2):=by rw [Array.toList_push];exact MI.pushA M3 hA (by omega) ge2
                  by_cases e5:(i+c1)+1+1=xa.size
                  · rw [if_pos (by simpa using e5)]
                    exact wpS_pure ⟨sm3 _,.inl ⟨_,_,rfl,M4.last hA hB (by omega) hl⟩⟩
                  · rw [if_neg (by simpa using e5)]
                    split
                    · exact wpS_pure ⟨sm3 _,.inr ⟨_,_,_,_,_,_,rfl,M4,by omega,by omega,by omega⟩⟩
                    · exact wpS_pure ⟨sm3 _,_,_,_,_,_,_,rfl,M4,by omega,by omega,by omega⟩
              · rw [if_neg k1]
                have c20:c2=0:=by omega
                refine wpS_bind (s_elemL (i:=(i+c1)) (by omega) ?_)
                have M4:MI xa.toList xb.toList (Array.push (Array.push (ou++xa.extract i (i+c1)) xb.toList[j]) (xa.toList[(i+c1)]'(by omega))).toList ((i+c1)+1) (j+1):=by rw [Array.toList_push];exact MI.pushA M2 hA (by omega) (fun z hz=>ge2 z (by rw [c20,Nat.add_zero];exact hz))
                by_cases e5:(i+c1)+1+1=xa.size
                · rw [if_pos (by simpa using e5)]
                  exact wpS_pure ⟨sm3 _,.inl ⟨_,_,rfl,M4.last hA hB (by omega) hl⟩⟩
                · rw [if_neg (by simpa using e5)]
                  split
                  · exact wpS_pure ⟨sm3 _,.inr ⟨_,_,_,_,_,_,rfl,M4,by omega,by omega,by omega⟩⟩
                  · exact wpS_pure ⟨sm3 _,_,_,_,_,_,_,rfl,M4,by omega,by omega,by omega⟩
      · rw [if_neg k0]
        have c10:c1=0:=by omega
        refine wpS_bind (s_elemL hj ?_)
        have M2:MI xa.toList xb.toList (Array.push ou xb.toList[j]).toList i (j+1):=by rw [Array.toList_push];exact MI.pushB m hB hj (fun z hz=>Int.le_of_lt (gt1 z (by rw [c10,Nat.add_zero];exact hz)))
        by_cases e3:j+1=xb.size
        · rw [if_pos (by simpa using e3)]
          exact wpS_pure ⟨sm3 _,.inl ⟨_,_,rfl,M2.doneB hA hB (by omega)⟩⟩
        · rw [if_neg (by simpa using e3)]
          refine wpS_bind (s_elemL (i:=i) (by omega) ?_)
          obtain ⟨c2,hc2,cut2⟩:=cut_of hB (xa.toList[i]'(by omega)) true (j+1) (xb.size - (j+1)) (by omega)
          obtain ⟨lt2,ge2⟩:=gtrue (by omega) cut2
          refine wpS_bind (s_gal (c:=c2) ((sm3 _).kind.trans hk) hIb (hIa _ (List.getElem_mem _)) (by omega) (by omega) hc2 cut2 ?_)
          dsimp only
          by_cases k1:c2 > 0
          · rw [if_pos k1]
            have M3:MI xa.toList xb.toList (Array.push ou xb.toList[j]++xb.extract (j+1) (j+1+c2)).toList i (j+1+c2):=by
             rw [toL_ext]
             exact M2.extB hB c2 (by omega) fun t ht htc z hz=>Int.le_trans (Int.le_of_lt (lt2 t ht htc)) (head_le hA (by omega) z hz)
            by_cases e4:j+1+c2=xb.size
            · rw [if_pos (by simpa using e4)]
              exact wpS_pure ⟨sm3 _,.inl ⟨_,_,rfl,M3.doneB hA hB (by omega)⟩⟩
            · rw [if_neg (by simpa using e4)]
              refine wpS_bind (s_elemL (i:=i) (by omega) ?_)
              have M4:MI xa.toList xb.toList (Array.push (Array.push ou xb.toList[j]++xb.extract (j+1) (j+1+c2)) (xa.toList[i]'(by omega))).toList (i+1) (j+1+c2):=by rw [Array.toList_push];exact MI.pushA M3 hA (by omega) ge2
              by_cases e5:i+1+1=xa.size
              · rw [if_pos (by simpa using e5)]
                exact wpS_pure ⟨sm3 _,.inl ⟨_,_,rfl,M4.last hA hB (by omega) hl⟩⟩
              · rw [if_neg (by simpa using e5)]
                split
                · exact wpS_pure ⟨sm3 _,.inr ⟨_,_,_,_,_,_,rfl,M4,by omega,by omega,by omega⟩⟩
                · exact wpS_pure ⟨sm3 _,_,_,_,_,_,_,rfl,M4,by omega,by omega,by omega⟩
          · rw [if_neg k1]
            have c20:c2=0:=by omega
            refine wpS_bind (s_elemL (i:=i) (by omega) ?_)
            have M4:MI xa.toList xb.toList (Array.push (Array.push ou xb.toList[j]) (xa.toList[i]'(by omega))).toList (i+1) (j+1):=by rw [Array.toList_push];exact MI.pushA M2 hA (by omega) (fun z hz=>ge2 z (by rw [c20,Nat.add_zero];exact hz))
            by_cases e5:i+1+1=xa.size
            · rw [if_pos (by simpa using e5)]
              exact wpS_pure ⟨sm3 _,.inl ⟨_,_,rfl,M4.last hA hB (by omega) hl⟩⟩
            · rw [if_neg (by simpa using e5)]
              split
              · exact wpS_pure ⟨sm3 _,.inr ⟨_,_,_,_,_,_,rfl,M4,by omega,by omega,by omega⟩⟩
              · exact wpS_pure ⟨sm3 _,_,_,_,_,_,_,rfl,M4,by omega,by omega,by omega⟩
end
open PyProof.Rows hiding K SortedTo K_bubble K_mirror K_congr K_mirror_equal
variable [KV]
structure MH (A B:List Keyed) (o:List Keyed) (na nb:Nat):Prop where
 perm:o.Perm (A.drop na++B.drop nb)
 srt:o.Pairwise Le
 lea:∀ x∈o,∀ y∈A.take na,kv y≤kv x
 leb:∀ x∈o,∀ y∈B.take nb,kv y≤kv x
theorem pw_take {l:List Keyed} (h:l.Pairwise Le) {i:Nat} (hi:i<l.length):∀ y∈l.take i,kv y≤kv l[i]:=fun y hy=>by
 obtain ⟨u,hu,rfl⟩:=List.mem_iff_getElem.mp hy
 rw [List.length_take] at hu
 rw [List.getElem_take]
 exact List.pairwise_iff_getElem.mp h _ _ _ _ (by omega)
theorem mem_take_succ {l:List Keyed} {i:Nat} {y:Keyed} (h:y∈l.take i):y∈l.take (i+1):=(List.take_sublist_take_left (Nat.le_succ i)).mem h
theorem mem_take_at {l:List Keyed} {i:Nat} (hi:i<l.length):l[i]∈l.take (i+1):=by
 rw [List.take_succ,List.getElem?_eq_getElem hi]
 exact List.mem_append_right _ (List.mem_singleton.mpr rfl)
theorem MH.pushA {A B o:List Keyed} {na nb:Nat} (m:MH A B o (na+1) nb) (hA:A.Pairwise Le) (hi:na<A.length) (h:∀ z∈B.take nb,kv z≤kv A[na]):MH A B (A[na]::o) na nb:=by
 refine ⟨?_,?_,fun x hx y hy=>?_,fun x hx y hy=>?_⟩
 · rw [List.drop_eq_getElem_cons hi,List.cons_append]
   exact List.Perm.cons _ m.perm
 · exact List.pairwise_cons.mpr ⟨fun x hx=>m.lea x hx _ (mem_take_at hi),m.srt⟩
 · rcases List.mem_cons.mp hx with rfl | hx
   · exact pw_take hA hi y hy
   · exact m.lea x hx y (mem_take_succ hy)
 · rcases List.mem_cons.mp hx with rfl | hx
   · exact h y hy
   · exact m.leb x hx y hy
theorem MH.pushB {A B o:List Keyed} {na nb:Nat} (m:MH A B o na (nb+1)) (hB:B.Pairwise Le) (hi:nb<B.length) (h:∀ z∈A.take na,kv z≤kv B[nb]):MH A B (B[nb]::o) na nb:=by
 refine ⟨?_,?_,fun x hx y hy=>?_,fun x hx y hy=>?_⟩
 · rw [List.drop_eq_getElem_cons hi]
   exact (List.Perm.cons _ m.perm).trans List.perm_middle.symm
 · exact List.pairwise_cons.mpr ⟨fun x hx=>m.leb x hx _ (mem_take_at hi),m.srt⟩
 · rcases List.mem_cons.mp hx with rfl | hx
   · exact h y hy
   · exact m.lea x hx y hy
 · rcases List.mem_cons.mp hx with rfl | hx
   · exact pw_take hB hi y hy
   · exact m.leb x hx y (mem_take_succ hy)
theorem MH.extA {A B o:List Keyed} {nb:Nat} (hA:A.Pairwise Le):∀ (k c:Nat),MH A B o (c+k) nb→c+k≤A.length→(∀ i (hi:i<A.length),c≤i→i<c+k→∀ z∈B.take nb,kv z≤kv A[i])→MH A B ((A.drop c).take k++o) c nb
 | 0,c,m,_,_=>by rw [List.take_zero];exact m
 | k+1,c,m,hk,h=>by
   have m':MH A B o (c+1+k) nb:=by rw [show c+1+k=c+(k+1) by omega];exact m
   have ih:=MH.extA hA k (c+1) m' (by omega) fun i hi h1 h2=>h i hi (by omega) (by omega)
   have hi:c<A.length:=by omega
   rw [List.drop_eq_getElem_cons hi,List.take_succ_cons,List.cons_append]
   exact ih.pushA hA hi (h c hi (Nat.le_refl _) (by omega))
theorem MH.extB {A B o:List Keyed} {na:Nat} (hB:B.Pairwise Le):∀ (k c:Nat),MH A B o na (c+k)→c+k≤B.length→(∀ i (hi:i<B.length),c≤i→i<c+k→∀ z∈A.take na,kv z≤kv B[i])→MH A B ((B.drop c).take k++o) na c
 | 0,c,m,_,_=>by rw [List.take_zero];exact m
 | k+1,c,m,hk,h=>by
   have m':MH A B o na (c+1+k):=by rw [show c+1+k=c+(k+1) by omega];exact m
   have ih:=MH.extB hB k (c+1) m' (by omega) fun i hi h1 h2=>h i hi (by omega) (by omega)
   have hi:c<B.length:=by omega
   rw [List.drop_eq_getElem_cons hi,List.take_succ_cons,List.cons_append]
   exact ih.pushB hB hi (h c hi (Nat.le_refl _) (by omega))
theorem MH.finAB {A B o:List Keyed} {na nb:Nat} (m:MH A B o na nb) (hA:A.Pairwise Le) (hB:B.Pairwise Le) (h:∀ x∈A.take na,∀ y∈B.take nb,kv x≤kv y):Mer A B (A.take na++B.take nb++o):=by
 refine ⟨?_,?_⟩
 · have e:=(List.Perm.append_left (A.take na++B.take nb) m.perm).trans (perm_mid (A.take na) (B.take nb) (A.drop na) (B.drop nb))
   rw [List.take_append_drop,List.take_append_drop] at e
   exact e
 · refine List.pairwise_append.mpr ⟨List.pairwise_append.mpr ⟨hA.sublist (List.take_sublist _ _),hB.sublist (List.take_sublist _ _),fun x hx y hy=>h x hx y hy⟩,m.srt,fun x hx y hy=>?_⟩
   rcases List.mem_append.mp hx with hx | hx
   · exact m.lea y hy x hx
   · exact m.leb y hy x hx
theorem MH.finBA {A B o:List Keyed} {na nb:Nat} (m:MH A B o na nb) (hA:A.Pairwise Le) (hB:B.Pairwise Le) (h:∀ x∈A.take na,∀ y∈B.take nb,kv y≤kv x):Mer A B (B.take nb++A.take na++o):=by
 refine ⟨?_,?_⟩
 · have e:=(List.Perm.append_left (A.take na++B.take nb) m.perm).trans (perm_mid (A.take na) (B.take nb) (A.drop na) (B.drop nb))
   rw [List.take_append_drop,List.take_append_drop] at e
   exact (List.Perm.append_right o List.perm_append_comm).trans e
 · refine List.pairwise_append.mpr ⟨List.pairwise_append.mpr ⟨hB.sublist (List.take_sublist _ _),hA.sublist (List.take_sublist _ _),fun x hx y hy=>h y hy x hx⟩,m.srt,fun x hx y hy=>?_⟩
   rcases List.mem_append.mp hx with hx | hx
   · exact m.leb y hy x hx
   · exact m.lea y hy x hx
theorem toL_front (o x y:Array Keyed) (i j:Nat):(x.extract 0 i++y.extract 0 j++o.reverse).toList=x.toList.take i++y.toList.take j++o.toList.reverse:=by
 have e:∀ (z:Array Keyed) (k:Nat),(z.extract 0 k).toList=z.toList.take k:=fun z k=>by
  rw [Array.toList_extract,List.extract_eq_drop_take,List.drop_zero,Nat.sub_zero]
 rw [Array.toList_append,Array.toList_append,e,e,Array.toList_reverse]
theorem toL_pushR (o:Array Keyed) (z:Keyed):(o.push z).toList.reverse=z::o.toList.reverse:=by
 rw [Array.toList_push,List.reverse_append];rfl
theorem toL_extR (o x:Array Keyed) (c n:Nat):(o++(x.extract c n).reverse).toList.reverse=(x.toList.drop c).take (n - c)++o.toList.reverse:=by
 rw [Array.toList_append,List.reverse_append,Array.toList_reverse,List.reverse_reverse,Array.toList_extract,List.extract_eq_drop_take]
def MHa (xa xb ou:Array Keyed) (na nb:Nat):Prop:=MH xa.toList xb.toList ou.toList.reverse na nb
section
variable {xa xb ou:Array Keyed} {na nb:Nat}
theorem MHa.done0 (m:MHa xa xb ou na nb) (hA:xa.toList.Pairwise Le) (hB:xb.toList.Pairwise Le) (h:na=0∨nb=0):Mer xa.toList xb.toList (xa.extract 0 na++xb.extract 0 nb++ou.reverse).toList:=by
 rw [toL_front]
 refine MH.finAB m hA hB fun x hx y hy=>?_
 rcases h with h | h
 · rw [h] at hx;simp at hx
 · rw [h] at hy;simp at hy
theorem MHa.first (m:MHa xa xb ou na nb) (hA:xa.toList.Pairwise Le) (hB:xb.toList.Pairwise Le) (hb:0<xb.toList.length) (h:nb=1) (h0:∀ z∈xa.toList,kv xb.toList[0]≤kv z):Mer xa.toList xb.toList (xb.extract 0 nb++xa.extract 0 na++ou.reverse).toList:=by
 rw [toL_front]
 refine MH.finBA m hA hB fun x hx y hy=>?_
 rw [h,List.take_succ,List.getElem?_eq_getElem hb] at hy
 have:y=xb.toList[0]:=by simpa using hy
 rw [this]
 exact h0 x (List.mem_of_mem_take hx)
theorem MHa.pushA (m:MHa xa xb ou (na+1) nb) (hA:xa.toList.Pairwise Le) (hi:na<xa.toList.length) (h:∀ z∈xb.toList.take nb,kv z≤kv xa.toList[na]):MHa xa xb (ou.push xa.toList[na]) na nb:=by
 unfold MHa;rw [toL_pushR];exact MH.pushA m hA hi h
theorem MHa.pushB (m:MHa xa xb ou na (nb+1)) (hB:xb.toList.Pairwise Le) (hi:nb<xb.toList.length) (h:∀ z∈xa.toList.take na,kv z≤kv xb.toList[nb]):MHa xa xb (ou.push xb.toList[nb]) na nb:=by
 unfold MHa;rw [toL_pushR];exact MH.pushB m hB hi h
theorem MHa.extA {c:Nat} (m:MHa xa xb ou na nb) (hA:xa.toList.Pairwise Le) (hc:c≤na) (hn:na≤xa.toList.length) (h:∀ i (hi:i<xa.toList.length),c≤i→i<na→∀ z∈xb.toList.take nb,kv z≤kv xa.toList[i]):MHa xa xb (ou++(xa.extract c na).reverse) c nb:=by
 unfold MHa;rw [toL_extR]
 exact MH.extA hA (na - c) c (by rw [show c+(na - c)=na by omega];exact m) (by omega) fun i hi h1 h2=>h i hi h1 (by omega)
theorem MHa.extB {c:Nat} (m:MHa xa xb ou na nb) (hB:xb.toList.Pairwise Le) (hc:c≤nb) (hn:nb≤xb.toList.length) (h:∀ i (hi:i<xb.toList.length),c≤i→i<nb→∀ z∈xa.toList.take na,kv z≤kv xb.toList[i]):MHa xa xb (ou++(xb.extract c nb).reverse) na c:=by
 unfold MHa;rw [toL_extR]
 exact MH.extB hB (nb - c) c (by rw [show c+(nb - c)=nb by omega];exact m) (by omega) fun i hi h1 h2=>h i hi h1 (by omega)
end
theorem ffalse {xs:Array Keyed} {ky:Keyed} {n c:Nat} (hn:n≤xs.toList.length) (hc:c≤n) (cut:∀ i,i<n→Byd false ky xs 0 i=decide (i<c)) :
 (∀ z∈xs.toList.take c,kv z≤kv ky)∧(∀ i (h:i<xs.toList.length),c≤i→i<n→kv ky<kv xs.toList[i]):=by
 have key:∀ i (h:i<xs.toList.length),i<n→(!decide (kv ky<kv xs.toList[i]))=decide (i<c):=fun i h hi=>by
  have:=cut i hi
  unfold Byd at this
  rw [Nat.zero_add,K_at h] at this
  simpa using this
 constructor
 · intro z hz
   obtain ⟨u,hu,rfl⟩:=List.mem_iff_getElem.mp hz
   rw [List.length_take] at hu
   have:=key u (by omega) (by omega)
   rw [List.getElem_take]
   rw [decide_eq_true (show u<c by omega)] at this
   simpa using this
 · intro i h h1 h2
   have:=key i h h2
   rw [decide_eq_false (show ¬ i<c by omega)] at this
   simpa using this
theorem ftrue {xs:Array Keyed} {ky:Keyed} {n c:Nat} (hn:n≤xs.toList.length) (hc:c≤n) (cut:∀ i,i<n→Byd true ky xs 0 i=decide (i<c)) :
 (∀ z∈xs.toList.take c,kv z<kv ky)∧(∀ i (h:i<xs.toList.length),c≤i→i<n→kv ky≤kv xs.toList[i]):=by
 have key:∀ i (h:i<xs.toList.length),i<n→decide (kv xs.toList[i]<kv ky)=decide (i<c):=fun i h hi=>by
  have:=cut i hi
  unfold Byd at this
  rw [Nat.zero_add,K_at h] at this
  simpa using this
 constructor
 · intro z hz
   obtain ⟨u,hu,rfl⟩:=List.mem_iff_getElem.mp hz
   rw [List.length_take] at hu
   have:=key u (by omega) (by omega)
   rw [List.getElem_take]
   rw [decide_eq_true (show u<c by omega)] at this
   simpa using this
 · intro i h h1 h2
   have:=key i h h2
   rw [decide_eq_false (show ¬ i<c by omega)] at this
   simpa using this
theorem take_le {l:List Keyed} (h:l.Pairwise Le) {n:Nat} (hn:n<l.length):∀ z∈l.take (n+1),kv z≤kv l[n]:=fun z hz=>by
 rw [List.take_succ,List.getElem?_eq_getElem hn] at hz
 rcases List.mem_append.mp hz with hz | hz
 · exact pw_take h hn z hz
 · have:z=l[n]:=by simpa using hz
   rw [this];exact Int.le_refl _
def mhi:Array Keyed→Array Keyed→StateT SortSt Sem (Array Keyed):=sortPriv% PySem.Builtin.mergeHi
theorem mhi_eq (xa xb:Array Keyed):mhi xa xb=(do
 rule "list.sort.merge-hi"
 let tot:=xa.size+xb.size
 let dn (ou:Array Keyed) (i j:Nat):=xa.extract 0 i++xb.extract 0 j++ou.reverse
 let fb (ou:Array Keyed) (i j:Nat):=xb.extract 0 j++xa.extract 0 i++ou.reverse
 let mut i:=xa.size - 1
 let mut j:=xb.size
 let mut ou:Array Keyed:=#[← elem' xa i]
 if i == 0 then return dn ou i j
 if j == 1 then return fb ou i j
 let mut mg:=gallopOf (← get)
 for _ in [0:tot] do
  let mut ac:=0
  let mut bc:=0
  for _ in [0:tot] do
   let some aw ← lt' (← elem' xb (j - 1)) (← elem' xa (i - 1)) | return dn ou i j
   if aw then
    i:=i - 1;ou:=ou.push (← elem' xa i);ac:=ac+1;bc:=0
    if i == 0 then return dn ou i j
    if ac≥mg then break
   else
    j:=j - 1;ou:=ou.push (← elem' xb j);bc:=bc+1;ac:=0
    if j == 1 then return fb ou i j
    if bc≥mg then break
  rule "list.sort.gallop"
  mg:=mg+1
  for _ in [0:tot] do
   if mg > 1 then mg:=mg - 1
   setG mg
   let some t ← gal false (← elem' xb (j - 1)) xa 0 i (i - 1) | return dn ou i j
   let k:=i - t
   ac:=k
   if k > 0 then
    ou:=ou++(xa.extract t i).reverse;i:=t
    if i == 0 then return dn ou i j
   j:=j - 1;ou:=ou.push (← elem' xb j)
   if j == 1 then return fb ou i j
   let some t ← gal true (← elem' xa (i - 1)) xb 0 j (j - 1) | return dn ou i j
   let k:=j - t
   bc:=k
   if k > 0 then
    ou:=ou++(xb.extract t j).reverse;j:=t
    if j == 1 then return fb ou i j
    if j == 0 then return dn ou i j
   i:=i - 1;ou:=ou.push (← elem' xa i)
   if i == 0 then return dn ou i j
   if ac<7&&bc<7 then break
  mg:=mg+1
  setG mg
 unsupported "internal:list.sort.merge-bound"):=rfl
open PyProof.Rows hiding K SortedTo K_bubble K_mirror K_congr K_mirror_equal
variable [KV]
section
variable {prog:Program} {w:World} {A:Around} {E:Value→Shared→Prop}
theorem s_mhi {st:SortSt} {xa xb:Array Keyed} {Q:Array Keyed→SortSt→Prop} (hk:kindOf st=KV.kind) (hIa:AllI xa) (hIb:AllI xb) (hA:xa.toList.Pairwise Le) (hB:xb.toList.Pairwise Le) (ha:0<xa.toList.length) (hb:0<xb.toList.length)
 (h0:∀ z∈xa.toList,kv (xb.toList[0])≤kv z) (hl:∀ z∈xb.toList,kv z≤kv (xa.toList[xa.toList.length - 1]'(by omega)))
 (h:∀ o st',SameSt st st'→Mer xa.toList xb.toList o.toList→Q o st'):wpS (model prog w) A E KV.sh (mhi xa xb) Q st:=by
 have hsa:xa.size=xa.toList.length:=(Array.length_toList ..).symm
 have hsb:xb.size=xb.toList.length:=(Array.length_toList ..).symm
 rw [mhi_eq]
 refine wpS_bind (wpS_lift (wpAny_rule ⟨rfl,?_⟩))
 dsimp only
 refine wpS_bind (s_elemL (i:=xa.size - 1) (by omega) ?_)
 have m0:MHa xa xb #[xa.toList[xa.size - 1]'(by omega)] (xa.size - 1) xb.size:=by
  have mm:MHa xa xb #[] (xa.size - 1+1) xb.size:=by
   refine ⟨?_,List.Pairwise.nil,fun x hx=>(nomatch hx),fun x hx=>(nomatch hx)⟩
   rw [drop_len (show xa.size - 1+1=xa.toList.length by omega),drop_len hsb]
   exact List.Perm.refl _
  refine mm.pushA hA (by omega) fun z hz=>?_
  have:=hl z (List.mem_of_mem_take hz)
  have e:xa.toList[xa.toList.length - 1]'(by omega)=xa.toList[xa.size - 1]'(by omega):=by congr 1
  rw [← e];exact this
 by_cases c1:xa.size - 1=0
 · rw [if_pos (by simpa using c1)]
   exact wpS_pure (h _ _ (SameSt.refl _) (m0.done0 hA hB (.inl c1)))
 rw [if_neg (by simpa using c1)]
 by_cases c2:xb.size=1
 · rw [if_pos (by simpa using c2)]
   exact wpS_pure (h _ _ (SameSt.refl _) (m0.first hA hB hb c2 h0))
 rw [if_neg (by simpa using c2)]
 refine wpS_bind (wpS_get ?_)
 refine wpS_bind (wpS_mono (wpS_forRange (I:=fun x c st'=>SameSt st st'∧∃ i j ou mg,c=(none,i,j,ou,mg)∧MHa xa xb ou i j∧0<i∧i<xa.size∧1<j∧j≤xb.size∧i+j+x+1≤xa.size+xb.size) (Q:=fun c st'=>SameSt st st'∧∃ res rest,c=(some res,rest)∧Mer xa.toList xb.toList res.toList) ?step ?fin ⟨SameSt.refl _,_,_,_,_,rfl,m0,by omega,by omega,by omega,by omega,by omega⟩) ?post)
 case post=>
  rintro c st' ⟨sm,res,rest,rfl,me⟩
  exact wpS_pure (h _ _ sm me)
 case fin=>
  rintro c st' ⟨sm,i,j,ou,mg,rfl,m,hi,hi2,hj,hj2,hx⟩
  exfalso
  omega
 case step=>
  rintro x c st1 _ hx ⟨sm,i,j,ou,mg,rfl,m,hi,hi2,hj,hj2,hx2⟩
  dsimp only
  refine wpS_bind (wpS_mono (wpS_forRange (I:=fun y c st'=>SameSt st st'∧∃ i j ou ac bc,c=(none,i,j,ou,ac,bc)∧MHa xa xb ou i j∧0<i∧i<xa.size∧1<j∧j≤xb.size∧i+j+x+1+min y 1≤xa.size+xb.size)
   (Q:=fun c st'=>SameSt st st'∧((∃ res rest,c=(some res,rest)∧Mer xa.toList xb.toList res.toList)∨∃ i j ou ac bc,c=(none,i,j,ou,ac,bc)∧MHa xa xb ou i j∧0<i∧i<xa.size∧1<j∧j≤xb.size∧i+j+x+2≤xa.size+xb.size)) ?s1 ?f1 ⟨sm,_,_,_,_,_,rfl,m,hi,hi2,hj,hj2,by omega⟩) ?p1)
  case f1=>
   rintro c st2 ⟨sm2,i,j,ou,ac,bc,rfl,m,hi,hi2,hj,hj2,hx3⟩
   exact ⟨sm2,.inr ⟨_,_,_,_,_,rfl,m,hi,hi2,hj,hj2,by omega⟩⟩
  case s1=>
   rintro y c st2 _ hy ⟨sm2,i,j,ou,ac,bc,rfl,m,hi,hi2,hj,hj2,hx3⟩
   dsimp only
   refine wpS_bind (s_elemL (i:=j - 1) (by omega) (wpS_bind (s_elemL (i:=i - 1) (by omega) ?_)))
   refine wpS_bind (s_lt (sm2.kind.trans hk) (hIb _ (List.getElem_mem _)) (hIa _ (List.getElem_mem _)) ?_)
   by_cases aw:kv (xb.toList[j - 1]'(by omega))<kv (xa.toList[i - 1]'(by omega))
   · simp only [aw,decide_true,if_true]
     refine wpS_bind (s_elemL (i:=i - 1) (by omega) ?_)
     have m2:MHa xa xb (ou.push (xa.toList[i - 1]'(by omega))) (i - 1) j:=MHa.pushA (by rw [show i - 1+1=i by omega];exact m) hA (by omega) fun z hz=>by
      refine Int.le_trans ?_ (Int.le_of_lt aw)
      exact take_le hB (n:=j - 1) (by omega) z (by rw [show j - 1+1=j by omega];exact hz)
     by_cases e1:i - 1=0
     · rw [if_pos (by simpa using e1)]
       exact wpS_pure ⟨sm2,.inl ⟨_,_,rfl,m2.done0 hA hB (.inl e1)⟩⟩
     · rw [if_neg (by simpa using e1)]
       split
       · exact wpS_pure ⟨sm2,.inr ⟨_,_,_,_,_,rfl,m2,by omega,by omega,hj,hj2,by omega⟩⟩
       · exact wpS_pure ⟨sm2,_,_,_,_,_,rfl,m2,by omega,by omega,hj,hj2,by omega⟩
   · simp only [aw,decide_false,Bool.false_eq_true,if_false]
     refine wpS_bind (s_elemL (i:=j - 1) (by omega) ?_)
     have m2:MHa xa xb (ou.push (xb.toList[j - 1]'(by omega))) i (j - 1):=MHa.pushB (by rw [show j - 1+1=j by omega];exact m) hB (by omega) fun z hz=>by
      refine Int.le_trans ?_ (Int.not_lt.mp aw)
      exact take_le hA (n:=i - 1) (by omega) z (by rw [show i - 1+1=i by omega];exact hz)
     by_cases e1:j - 1=1
     · rw [if_pos (by simpa using e1)]
       exact wpS_pure ⟨sm2,.inl ⟨_,_,rfl,m2.first hA hB hb e1 h0⟩⟩
     · rw [if_neg (by simpa using e1)]
       split
       · exact wpS_pure ⟨sm2,.inr ⟨_,_,_,_,_,rfl,m2,hi,hi2,by omega,by omega,by omega⟩⟩
       · exact wpS_pure ⟨sm2,_,_,_,_,_,rfl,m2,hi,hi2,by omega,by omega,by omega⟩
  case p1=>
   rintro c st2 ⟨sm2,⟨res,rest,rfl,me⟩ | ⟨i,j,ou,ac,bc,rfl,m,hi,hi2,hj,hj2,hx3⟩⟩
   · exact wpS_pure ⟨sm2,_,_,rfl,me⟩
   dsimp only
   refine wpS_bind (wpS_lift (wpAny_rule ⟨rfl,?_⟩))
   refine wpS_bind (wpS_mono (wpS_forRange (I:=fun y c st'=>SameSt st st'∧∃ i j ou mg ac bc,c=(none,i,j,ou,mg,ac,bc)∧MHa xa xb ou i j∧0<i∧i<xa.size∧1<j∧j≤xb.size∧i+j+x+2≤xa.size+xb.size)
    (Q:=fun c st'=>SameSt st st'∧((∃ res rest,c=(some res,rest)∧Mer xa.toList xb.toList res.toList)∨∃ i j ou mg ac bc,c=(none,i,j,ou,mg,ac,bc)∧MHa xa xb ou i j∧0<i∧i<xa.size∧1<j∧j≤xb.size∧i+j+x+2≤xa.size+xb.size)) ?s2 ?f2 ⟨sm2,_,_,_,_,_,_,rfl,m,hi,hi2,hj,hj2,hx3⟩) ?p2)
   case f2=>
    rintro c st3 ⟨sm3,i,j,ou,mg,ac,bc,rfl,m,hi,hi2,hj,hj2,hx4⟩
    exact ⟨sm3,.inr ⟨_,_,_,_,_,_,rfl,m,hi,hi2,hj,hj2,hx4⟩⟩
   case p2=>
    rintro c st3 ⟨sm3,⟨res,rest,rfl,me⟩ | ⟨i,j,ou,mg,ac,bc,rfl,m,hi,hi2,hj,hj2,hx4⟩⟩
    · exact wpS_pure ⟨sm3,_,_,rfl,me⟩
    · dsimp only
      refine wpS_bind (s_setG ?_)
      exact wpS_pure ⟨sm3.setG _,_,_,_,_,rfl,m,hi,hi2,hj,hj2,by omega⟩
   case s2=>
    rintro y c st3 _ hy ⟨sm3',i,j,ou,mg,ac,bc,rfl,m,hi,hi2,hj,hj2,hx4⟩
    dsimp only
    have sm3:=fun g=>sm3'.setG g
    obtain ⟨c1,hc1,cut1⟩:=cut_of hA (xb.toList[j - 1]'(by omega)) false 0 i (by omega)
    obtain ⟨le1,gt1⟩:=ffalse (by omega) hc1 cut1
    have m1:MHa xa xb (ou++(xa.extract c1 i).reverse) c1 j:=m.extA hA hc1 (by omega) fun t ht h1 h2 z hz=>by
     refine Int.le_trans ?_ (Int.le_of_lt (gt1 t ht h1 h2))
     exact take_le hB (n:=j - 1) (by omega) z (by rw [show j - 1+1=j by omega];exact hz)
    by_cases hmg:mg > 1
    · rw [if_pos hmg]
      refine wpS_bind (s_setG (wpS_bind (s_elemL (i:=j - 1) (by omega) ?_)))
      refine wpS_bind (s_gal (c:=c1) ((sm3 _).kind.trans hk) hIa (hIb _ (List.getElem_mem _)) (by omega) (by omega) hc1 cut1 ?_)
      dsimp only
      by_cases k0:i - c1 > 0
      · rw [if_pos k0]
        by_cases e1:c1=0
        · rw [if_pos (by simpa using e1)]
          exact wpS_pure ⟨sm3 _,.inl ⟨_,_,rfl,m1.done0 hA hB (.inl e1)⟩⟩
        · rw [if_neg (by simpa using e1)]
          refine wpS_bind (s_elemL (i:=j - 1) (by omega) ?_)
          have M2:MHa xa xb (Array.push (ou++(xa.extract c1 i).reverse) (xb.toList[j - 1]'(by omega))) c1 (j - 1):=MHa.pushB (by rw [show j - 1+1=j by omega];exact m1) hB (by omega) (fun z hz=>le1 z hz)
          by_cases e3:j - 1=1
          · rw [if_pos (by simpa using e3)]
            exact wpS_pure ⟨sm3 _,.inl ⟨_,_,rfl,M2.first hA hB hb e3 h0⟩⟩
          · rw [if_neg (by simpa using e3)]
            refine wpS_bind (s_elemL (i:=c1 - 1) (by omega) ?_)
            obtain ⟨c2,hc2,cut2⟩:=cut_of hB (xa.toList[c1 - 1]'(by omega)) true 0 (j - 1) (by omega)
            obtain ⟨lt2,ge2⟩:=ftrue (by omega) hc2 cut2
            refine wpS_bind (s_gal (c:=c2) ((sm3 _).kind.trans hk) hIb (hIa _ (List.getElem_mem _)) (by omega) (by omega) hc2 cut2 ?_)
            dsimp only
            by_cases k1:j - 1 - c2 > 0
            · rw [if_pos k1]
              have M3:MHa xa xb (Array.push (ou++(xa.extract c1 i).reverse) (xb.toList[j - 1]'(by omega))++(xb.extract c2 (j - 1)).reverse) c1 c2:=M2.extB hB hc2 (by omega) fun t ht h1 h2 z hz=>by
               refine Int.le_trans ?_ (ge2 t ht h1 h2)
               exact take_le hA (n:=c1 - 1) (by omega) z (by rw [show c1 - 1+1=c1 by omega];exact hz)
              by_cases e4:c2=1
              · rw [if_pos (by simpa using e4)]
                exact wpS_pure ⟨sm3 _,.inl ⟨_,_,rfl,M3.first hA hB hb e4 h0⟩⟩
              · rw [if_neg (by simpa using e4)]
                by_cases e6:c2=0
                · rw [if_pos (by simpa using e6)]
                  exact wpS_pure ⟨sm3 _,.inl ⟨_,_,rfl,M3.done0 hA hB (.inr e6)⟩⟩
                · rw [if_neg (by simpa using e6)]
                  refine wpS_bind (s_elemL (i:=c1 - 1) (by omega) ?_)
                  have M4:MHa xa xb (Array.push (Array.push (ou++(xa.extract c1 i).reverse) (xb.toList[j - 1]'(by omega))++(xb.extract c2 (j - 1)).reverse) (xa.toList[c1 - 1]'(by omega))) (c1 - 1) c2:=MHa.pushA (by rw [show c1 - 1+1=c1 by omega];exact M3) hA (by omega) (fun z hz=>Int.le_of_lt (lt2 z hz))
                  by_cases e5:c1 - 1=0
                  · rw [if_pos (by simpa using e5)]
                    exact wpS_pure ⟨sm3 _,.inl ⟨_,_,rfl,M4.done0 hA hB (.inl e5)⟩⟩
                  · rw [if_neg (by simpa using e5)]
                    split
                    · exact wpS_pure ⟨sm3 _,.inr ⟨_,_,_,_,_,_,rfl,M4,by omega,by omega,by omega,by omega,by omega⟩⟩
                    · exact wpS_pure ⟨sm3 _,_,_,_,_,_,_,rfl,M4,by omega,by omega,by omega,by omega,by omega⟩
            · rw [if_neg k1]
              have c20:c2=j - 1:=by omega
              refine wpS_bind (s_elemL (i:=c1 - 1) (by omega) ?_)
              have M4:MHa xa xb (Array.push (Array.push (ou++(xa.extract c1 i).reverse) (xb.toList[j - 1]'(by omega))) (xa.toList[c1 - 1]'(by omega))) (c1 - 1) (j - 1):=MHa.pushA (by rw [show c1 - 1+1=c1 by omega];exact M2) hA (by omega) (fun z hz=>Int.le_of_lt (lt2 z (by rw [c20];exact hz)))
              by_cases e5:c1 - 1=0
              · rw [if_pos (by simpa using e5)]
                exact wpS_pure ⟨sm3 _,.inl ⟨_,_,rfl,M4.done0 hA hB (.inl e5)⟩⟩
              · rw [if_neg (by simpa using e5)]
                split
                · exact wpS_pure ⟨sm3 _,.inr ⟨_,_,_,_,_,_,rfl,M4,by omega,by omega,by omega,by omega,by omega⟩⟩
                · exact wpS_pure ⟨sm3 _,_,_,_,_,_,_,rfl,M4,by omega,by omega,by omega,by omega,by omega⟩
      · rw [if_neg k0]
        have c10:c1=i:=by omega
        refine wpS_bind (s_elemL (i:=j - 1) (by omega) ?_)
        have M2:MHa xa xb (Array.push ou (xb.toList[j - 1]'(by omega))) i (j - 1):=MHa.pushB (by rw [show j - 1+1=j by omega];exact m) hB (by omega) (fun z hz=>le1 z (by rw [c10];exact hz))
        by_cases e3:j - 1=1
        · rw [if_pos (by simpa using e3)]
          exact wpS_pure ⟨sm3 _,.inl ⟨_,_,rfl,M2.first hA hB hb e3 h0⟩⟩
        · rw [if_neg (by simpa using e3)]
          refine wpS_bind (s_elemL (i:=i - 1) (by omega) ?_)
          obtain ⟨c2,hc2,cut2⟩:=cut_of hB (xa.toList[i - 1]'(by omega)) true 0 (j - 1) (by omega)
          obtain ⟨lt2,ge2⟩:=ftrue (by omega) hc2 cut2
          refine wpS_bind (s_gal (c:=c2) ((sm3 _).kind.trans hk) hIb (hIa _ (List.getElem_mem _)) (by omega) (by omega) hc2 cut2 ?_)
          dsimp only
          by_cases k1:j - 1 - c2 > 0
          · rw [if_pos k1]
            have M3:MHa xa xb (Array.push ou (xb.toList[j - 1]'(by omega))++(xb.extract c2 (j - 1)).reverse) i c2:=M2.extB hB hc2 (by omega) fun t ht h1 h2 z hz=>by
             refine Int.le_trans ?_ (ge2 t ht h1 h2)
             exact take_le hA (n:=i - 1) (by omega) z (by rw [show i - 1+1=i by omega];exact hz)
            by_cases e4:c2=1
            · rw [if_pos (by simpa using e4)]
              exact wpS_pure ⟨sm3 _,.inl ⟨_,_,rfl,M3.first hA hB hb e4 h0⟩⟩
            · rw [if_neg (by simpa using e4)]
              by_cases e6:c2=0
              · rw [if_pos (by simpa using e6)]
                exact wpS_pure ⟨sm3 _,.inl ⟨_,_,rfl,M3.done0 hA hB (.inr e6)⟩⟩
              · rw [if_neg (by simpa using e6)]
                refine wpS_bind (s_elemL (i:=i - 1) (by omega) ?_)
                have M4:MHa xa xb (Array.push (Array.push ou (xb.toList[j - 1]'(by omega))++(xb.extract c2 (j - 1)).reverse) (xa.toList[i - 1]'(by omega))) (i - 1) c2:=MHa.pushA (by rw [show i - 1+1=i by omega];exact M3) hA (by omega) (fun z hz=>Int.le_of_lt (lt2 z hz))
                by_cases e5:i - 1=0
                · rw [if_pos (by simpa using e5)]
                  exact wpS_pure ⟨sm3 _,.inl ⟨_,_,rfl,M4.done0 hA hB (.inl e5)⟩⟩
                · rw [if_neg (by simpa using e5)]
                  split
                  · exact wpS_pure ⟨sm3 _,.inr ⟨_,_,_,_,_,_,rfl,M4,by omega,by omega,by omega,by omega,by omega⟩⟩
                  · exact wpS_pure ⟨sm3 _,_,_,_,_,_,_,rfl,M4,by omega,by omega,by omega,by omega,by omega⟩
          · rw [if_neg k1]
            have c20:c2=j - 1:=by omega
            refine wpS_bind (s_elemL (i:=i - 1) (by omega) ?_)
            have M4:MHa xa xb (Array.push (Array.push ou (xb.toList[j - 1]'(by omega))) (xa.toList[i - 1]'(by omega))) (i - 1) (j - 1):=MHa.pushA (by rw [show i - 1+1=i by omega];exact M2) hA (by omega) (fun z hz=>Int.le_of_lt (lt2 z (by rw [c20];exact hz)))
            by_cases e5:i - 1=0
            · rw [if_pos (by simpa using e5)]
              exact wpS_pure ⟨sm3 _,.inl ⟨_,_,rfl,M4.done0 hA hB (.inl e5)⟩⟩
            · rw [if_neg (by simpa using e5)]
              split
              · exact wpS_pure ⟨sm3 _,.inr ⟨_,_,_,_,_,_,rfl,M4,by omega,by omega,by omega,by omega,by omega⟩⟩
              · exact wpS_pure ⟨sm3 _,_,_,_,_,_,_,rfl,M4,by omega,by omega,by omega,by omega,by omega⟩
    · rw [if_neg hmg]
      refine wpS_bind (s_setG (wpS_bind (s_elemL (i:=j - 1) (by omega) ?_)))
      refine wpS_bind (s_gal (c:=c1) ((sm3 _).kind.trans hk) hIa (hIb _ (List.getElem_mem _)) (by omega) (by omega) hc1 cut1 ?_)
      dsimp only
      by_cases k0:i - c1 > 0
      · rw [if_pos k0]
        by_cases e1:c1=0
        · rw [if_pos (by simpa using e1)]
          exact wpS_pure ⟨sm3 _,.inl ⟨_,_,rfl,m1.done0 hA hB (.inl e1)⟩⟩
        · rw [if_neg (by simpa using e1)]
          refine wpS_bind (s_elemL (i:=j - 1) (by omega) ?_)
          have M2:MHa xa xb (Array.push (ou++(xa.extract c1 i).reverse) (xb.toList[j - 1]'(by omega))) c1 (j - 1):=MHa.pushB (by rw [show j - 1+1=j by omega];exact m1) hB (by omega) (fun z hz=>le1 z hz)
          by_cases e3:j - 1=1
          · rw [if_pos (by simpa using e3)]
            exact wpS_pure ⟨sm3 _,.inl ⟨_,_,rfl,M2.first hA hB hb e3 h0⟩⟩
          · rw [if_neg (by simpa using e3)]
            refine wpS_bind (s_elemL (i:=c1 - 1) (by omega) ?_)
            obtain ⟨c2,hc2,cut2⟩:=cut_of hB (xa.toList[c1 - 1]'(by omega)) true 0 (j - 1) (by omega)
            obtain ⟨lt2,ge2⟩:=ftrue (by omega) hc2 cut2
            refine wpS_bind (s_gal (c:=c2) ((sm3 _).kind.trans hk) hIb (hIa _ (List.getElem_mem _)) (by omega) (by omega) hc2 cut2 ?_)
            dsimp only
            by_cases k1:j - 1 - c2 > 0
            · rw [if_pos k1]
              have M3:MHa xa xb (Array.push (ou++(xa.extract c1 i).reverse) (xb.toList[j - 1]'(by omega))++(xb.extract c2 (j - 1)).reverse) c1 c2:=M2.extB hB hc2 (by omega) fun t ht h1 h2 z hz=>by
               refine Int.le_trans ?_ (ge2 t ht h1 h2)
               exact take_le hA (n:=c1 - 1) (by omega) z (by rw [show c1 - 1+1=c1 by omega];exact hz)
              by_cases e4:c2=1
              · rw [if_pos (by simpa using e4)]
                exact wpS_pure ⟨sm3 _,.inl ⟨_,_,rfl,M3.first hA hB hb e4 h0⟩⟩
              · rw [if_neg (by simpa using e4)]
                by_cases e6:c2=0
                · rw [if_pos (by simpa using e6)]
                  exact wpS_pure ⟨sm3 _,.inl ⟨_,_,rfl,M3.done0 hA hB (.inr e6)⟩⟩
                · rw [if_neg (by simpa using e6)]
                  refine wpS_bind (s_elemL (i:=c1 - 1) (by omega) ?_)
                  have M4:MHa xa xb (Array.push (Array.push (ou++(xa.extract c1 i).reverse) (xb.toList[j - 1]'(by omega))++(xb.extract c2 (j - 1)).reverse) (xa.toList[c1 - 1]'(by omega))) (c1 - 1) c2:=MHa.pushA (by rw [show c1 - 1+1=c1 by omega];exact M3) hA (by omega) (fun z hz=>Int.le_of_lt (lt2 z hz))
                  by_cases e5:c1 - 1=0
                  · rw [if_pos (by simpa using e5)]
                    exact wpS_pure ⟨sm3 _,.inl ⟨_,_,rfl,M4.done0 hA hB (.inl e5)⟩⟩
                  · rw [if_neg (by simpa using e5)]
                    split
                    · exact wpS_pure ⟨sm3 _,.inr ⟨_,_,_,_,_,_,rfl,M4,by omega,by omega,by omega,by omega,by omega⟩⟩
                    · exact wpS_pure ⟨sm3 _,_,_,_,_,_,_,rfl,M4,by omega,by omega,by omega,by omega,by omega⟩
            · rw [if_neg k1]
              have c20:c2=j - 1:=by omega
              refine wpS_bind (s_elemL (i:=c1 - 1) (by omega) ?_)
              have M4:MHa xa xb (Array.push (Array.push (ou++(xa.extract c1 i).reverse) (xb.toList[j - 1]'(by omega))) (xa.toList[c1 - 1]'(by omega))) (c1 - 1) (j - 1):=MHa.pushA (by rw [show c1 - 1+1=c1 by omega];exact M2) hA (by omega) (fun z hz=>Int.le_of_lt (lt2 z (by rw [c20];exact hz)))
              by_cases e5:c1 - 1=0
              · rw [if_pos (by simpa using e5)]
                exact wpS_pure ⟨sm3 _,.inl ⟨_,_,rfl,M4.done0 hA hB (.inl e5)⟩⟩
              · rw [if_neg (by simpa using e5)]
                split
                · exact wpS_pure ⟨sm3 _,.inr ⟨_,_,_,_,_,_,rfl,M4,by omega,by omega,by omega,by omega,by omega⟩⟩
                · exact wpS_pure ⟨sm3 _,_,_,_,_,_,_,rfl,M4,by omega,by omega,by omega,by omega,by omega⟩
      · rw [if_neg k0]
        have c10:c1=i:=by omega
        refine wpS_bind (s_elemL (i:=j - 1) (by omega) ?_)
        have M2:MHa xa xb (Array.push ou (xb.toList[j - 1]'(by omega))) i (j - 1):=MHa.pushB (by rw [show j - 1+1=j by omega];exact m) hB (by omega) (fun z hz=>le1 z (by rw [c10];exact hz))
        by_cases e3:j - 1=1
        · rw [if_pos (by simpa using e3)]
          exact wpS_pure ⟨sm3 _,.inl ⟨_,_,rfl,M2.first hA hB hb e3 h0⟩⟩
        · rw [if_neg (by simpa using e3)]
          refine wpS_bind (s_elemL (i:=i - 1) (by omega) ?_)
          obtain ⟨c2,hc2,cut2⟩:=cut_of hB (xa.toList[i - 1]'(by omega)) true 0 (j - 1) (by omega)
          obtain ⟨lt2,ge2⟩:=ftrue (by omega) hc2 cut2
          refine wpS_bind (s_gal (c:=c2) ((sm3 _).kind.trans hk) hIb (hIa _ (List.getElem_mem _)) (by omega) (by omega) hc2 cut2 ?_)
          dsimp only
          by_cases k1:j - 1 - c2 > 0
          · rw [if_pos k1]
            have M3:MHa xa xb (Array.push ou (xb.toList[j - 1]'(by omega))++(xb.extract c2 (j - 1)).reverse) i c2:=M2.extB hB hc2 (by omega) fun t ht h1 h2 z hz=>by
             refine Int.le_trans ?_ (ge2 t ht h1 h2)
             exact take_le hA (n:=i - 1) (by omega) z (by rw [show i - 1+1=i by omega];exact hz)
            by_cases e4:c2=1
            · rw [if_pos (by simpa using e4)]
              exact wpS_pure ⟨sm3 _,.inl ⟨_,_,rfl,M3.first hA hB hb e4 h0⟩⟩
            · rw [if_neg (by simpa using e4)]
              by_cases e6:c2=0
              · rw [if_pos (by simpa using e6)]
                exact wpS_pure ⟨sm3 _,.inl ⟨_,_,rfl,M3.done0 hA hB (.inr e6)⟩⟩
              · rw [if_neg (by simpa using e6)]
                refine wpS_bind (s_elemL (i:=i - 1) (by omega) ?_)
                have M4:MHa xa xb (Array.push (Array.push ou (xb.toList[j - 1]'(by omega))++(xb.extract c2 (j - 1)).reverse) (xa.toList[i - 1]'(by omega))) (i - 1) c2:=MHa.pushA (by rw [show i - 1+1=i by omega];exact M3) hA (by omega) (fun z hz=>Int.le_of_lt (lt2 z hz))
                by_cases e5:i - 1=0
                · rw [if_pos (by simpa using e5)]
                  exact wpS_pure ⟨sm3 _,.inl ⟨_,_,rfl,M4.done0 hA hB (.inl e5)⟩⟩
                · rw [if_neg (by simpa using e5)]
                  split
                  · exact wpS_pure ⟨sm3 _,.inr ⟨_,_,_,_,_,_,rfl,M4,by omega,by omega,by omega,by omega,by omega⟩⟩
                  · exact wpS_pure ⟨sm3 _,_,_,_,_,_,_,rfl,M4,by omega,by omega,by omega,by omega,by omega⟩
          · rw [if_neg k1]
            have c20:c2=j - 1:=by omega
            refine wpS_bind (s_elemL (i:=i - 1) (by omega) ?_)
            have M4:MHa xa xb (Array.push (Array.push ou (xb.toList[j - 1]'(by omega))) (xa.toList[i - 1]'(by omega))) (i - 1) (j - 1):=MHa.pushA (by rw [show i - 1+1=i by omega];exact M2) hA (by omega) (fun z hz=>Int.le_of_lt (lt2 z (by rw [c20];exact hz)))
            by_cases e5:i - 1=0
            · rw [if_pos (by simpa using e5)]
              exact wpS_pure ⟨sm3 _,.inl ⟨_,_,rfl,M4.done0 hA hB (.inl e5)⟩⟩
            · rw [if_neg (by simpa using e5)]
              split
              · exact wpS_pure ⟨sm3 _,.inr ⟨_,_,_,_,_,_,rfl,M4,by omega,by omega,by omega,by omega,by omega⟩⟩
              · exact wpS_pure ⟨sm3 _,_,_,_,_,_,_,rfl,M4,by omega,by omega,by omega,by omega,by omega⟩
end
open PyProof.Rows hiding K SortedTo K_bubble K_mirror K_congr K_mirror_equal
variable [KV]
def PM:List (Nat×Nat×Nat)→List (List Keyed)→Nat→Prop
 | [],[],_=>True
 | p::r,l::ls,lo=>p.1=lo∧p.2.1=l.length∧PM r ls (lo+l.length)
 | _,_,_=>False
theorem PM.len:∀ {ps:List (Nat×Nat×Nat)} {ls:List (List Keyed)} {lo:Nat},PM ps ls lo→ps.length=ls.length
 | [],[],_,_=>rfl
 | _::r,_::ls,lo,h=>by rw [List.length_cons,List.length_cons,PM.len h.2.2]
 | [],_::_,_,h=>h.elim
 | _::_,[],_,h=>h.elim
theorem PM.at:∀ {ps:List (Nat×Nat×Nat)} {a:List (List Keyed)} {l:List Keyed} {b:List (List Keyed)} {lo:Nat},PM ps (a++l::b) lo→∃ pw,ps[a.length]? = some (lo+a.flatten.length,l.length,pw)
 | (s,n,p)::r,[],l,b,lo,h=>⟨p,by have h1:=h.1;have h2:=h.2.1;simp only at h1 h2;subst h1 h2;rfl⟩
 | p::r,x::a,l,b,lo,h=>by
   obtain ⟨pw,e⟩:=PM.at (a:=a) h.2.2
   refine ⟨pw,?_⟩
   rw [List.length_cons,List.getElem?_cons_succ,e,List.flatten_cons,List.length_append,Nat.add_assoc]
 | [],[],_,_,_,h=>h.elim
 | [],_::_,_,_,_,h=>h.elim
theorem PM.merge:∀ {ps:List (Nat×Nat×Nat)} {a:List (List Keyed)} {l m:List Keyed} {b:List (List Keyed)} {lo:Nat} {x:List Keyed} {pw:Nat},PM ps (a++l::m::b) lo→x.length=l.length+m.length →
 PM ((ps.set a.length (lo+a.flatten.length,l.length+m.length,pw)).eraseIdx (a.length+1)) (a++x::b) lo
 | p::q::r,[],l,m,b,lo,x,pw,h,hx=>by
   obtain ⟨h1,h2,h3,h4,h5⟩:=h
   show PM ((lo+0,l.length+m.length,pw)::r) (x::b) lo
   refine ⟨rfl,hx.symm,?_⟩
   rw [hx,← Nat.add_assoc]
   exact h5
 | p::r,y::a,l,m,b,lo,x,pw,h,hx=>by
   obtain ⟨h1,h2,h3⟩:=h
   have ih:=PM.merge (pw:=pw) h3 hx
   show PM (p::((r.set a.length _).eraseIdx (a.length+1))) (y::(a++x::b)) lo
   refine ⟨h1,h2,?_⟩
   rw [List.flatten_cons,List.length_append,← Nat.add_assoc]
   exact ih
 | [],[],_,_,_,_,_,_,h,_=>h.elim
 | [_],[],_,_,_,_,_,_,h,_=>h.2.2.elim
 | [],_::_,_,_,_,_,_,_,h,_=>h.elim
theorem seg_at {xs:Array Keyed} {pre R post:List Keyed} (e:xs.toList=pre++R++post) {t:Nat} (ht:t<R.length):xs[pre.length+t]? = some R[t]:=by
 rw [← Array.getElem?_toList,e,List.append_assoc,List.getElem?_append_right (by omega),Nat.add_sub_cancel_left,List.getElem?_append_left ht,List.getElem?_eq_getElem ht]
theorem cut_seg {xs:Array Keyed} {R:List Keyed} (hs:R.Pairwise Le) (ky:Keyed) (lf:Bool) (bs:Nat) (hK:∀ t (h:t<R.length),K xs (bs+t)=kv R[t]):∃ c,c≤R.length∧∀ i,i<R.length→Byd lf ky xs bs i=decide (i<c):=by
 have down:∀ i j,i≤j→j<R.length→Byd lf ky xs bs j=true→Byd lf ky xs bs i=true:=fun i j hij hj h=>by
  have hm:kv (R[i]'(by omega))≤kv R[j]:=by
   by_cases e:i=j
   · subst e;exact Int.le_refl _
   · exact List.pairwise_iff_getElem.mp hs _ _ _ _ (by omega)
  unfold Byd at h ⊢
  rw [hK j hj] at h
  rw [hK i (by omega)]
  cases lf with
  | true=>simp only [if_true,decide_eq_true_eq] at h ⊢;omega
  | false=>simp only [Bool.false_eq_true,if_false,Bool.not_eq_true',decide_eq_false_iff_not] at h ⊢;omega
 have main:∀ n,n≤R.length→∃ c,c≤n∧∀ i,i<n→Byd lf ky xs bs i=decide (i<c):=by
  intro n
  induction n with
  | zero=>exact fun _=>⟨0,Nat.le_refl _,fun i hi=>absurd hi (Nat.not_lt_zero _)⟩
  | succ n ih=>
    intro hn
    obtain ⟨c,hc,hd⟩:=ih (by omega)
    by_cases hb:Byd lf ky xs bs n=true
    · refine ⟨n+1,Nat.le_refl _,fun i hi=>?_⟩
      rw [decide_eq_true hi]
      exact down i n (by omega) (by omega) hb
    · refine ⟨c,by omega,fun i hi=>?_⟩
      by_cases h:i=n
      · subst h
        rw [decide_eq_false (by omega)]
        exact Bool.not_eq_true _▸(by simpa using hb)
      · exact hd i (by omega)
 exact main _ (Nat.le_refl _)
theorem write_back:∀ (l:List Keyed) (k off:Nat) (xs:Array Keyed),off+k+l.length≤xs.size→((l.zipIdx k).foldl (fun a (x:Keyed×Nat)=>a.setIfInBounds (off+x.2) x.1) xs).toList=xs.toList.take (off+k)++l++xs.toList.drop (off+k+l.length)
 | [],k,off,xs,_=>by simp
 | p::l,k,off,xs,h=>by
   rw [List.zipIdx_cons,List.foldl_cons]
   rw [List.length_cons] at h
   rw [write_back l (k+1) off _ (by rw [Array.size_setIfInBounds];omega)]
   rw [Array.toList_setIfInBounds]
   have hlen:off+k<xs.toList.length:=by rw [Array.length_toList];omega
   rw [List.drop_set_of_lt (by omega),List.length_cons]
   have e1:(xs.toList.set (off+k) p).take (off+(k+1))=xs.toList.take (off+k)++[p]:=by
    rw [← Nat.add_assoc,List.take_succ,List.take_set_of_le (by omega),List.getElem?_set_self hlen]
    rfl
   have e2:off+(k+1)+l.length=off+k+(l.length+1):=by omega
   rw [e1,e2]
   simp
theorem pw3 {a b c:List Keyed} (ha:a.Pairwise Le) (hb:b.Pairwise Le) (hc:c.Pairwise Le) (hab:∀ x∈a,∀ y∈b,kv x≤kv y) (hac:∀ x∈a,∀ y∈c,kv x≤kv y) (hbc:∀ x∈b,∀ y∈c,kv x≤kv y):(a++b++c).Pairwise Le:=by
 refine List.pairwise_append.mpr ⟨List.pairwise_append.mpr ⟨ha,hb,hab⟩,hc,fun x hx y hy=>?_⟩
 rcases List.mem_append.mp hx with hx | hx
 · exact hac x hx y hy
 · exact hbc x hx y hy
def mat:Nat→StateT SortSt Sem Bool:=sortPriv% PySem.Builtin.mergeAt
theorem mat_is:mergeAt'=mat:=rfl
theorem mat_eq (i:Nat):mat i=(do
 let z ← get
 let (some (p,n,pw),some (q,m,_)):=((pendingOf z)[i]?,(pendingOf z)[i+1]?) | unsupported "internal:list.sort.pending"
 set (setPending z (((pendingOf z).setIfInBounds i (p,n+m,pw)).eraseIdxIfInBounds (i+1)))
 let some k ← gal false (← elem' (arrOf z) q) (arrOf z) p n 0 | return false
 let (p,n):=(p+k,n - k)
 if n == 0 then return true
 let some m ← gal true (← elem' (arrOf z) (p+n - 1)) (arrOf z) q m (m - 1) | return false
 if m == 0 then return true
 let x:=(arrOf z).extract p q
 let y:=(arrOf z).extract q (q+m)
 let mg ← if n≤m then mlo x y else mhi x y
 modify fun v=>setArr v (mg.toList.zipIdx.foldl (fun a (u,j)=>a.setIfInBounds (p+j) u) (arrOf v))
 return (failedOf (← get)).isNone):=rfl
open PyProof.Rows hiding K SortedTo K_bubble K_mirror K_congr K_mirror_equal
variable [KV]
theorem s_set {prog:Program} {w:World} {A:Around} {E:Value→Shared→Prop} {st v:SortSt} {Q:PUnit→SortSt→Prop} (h:Q ⟨⟩ v):wpS (model prog w) A E KV.sh (set v:StateT SortSt Sem PUnit) Q st:=by
 unfold wpS
 rw [StateT.run_set]
 exact wpAny_pure ⟨rfl,h⟩
theorem drop_pre:∀ (p z:List Keyed) (c:Nat),(p++z).drop (p.length+c)=z.drop c
 | [],z,c=>by simp
 | x::p,z,c=>by
   rw [List.length_cons,show p.length+1+c=p.length+c+1 by omega,List.cons_append,List.drop_succ_cons]
   exact drop_pre p z c
theorem ext_seg {xs:Array Keyed} {pre R post:List Keyed} (e:xs.toList=pre++R++post) (c d:Nat) (hd:d≤R.length) (hc:c≤d):(xs.extract (pre.length+c) (pre.length+d)).toList=(R.drop c).take (d - c):=by
 rw [Array.toList_extract,List.extract_eq_drop_take,e,List.append_assoc,drop_pre]
 have:(R++post).drop c=R.drop c++post:=List.drop_append_of_le_length (by omega)
 rw [this,show pre.length+d - (pre.length+c)=d - c by omega,List.take_append_of_le_length (by rw [List.length_drop];omega)]
theorem AllI.sub {xs ys:Array Keyed} (h:AllI xs) (hs:∀ p∈ys.toList,p∈xs.toList):AllI ys:=fun p hp=>h p (hs p hp)
section
variable {prog:Program} {w:World} {A:Around} {E:Value→Shared→Prop}
structure Kept (a b:SortSt):Prop where
 kind:kindOf b=kindOf a
 fail:failedOf b=failedOf a
theorem s_mat {st:SortSt} {L1 L2:List (List Keyed)} {R1 R2 rest:List Keyed} {Q:Bool→SortSt→Prop} (hk:kindOf st=KV.kind) (hf:failedOf st=none) (hI:AllI (arrOf st))
 (ha:(arrOf st).toList=(L1++R1::R2::L2).flatten++rest) (pm:PM (pendingOf st).toList (L1++R1::R2::L2) 0) (n1:R1≠[]) (n2:R2≠[]) (s1:R1.Pairwise Le) (s2:R2.Pairwise Le)
 (h:∀ st' R,Kept st st'→R.Perm (R1++R2)→R.Pairwise Le→(arrOf st').toList=(L1++R::L2).flatten++rest→PM (pendingOf st').toList (L1++R::L2) 0→Q true st'):wpS (model prog w) A E KV.sh (mat L1.length) Q st:=by
 have p1:0<R1.length:=List.length_pos_iff.mpr n1
 have p2:0<R2.length:=List.length_pos_iff.mpr n2
 obtain ⟨pw,e1⟩:=pm.at
 have e2':=(show PM (pendingOf st).toList ((L1++[R1])++R2::L2) 0 by rw [List.append_assoc];exact pm).at
 obtain ⟨pw2,e2⟩:=e2'
 rw [List.length_append,List.length_singleton,List.flatten_append,List.flatten_cons,List.flatten_nil,List.append_nil,List.length_append] at e2
 rw [Array.getElem?_toList] at e1 e2
 have ea:(arrOf st).toList=L1.flatten++R1++(R2++L2.flatten++rest):=by rw [ha];simp
 have eb:(arrOf st).toList=(L1.flatten++R1)++R2++(L2.flatten++rest):=by rw [ha];simp
 have hsz:(arrOf st).size=L1.flatten.length+R1.length+R2.length+L2.flatten.length+rest.length:=by
  rw [← Array.length_toList,ha]
  simp only [List.flatten_append,List.flatten_cons,List.length_append]
  omega
 have pmR:∀ R:List Keyed,R.length=R1.length+R2.length→PM (((pendingOf st).setIfInBounds L1.length (0+L1.flatten.length,R1.length+R2.length,pw)).eraseIdxIfInBounds (L1.length+1)).toList (L1++R::L2) 0:=fun R hR=>by
  have:=PM.merge (pw:=pw) pm hR
  rw [Array.toList_eraseIdxIfInBounds,Array.toList_setIfInBounds]
  exact this
 have join:(L1++(R1++R2)::L2).flatten++rest=(arrOf st).toList:=by rw [ha];simp
 rw [mat_eq]
 refine wpS_bind (wpS_get ?_)
 rw [e1,e2]
 dsimp only
 refine wpS_bind (s_set ?_)
 have g2:(arrOf st)[0+(L1.flatten.length+R1.length)]? = some R2[0]:=by
  have:=seg_at eb p2
  rw [List.length_append,Nat.add_zero] at this
  rw [Nat.zero_add];exact this
 refine wpS_bind (s_elem g2 ?_)
 have hK1:∀ t (ht:t<R1.length),K (arrOf st) (0+L1.flatten.length+t)=kv R1[t]:=fun t ht=>by
  rw [Nat.zero_add];exact K_of (seg_at ea ht)
 have hK2:∀ t (ht:t<R2.length),K (arrOf st) (0+(L1.flatten.length+R1.length)+t)=kv R2[t]:=fun t ht=>by
  have:=K_of (seg_at eb ht)
  rw [List.length_append] at this
  rw [Nat.zero_add];exact this
 have hI2:IsI R2[0]:=hI _ (by rw [eb];exact List.mem_append_left _ (List.mem_append_right _ (List.getElem_mem _)))
 obtain ⟨c,hc,cut⟩:=cut_seg s1 R2[0] false (0+L1.flatten.length) hK1
 have lo:∀ t (ht:t<R1.length),t<c→kv R1[t]≤kv R2[0]:=fun t ht htc=>by
  have:=cut t ht
  unfold Byd at this
  rw [hK1 t ht,decide_eq_true htc] at this
  simp only [Bool.false_eq_true,if_false,Bool.not_eq_true',decide_eq_false_iff_not] at this
  omega
 have up:∀ t (ht:t<R1.length),c≤t→kv R2[0]<kv R1[t]:=fun t ht htc=>by
  have:=cut t ht
  unfold Byd at this
  rw [hK1 t ht,decide_eq_false (show ¬ t<c by omega)] at this
  simpa using this
 refine wpS_bind (s_gal (st:=setPending st _) (c:=c) hk hI hI2 (by omega) p1 hc cut ?_)
 dsimp only
 have b0:∀ y∈R2,kv R2[0]≤kv y:=fun y hy=>head_le s2 p2 y (by simpa using hy)
 by_cases c1:R1.length - c=0
 · rw [if_pos (by simpa using c1)]
   refine wpS_pure (h _ (R1++R2) ⟨rfl,rfl⟩ (List.Perm.refl _) ?_ join.symm (pmR _ (by rw [List.length_append])))
   refine List.pairwise_append.mpr ⟨s1,s2,fun x hx y hy=>?_⟩
   obtain ⟨t,ht,rfl⟩:=List.mem_iff_getElem.mp hx
   exact Int.le_trans (lo t ht (by omega)) (b0 y hy)
 rw [if_neg (by simpa using c1)]
 have gl:(arrOf st)[0+L1.flatten.length+c+(R1.length - c) - 1]? = some (R1[R1.length - 1]'(by omega)):=by
  have:=seg_at ea (t:=R1.length - 1) (by omega)
  rw [show 0+L1.flatten.length+c+(R1.length - c) - 1=L1.flatten.length+(R1.length - 1) by omega];exact this
 refine wpS_bind (s_elem gl ?_)
 have hI1:IsI (R1[R1.length - 1]'(by omega)):=hI _ (by rw [ea];exact List.mem_append_left _ (List.mem_append_right _ (List.getElem_mem _)))
 obtain ⟨d,hd,cut2⟩:=cut_seg s2 (R1[R1.length - 1]'(by omega)) true (0+(L1.flatten.length+R1.length)) hK2
 have lo2:∀ t (ht:t<R2.length),t<d→kv R2[t]<kv (R1[R1.length - 1]'(by omega)):=fun t ht htc=>by
  have:=cut2 t ht
  unfold Byd at this
  rw [hK2 t ht,decide_eq_true htc] at this
  simpa using this
 have up2:∀ t (ht:t<R2.length),d≤t→kv (R1[R1.length - 1]'(by omega))≤kv R2[t]:=fun t ht htc=>by
  have:=cut2 t ht
  unfold Byd at this
  rw [hK2 t ht,decide_eq_false (show ¬ t<d by omega)] at this
  simpa using this
 refine wpS_bind (s_gal (st:=setPending st _) (c:=d) hk hI hI1 (by omega) (by omega) hd cut2 ?_)
 dsimp only
 have lastA:∀ x∈R1,kv x≤kv (R1[R1.length - 1]'(by omega)):=fun x hx=>by
  refine take_le s1 (n:=R1.length - 1) (by omega) x ?_
  rw [List.take_of_length_le (by omega)];exact hx
 by_cases c2:d=0
 · rw [if_pos (by simpa using c2)]
   refine wpS_pure (h _ (R1++R2) ⟨rfl,rfl⟩ (List.Perm.refl _) ?_ join.symm (pmR _ (by rw [List.length_append])))
   refine List.pairwise_append.mpr ⟨s1,s2,fun x hx y hy=>?_⟩
   exact Int.le_trans (lastA x hx) (Int.le_trans (up2 0 p2 (by omega)) (b0 y hy))
 rw [if_neg (by simpa using c2)]
 have ex:((arrOf st).extract (0+L1.flatten.length+c) (0+(L1.flatten.length+R1.length))).toList=R1.drop c:=by
  have:=ext_seg ea c R1.length (Nat.le_refl _) hc
  rw [Nat.zero_add,Nat.zero_add,this,List.take_of_length_le (by rw [List.length_drop];exact Nat.le_refl _)]
 have ey:((arrOf st).extract (0+(L1.flatten.length+R1.length)) (0+(L1.flatten.length+R1.length)+d)).toList=R2.take d:=by
  have:=ext_seg eb 0 d hd (Nat.zero_le _)
  rw [List.length_append,Nat.add_zero,List.drop_zero,Nat.sub_zero] at this
  rw [Nat.zero_add];exact this
 generalize hx:(arrOf st).extract (0+L1.flatten.length+c) (0+(L1.flatten.length+R1.length))=xx at ex ⊢
 generalize hy:(arrOf st).extract (0+(L1.flatten.length+R1.length)) (0+(L1.flatten.length+R1.length)+d)=yy at ey ⊢
 have Ix:AllI xx:=hI.sub fun p hp=>by rw [ex] at hp;rw [ea];exact List.mem_append_left _ (List.mem_append_right _ (List.mem_of_mem_drop hp))
 have Iy:AllI yy:=hI.sub fun p hp=>by rw [ey] at hp;rw [eb];exact List.mem_append_left _ (List.mem_append_right _ (List.mem_of_mem_take hp))
 have Sx:xx.toList.Pairwise Le:=by rw [ex];exact s1.sublist (List.drop_sublist _ _)
 have Sy:yy.toList.Pairwise Le:=by rw [ey];exact s2.sublist (List.take_sublist _ _)
 have lx:xx.toList.length=R1.length - c:=by rw [ex,List.length_drop]
 have ly:yy.toList.length=d:=by rw [ey,List.length_take];omega
 have y0:yy.toList[0]'(by omega)=R2[0]:=by simp only [ey,List.getElem_take]
 have xl:xx.toList[xx.toList.length - 1]'(by omega)=R1[R1.length - 1]'(by omega):=by
  simp only [ex,List.getElem_drop,List.length_drop]
  congr 1
  omega
 have h0:∀ z∈xx.toList,kv (yy.toList[0]'(by omega))≤kv z:=fun z hz=>by
  rw [y0]
  rw [ex] at hz
  obtain ⟨u,hu,rfl⟩:=mem_dropE hz
  exact Int.le_of_lt (up _ hu (by omega))
 have hl:∀ z∈yy.toList,kv z≤kv (xx.toList[xx.toList.length - 1]'(by omega)):=fun z hz=>by
  rw [xl]
  rw [ey] at hz
  obtain ⟨u,hu,rfl⟩:=List.mem_iff_getElem.mp hz
  rw [List.length_take] at hu
  rw [List.getElem_take]
  exact Int.le_of_lt (lo2 u (by omega) (by omega))
 have fin:∀ (o:Array Keyed) (st2:SortSt),SameSt (setPending st (((pendingOf st).setIfInBounds L1.length (0+L1.flatten.length,R1.length+R2.length,pw)).eraseIdxIfInBounds (L1.length+1))) st2→Mer xx.toList yy.toList o.toList →
  wpS (model prog w) A E KV.sh (do modify fun v=>setArr v (o.toList.zipIdx.foldl (fun a (u,j)=>a.setIfInBounds (0+L1.flatten.length+c+j) u) (arrOf v));return (failedOf (← get)).isNone) Q st2:=by
  intro o st2 sm me
  refine wpS_bind (wpS_modify (wpS_bind (wpS_get ?_)))
  have hf2:failedOf st2=none:=sm.fail.trans hf
  show wpS _ _ _ _ (pure (failedOf st2).isNone) Q _
  rw [hf2]
  have harr:arrOf st2=arrOf st:=sm.arr
  have lo':o.toList.length=R1.length - c+d:=by rw [me.perm.length_eq,List.length_append,lx,ly]
  have hwb:=write_back o.toList 0 (0+L1.flatten.length+c) (arrOf st) (by rw [lo'];omega)
  refine wpS_pure (h _ (R1.take c++o.toList++R2.drop d) ⟨sm.kind,sm.fail⟩ ?_ ?_ ?_ ?_)
  · have e:=me.perm
    rw [ex,ey] at e
    have e3:(R1.take c++o.toList++R2.drop d).Perm (R1.take c++(R1.drop c++R2.take d)++R2.drop d):=List.Perm.append_right _ (List.Perm.append_left _ e)
    have e4:R1.take c++(R1.drop c++R2.take d)++R2.drop d=R1++R2:=by
     rw [← List.append_assoc,List.take_append_drop,List.append_assoc,List.take_append_drop]
    rw [e4] at e3
    exact e3
  · have om:∀ z∈o.toList,z∈R1.drop c∨z∈R2.take d:=fun z hz=>by
     have:=me.perm.mem_iff.mp hz
     rw [ex,ey] at this
     exact List.mem_append.mp this
    have ta:∀ x∈R1.take c,kv x≤kv R2[0]:=fun x hx=>by
     obtain ⟨u,hu,rfl⟩:=List.mem_iff_getElem.mp hx
     rw [List.length_take] at hu
     rw [List.getElem_take]
     exact lo u (by omega) (by omega)
    have td:∀ y∈R2.drop d,kv (R1[R1.length - 1]'(by omega))≤kv y:=fun y hy=>by
     obtain ⟨u,hu,rfl⟩:=mem_dropE hy
     exact up2 _ hu (by omega)
    refine pw3 (s1.sublist (List.take_sublist _ _)) me.srt (s2.sublist (List.drop_sublist _ _)) (fun x hx y hy=>?_) (fun x hx y hy=>?_) (fun x hx y hy=>?_)
    · rcases om y hy with hy | hy
      · obtain ⟨u,hu,rfl⟩:=mem_dropE hy
        exact Int.le_trans (ta x hx) (Int.le_of_lt (up _ hu (by omega)))
      · exact Int.le_trans (ta x hx) (b0 y (List.mem_of_mem_take hy))
    · exact Int.le_trans (ta x hx) (b0 y (List.mem_of_mem_drop hy))
    · rcases om x hx with hx | hx
      · exact Int.le_trans (lastA x (List.mem_of_mem_drop hx)) (td y hy)
      · obtain ⟨u,hu,rfl⟩:=List.mem_iff_getElem.mp hx
        rw [List.length_take] at hu
        rw [List.getElem_take]
        exact Int.le_trans (Int.le_of_lt (lo2 u (by omega) (by omega))) (td y hy)
  · show (o.toList.zipIdx.foldl (fun a (x:Keyed×Nat)=>a.setIfInBounds (0+L1.flatten.length+c+x.2) x.1) (arrOf st2)).toList=_
    rw [harr]
    refine hwb.trans ?_
    rw [Nat.add_zero,lo']
    have t1:(arrOf st).toList.take (0+L1.flatten.length+c)=L1.flatten++R1.take c:=by
     rw [ea,List.append_assoc,Nat.zero_add,List.take_append,List.take_of_length_le (by omega),Nat.add_sub_cancel_left,List.take_append_of_le_length (by omega)]
    have t2:(arrOf st).toList.drop (0+L1.flatten.length+c+(R1.length - c+d))=R2.drop d++(L2.flatten++rest):=by
     rw [eb,List.append_assoc,show 0+L1.flatten.length+c+(R1.length - c+d)=(L1.flatten++R1).length+d by rw [List.length_append];omega,drop_pre,List.drop_append_of_le_length (by omega)]
    rw [t1,t2]
    simp only [List.flatten_append,List.flatten_cons,List.append_assoc]
  · show PM (pendingOf st2).toList _ _
    rw [sm.pend]
    refine pmR _ ?_
    rw [List.length_append,List.length_append,List.length_take,List.length_drop,lo']
    omega
 by_cases c3:R1.length - c≤d
 · rw [if_pos c3]
   exact wpS_bind (s_mlo hk Ix Iy Sx Sy (by omega) (by omega) h0 hl fun o st2 sm me=>fin o st2 sm me)
 · rw [if_neg c3]
   exact wpS_bind (s_mhi hk Ix Iy Sx Sy (by omega) (by omega) h0 hl fun o st2 sm me=>fin o st2 sm me)
end
open PyProof.Rows hiding K SortedTo K_bubble K_mirror K_congr K_mirror_equal
variable [KV]
structure SX (a₀:Array Keyed) (lo:Nat) (st₀ st:SortSt):Prop where
 perm:(arrOf st).Perm a₀
 kind:kindOf st=KV.kind
 fail:failedOf st=none
 pend:pendingOf st=pendingOf st₀
 pre:∀ k,k<lo→(arrOf st)[k]? = a₀[k]?
theorem SX.size {a₀:Array Keyed} {lo:Nat} {st₀ st:SortSt} (h:SX a₀ lo st₀ st):(arrOf st).size=a₀.size:=h.perm.size_eq
theorem SX.setA {a₀:Array Keyed} {lo:Nat} {st₀ st:SortSt} (h:SX a₀ lo st₀ st) {xs:Array Keyed} (hp:xs.Perm (arrOf st)) (he:∀ k,k<lo→xs[k]? = (arrOf st)[k]?):SX a₀ lo st₀ (setArr st xs):=
 ⟨hp.trans h.perm,h.kind,h.fail,h.pend,fun k hk=>(he k hk).trans (h.pre k hk)⟩
def SrtL (xs:Array Keyed) (lo n:Nat):Prop:=∀ i j,i≤j→j<n→K xs (lo+i)≤K xs (lo+j)
def NonL (xs:Array Keyed) (lo n:Nat):Prop:=∀ i j,i≤j→j<n→K xs (lo+j)≤K xs (lo+i)
section
variable {prog:Program} {w:World} {A:Around} {E:Value→Shared→Prop} {a₀:Array Keyed} {lo:Nat} {st₀:SortSt}
theorem sx_lt {st:SortSt} {i j:Nat} {Q:Option Bool→SortSt→Prop} (hX:SX a₀ lo st₀ st) (h0:AllI a₀) (hi:i<a₀.size) (hj:j<a₀.size) (h:Q (some (decide (K (arrOf st) i<K (arrOf st) j))) st):wpS (model prog w) A E KV.sh (ltAt' i j) Q st:=by
 have get:∀ k,k<a₀.size→∃ p,(arrOf st)[k]? = some p∧IsI p:=fun k hk=>by
  have hk':k<(arrOf st).size:=by rw [hX.size];exact hk
  have hm:(arrOf st)[k]∈a₀.toList:=(Array.perm_iff_toList_perm.mp hX.perm).mem_iff.mp (by simp)
  exact ⟨_,getElem?_pos (arrOf st) k hk',h0 _ hm⟩
 obtain ⟨p,e1,g1⟩:=get i hi
 obtain ⟨q,e2,g2⟩:=get j hj
 rw [K_of e1,K_of e2] at h
 rw [ltAt'_eq]
 exact wpS_bind (wpS_get (wpS_bind (s_elem e1 (wpS_bind (s_elem e2 (s_lt hX.kind g1 g2 h))))))
theorem sx_mirror {st:SortSt} {i j:Nat} (hX:SX a₀ lo st₀ st) (hi:lo≤i) (hj:j≤a₀.size):SX a₀ lo st₀ (setArr st (mirror (arrOf st) i j ((j - i) / 2))):=
 hX.setA (mirror_perm _ _ _ _) fun k hk=>by
  rw [getElem?_mirror_all (by rw [hX.size];exact hj),if_neg (by omega)]
theorem s_bin {st:SortSt} {n ok:Nat} {Q:Bool→SortSt→Prop} (h0:AllI a₀) (hn:lo+n≤a₀.size) (hok:ok≤n) (hX:SX a₀ lo st₀ st) (hs:SrtL (arrOf st) lo ok)
 (h:∀ st',SX a₀ lo st₀ st'→SrtL (arrOf st') lo n→Q true st'):wpS (model prog w) A E KV.sh (binarySort' lo n ok) Q st:=by
 rw [binarySort'_eq]
 refine wpS_bind (wpS_mono (wpS_forRange (I:=fun k c z=>c=(none,())∧SX a₀ lo st₀ z∧SrtL (arrOf z) lo (min k n)) (Q:=fun c z=>c=(none,())∧SX a₀ lo st₀ z∧SrtL (arrOf z) lo n) ?st1 ?fi1 ?in1) ?po1)
 case po1=>rintro c z ⟨rfl,zX,zs⟩;exact wpS_pure (h z zX zs)
 case in1=>
  refine ⟨rfl,hX,fun i j hij hj=>?_⟩
  by_cases h1:ok=0
  · have:i=j:=by omega
    subst this;exact Int.le_refl _
  · exact hs i j hij (by omega)
 case fi1=>
  rintro c z ⟨hc,zX,zs⟩
  refine ⟨hc,zX,?_⟩
  rwa [show min (max (max ok 1) n) n=n by omega] at zs
 case st1=>
  rintro k c z hak hkn ⟨rfl,zX,zs⟩
  rw [show min k n=k by omega] at zs
  refine wpS_bind (wpS_mono (wpS_forRange (I:=fun x c v=>z=v∧∃ l r,c=(none,l,r)∧l≤r∧r≤k∧r - l≤k - x∧(∀ i,i<l→K (arrOf z) (lo+i)≤K (arrOf z) (lo+k))∧(∀ i,r≤i→i<k→K (arrOf z) (lo+k)<K (arrOf z) (lo+i)))
   (Q:=fun c v=>z=v∧∃ l r,c=(none,l,r)∧l≤k∧(∀ i,i<l→K (arrOf z) (lo+i)≤K (arrOf z) (lo+k))∧(∀ i,l≤i→i<k→K (arrOf z) (lo+k)<K (arrOf z) (lo+i))) ?ist ?ifi ⟨rfl,0,k,rfl,by omega,by omega,by omega,fun i hi=>by omega,fun i g1 g2=>by omega⟩) ?ipo)
  case ifi=>
   rintro c v ⟨rfl,l,r,rfl,hlr,hrk,hm,hlo,hhi⟩
   have:l=r:=by omega
   subst this
   exact ⟨rfl,l,l,rfl,hrk,hlo,hhi⟩
  case ist=>
   rintro x c v _ hxk ⟨rfl,l,r,rfl,hlr,hrk,hm,hlo,hhi⟩
   dsimp only
   by_cases hge:l≥r
   · rw [if_pos hge]
     have:l=r:=by omega
     subst this
     exact wpS_pure ⟨rfl,l,l,rfl,hrk,hlo,hhi⟩
   · rw [if_neg hge]
     refine wpS_bind (sx_lt zX h0 (by omega) (by omega) ?_)
     by_cases hz:K (arrOf z) (lo+k)<K (arrOf z) (lo+(l+r) / 2)
     · simp only [hz,decide_true,if_true]
       exact wpS_pure ⟨rfl,l,(l+r) / 2,rfl,by omega,by omega,by omega,hlo,fun i g1 g2=>Int.lt_of_lt_of_le hz (zs _ _ g1 g2)⟩
     · simp only [hz,decide_false,Bool.false_eq_true,if_false]
       exact wpS_pure ⟨rfl,(l+r) / 2+1,r,rfl,by omega,by omega,by omega,fun i g1=>Int.le_trans (zs i ((l+r) / 2) (by omega) (by omega)) (Int.not_lt.mp hz),hhi⟩
  case ipo=>
   rintro c v ⟨rfl,l,r,rfl,hlk,hlo,hhi⟩
   show wpS _ _ _ _ (do moveDown' (lo+k) (lo+l);pure (ForInStep.yield (none,()))) _ _
   rw [moveDown'_eq]
   have hks:lo+k<(arrOf z).size:=by rw [zX.size];omega
   have hd:lo+k - (lo+k - (lo+l))=lo+l:=by omega
   refine wpS_bind (wpS_modify (wpS_pure ⟨rfl,zX.setA (bubble_perm _ _ _) fun q hq=>?_,?_⟩))
   · rw [getElem?_bubble hks _ (by omega),hd,if_neg (by omega),if_neg (by omega)]
   · rw [show min (k+1) n=k+1 by omega]
     intro i j hij hj
     show K (bubble (arrOf z) (lo+k) (lo+k - (lo+l))) (lo+i)≤K (bubble (arrOf z) (lo+k) (lo+k - (lo+l))) (lo+j)
     rw [K_bubble hks (by omega),K_bubble hks (by omega),hd]
     have back:∀ q,0<q→lo+q - 1=lo+(q - 1):=fun q hq=>by omega
     repeat' split
     all_goals first
      | (exfalso;omega)
      | exact Int.le_refl _
      | exact hlo _ (by omega)
      | (rw [back j (by omega)];exact Int.le_of_lt (hhi _ (by omega) (by omega)))
      | exact Int.le_of_lt (hhi _ (by omega) (by omega))
      | (rw [back i (by omega),back j (by omega)];exact zs _ _ (by omega) (by omega))
      | (rw [back i (by omega)];exact zs _ _ (by omega) (by omega))
      | (rw [back j (by omega)];exact zs _ _ (by omega) (by omega))
      | exact zs _ _ (by omega) (by omega)
end
open PyProof.Rows hiding K SortedTo K_bubble K_mirror K_congr K_mirror_equal
variable [KV]
def upL (lo a m:Nat):StateT SortSt Sem (Option (Option Nat)×Nat):=
 forIn [a:m] ((none,a):Option (Option Nat)×Nat) fun _ c=>do
  let t ← ltAt' (lo+c.snd) (lo+c.snd - 1)
  match t with
  | some b=>if b=true then pure (.done (none,c.snd)) else pure (.yield (none,c.snd+1))
  | _=>pure (.done (some none,c.snd))
def dnL (lo a m:Nat):StateT SortSt Sem (Option (Option Nat)×Nat×Nat):=
 forIn [a:m] ((none,a,0):Option (Option Nat)×Nat×Nat) fun _ c=>do
  let t ← ltAt' (lo+c.snd.fst) (lo+c.snd.fst - 1)
  match t with
  | some b=>
    if b=true then
     if c.snd.snd > 0 then do
      reverseSlice' (lo+c.snd.fst - (c.snd.snd+1)) (lo+c.snd.fst)
      pure (.yield (none,c.snd.fst+1,0))
     else pure (.yield (none,c.snd.fst+1,0))
    else do
     let u ← ltAt' (lo+c.snd.fst - 1) (lo+c.snd.fst)
     match u with
     | some d=>if d=true then pure (.done (none,c.snd.fst,c.snd.snd)) else pure (.yield (none,c.snd.fst+1,c.snd.snd+1))
     | _=>pure (.done (some none,c.snd.fst,c.snd.snd))
  | _=>pure (.done (some none,c.snd.fst,c.snd.snd))
def enL (lo a m:Nat):StateT SortSt Sem (Option Nat):=do
 reverseSlice' lo (lo+a)
 let c ← upL lo a m
 match c.fst with
 | some r=>pure r
 | none=>pure (some c.snd)
def faL (lo a m:Nat):StateT SortSt Sem (Option Nat):=do
 liftM (rule "list.sort.descending-run")
 let c ← dnL lo (a+1) m
 match c.fst with
 | some r=>pure r
 | none=>
   if c.snd.snd > 0 then do
    reverseSlice' (lo+c.snd.fst - (c.snd.snd+1)) (lo+c.snd.fst)
    enL lo c.snd.fst m
   else enL lo c.snd.fst m
theorem run_eq (lo m:Nat):countRun' lo m=(do
 let c ← upL lo 1 m
 match c.fst with
 | some r=>pure r
 | none=>
   if (c.snd == m)=true then pure (some c.snd)
   else if c.snd > 1 then do
    let t ← ltAt' lo (lo+c.snd - 1)
    match t with
    | some b=>if b=true then pure (some c.snd) else do
     reverseSlice' lo (lo+c.snd)
     faL lo c.snd m
    | _=>pure none
   else faL lo c.snd m):=by
 rw [countRun'_eq]
 dsimp only
 unfold faL enL dnL upL
 congr 1
 funext c
 obtain ⟨r,k⟩:=c
 cases r with
 | some r=>rfl
 | none=>
   dsimp only
   split
   · rfl
   · split
     · congr 1
       funext t
       cases t with
       | none=>rfl
       | some b=>
         dsimp only
         split
         · rfl
         · congr 1
           funext _y
           congr 1
           funext _x
           congr 1
           congr 1
           funext y
           obtain ⟨r,k,q⟩:=y
           cases r with
           | some r=>rfl
           | none=>
             dsimp only
             split
             · congr 1
               funext _z
               congr 1
               funext _x
               congr 1
               funext y
               obtain ⟨r,k⟩:=y
               cases r <;> rfl
             · congr 1
               funext _x
               congr 1
               funext y
               obtain ⟨r,k⟩:=y
               cases r <;> rfl
     · skip
       congr 1
       funext _x
       congr 1
       congr 1
       funext y
       obtain ⟨r,k,q⟩:=y
       cases r with
       | some r=>rfl
       | none=>
         dsimp only
         split
         · congr 1
           funext _z
           congr 1
           funext _x
           congr 1
           funext y
           obtain ⟨r,k⟩:=y
           cases r <;> rfl
         · congr 1
           funext _x
           congr 1
           funext y
           obtain ⟨r,k⟩:=y
           cases r <;> rfl
section
variable {prog:Program} {w:World} {A:Around} {E:Value→Shared→Prop} {a₀:Array Keyed} {lo:Nat} {st₀:SortSt}
theorem s_rev {st:SortSt} {i j:Nat} {Q:Unit→SortSt→Prop} (h:Q () (setArr st (mirror (arrOf st) i j ((j - i) / 2)))):wpS (model prog w) A E KV.sh (reverseSlice' i j) Q st:=by
 rw [reverseSlice'_eq]
 exact wpS_modify h
theorem back1 {lo x:Nat} (h:1≤x):lo+x - 1=lo+(x - 1):=by omega
theorem s_up {st:SortSt} {a m:Nat} {Q:Option (Option Nat)×Nat→SortSt→Prop} (h0:AllI a₀) (hm:lo+m≤a₀.size) (ha:1≤a) (ham:a≤m) (hX:SX a₀ lo st₀ st)
 (hs:SrtL (arrOf st) lo a)
 (h:∀ n,a≤n→n≤m→SrtL (arrOf st) lo n→(n=m∨K (arrOf st) (lo+n)<K (arrOf st) (lo+(n - 1)))→Q (none,n) st):wpS (model prog w) A E KV.sh (upL lo a m) Q st:=by
 unfold upL
 refine wpS_forRange (I:=fun x c v=>st=v∧c=(none,x)∧SrtL (arrOf st) lo x) ?s1 ?f1 ⟨rfl,rfl,hs⟩
 case f1=>
  rintro c v ⟨rfl,rfl,g⟩
  rw [show max a m=m by omega] at g ⊢
  exact h m ham (Nat.le_refl _) g (.inl rfl)
 case s1=>
  rintro x c v hax hxm ⟨rfl,rfl,g⟩
  dsimp only
  rw [back1 (by omega)]
  refine wpS_bind (sx_lt hX h0 (by omega) (by omega) ?_)
  by_cases hl:K (arrOf st) (lo+x)<K (arrOf st) (lo+(x - 1))
  · simp only [hl,decide_true,if_true]
    exact wpS_pure (h x hax (by omega) g (.inr hl))
  · simp only [hl,decide_false,Bool.false_eq_true,if_false]
    refine wpS_pure ⟨rfl,rfl,fun i j hij hj=>?_⟩
    rcases Nat.lt_or_ge j x with q | q
    · exact g i j hij q
    · obtain rfl:j=x:=by omega
      rcases Nat.eq_or_lt_of_le hij with rfl | q2
      · exact Int.le_refl _
      · exact Int.le_trans (g i (j - 1) (by omega) (by omega)) (Int.not_lt.mp hl)
theorem s_en {st:SortSt} {a m:Nat} {Q:Option Nat→SortSt→Prop} (h0:AllI a₀) (hm:lo+m≤a₀.size) (ha:1≤a) (ham:a≤m) (hX:SX a₀ lo st₀ st)
 (hs:NonL (arrOf st) lo a) (h:∀ n v,SX a₀ lo st₀ v→1≤n→n≤m→SrtL (arrOf v) lo n→Q (some n) v):wpS (model prog w) A E KV.sh (enL lo a m) Q st:=by
 unfold enL
 have hz:lo+a≤(arrOf st).size:=by rw [hX.size];omega
 refine wpS_bind (s_rev ?_)
 have hX':=sx_mirror (i:=lo) (j:=lo+a) hX (Nat.le_refl _) (by omega)
 refine wpS_bind (s_up h0 hm ha ham hX' ?_ fun n g1 g2 g3 _=>wpS_pure (h n _ hX' (by omega) g2 g3))
 intro i j hij hj
 show K (mirror (arrOf st) lo (lo+a) ((lo+a - lo) / 2)) _≤K (mirror (arrOf st) lo (lo+a) ((lo+a - lo) / 2)) _
 rw [K_mirror hz,K_mirror hz,if_pos (by omega),if_pos (by omega),show lo+(lo+a) - 1 - (lo+i)=lo+(a - 1 - i) by omega,show lo+(lo+a) - 1 - (lo+j)=lo+(a - 1 - j) by omega]
 exact hs _ _ (by omega) (by omega)
def Alike (xs:Array Keyed) (lo n q:Nat):Prop:=∀ i,lo+n - (q+1)≤i→i<lo+n→K xs i=K xs (lo+n - 1)
theorem alike0 {xs:Array Keyed} {n:Nat} (h:1≤n):Alike xs lo n 0:=fun i a b=>by
 obtain rfl:i=lo+n - 1:=by omega
 rfl
theorem s_dn {st:SortSt} {a m:Nat} {Q:Option (Option Nat)×Nat×Nat→SortSt→Prop} (h0:AllI a₀) (hm:lo+m≤a₀.size) (ha:1≤a) (ham:a≤m) (hX:SX a₀ lo st₀ st)
 (hs:NonL (arrOf st) lo a)
 (h:∀ n q v,SX a₀ lo st₀ v→a≤n→n≤m→NonL (arrOf v) lo n→q+1≤n→Alike (arrOf v) lo n q→Q (none,n,q) v):wpS (model prog w) A E KV.sh (dnL lo a m) Q st:=by
 unfold dnL
 refine wpS_forRange (I:=fun x c v=>∃ q,c=(none,x,q)∧SX a₀ lo st₀ v∧NonL (arrOf v) lo x∧q+1≤x∧Alike (arrOf v) lo x q) ?s1 ?f1 ⟨0,rfl,hX,hs,by omega,alike0 ha⟩
 case f1=>
  rintro c v ⟨q,rfl,vX,vs,vq,va⟩
  rw [show max a m=m by omega] at vs vq va ⊢
  exact h m q v vX ham (Nat.le_refl _) vs vq va
 case s1=>
  rintro x c v hax hxm ⟨q,rfl,vX,vs,vq,va⟩
  dsimp only
  have hz:lo+x≤(arrOf v).size:=by rw [vX.size];omega
  have grow:∀ xs:Array Keyed,(∀ k,K xs k=K (arrOf v) k)→K (arrOf v) (lo+x)≤K (arrOf v) (lo+(x - 1))→NonL xs lo (x+1):=by
   intro xs hk hl i j hij hj
   rw [hk,hk]
   rcases Nat.lt_or_ge j x with g | g
   · exact vs i j hij g
   · obtain rfl:j=x:=by omega
     rcases Nat.eq_or_lt_of_le hij with rfl | g2
     · exact Int.le_refl _
     · exact Int.le_trans hl (vs i (j - 1) (by omega) (by omega))
  rw [back1 (by omega)]
  refine wpS_bind (sx_lt vX h0 (by omega) (by omega) ?_)
  by_cases hl:K (arrOf v) (lo+x)<K (arrOf v) (lo+(x - 1))
  · simp only [hl,decide_true,if_true]
    by_cases hq:q > 0
    · rw [if_pos hq]
      exact wpS_bind (s_rev (wpS_pure ⟨0,rfl,sx_mirror vX (by omega) (by omega),grow _ (K_mirror_equal hz va) (Int.le_of_lt hl),by omega,alike0 (by omega)⟩))
    · rw [if_neg hq]
      exact wpS_pure ⟨0,rfl,vX,grow _ (fun _=>rfl) (Int.le_of_lt hl),by omega,alike0 (by omega)⟩
  · simp only [hl,decide_false,Bool.false_eq_true,if_false]
    refine wpS_bind (sx_lt vX h0 (by omega) (by omega) ?_)
    by_cases hg:K (arrOf v) (lo+(x - 1))<K (arrOf v) (lo+x)
    · simp only [hg,decide_true,if_true]
      exact wpS_pure (h x q v vX hax (by omega) vs vq va)
    · simp only [hg,decide_false,Bool.false_eq_true,if_false]
      have he:K (arrOf v) (lo+x)=K (arrOf v) (lo+(x - 1)):=by omega
      refine wpS_pure ⟨q+1,rfl,vX,grow _ (fun _=>rfl) (by omega),by omega,fun i g1 g2=>?_⟩
      rw [show lo+(x+1) - 1=lo+x by omega]
      by_cases hi:i=lo+x
      · rw [hi]
      · rw [he,← back1 (by omega)]
        exact va i (by omega) (by omega)
theorem s_fa {st:SortSt} {a m:Nat} {Q:Option Nat→SortSt→Prop} (h0:AllI a₀) (hm:lo+m≤a₀.size) (ham:a+1≤m) (hX:SX a₀ lo st₀ st)
 (hs:NonL (arrOf st) lo (a+1)) (h:∀ n v,SX a₀ lo st₀ v→1≤n→n≤m→SrtL (arrOf v) lo n→Q (some n) v):wpS (model prog w) A E KV.sh (faL lo a m) Q st:=by
 unfold faL
 refine wpS_bind (wpS_lift (wpAny_rule ⟨rfl,?_⟩))
 refine wpS_bind (s_dn h0 hm (by omega) ham hX hs fun n q v vX g1 g2 vs vq va=>?_)
 dsimp only
 have hz:lo+n≤(arrOf v).size:=by rw [vX.size];omega
 by_cases hq:q > 0
 · rw [if_pos hq]
   refine wpS_bind (s_rev (s_en h0 hm (by omega) g2 (sx_mirror vX (by omega) (by omega)) ?_ h))
   intro i j hij hj
   show K (mirror (arrOf v) _ _ _) _≤K (mirror (arrOf v) _ _ _) _
   rw [K_mirror_equal hz va,K_mirror_equal hz va]
   exact vs i j hij hj
 · rw [if_neg hq]
   exact s_en h0 hm (by omega) g2 vX vs h
theorem s_run {st:SortSt} {m:Nat} {Q:Option Nat→SortSt→Prop} (h0:AllI a₀) (hm:lo+m≤a₀.size) (h1:1≤m) (hX:SX a₀ lo st₀ st)
 (h:∀ n v,SX a₀ lo st₀ v→1≤n→n≤m→SrtL (arrOf v) lo n→Q (some n) v):wpS (model prog w) A E KV.sh (countRun' lo m) Q st:=by
 rw [run_eq]
 have one:SrtL (arrOf st) lo 1:=fun i j hij hj=>by
  obtain rfl:i=j:=by omega
  exact Int.le_refl _
 refine wpS_bind (s_up h0 hm (Nat.le_refl 1) h1 hX one fun n g1 g2 gs go=>?_)
 dsimp only
 by_cases hn:n=m
 · rw [if_pos (by simpa using hn)]
   exact wpS_pure (h n st hX g1 g2 gs)
 · rw [if_neg (by simpa using hn)]
   have hl:=go.resolve_left hn
   by_cases hg:n > 1
   · rw [if_pos hg]
     rw [back1 (by omega)]
     refine wpS_bind (sx_lt (i:=lo) hX h0 (by omega) (by omega) ?_)
     by_cases hr:K (arrOf st) lo<K (arrOf st) (lo+(n - 1))
     · simp only [hr,decide_true,if_true]
       exact wpS_pure (h n st hX g1 g2 gs)
     · simp only [hr,decide_false,Bool.false_eq_true,if_false]
       have hz:lo+n≤(arrOf st).size:=by rw [hX.size];omega
       have al:∀ k,lo≤k→k<lo+n→K (arrOf st) k=K (arrOf st) (lo+n - 1):=by
        intro k k1 k2
        obtain ⟨d,rfl⟩:=Nat.exists_eq_add_of_le k1
        have e1:=gs 0 d (by omega) (by omega)
        have e2:=gs d (n - 1) (by omega) (by omega)
        rw [back1 (by omega)]
        rw [Nat.add_zero] at e1
        omega
       refine wpS_bind (s_rev (s_fa h0 hm (by omega) (sx_mirror hX (Nat.le_refl _) (by omega)) ?_ h))
       intro i j hij hj
       show K (mirror (arrOf st) _ _ _) _≤K (mirror (arrOf st) _ _ _) _
       rw [K_mirror_equal hz al,K_mirror_equal hz al]
       rcases Nat.lt_or_ge j n with q | q
       · rw [al (lo+i) (by omega) (by omega),al (lo+j) (by omega) (by omega)]
         exact Int.le_refl _
       · obtain rfl:j=n:=by omega
         rcases Nat.eq_or_lt_of_le hij with rfl | q2
         · exact Int.le_refl _
         · rw [al (lo+i) (by omega) (by omega),back1 (by omega)]
           exact Int.le_of_lt hl
   · rw [if_neg hg]
     obtain rfl:n=1:=by omega
     refine s_fa h0 hm (by omega) hX ?_ h
     intro i j hij hj
     rcases Nat.eq_or_lt_of_le hij with rfl | q2
     · exact Int.le_refl _
     · obtain rfl:i=0:=by omega
       obtain rfl:j=1:=by omega
       exact Int.le_of_lt hl
end
open PyProof.Rows hiding K SortedTo K_bubble K_mirror K_congr K_mirror_equal
variable [KV]
structure RS (a₀:Array Keyed) (st:SortSt) (Ls:List (List Keyed)) (rest:List Keyed):Prop where
 kind:kindOf st=KV.kind
 fail:failedOf st=none
 perm:(arrOf st).Perm a₀
 arr:(arrOf st).toList=Ls.flatten++rest
 pm:PM (pendingOf st).toList Ls 0
 runs:∀ R∈Ls,R≠[]∧R.Pairwise Le
theorem AllI.perm {xs ys:Array Keyed} (h:AllI xs) (p:ys.Perm xs):AllI ys:=fun q hq=>h q ((Array.perm_iff_toList_perm.mp p).mem_iff.mp hq)
theorem PM.alter:∀ {ps:List (Nat×Nat×Nat)} {ls:List (List Keyed)} {lo:Nat} (k:Nat) {f:Nat×Nat×Nat→Nat×Nat×Nat},(∀ p,(f p).1=p.1∧(f p).2.1=p.2.1)→PM ps ls lo→PM (ps.modify k f) ls lo
 | [],[],_,k,f,_,_=>by cases k <;> trivial
 | p::r,l::ls,lo,0,f,hf,h=>by
   show PM (f p::r) (l::ls) lo
   exact ⟨(hf p).1.trans h.1,(hf p).2.trans h.2.1,h.2.2⟩
 | p::r,l::ls,lo,k+1,f,hf,h=>by
   show PM (p::r.modify k f) (l::ls) lo
   exact ⟨h.1,h.2.1,PM.alter k hf h.2.2⟩
 | [],_::_,_,_,_,_,h=>h.elim
 | _::_,[],_,_,_,_,h=>h.elim
theorem PM.snoc:∀ {ps:List (Nat×Nat×Nat)} {ls:List (List Keyed)} {lo:Nat} {R:List Keyed} {k n:Nat},PM ps ls lo→k=lo+ls.flatten.length→n=R.length→PM (ps++[(k,n,0)]) (ls++[R]) lo
 | [],[],lo,R,k,n,_,e,e2=>⟨by simpa using e,e2,trivial⟩
 | p::r,l::ls,lo,R,k,n,h,e,e2=>by
   refine ⟨h.1,h.2.1,PM.snoc h.2.2 ?_ e2⟩
   rw [e,List.flatten_cons,List.length_append,Nat.add_assoc]
 | [],_::_,_,_,_,_,h,_,_=>h.elim
 | _::_,[],_,_,_,_,h,_,_=>h.elim
section
variable {prog:Program} {w:World} {A:Around} {E:Value→Shared→Prop} {a₀:Array Keyed}
theorem s_join {st:SortSt} {Ls:List (List Keyed)} {rest:List Keyed} {i:Nat} {Q:Bool→SortSt→Prop} (h0:AllI a₀) (r:RS a₀ st Ls rest) (hi:i+1<Ls.length)
 (h:∀ v Ms,RS a₀ v Ms rest→Ms.length+1=Ls.length→Ms.flatten.length=Ls.flatten.length→Q true v):wpS (model prog w) A E KV.sh (mergeAt' i) Q st:=by
 obtain ⟨L1,R1,R2,L2,rfl,rfl⟩:∃ L1 R1 R2 L2,Ls=L1++R1::R2::L2∧i=L1.length:=by
  refine ⟨Ls.take i,Ls[i],Ls[i+1],Ls.drop (i+2),?_,by rw [List.length_take];omega⟩
  rw [← List.drop_eq_getElem_cons hi,← List.drop_eq_getElem_cons (by omega),List.take_append_drop]
 have m1:=r.runs R1 (by simp)
 have m2:=r.runs R2 (by simp)
 rw [mat_is]
 refine s_mat r.kind r.fail (h0.perm r.perm) r.arr r.pm m1.1 m2.1 m1.2 m2.2 fun v R hk hp hs ha hpm=>?_
 have hl:=hp.length_eq
 rw [List.length_append] at hl
 refine h v (L1++R::L2) ⟨hk.kind.trans r.kind,hk.fail.trans r.fail,?_,ha,hpm,?_⟩ (by simp;omega) ?_
 · refine Array.Perm.trans ?_ r.perm
   rw [Array.perm_iff_toList_perm,ha,r.arr]
   refine List.Perm.append_right _ ?_
   rw [List.flatten_append,List.flatten_append,List.flatten_cons,List.flatten_cons,List.flatten_cons,← List.append_assoc R1]
   exact List.Perm.append_left _ (List.Perm.append_right _ hp)
 · intro T hT
   rcases List.mem_append.mp hT with g | g
   · exact r.runs T (by simp [g])
   · rcases List.mem_cons.mp g with rfl | g
     · refine ⟨fun e=>?_,hs⟩
       rw [e] at hl
       have:=List.length_pos_iff.mpr m1.1
       simp at hl
       omega
     · exact r.runs T (by simp [g])
 · simp only [List.flatten_append,List.flatten_cons,List.length_append]
   omega
theorem many_runs:∀ {Ls:List (List Keyed)},(∀ R∈Ls,R≠[]∧R.Pairwise Le)→Ls.length≤Ls.flatten.length
 | [],_=>Nat.le_refl _
 | R::Ls,h=>by
   have:=many_runs (Ls:=Ls) fun T hT=>h T (List.mem_cons_of_mem _ hT)
   have:=List.length_pos_iff.mpr (h R (by simp)).1
   rw [List.length_cons,List.flatten_cons,List.length_append]
   omega
theorem RS.psize {st:SortSt} {Ls:List (List Keyed)} {rest:List Keyed} (r:RS a₀ st Ls rest):(pendingOf st).size=Ls.length:=by
 rw [← Array.length_toList];exact r.pm.len
theorem RS.total {st:SortSt} {Ls:List (List Keyed)} {rest:List Keyed} (r:RS a₀ st Ls rest):Ls.flatten.length+rest.length=a₀.size:=by
 rw [← List.length_append,← r.arr,Array.length_toList,r.perm.size_eq]
theorem RS.cut {st v:SortSt} {Ls:List (List Keyed)} {rest:List Keyed} {n:Nat} (r:RS a₀ st Ls rest) (x:SX (arrOf st) Ls.flatten.length st v) (hn:Ls.flatten.length+n≤a₀.size) (hs:SrtL (arrOf v) Ls.flatten.length n) :
 ∃ R rest',R.length=n∧R.Pairwise Le∧RS a₀ v Ls (R++rest'):=by
 have hz:(arrOf v).toList.length=a₀.size:=by rw [Array.length_toList,x.size,r.perm.size_eq]
 have ht:(arrOf v).toList.take Ls.flatten.length=Ls.flatten:=by
  have e:(arrOf v).toList.take Ls.flatten.length=(arrOf st).toList.take Ls.flatten.length:=by
   refine List.ext_getElem? fun k=>?_
   rw [List.getElem?_take,List.getElem?_take]
   split
   · rename_i g
     rw [Array.getElem?_toList,Array.getElem?_toList]
     exact x.pre k g
   · rfl
  rw [e,r.arr,List.take_left]
 refine ⟨((arrOf v).toList.drop Ls.flatten.length).take n,((arrOf v).toList.drop Ls.flatten.length).drop n,?_,?_,x.kind,x.fail,x.perm.trans r.perm,?_,?_,r.runs⟩
 · rw [List.length_take,List.length_drop,hz];omega
 · refine List.pairwise_iff_getElem.mpr fun i j hi hj hij=>?_
   rw [List.length_take,List.length_drop,hz] at hi hj
   have:=hs i j (Nat.le_of_lt hij) (by omega)
   rw [K_at (by omega),K_at (by omega)] at this
   rw [List.getElem_take,List.getElem_take,List.getElem_drop,List.getElem_drop]
   exact this
 · rw [List.take_append_drop]
   conv=>lhs;rw [← List.take_append_drop Ls.flatten.length (arrOf v).toList,ht]
 · rw [x.pend];exact r.pm
theorem RS.add {st:SortSt} {Ls:List (List Keyed)} {R rest:List Keyed} {k n:Nat} (r:RS a₀ st Ls (R++rest)) (hR:R≠[]) (hs:R.Pairwise Le) (hk:k=Ls.flatten.length) (hn:n=R.length) :
 RS a₀ (setPending st ((pendingOf st).push (k,n,0))) (Ls++[R]) rest where
 kind:=r.kind
 fail:=r.fail
 perm:=r.perm
 arr:=by show (arrOf st).toList=_;rw [r.arr];simp
 pm:=by
  show PM ((pendingOf st).push (k,n,0)).toList _ 0
  rw [Array.toList_push]
  exact r.pm.snoc (by omega) hn
 runs:=fun T hT=>by
  rcases List.mem_append.mp hT with g | g
  · exact r.runs T g
  · rw [List.mem_singleton.mp g];exact ⟨hR,hs⟩
theorem RS.alter {st:SortSt} {Ls:List (List Keyed)} {rest:List Keyed} {k:Nat} {f:Nat×Nat×Nat→Nat×Nat×Nat} (hf:∀ p,(f p).1=p.1∧(f p).2.1=p.2.1) (r:RS a₀ st Ls rest) :
 RS a₀ (setPending st ((pendingOf st).modify k f)) Ls rest where
 kind:=r.kind
 fail:=r.fail
 perm:=r.perm
 arr:=r.arr
 pm:=by
  show PM ((pendingOf st).modify k f).toList _ 0
  rw [Array.toList_modify]
  exact r.pm.alter k hf
 runs:=r.runs
theorem RS.sorted {st:SortSt} {Ls:List (List Keyed)} (r:RS a₀ st Ls []) (h1:Ls.length≤1):SortedTo (arrOf st) a₀.size:=by
 have hz:(arrOf st).toList.length=a₀.size:=by rw [Array.length_toList,r.perm.size_eq]
 have hp:(arrOf st).toList.Pairwise Le:=by
  rw [r.arr]
  match Ls,h1,r.runs with
  | [],_,_=>simp
  | [R],_,g=>simpa using (g R (by simp)).2
 intro i j hij hj
 rw [K_at (by omega),K_at (by omega)]
 rcases Nat.eq_or_lt_of_le hij with e | e
 · subst e;exact Int.le_refl _
 · exact List.pairwise_iff_getElem.mp hp i j (by omega) (by omega) e
end
open PyProof.Rows hiding K SortedTo K_bubble K_mirror K_congr K_mirror_equal
variable [KV]
section
variable {prog:Program} {w:World} {A:Around} {E:Value→Shared→Prop} {a₀:Array Keyed}
def putRun (sz lo n:Nat):StateT SortSt Sem (ForInStep (Option Unit×Nat)):=do
 let z ← get
 match (pendingOf z).back? with
 | some (p,k,_)=>do
   let c ← forIn [0:sz] ((none,()):Option Unit×Unit) fun _ _=>do
    let z ← get
    match if (pendingOf z).size > 1 then (pendingOf z)[(pendingOf z).size - 2]? else none with
    | some (_,_,o)=>
      if o≤power' sz (2*p+k) (2*p+k+k+n) sz then pure (.done (none,()))
      else do
       let b ← mergeAt' ((pendingOf z).size - 2)
       if (!b)=true then pure (.done (some (),())) else pure (.yield (none,()))
    | _=>pure (.done (none,()))
   match c.fst with
   | some r=>pure (.done (some r,lo))
   | none=>do
     modify fun s=>setPending s ((pendingOf s).modify ((pendingOf s).size - 1) fun x=>(x.fst,x.2.fst,power' sz (2*p+k) (2*p+k+k+n) sz))
     modify fun s=>setPending s ((pendingOf s).push (lo,n,0))
     pure (.yield (none,lo+n))
 | _=>do
   modify fun s=>setPending s ((pendingOf s).push (lo,n,0))
   pure (.yield (none,lo+n))
theorem s_put {st:SortSt} {Ls:List (List Keyed)} {R rest:List Keyed} {sz lo n:Nat} {Q:ForInStep (Option Unit×Nat)→SortSt→Prop} (h0:AllI a₀) (r:RS a₀ st Ls (R++rest)) (hlo:lo=Ls.flatten.length) (hn:n=R.length) (hR:R≠[]) (hs:R.Pairwise Le)
 (h:∀ v Ms,RS a₀ v Ms rest→Ms.flatten.length=lo+n→Q (.yield (none,lo+n)) v):wpS (model prog w) A E KV.sh (putRun sz lo n) Q st:=by
 unfold putRun
 refine wpS_bind (wpS_get ?_)
 have fin:∀ {v:SortSt} {Ms:List (List Keyed)},RS a₀ v Ms (R++rest)→Ms.flatten.length=lo→Q (.yield (none,lo+n)) (setPending v ((pendingOf v).push (lo,n,0))):=fun {v Ms} g e=>
  h _ (Ms++[R]) (g.add hR hs e.symm hn) (by rw [List.flatten_append,List.length_append,e,List.flatten_cons,List.flatten_nil,List.append_nil,hn])
 split
 · rename_i p k _ _
   generalize power' sz (2*p+k) (2*p+k+k+n) sz=pw
   refine wpS_bind (wpS_mono (wpS_forRange (I:=fun x c v=>c=(none,())∧∃ Ms,RS a₀ v Ms (R++rest)∧Ms.flatten.length=lo) (Q:=fun c v=>c=(none,())∧∃ Ms,RS a₀ v Ms (R++rest)∧Ms.flatten.length=lo) ?s2 (fun _ _ g=>g) ⟨rfl,Ls,r,hlo.symm⟩) ?p2)
   case p2=>
    rintro c v ⟨rfl,Ms,g,e⟩
    dsimp only
    refine wpS_bind (wpS_modify (wpS_bind (wpS_modify (wpS_pure ?_))))
    exact fin (g.alter (fun _=>⟨rfl,rfl⟩)) e
   case s2=>
    rintro x c v _ _ ⟨rfl,Ms,g,e⟩
    refine wpS_bind (wpS_get ?_)
    rw [g.psize]
    split
    · rename_i o ho
      by_cases h1:Ms.length > 1
      · by_cases h2:o≤pw
        · rw [if_pos h2]
          exact wpS_pure ⟨rfl,Ms,g,e⟩
        · rw [if_neg h2]
          refine wpS_bind (s_join h0 g (by omega) fun u Ns g2 e1 e2=>?_)
          simp only [Bool.not_true,Bool.false_eq_true,if_false]
          exact wpS_pure ⟨rfl,Ns,g2,e2.trans e⟩
      · rw [if_neg h1] at ho
        cases ho
    · exact wpS_pure ⟨rfl,Ms,g,e⟩
 · exact wpS_bind (wpS_modify (wpS_pure (fin r hlo.symm)))
theorem pick_lt {c:Bool} {m:Nat} (h:¬ m≤1):(if c=true then m - 2 - 1 else m - 2)+1<m:=by
 split <;> omega
theorem s_all {st:SortSt} {Q:Unit→SortSt→Prop} (h0:AllI a₀) (hk:kindOf st=KV.kind) (hf:failedOf st=none) (hp:arrOf st=a₀) (he:pendingOf st=#[])
 (h:∀ v,(arrOf v).Perm a₀→failedOf v=none→SortedTo (arrOf v) a₀.size→Q () v):wpS (model prog w) A E KV.sh sortRuns' Q st:=by
 rw [sortRuns'_eq]
 refine wpS_bind (wpS_get ?_)
 dsimp only
 rw [hp]
 generalize minRun' a₀.size a₀.size 0=mr
 have r0:RS a₀ st [] a₀.toList:=⟨hk,hf,by rw [hp],by rw [hp];rfl,by rw [he];trivial,fun R hR=>by cases hR⟩
 refine wpS_bind (wpS_mono (wpS_forRange (I:=fun x c z=>∃ Ls rest,c=(none,Ls.flatten.length)∧RS a₀ z Ls rest∧x≤Ls.flatten.length)
  (Q:=fun c z=>∃ Ls k,c=(none,k)∧RS a₀ z Ls []) ?s1 ?f1 ⟨[],_,rfl,r0,Nat.le_refl _⟩) ?p1)
 case f1=>
  rintro c z ⟨Ls,rest,rfl,r,hx⟩
  have:=r.total
  have e:rest=[]:=List.length_eq_zero_iff.mp (by omega)
  subst e
  exact ⟨Ls,_,rfl,r⟩
 case p1=>
  rintro c z ⟨Ls,k,rfl,r⟩
  dsimp only
  refine wpS_bind (wpS_mono (wpS_forRange (I:=fun x c v=>c=(none,())∧∃ Ms,RS a₀ v Ms []∧Ms.length+x≤a₀.size) (Q:=fun c v=>c=(none,())∧∃ Ms,RS a₀ v Ms []∧Ms.length≤1) ?s2 ?f2 ?i2) ?p2)
  case i2=>
   have e1:=many_runs r.runs
   have e2:=r.total
   exact ⟨rfl,Ls,r,by simp only [List.length_nil] at e2;omega⟩
  case f2=>
   rintro c v ⟨rfl,Ms,g,hl⟩
   exact ⟨rfl,Ms,g,by omega⟩
  case p2=>
   rintro c v ⟨rfl,Ms,g,hl⟩
   exact wpS_pure (h v g.perm g.fail (g.sorted hl))
  case s2=>
   rintro x c v _ hx ⟨rfl,Ms,g,hl⟩
   refine wpS_bind (wpS_get ?_)
   rw [g.psize]
   by_cases h1:Ms.length≤1
   · rw [if_pos h1]
     exact wpS_pure ⟨rfl,Ms,g,h1⟩
   · rw [if_neg h1]
     refine wpS_bind (s_join h0 g (pick_lt h1) fun u Ns g2 e1 e2=>?_)
     simp only [Bool.not_true,Bool.false_eq_true,if_false]
     exact wpS_pure ⟨rfl,Ns,g2,by omega⟩
 case s1=>
  rintro x c z _ hx ⟨Ls,rest,rfl,r,hxl⟩
  dsimp only
  have tot:=r.total
  by_cases hge:Ls.flatten.length≥a₀.size
  · rw [if_pos hge]
    have e:rest=[]:=List.length_eq_zero_iff.mp (by omega)
    subst e
    exact wpS_pure ⟨Ls,_,rfl,r⟩
  · rw [if_neg hge]
    have hI:=h0.perm r.perm
    have hsz:=r.perm.size_eq
    have x0:SX (arrOf z) Ls.flatten.length z z:=⟨Array.Perm.refl _,r.kind,r.fail,rfl,fun _ _=>rfl⟩
    refine wpS_bind (s_run hI (by omega) (by omega) x0 fun n v vX g1 g2 gs=>?_)
    dsimp only
    refine Eq.mp (congrArg (fun p=>wpS (model prog w) A E KV.sh p _ v) (?_:(if n<mr then do
     liftM (rule "list.sort.binary-insertion")
     let b ← binarySort' Ls.flatten.length (min (a₀.size - Ls.flatten.length) mr) n
     if (!b)=true then pure (ForInStep.done (some (),Ls.flatten.length)) else putRun a₀.size Ls.flatten.length (min (a₀.size - Ls.flatten.length) mr)
     else putRun a₀.size Ls.flatten.length n)=_)) ?_
    · unfold putRun
      congr 1
      · congr 1
        funext _y
        congr 1
        funext b
        congr 1
        congr 1
        funext z
        cases (pendingOf z).back? with
        | none=>rfl
        | some t=>
          obtain ⟨p,k,o⟩:=t
          dsimp only
          congr 1
          funext c
          obtain ⟨r,_⟩:=c
          cases r <;> rfl
      · congr 1
        funext z
        cases (pendingOf z).back? with
        | none=>rfl
        | some t=>
          obtain ⟨p,k,o⟩:=t
          dsimp only
          congr 1
          funext c
          obtain ⟨r,_⟩:=c
          cases r <;> rfl
    have last:∀ {u:SortSt} {k:Nat},1≤k→k≤a₀.size - Ls.flatten.length→SX (arrOf z) Ls.flatten.length z u→SrtL (arrOf u) Ls.flatten.length k→wpS (model prog w) A E KV.sh (putRun a₀.size Ls.flatten.length k) (fun t st'=>∃ Ms rs,t=.yield (none,Ms.flatten.length)∧RS a₀ st' Ms rs∧x+1≤Ms.flatten.length) u:=fun {u k} k1 k2 uX us=>by
     obtain ⟨R,rest',e1,e2,e3⟩:=r.cut uX (by omega) us
     refine s_put h0 e3 rfl e1.symm (fun e=>by rw [e] at e1;simp at e1;omega) e2 fun v2 Ms g e=>?_
     exact ⟨Ms,rest',by rw [e],g,by omega⟩
    by_cases hm:n<mr
    · rw [if_pos hm]
      refine wpS_bind (wpS_lift (wpAny_rule ⟨rfl,?_⟩))
      refine wpS_bind (s_bin hI (by omega) (by omega) vX gs fun u uX us=>?_)
      simp only [Bool.not_true,Bool.false_eq_true,if_false]
      refine wpS_mono (last (by omega) (by omega) uX us) ?_
      rintro t u2 ⟨Ms,rs,rfl,g,e⟩
      exact ⟨Ms,rs,rfl,g,e⟩
    · rw [if_neg hm]
      refine wpS_mono (last g1 g2 vX gs) ?_
      rintro t u2 ⟨Ms,rs,rfl,g,e⟩
      exact ⟨Ms,rs,rfl,g,e⟩
end
end SRV
namespace SRT
open PySem PyProof.Rows
def core (a:Addr) (e1:Nat) (ar:Array Value) (b:Bool):Sem Fin:=do
 let knd ← if ar.size<2 then pure general' else keyKind' ar
 let ((),z) ← (if ar.size<2 then pure () else sortRuns').run (SortSt.mk' knd (if b then (ar.zip ar).reverse else ar.zip ar) #[] 7 none)
 let srt:=(arrOf z).map (·.2)
 let tch:=(← seqEpoch a) != e1
 Builtin.List.listUpdate (.ref a) fun _=>if b then srt.reverse else srt
 if let some e:=failedOf z then rule "list.sort.comparison-raised";throw e
 if tch then rule "list.sort.modified";raiseError "ValueError" "list modified during sort"
 ret .none
theorem plain_core (a:Addr):Builtin.«list.sort» ⟨[.ref a],[]⟩=(do
 let ar ← Builtin.List.listItems (.ref a)
 Builtin.List.listUpdate (.ref a) fun _=>#[]
 let e1 ← seqEpoch a
 let t ← newTuple ar.toList
 let l ← newList []
 holding [t,l] (core a e1 ar false)):=by rw [list_sort_plain];rfl
section
variable {prog:Program} {w:World} {A:Around} {E:Value→Shared→Prop} {s:Shared}
theorem w_start {a:Addr} {vs:List Value} {n:Nat} {P:Fin→Shared→Prop} {f:Nat→Array Value→Sem Fin} (hA:s.heap.get? a=some (seqObj "list" vs.toArray n)) (hz:vs.length≤sizeLine)
 (h:∀ (s':Shared) e1,s'={ s with heap:=((s.heap.update a (Obj.mapSeq fun _=>#[])).push (seqObj "tuple" vs.toArray 0)).push (seqObj "list" #[] 0) }→s'.heap.get? a=some (seqObj "list" #[] e1)→wpAny (model prog w) A (f e1 vs.toArray) P E s') :
 wpAny (model prog w) A (do
  let ar ← Builtin.List.listItems (.ref a)
  Builtin.List.listUpdate (.ref a) fun _=>#[]
  let e1 ← seqEpoch a
  let t ← newTuple ar.toList
  let l ← newList []
  holding [t,l] (f e1 ar)) P E s:=by
 have ha:a<s.heap.objs.size:=Heap.lt_size hA
 refine wpAny_bind (listItems_at hA rfl (wpAny_bind (listUpdate_at hA rfl ?_ (hsz:=by rw [List.size_toArray];exact hz))))
 obtain ⟨e1,hE⟩:∃ e1,(s.heap.update a (Obj.mapSeq fun _=>#[])).get? a=some (seqObj "list" #[] e1):=⟨_,get?_update_seq hA fun _=>#[]⟩
 refine wpAny_bind (seqEpoch_at hE rfl (wpAny_bind (wpAny_newTuple (wpAny_bind (wpAny_newList (wpAny_holding ?_)) ) ?hs)))
 case hs=>exact hz
 refine h _ e1 rfl ?_
 show (((s.heap.update a (Obj.mapSeq fun _=>#[])).push (seqObj "tuple" vs.toArray 0)).push (seqObj "list" #[] 0)).get? a=_
 rw [Heap.get?_push_ne _ _ _ (by rw [size_push',Heap.size_update];exact fun e=>absurd ha (by rw [e];exact Nat.not_lt.mpr (Nat.le_succ _))),Heap.get?_push_ne _ _ _ (by rw [Heap.size_update];exact fun e=>absurd ha (by rw [e];exact Nat.lt_irrefl _))]
 exact hE
end
end SRT
namespace L2
open PySem PySem.Spec PyProof.Rows
def seqT (c:Bool):String:=match c with | true=>"tuple" | false=>"list"
theorem SqK.ty {H:Hp} {c:Bool} {a:Addr} {xs:List V} (h:SqK H c a xs):tyName H (.ref a)=some (seqT c):=by
 cases c with
 | true=>unfold tyName;dsimp only;rw [show H a=some (.tup xs) from h];rfl
 | false=>unfold tyName;dsimp only;rw [show H a=some (.lst xs) from h];rfl
section
variable {X:Cx} {e:Expr} {es:List Expr} {t:TA} {p pos:Pos} {o:Expr} {to:TE} {apos cpos:Pos}
def tNo:TS:=fun _ _ _=>False
theorem ps_no {st:Stmt}:PS X st tNo:=fun _ _ _ _ _ _ h=>h.elim
theorem zs_no {st:Stmt}:ZS X st tNo:=by with_unfolding_all exact ps_no
end
end L2
namespace L2
open PySem PySem.Spec PyProof.Rows
theorem boot_any':bootBuiltins "any" = some (.builtin "any"):=by decide +kernel
def rAnyP (K:PySem.W.Frag):List V→Hp→VK→Prop:=fun xs H Q=>match xs with
 | [.ref p]=>∃ bs:List Bool,SqL K H p (bs.map V.bl)∧Q (.bl (bs.any id)) H
 | _=>False
theorem call_anyP {X:Cx} (hc:X.calm=true):CallR X (.builtin "any") (rAnyP X.K):=by
 intro pins s σ H xs us Q I r h
 unfold rAnyP at h
 split at h
 · rename_i p
   obtain ⟨bs,hq,q⟩:=h
   obtain ⟨u,rfl,rx⟩:=vals1 r
   cases rx
   obtain ⟨its,rv,pl,hz⟩:=I.list hq
   have hlen:its.length=bs.length:=by rw [← rv.length,List.length_map]
   have hlt:p<s.heap.objs.size:=by
    obtain ⟨_,e,_⟩:=pl.isList
    exact Heap.lt_size e
   refine call_any_walk (wpAny_pyIter_list pl.isList ?_)
   have W:Walks X.prog X.w X.A.in1 s.heap.objs.size [s.heap.objs.size,p] [s.heap.objs.size] its.toArray.size _ _:=Walks.list (show X.A.in1.handled=none from I.ok.hd hc) s.heap.objs.size p (Nat.ne_of_lt hlt) its.toArray
   refine ⟨s.heap.objs.size,_,_,_,_,_,fun i=>bs.getD i false,rfl,W,⟨⟨_,Heap.get?_push_size _ rfl,rfl,rfl⟩,pl.isList.push _⟩,?_,fun h' tk hk=>?_⟩
   · intro i v s' Q' E' hP hQ
     have hP':its[i]? = some v:=by simpa using hP
     have hi:i<bs.length:=by rw [← hlen];exact (List.getElem?_eq_some_iff.mp hP').1
     obtain ⟨w',e1,e2⟩:=rv.get (i:=i) (x:=.bl bs[i]) (by rw [List.getElem?_map,List.getElem?_eq_getElem hi];rfl)
     rw [hP'] at e1
     cases e1
     cases e2
     refine wpAny_truthy_bool ?_
     have e:bs.getD i false=bs[i]:=by rw [List.getD_eq_getElem?_getD,List.getElem?_eq_getElem hi];rfl
     have hQ':Q' (bs.getD i false) s':=hQ
     rw [e] at hQ'
     exact hQ'
   · have I1:Inv X pins σ H { s with heap:=h',toks:=tk }:=I.kept fun b o e=>hk b o (by simpa using Nat.ne_of_lt (Heap.lt_size e)) (Heap.get?_push_of_some _ e)
     refine ⟨.bl _,H,I1,rfl,?_⟩
     have e:(List.range its.toArray.size).any (fun i=>bs.getD i false)=bs.any id:=by
      rw [List.size_toArray,hlen,Bool.eq_iff_iff,List.any_eq_true,List.any_eq_true]
      constructor
      · rintro ⟨i,hi,h⟩
        have hi':=List.mem_range.mp hi
        rw [List.getD_eq_getElem?_getD,List.getElem?_eq_getElem hi'] at h
        exact ⟨_,List.getElem_mem hi',h⟩
      · rintro ⟨x,hx,h⟩
        obtain ⟨i,hi,rfl⟩:=List.mem_iff_getElem.mp hx
        exact ⟨i,List.mem_range.mpr hi,by rw [List.getD_eq_getElem?_getD,List.getElem?_eq_getElem hi];exact h⟩
     rw [e]
     exact q
 · exact h.elim
section
variable {X:Cx} {e:Expr} {es:List Expr} {t:TA} {p pos:Pos}
theorem pcb_any (hc:X.calm=true) (hg:Gl X "any") (hm:X.mg "any" = none) (ha:PA X (e::es) t) (he:starEach (e::es) X.env=(false,eval e X.env)::starEach es X.env) (hpl:(backTo pos (starEach es X.env)).any (·.1)=false) :
 PE X (.Call (.Name "any" p) (e::es) [] pos) (tCB (rAnyP X.K) t):=pe_callB (call_anyP hc) hg hm boot_any' ha (by decide) (by decide) he hpl
theorem zcb_any (hc:X.calm=true) (hg:Gl X "any") (hm:X.mg "any" = none) (ha:ZA X (e::es) t) (he:starEach (e::es) X.env=(false,eval e X.env)::starEach es X.env) (hpl:(backTo pos (starEach es X.env)).any (·.1)=false) :
 ZE X (.Call (.Name "any" p) (e::es) [] pos) (tCB (rAnyP X.K) t):=by with_unfolding_all exact pcb_any hc hg hm ha he hpl
end
theorem eqv_tuple_nil (ds:List PyData):PyData.eqv (.tuple ds) (.tuple [])=ds.isEmpty:=by cases ds <;> simp [PyData.eqv,PyData.eqvAll]
end L2
namespace HT
open PySem PyProof.Rows PySem.SeqAt
variable {prog:Program} {w:World} {A:Around} {E:Value→Shared→Prop} {s:Shared}
theorem adjust_step (a m:Int) (n:Nat) (ha:0≤a) (hm:1≤m):Builtin.Slice.sliceAdjust (some a) none m (n:Int)=(min a (n:Int),(n:Int)):=by
 have h1:¬ (m<0):=by omega
 have h2:¬ (a<0):=by omega
 unfold Builtin.Slice.sliceAdjust
 simp only [h1,if_false,h2]
theorem sliceApplied_step {sl:Addr} {vl vk:Value} {a m:Int} {n:Nat} {Q:Int×Int×Nat→Shared→Prop} (hs:s.heap.IsSliceOf sl vl .none vk) (pl:IsPart vl (some a)) (pk:IsPart vk (some m)) (ha:0≤a) (hm:1≤m)
 (h:Q (min a (n:Int),m,Builtin.Slice.slicePlaces (min a (n:Int)) (n:Int) m) s):wpAny (model prog w) A (Builtin.Slice.sliceApplied (.ref sl) (pure (n:Int))) Q E s:=by
 obtain ⟨os,hos,hcs,hds⟩:=id hs
 unfold Builtin.Slice.sliceApplied Builtin.Slice.sliceFields
 refine wpAny_bind (wpAny_bind (wpAny_field hos hds (x:=vl) rfl (wpAny_bind (wpAny_field hos hds (x:=.none) rfl (wpAny_bind (wpAny_field hos hds (x:=vk) rfl (wpAny_pure ?_)))))))
 refine wpAny_bind (slicePart_ pk ?_)
 show wpAny _ _ (if (m == 0)=true then _ else _) _ _ s
 rw [if_neg (by simpa using (show m≠0 by omega))]
 refine wpAny_bind (slicePart_ pl (wpAny_bind (slicePart_ .none (wpAny_bind (wpAny_pure ?_)))))
 show wpAny _ _ (match Builtin.Slice.sliceAdjust (some a) none m (n:Int) with | (lo,hi)=>pure (lo,m,Builtin.Slice.slicePlaces lo hi m)) _ _ s
 rw [adjust_step a m n ha hm]
 exact wpAny_pure h
def strd {α:Type} (xs:List α) (a m:Nat):List α:=(List.range xs.length).filterMap fun k=>xs[a+k*m]?
theorem range_cut {α:Type} (f:Nat→Option α) (K:Nat):∀ j,(∀ k,K≤k→f k=none)→(List.range (K+j)).filterMap f=(List.range K).filterMap f
 | 0,_=>rfl
 | j+1,h=>by
   rw [← Nat.add_assoc,List.range_succ,List.filterMap_append,range_cut f K j h]
   simp [h (K+j) (by omega)]
theorem places_le {lo n m:Nat} (hl:lo≤n) (hm:1≤m):Builtin.Slice.slicePlaces (lo:Int) (n:Int) (m:Int)≤n∧(lo<n→n≤lo+Builtin.Slice.slicePlaces (lo:Int) (n:Int) (m:Int)*m)∧(lo=n→Builtin.Slice.slicePlaces (lo:Int) (n:Int) (m:Int)=0):=by
 unfold Builtin.Slice.slicePlaces
 rw [if_pos (show (m:Int) > 0 by omega)]
 by_cases h:(lo:Int)<(n:Int)
 · rw [if_pos h]
   have e1:((n:Int) - (lo:Int) - 1)=((n - lo - 1:Nat):Int):=by omega
   rw [e1,← Int.natCast_ediv]
   have e2:((((n - lo - 1) / m:Nat):Int)+1).toNat=(n - lo - 1) / m+1:=by
    show (((((n - lo - 1) / m:Nat):Int))+((1:Nat):Int)).toNat=_
    rw [← Int.natCast_add,Int.toNat_natCast]
   rw [e2]
   have h1:(n - lo - 1) / m≤n - lo - 1:=Nat.div_le_self _ _
   have h2:=Nat.div_add_mod (n - lo - 1) m
   have h3:=Nat.mod_lt (n - lo - 1) (show m > 0 by omega)
   refine ⟨by omega,fun _=>?_,fun e=>by omega⟩
   rw [Nat.add_mul,Nat.one_mul,Nat.mul_comm]
   omega
 · rw [if_neg h]
   refine ⟨Nat.zero_le _,fun e=>by omega,fun _=>rfl⟩
theorem pick_step {α:Type} (xs:Array α) (a m:Nat) (hm:1≤m):(List.range (Builtin.Slice.slicePlaces (min (a:Int) (xs.size:Int)) (xs.size:Int) (m:Int))).filterMap (fun (k:Nat)=>xs[((min (a:Int) (xs.size:Int))+(k:Int)*(m:Int)).toNat]?)=strd xs.toList a m:=by
 have e0:min (a:Int) (xs.size:Int)=((min a xs.size:Nat):Int):=by omega
 rw [e0]
 have e1:(fun (k:Nat)=>xs[(((min a xs.size:Nat):Int)+(k:Int)*(m:Int)).toNat]?)=fun k=>xs[min a xs.size+k*m]?:=by
  funext k
  have:(((min a xs.size:Nat):Int)+(k:Int)*(m:Int)).toNat=min a xs.size+k*m:=by rw [← Int.natCast_mul,← Int.natCast_add,Int.toNat_natCast]
  rw [this]
 rw [e1]
 obtain ⟨p1,p2,p3⟩:=places_le (lo:=min a xs.size) (n:=xs.size) (m:=m) (by omega) hm
 generalize Builtin.Slice.slicePlaces ((min a xs.size:Nat):Int) (xs.size:Int) (m:Int)=K at p1 p2 p3
 unfold strd
 rw [Array.length_toList]
 have e2:(fun k=>xs[min a xs.size+k*m]?)=fun k=>xs.toList[a+k*m]?:=by
  funext k
  rw [Array.getElem?_toList]
  by_cases h:a≤xs.size
  · rw [Nat.min_eq_left h]
  · rw [Nat.min_eq_right (by omega),Array.getElem?_eq_none (by omega),Array.getElem?_eq_none (by omega)]
 rw [e2]
 have:=range_cut (fun k=>xs.toList[a+k*m]?) K (xs.size - K) fun k hk=>by
  rw [Array.getElem?_toList]
  refine Array.getElem?_eq_none ?_
  by_cases h:a<xs.size
  · have h1:=p2 (by omega)
    have h2:K*m≤k*m:=Nat.mul_le_mul_right _ hk
    omega
  · omega
 rw [show K+(xs.size - K)=xs.size by omega] at this
 exact this.symm
theorem fm_congr' {α β:Type} {l:List α} {f g:α→Option β} (h:∀ a,f a=g a):l.filterMap f=l.filterMap g:=by rw [funext h]
theorem strd_one {α:Type}:∀ (xs:List α),(List.range xs.length).filterMap (fun k=>xs[0+k*1]?)=xs
 | []=>rfl
 | x::xs=>by
   have ih:=strd_one xs
   rw [List.length_cons,List.range_succ_eq_map,List.filterMap_cons]
   show x::List.filterMap _ (List.map Nat.succ (List.range xs.length))=x::xs
   congr 1
   rw [List.filterMap_map]
   refine Eq.trans ?_ ih
   refine fm_congr' fun k=>?_
   show (x::xs)[0+(k+1)*1]? = xs[0+k*1]?
   rw [show 0+(k+1)*1=(0+k*1)+1 by omega,List.getElem?_cons_succ]
theorem getItem_tuple_step {t sl:Addr} {items:Array Value} {vl vk:Value} {a m:Nat} {Q:Value→Shared→Prop} (ht:IsTup s.heap t items) (hs:s.heap.IsSliceOf sl vl .none vk) (pl:IsPart vl (some (a:Int))) (pk:IsPart vk (some (m:Int))) (hm:1≤m)
 (h1:items.size=0∨(a=0∧m=1)→Q (.ref t) s)
 (h:Q (.ref s.heap.objs.size) { s with heap:=s.heap.push { cls:=.type "tuple",data:=.seq (strd items.toList a m).toArray } })
 (hsz:items.size≤sizeLine):wpAny (model prog w) A (getItem (.ref t) (.ref sl)) Q E s:=by
 have htake:sizeOk (.seq (strd items.toList a m).toArray):=by
  show (strd items.toList a m).toArray.size≤sizeLine
  rw [List.size_toArray]
  unfold strd
  refine Nat.le_trans (List.length_filterMap_le _ _) ?_
  rw [List.length_range,Array.length_toList]
  exact hsz
 obtain ⟨os,hos,hcs,hds⟩:=id hs
 have hTs:s.TypeIs (.ref sl) "slice":=⟨os,hos,hcs⟩
 unfold getItem
 try with_reducible refine wpAny_holding ?_
 first | refine wpAny_bind (wpAny_pure ?_) | skip
 refine wpAny_bind (wpAny_sequenceKey ht.typeIs (by decide) ?_)
 refine wpAny_bind (wpAny_callSpecial?_slot (name:=Str.ofString "__getitem__") ht.typeIs PyProof.Rows.slot_tuple_getitem
  (wpAny_call_entry PyProof.Rows.slot_tuple_getitem ht.typeIs entry_tuple_getitem ?_ (args_tuple_getitem _ _)))
 show wpAny _ _ (Builtin.Tuple.tupleItemsOf (.ref t) >>= _) _ _ s
 refine wpAny_bind (tupleItemsOf_ ht ?_)
 refine wpAny_bind (wpAny_typeOf hTs ?_)
 rw [if_pos (by decide)]
 refine wpAny_bind (sliceApplied_step hs pl pk (by omega) (by omega) ?_)
 have pick:=pick_step items a m hm
 generalize hK:Builtin.Slice.slicePlaces (min (a:Int) (items.size:Int)) (items.size:Int) (m:Int)=K at pick ⊢
 by_cases hw:((min (a:Int) (items.size:Int) == 0)&&((m:Int) == 1)&&(K == items.size))=true
 · show wpAny _ _ (if ((min (a:Int) (items.size:Int) == 0)&&((m:Int) == 1)&&(K == items.size))=true then _ else _) _ _ s
   rw [if_pos hw]
   have e:items.size=0∨(a=0∧m=1):=by
    rw [Bool.and_eq_true,Bool.and_eq_true] at hw
    have q1:min (a:Int) (items.size:Int)=0:=eq_of_beq hw.1.1
    have q2:(m:Int)=1:=eq_of_beq hw.1.2
    omega
   refine wpAny_bind (m:=Builtin.Tuple.tupleIsExact _) ?_
   unfold Builtin.Tuple.tupleIsExact
   refine wpAny_bind (wpAny_typeOf ht.typeIs (wpAny_pure ?_))
   rw [if_pos (by decide)]
   first
    | exact wpAny_bind (wpAny_rule (wpAny_pure ⟨_,rfl,wpAny_pure (h1 e)⟩))
    | exact wpAny_bind (wpAny_rule (wpAny_bind (wpAny_pure ⟨_,rfl,wpAny_pure (h1 e)⟩)))
 · show wpAny _ _ (if ((min (a:Int) (items.size:Int) == 0)&&((m:Int) == 1)&&(K == items.size))=true then _ else _) _ _ s
   rw [if_neg hw,pick]
   first
    | exact wpAny_bind (m:=Builtin.Tuple.tupleExact _) (wpAny_newObj_type (wpAny_pure ⟨_,rfl,wpAny_pure h⟩) htake)
    | exact wpAny_bind (m:=Builtin.Tuple.tupleExact _) (wpAny_newObj_type (wpAny_bind (wpAny_pure (wpAny_pure ⟨_,rfl,wpAny_pure h⟩))) htake)
    | exact wpAny_bind (wpAny_bind (m:=Builtin.Tuple.tupleExact _) (wpAny_newObj_type (wpAny_pure (wpAny_pure ⟨_,rfl,wpAny_pure h⟩)) htake))
    | exact wpAny_bind (wpAny_bind (m:=Builtin.Tuple.tupleExact _) (wpAny_newObj_type (wpAny_pure ⟨_,rfl,wpAny_pure h⟩) htake))
end HT
namespace L2
open PySem PySem.Spec PyProof.Rows
theorem Vals.pick {xs:List V} {us:List Value} (r:Vals xs us) (g:Nat→Nat):∀ l:List Nat,Vals (l.filterMap fun k=>xs[g k]?) (l.filterMap fun k=>us[g k]?)
 | []=>.nil
 | k::l=>by
   rw [List.filterMap_cons,List.filterMap_cons]
   have ih:=Vals.pick r g l
   cases hx:xs[g k]? with
   | none=>
     have:us[g k]? = none:=by
      rw [List.getElem?_eq_none_iff] at hx ⊢
      rw [← r.length]
      exact hx
     rw [this]
     exact ih
   | some x=>
     obtain ⟨u,hu,ru⟩:=r.get hx
     rw [hu]
     exact .cons ru ih
section
variable {X:Cx} {e lo hi:Expr} {te tl tk:TE} {pos p2:Pos}
def tStp (te tl tk:TE):TE:=fun σ H Q=>te σ H fun x H1=>tl σ H1 fun l H2=>tk σ H2 fun m H3=>∃ (p:Addr) (xs:List V) (a c:Nat),x=.ref p∧l=.int a∧m=.int c∧1≤c∧H3 p=some (.tup xs)∧∀ r H',Same H3 H'→H' r=some (.tup (HT.strd xs a c))→Q (.ref r) H'
theorem pe_stp (he:PE X e te) (hl:PE X lo tl) (hk:PE X hi tk):PE X (.Subscript e (.Slice (some lo) none (some hi) p2) pos) (tStp te tl tk):=by
 intro pins s σ H Q I h
 refine Subscript_ (thn (he pins s σ H _ I h) fun v s1 ⟨x,H1,I1,r1,q1⟩=>?_)
 refine wpAny_Slice ?_
 rw [evalPart_some]
 refine thn (hl pins s1 σ H1 _ I1 q1) fun vl s2 ⟨l,H2,I2,r2,q2⟩=>?_
 rw [evalPart_none]
 refine wpAny_pure ?_
 rw [evalPart_some]
 refine thn (hk pins s2 σ H2 _ I2 q2) fun vk s3 ⟨m,H3,I3,r3,q3⟩=>?_
 obtain ⟨p,xs,a,c,rfl,rfl,rfl,hc,hp,q⟩:=q3
 cases r1
 obtain ⟨t2,rfl⟩:=r2
 obtain ⟨t3,rfl⟩:=r3
 have I4:Inv X pins σ H3 { s3 with heap:=s3.heap.push { cls:=.type "slice",data:=.fields #[.int a t2,.none,.int c t3] } }:=I3.kept (t':=s3.toks) fun b ob q=>Heap.get?_push_of_some _ q
 obtain ⟨its,rv,ht,hz⟩:=I4.tuple (SqT.of hp)
 have hlen:its.toArray.size=xs.length:=by rw [List.size_toArray];exact rv.length.symm
 have rs:Vals (HT.strd xs a c) (HT.strd its a c):=by
  unfold HT.strd
  rw [← rv.length]
  exact rv.pick (fun k=>a+k*c) _
 refine tail_any (ops:=[.ref p,.ref s3.heap.objs.size]) ht.typeIs PyProof.Rows.slot_tuple_getitem.lookup (HT.getItem_tuple_step ht (Heap.IsSliceOf.new ..) (.int a t2) (.int c t3) hc (fun ew=>?_) ?_ (by rw [hlen];exact hz)) (by with_unfolding_all rfl)
 · refine ⟨.ref p,H3,I4,rfl,q p H3 (Same.refl _) ?_⟩
   rw [hp]
   congr 2
   rcases ew with h0 | ⟨rfl,rfl⟩
   · have:xs=[]:=by rw [← List.length_eq_zero_iff,← hlen];exact h0
     rw [this]
     rfl
   · exact (HT.strd_one xs).symm
 · refine ⟨.ref _,_,I4.laid (t':=s3.toks) (o:=.tup (HT.strd xs a c)) (fun b ob q=>Heap.get?_push_of_some _ q) (Nat.le_refl _) ?_,rfl,q _ _ (Same.new (I4.hok.fresh (Nat.le_refl _)) _) upd_same⟩
   refine ⟨?_,_,rs,TupD.new _ _⟩
   unfold HT.strd
   refine Nat.le_trans (List.length_filterMap_le _ _) ?_
   rw [List.length_range]
   exact hz
theorem ze_stp (he:ZE X e te) (hl:ZE X lo tl) (hk:ZE X hi tk):ZE X (.Subscript e (.Slice (some lo) none (some hi) p2) pos) (tStp te tl tk):=by with_unfolding_all exact pe_stp he hl hk
end
end L2
namespace EN1
open PySem PyProof.Rows
section
variable {prog:Program} {w:World} {A:Around} {E:Value→Shared→Prop} {s:Shared}
theorem callType_kw {T newId initId:String} {Bn Bi:Builtin} {args:List Value} {kw:List (Str×Value)} {S:PySem.Spec} {Q Q₁:Value→Shared→Prop} (ft:TypeCalled T newId initId)
 (hct:checkTypeCall T ⟨args,kw⟩=pure ()) (hcn:checkBuiltinCall newId ⟨.type T::args,kw⟩=pure ())
 (entryN:entryFor table newId=some Bn) (entryI:entryFor table initId=some Bi) (g:Meets (Bn ⟨.type T::args,kw⟩) S)
 (h:S A.in1 (wants Q₁ E) s)
 (hnext:∀ obj s₁,Q₁ obj s₁→s₁.TypeIs obj T∧argsOk initId ⟨obj::args,kw⟩∧∃ Si,Meets (Bi ⟨obj::args,kw⟩) Si∧Si A.in1 (wants (fun r s₂=>r=.none∧Q obj s₂) E) s₁) :
 wpAny (model prog w) A (call (.type T) args kw) Q E s:=by
 obtain ⟨c,tl,hmro⟩:=ft.mro
 have hmade:=ft.made
 have hsub:=ft.sub
 refine wpAny_call (codeAny_of_tree ?_)
 show wpAny _ _ (callAny (.type T) _) _ _ _
 refine wpAny_pure ⟨Code.quiet_builtin _ (by decide +kernel),codeAny_builtin PySem.F.entry_type_call ?_⟩
 rw [Around.under_plain (weight_type_call_type T args kw) (units_type_call_type T args kw)]
 have h1:=ft.notType
 have h2:=ft.canCreate
 repeat (any_goals (first | assumption | wp_step))
 refine codeAny_mono (codeAny_call_builtin ft.plain entryN (wpAny_of_eq hcn (g prog w A.in1 _ s h))) fun r s₁ hr=>?_
 cases r with
 | error e=>exact hr
 | ok fl=>
   cases fl with
   | ret obj=>
     obtain ⟨hT,hok,Si,gi,hsi⟩:=hnext _ _ hr
     have hli:=ft.init.lookup
     have hbi:=ft.init.bind obj
     repeat (any_goals (first | assumption | wp_step))
     refine codeAny_mono (codeAny_call_builtin ft.init.plain entryI (ft.init.check _ _ _ _ _ _ _ _ hT hok (gi prog w A.in1 _ s₁ hsi))) fun r₂ s₂ hr₂=>?_
     cases r₂ with
     | error e=>exact hr₂
     | ok fl₂=>
       cases fl₂ with
       | ret r=>
         obtain ⟨rfl,hq⟩:=hr₂
         repeat (any_goals (first | assumption | wp_step))
       | _=>exact hr₂.elim
   | _=>exact hr.elim
theorem init_kw {T newId:String} {self:Value} {a:Value} {rest:List Value} {kw:List (Str×Value)} (hl:typeLookup (.type T) "__init__" = pure (some (.builtin "object.__init__")))
 (hm:Bind.madeBy (.type T)=pure (some newId)) (hne:(some newId != some "object.__new__")=true) :
 Meets (Builtin.«object.__init__» ⟨self::a::rest,kw⟩) (fun _ R s=>s.TypeIs self T∧R (.ok (.ret .none)) s):=by
 refine Meets.of_wp fun prog w A R s hs=>?_
 obtain ⟨hT,hq⟩:=hs
 repeat (any_goals (first | assumption | wp_step))
 exact ⟨_,rfl,hq⟩
theorem typeCall_1 (a b:Value):checkTypeCall "enumerate" ⟨[a],[("start",b)]⟩=pure ():=by kernel_rfl
theorem newCall_1 (a b:Value):checkBuiltinCall "enumerate.__new__" ⟨[.type "enumerate",a],[("start",b)]⟩=pure ():=by kernel_rfl
theorem init_1 (o a b:Value):argsOk "object.__init__" ⟨[o,a],[("start",b)]⟩:=by unfold argsOk;kernel_rfl
theorem meets_new1 (l:Addr) (items:Array Value) (n:Nat) (dct:Option Addr) (sl:Array (Option Value)) (t:Tok) :
 Meets (Builtin.«enumerate.__new__» ⟨[.type "enumerate",.ref l],[("start",.int 1 t)]⟩) (fun _ R s=>s.heap.get? l=some { cls:=.type "tuple",dict:=dct,data:=.seq items n,slots:=sl } ∧
  R (.ok (.ret (.ref (s.heap.push { cls:=.type "tuple_iterator",data:=.fields #[.ref l,.int 0 0] }).objs.size)))
    { s with heap:=(s.heap.push { cls:=.type "tuple_iterator",data:=.fields #[.ref l,.int 0 0] }).push { cls:=.type "enumerate",data:=.fields #[.none,.bool false,.ref s.heap.objs.size,rawInt 1,.none,.none] } }):=
 .of_wp fun prog w A R s h=>by
  obtain ⟨hp,g,d,tk,os⟩:=s
  obtain ⟨hl,h⟩:=h
  have hsub:=sub_enumerate
  have hT:Heap.IsTuple (Shared.heap ⟨hp,g,d,tk,os⟩) l items:=⟨_,hl,rfl,n,rfl⟩
  wp_walk using AutoSeq1.wpAny_loadPart' hl
  refine wpAny_stack_any fun st=>wpAny_pure ?_
  split
  · rename_i c _ _ _ _ _
    cases (c == Value.type "enumerate") <;> (wp_walk using AutoSeq1.wpAny_loadPart' hl,wpAny_pyIter_tuple hT) <;> first | exact ⟨_,rfl,h⟩ | trace_state
  · wp_walk using AutoSeq1.wpAny_loadPart' hl,wpAny_pyIter_tuple hT
    first | exact ⟨_,rfl,h⟩ | trace_state
end
section
theorem draws1 {prog:Program} {w:World} {A:Around} (hh:A.handled=none) (it l:Addr) (hne:l≠it) (items:Array Value) :
 Draws prog w A it [it,l] (items.size+1) (fun i v=>1≤i∧items[i - 1]? = some v) (fun i h=>1≤i∧h.IsTupleIter it l (i - 1)∧h.IsTuple l items) where
 live:=fun _ _ st=>let ⟨o,ho,_⟩:=st.2.1;⟨o,ho⟩
 frame:=fun _ _ _ st k=>⟨st.1,st.2.1.at fun o e=>k it (List.mem_cons_self ..) o e,st.2.2.at fun o e=>k l (by simp) o e⟩
 item:=fun i s Q E hi st hQ=>by
  have h1:=st.1
  have hlt:i - 1<items.size:=by omega
  exact L2.nextOf_tup_item st.2.1 st.2.2 (x:=items[i - 1]) (by simp [hlt]) fun h' a b=>hQ _ h' s.toks ⟨h1,by simp [hlt]⟩ ⟨by omega,by rw [show i+1 - 1=i - 1+1 by omega];exact a,st.2.2.extBut b.extBut hne⟩ b
 done:=fun s Q E st hE=>L2.nextOf_tup_end hh st.2.1 st.2.2 (by simp) hE
theorem callWith_ty_kw {M:Model} {A:Around} {E:Value→Shared→Prop} {s:Shared} {env:Env} {pos:Pos} {T:String} {e:Expr} {rest:List Expr} {kws:List Keyword} {Q:Value→Shared→Prop}
 (h:wpAny M A (spliced (backTo pos (starEach (e::rest) env))) (fun vs s₁=>wpAny M A (evalAll ((backToKw pos (keywordEach kws env)).map (·.2)))
   (fun kvs s₂=>wpAny M A (call (.type T) vs (((backToKw pos (keywordEach kws env)).filterMap (·.1)).zip kvs)) Q E s₂) E s₁) E s)
 (he:backTo pos (starEach (e::rest) env)=(false,eval e env)::backTo pos (starEach rest env):=by rfl)
 (hplain:(backTo pos (starEach (e::rest) env)).any (·.1)=false:=by rfl)
 (hall:(backToKw pos (keywordEach kws env)).all (·.1.isSome)=true:=by rfl)
 (hkw:(backToKw pos (keywordEach kws env)).any (·.1.isNone)=false:=by rfl) :
 wpAny M A (callWith pos (.type T) [] (backTo pos (starEach (e::rest) env)) (backToKw pos (keywordEach kws env))) Q E s:=by
 have h2:wpAny M A (evalArgs (.type T) true (backTo pos (starEach (e::rest) env)) (backToKw pos (keywordEach kws env))) (fun a s₁=>wpAny M A (call (.type T) ([]++a.pos) a.kw) Q E s₁) E s:=by
  rw [he] at h ⊢
  exact evalArgs_kwB hall h
 unfold callWith
 refine wpAny_bind (wpAny_holding (wpAny_mono h2 (fun a s₁ h₁=>wpAny_bind (wpAny_standAt ?_)) fun _ _ x=>x))
 simp only [hplain,hkw,Bool.or_false]
 refine wpAny_bind (wpAny_pure ?_)
 exact wpAny_bind (wpAny_mono h₁ (fun r s₂ hr=>wpAny_bind (wpAny_holding (wpAny_point (wpAny_pure hr)))) fun _ _ x=>x)
end
end EN1
namespace L2
open PySem PySem.Spec PyProof.Rows
section
variable {X:Cx}
def Ite1 (a:Addr):It:=⟨fun i H=>∃ xs x,H a=some (.tup xs)∧xs[i]? = some x,fun i H v H'=>∃ p,H p=none∧v=.ref p∧∀ xs,H a=some (.tup xs)→∃ y,xs[i]? = some y∧H'=upd H p (.tup [.int ((i+1:Nat):Int),y]),fun i H=>∃ xs,H a=some (.tup xs)∧xs.length=i⟩
theorem turn_enum1 {P:Program} {w:World} {K:PySem.W.Frag} {elts:List Expr} {k:Nat} {pos:Pos} {e it a:Addr} (hei:e≠it) :
 Turn P w K (.Tuple elts k pos) (Ite1 a) [e,it] e (fun i h=>(∃ old,IsEnum h e it ((i+1:Nat):Int) old)∧h.IsTupleIter it a i) where
 mem:=List.mem_cons_self ..
 obj:=fun i h st b hb=>by
  obtain ⟨⟨old,he⟩,⟨o,ho,hc,hd⟩⟩:=st
  rcases List.mem_cons.mp hb with rfl | hb
  · exact ⟨_,he,fun v z=>by cases z⟩
  · have:b=it:=by simpa using hb
    subst this
    exact ⟨o,ho,fun v z=>by rw [hd] at z;cases z⟩
 keep:=fun i h h' st k=>⟨let ⟨old,he⟩:=st.1;⟨old,k e (by simp) _ he⟩,st.2.at fun o q=>k it (by simp) o q⟩
 item:=by
  intro X hP hw hK hc i pins s σ H E I hf st hg
  subst hP hw hK
  obtain ⟨xs,x,hq,hx⟩:=hg
  obtain ⟨⟨old,he⟩,hit⟩:=st
  obtain ⟨its,rv,p,hz⟩:=I.tuple (SqT.of hq)
  obtain ⟨u,hu,ru⟩:=rv.get hx
  have fe:=hf e (by simp)
  have fi:=hf it (by simp)
  have hae:a≠e:=fun z=>by rw [z,fe.1] at hq;cases hq
  have hai:a≠it:=fun z=>by rw [z,fi.1] at hq;cases hq
  have hlt:i<its.toArray.size:=by rw [List.size_toArray];exact (List.getElem?_eq_some_iff.mp hu).1
  have hT:s.heap.IsTuple a its.toArray:=p
  refine wpAny_pyNext_enum_itemD (i:=i+1) (EN1.draws1 (A:=X.A.in1) (I.ok.hd hc) it a hai its.toArray) he ⟨Nat.succ_pos i,hit,hT⟩ (Nat.succ_lt_succ hlt) hei (by simp [hei,Ne.symm hae]) fun x' h' tk hPx ho hst' hTup hsz hk=>?_
  have ex:x'=u:=by
   have:its[i]? = some x':=by simpa using hPx.2
   rw [hu] at this
   exact (Option.some.inj this).symm
  subst ex
  refine ⟨_,rfl,wpAny_letOwnedTupleGo_enum ho fun h2 he2 hs2=>?_⟩
  have hel:e<s.heap.objs.size:=Heap.lt_size he
  have I1:Inv X pins σ H { s with heap:=h2,toks:=tk+1 }:=I.turned2 (fun b o n1 n2 q=>(hs2.2 b n1).trans (hk b o n1 n2 q)) fe fi
  have hTd:TupD h2 s.heap.objs.size [.int ((i+1:Nat):Int) tk,x'].toArray:=⟨0,(hs2.2 _ (Nat.ne_of_gt hel)).trans hTup⟩
  have hn:H s.heap.objs.size=none:=I.hok.fresh (Nat.le_refl _)
  have I2:=I1.trackT (ys:=[.int ((i+1:Nat):Int),x]) (.cons ⟨tk,rfl⟩ (.cons ru .nil)) (by show 2≤sizeLine;decide) hTd (I.fpOk (Nat.le_refl _) hn)
  have hil:it<s.heap.objs.size:=by obtain ⟨o,q,_⟩:=hit;exact Heap.lt_size q
  refine ⟨.ref s.heap.objs.size,_,I2,rfl,⟨_,hn,rfl,fun ys hy=>?_⟩,⟨⟨x',by simpa using he2⟩,hst'.2.1.at fun o q=>(hs2.2 it (Ne.symm hei)).trans q⟩,fun b hb=>?_⟩
  · rw [hq] at hy
    cases hy
    exact ⟨x,hx,rfl⟩
  · rcases List.mem_cons.mp hb with rfl | hb
    · rw [upd_ne (Nat.ne_of_lt hel)];exact fe.1
    · have:b=it:=by simpa using hb
      subst this
      rw [upd_ne (Nat.ne_of_lt hil)];exact fi.1
 done:=by
  intro X hP hw hK hc i pins s σ H E I hf st hg
  subst hP hw hK
  obtain ⟨xs,hq,hx⟩:=hg
  obtain ⟨⟨old,he⟩,hit⟩:=st
  obtain ⟨its,rv,p,hz⟩:=I.tuple (SqT.of hq)
  have fe:=hf e (by simp)
  have fi:=hf it (by simp)
  have hai:a≠it:=fun z=>by rw [z,fi.1] at hq;cases hq
  have hn:its.toArray.size=i:=by rw [List.size_toArray,← rv.length];exact hx
  have hT:s.heap.IsTuple a its.toArray:=p
  refine wpAny_pyNext_enum_endD (EN1.draws1 (A:=X.A.in1) (I.ok.hd hc) it a hai its.toArray) he ⟨Nat.succ_pos _,by rw [hn];exact hit,hT⟩ fun h' hb=>⟨rfl,I.turned (t':=s.toks) (it:=it) (fun b o n q=>hb b o n q) fi.1 fi.2.1 fi.2.2.2.1 fi.2.2.2.2.1 fi.2.2.2.2.2⟩
 self:=fun A i s Q E st h=>let ⟨⟨_,he⟩,_⟩:=st;wpAny_pyIter_enum he h
theorem call_enum1 {prog:Program} {w:World} {A:Around} {E:Value→Shared→Prop} {s:Shared} {l:Addr} {tt:Tok} {items:Array Value} {Q:Value→Shared→Prop} (hL:s.heap.IsTuple l items)
 (h:∀ h',IsEnum h' (s.heap.objs.size+1) s.heap.objs.size 1 .none→h'.IsTupleIter s.heap.objs.size l 0→(∀ b o,s.heap.get? b=some o→h'.get? b=some o)→Q (.ref (s.heap.objs.size+1)) { s with heap:=h' }) :
 wpAny (model prog w) A (call (.type "enumerate") [.ref l] [("start",.int 1 tt)]) Q E s:=by
 obtain ⟨⟨c,dct,dt,sl⟩,hl,hc,n,hd⟩:=hL
 cases (show c=.type "tuple" from hc)
 cases (show dt=.seq items n from hd)
 have hz:(s.heap.push { cls:=.type "tuple_iterator",data:=.fields #[.ref l,.int 0 0] }).objs.size=s.heap.objs.size+1:=Heap.size_push ..
 refine EN1.callType_kw (Q₁:=fun obj s₁=>s₁.TypeIs obj "enumerate"∧Q obj s₁) F.called_enumerate (EN1.typeCall_1 _ _) (EN1.newCall_1 _ _) F.entry_enumerate_new F.entry_object_init (EN1.meets_new1 l items n dct sl tt) ⟨hl,?_⟩ fun obj s₁ hq=>⟨hq.1,EN1.init_1 obj _ _,_,EN1.init_kw F.called_enumerate.init.lookup F.called_enumerate.made (by decide),hq.1,rfl,hq.2⟩
 have g:=Heap.get?_push_size (s.heap.push { cls:=.type "tuple_iterator",data:=.fields #[.ref l,.int 0 0] }) (o:={ cls:=.type "enumerate",data:=.fields #[.none,.bool false,.ref s.heap.objs.size,rawInt 1,.none,.none] }) rfl
 rw [hz] at g
 show _∧_
 rw [hz]
 exact ⟨⟨_,g,rfl⟩,h _ g ⟨_,Heap.get?_push_of_some _ (Heap.get?_push_size _ rfl),rfl,rfl⟩ fun b o q=>Heap.get?_push_of_some _ (Heap.get?_push_of_some _ q)⟩
def iEnum1 (ta:TA):TI:=fun σ H R=>ta σ H fun vs H1=>match vs with
 | [.ref a]=>∃ xs,H1 a=some (.tup xs)∧R (Ite1 a) H1
 | _=>False
theorem pi_enum1 {l:Expr} {ta:TA} {elts:List Expr} {k:Nat} {kk:Nat} {tp p p2 p3 pos:Pos} (hg:Gl X "enumerate") (hm:X.mg "enumerate" = none) (ha:PA X [l] ta) (hs:starEach [l] X.env=[(false,eval l X.env)]:=by rfl) :
 PI X (.Tuple elts k tp) (.Call (.Name "enumerate" p) [l] [⟨some "start",.Constant (.int 1) kk p2,p3⟩] pos) (iEnum1 ta):=by
 intro pins s σ H R I h
 refine wpAny_Call_Name_kw (ld_blt I hg hm boot_enumerate' ?_ (by decide) (by decide))
 refine EN1.callWith_ty_kw (thn (ha pos pins s σ H _ I h) fun us s1 ⟨vs,H1,I1,r1,q1⟩=>?_) (by rw [hs];rfl) (by rw [hs];rfl) rfl rfl
 refine kws_cons (wpAny_Constant_int (kws_nil ?_))
 dsimp only at q1
 split at q1
 · rename_i a
   obtain ⟨xs,hx,q⟩:=q1
   obtain ⟨u,rfl,rx⟩:=vals1 r1
   cases rx
   obtain ⟨its,rv,pt,hz⟩:=I1.tuple (SqT.of hx)
   refine call_enum1 (show s1.heap.IsTuple a its.toArray from pt) fun h' he hit hk=>?_
   have I2:Inv X pins σ H1 { s1 with heap:=h',toks:=s1.toks+1 }:=I1.kept (t':=s1.toks+1) hk
   refine wpAny_pyIter_enum (s:={ s1 with heap:=h',toks:=s1.toks+1 }) he ⟨s1.heap.objs.size+1,[s1.heap.objs.size+1,s1.heap.objs.size],_,_,H1,rfl,I2,turn_enum1 (Nat.succ_ne_self _),⟨⟨_,he⟩,hit⟩,fun b hb=>?_,q⟩
   have hb':s1.heap.objs.size≤b:=by
    rcases List.mem_cons.mp hb with rfl | hb
    · exact Nat.le_succ _
    · have:b=s1.heap.objs.size:=by simpa using hb
      exact Nat.le_of_eq this.symm
   exact I1.fpOk hb' (I1.hok.fresh hb')
 · exact q1.elim
theorem zi_enum1 {l:Expr} {ta:TA} {elts:List Expr} {k:Nat} {kk:Nat} {tp p p2 p3 pos:Pos} (hg:Gl X "enumerate") (hm:X.mg "enumerate" = none) (ha:ZA X [l] ta) (hs:starEach [l] X.env=[(false,eval l X.env)]:=by rfl) :
 ZI X (.Tuple elts k tp) (.Call (.Name "enumerate" p) [l] [⟨some "start",.Constant (.int 1) kk p2,p3⟩] pos) (iEnum1 ta):=by with_unfolding_all exact pi_enum1 hg hm ha hs
theorem for_enum1 {a:Addr} {xs:List V} {g:TG} {tb:TS} {D:Ends} {σ:St} {H:Hp} (Pv:Nat→St→Hp→Prop) (h0:Pv 0 σ H) (hl:∀ i σ H,i≤xs.length→Pv i σ H→H a=some (.tup xs))
 (hs:∀ i x σ H p,xs[i]? = some x→Pv i σ H→H p=none→g (.ref p) σ (upd H p (.tup [.int ((i+1:Nat):Int),x])) fun σ2 H2=>tb { D with nx:=Pv (i+1),ct:=Pv (i+1),bk:=D.nx } σ2 H2) (hd:∀ σ H,Pv xs.length σ H→D.nx σ H) :
 ∃ W:Nat→Nat→St→Hp→Prop,(∃ m,W 0 m σ H)∧∀ i m σ H,W i m σ H →
   ((Ite1 a).stop i H∧D.nx σ H)∨((Ite1 a).go i H∧∃ N:St→Hp→Prop,(∀ σ' H',N σ' H'→∃ m',m' < m∧W (i+1) m' σ' H')∧∀ x H',(Ite1 a).yld i H x H'→g x σ H' fun σ2 H2=>tb { D with nx:=N,ct:=N,bk:=D.nx } σ2 H2):=by
 refine ⟨fun i m σ H=>m=xs.length - i∧i≤xs.length∧Pv i σ H,⟨xs.length,by simp,Nat.zero_le _,h0⟩,?_⟩
 rintro i m σ H ⟨rfl,hi,p⟩
 have q:=hl i σ H hi p
 by_cases hlt:i<xs.length
 · refine .inr ⟨⟨xs,xs[i],q,by simp [hlt]⟩,Pv (i+1),fun σ' H' p'=>⟨xs.length - (i+1),by omega,rfl,hlt,p'⟩,fun x H' y=>?_⟩
   obtain ⟨pp,hn,rfl,hy⟩:=y
   obtain ⟨z,hz,rfl⟩:=hy xs q
   exact hs i z σ H pp hz p hn
 · have e:i=xs.length:=by omega
   subst e
   exact .inl ⟨⟨xs,q,rfl⟩,hd σ H p⟩
end
end L2
namespace L2
open PySem PySem.Spec PyProof.Rows
section
variable {X:Cx}
theorem op_in_seq' {K:PySem.W.Frag} (h:X.K=K):OpR X (compareOp .In) (rIn K false):=by subst h;exact op_in_seq
variable {e:Expr} {es:List Expr} {t:TA} {p pos:Pos}
end
end L2
namespace MRow
def putN:Nat→(Nat→Int)→Nat→Nat→Int
 | 0,f,_,n=>f n
 | k+1,f,s,n=>f n+(if s≤n then putN k f s (n - s) else 0)
def put (f:Nat→Int) (s n:Nat):Int:=putN n f s n
theorem putN_more {f:Nat→Int} {s:Nat} (hs:0<s):∀ (k n:Nat),n≤k→putN k f s n=putN n f s n
 | 0,n,h=>by have:n=0:=by omega
             subst this;rfl
 | k+1,0,_=>by
   show f 0+(if s≤0 then _ else 0)=f 0
   rw [if_neg (by omega)];omega
 | k+1,n+1,h=>by
   show f (n+1)+(if s≤n+1 then putN k f s (n+1 - s) else 0)=f (n+1)+(if s≤n+1 then putN n f s (n+1 - s) else 0)
   by_cases hn:s≤n+1
   · rw [if_pos hn,if_pos hn,putN_more hs k _ (by omega),putN_more hs n _ (by omega)]
   · rw [if_neg hn,if_neg hn]
theorem put_eq (f:Nat→Int) {s:Nat} (hs:0<s) (n:Nat):put f s n=f n+(if s≤n then put f s (n - s) else 0):=by
 unfold put
 rw [← putN_more hs (n+1) n (by omega)]
 show f n+(if s≤n then putN n f s (n - s) else 0)=_
 by_cases hn:s≤n
 · rw [if_pos hn,if_pos hn,putN_more hs n _ (by omega)]
 · rw [if_neg hn,if_neg hn]
def dl:Nat→Int:=fun n=>if n=0 then 1 else 0
def R:Nat→Nat→Int
 | 0=>dl
 | s+1=>put (R s) (s+1)
def tb (f:Nat→Int) (L:Nat):List Int:=(List.range L).map f
theorem tb_len (f:Nat→Int) (L:Nat):(tb f L).length=L:=by simp [tb]
theorem tb_at {f:Nat→Int} {L j:Nat} (h:j<(tb f L).length):(tb f L)[j]=f j:=by simp [tb]
theorem tb_get {f:Nat→Int} {L j:Nat} (h:j<L):(tb f L)[j]? = some (f j):=by
 rw [List.getElem?_eq_getElem (by rw [tb_len];exact h),tb_at]
theorem tb_succ (f:Nat→Int) (L:Nat):tb f (L+1)=tb f L++[f L]:=by simp [tb,List.range_succ]
theorem tb_ext {f g:Nat→Int} {L:Nat} (h:∀ j,j<L→f j=g j):tb f L=tb g L:=by
 unfold tb
 exact List.map_congr_left fun j hj=>h j (List.mem_range.mp hj)
theorem tb_dl (n:Nat):tb dl (n+1)=1::List.replicate n 0:=by
 refine List.ext_getElem (by simp [tb]) fun i h1 h2=>?_
 rw [tb_at]
 cases i with
 | zero=>rfl
 | succ i=>simp [dl]
def up (f g:Nat→Int) (k:Nat):Nat→Int:=fun j=>if j<k then g j else f j
theorem tb_set {f g:Nat→Int} {L k:Nat} (h:k<L):(tb (up f g k) L).set k (g k)=tb (up f g (k+1)) L:=by
 refine List.ext_getElem (by rw [List.length_set,tb_len,tb_len]) fun i h1 h2=>?_
 rw [List.getElem_set,tb_at h2]
 unfold up
 by_cases hk:k=i
 · subst hk;simp
 · rw [if_neg hk,tb_at]
   by_cases hi:i<k
   · rw [if_pos hi,if_pos (by omega)]
   · rw [if_neg hi,if_neg (by omega)]
theorem put_low (f:Nat→Int) {s n:Nat} (hs:0<s) (h:n<s):put f s n=f n:=by rw [put_eq f hs,if_neg (by omega)];omega
theorem up_start (f:Nat→Int) {s:Nat} (hs:0<s) (L:Nat):tb (up f (put f s) s) L=tb f L:=tb_ext fun j _=>by
 unfold up
 by_cases h:j<s
 · rw [if_pos h,put_low f hs h]
 · rw [if_neg h]
theorem up_all (f g:Nat→Int) {k L:Nat} (h:L≤k):tb (up f g k) L=tb g L:=tb_ext fun j hj=>by
 unfold up
 rw [if_pos (by omega)]
end MRow
set_option exponentiation.threshold 3000
namespace M27
open PySem L2 MRow
def Bad (ns:List Int) (m a q:Int) (j:Nat):Prop:=∃ x,ns[j]? = some x∧(j:Int) % m=a∧x % q≠0
def IsF (ns:List Int) (m a q:Int) (v:V):Prop:=(v=.non∧∀ j,¬ Bad ns m a q j)∨∃ p:Nat,p<ns.length∧v=.int p∧Bad ns m a q p∧∀ j,j<p→¬ Bad ns m a q j
theorem IsF.one {ns:List Int} {m a q:Int} {v u:V} (h:IsF ns m a q v) (k:IsF ns m a q u):v=u:=by
 rcases h with ⟨rfl,h⟩ | ⟨p,_,rfl,h1,h2⟩ <;> rcases k with ⟨rfl,k⟩ | ⟨p',_,rfl,k1,k2⟩
 · rfl
 · exact absurd k1 (h _)
 · exact absurd h1 (k _)
 · have:p=p':=by
    by_cases l:p<p'
    · exact absurd h1 (k2 _ l)
    · by_cases l2:p' < p
      · exact absurd k1 (h2 _ l2)
      · omega
   rw [this]
def CB (m a q:Int):Prop:=1≤m∧m≤600∧0≤a∧a<m∧2≤q∧q≤1000000
theorem size_up {a b m:Int} (hm:1≤m):Builtin.Range.rangeSize a b m=if a<b then (b - a - 1) / m+1 else 0:=by
 unfold Builtin.Range.rangeSize
 rw [if_pos (by omega)]
theorem size_lt {a b m:Int} {i:Nat} (hm:1≤m) (h:i<(Builtin.Range.rangeSize a b m).toNat):a+(i:Int)*m<b:=by
 rw [size_up hm] at h
 by_cases hab:a<b
 · rw [if_pos hab] at h
   have h0:0≤(b - a - 1) / m:=Int.ediv_nonneg (by omega) (by omega)
   have h1:(i:Int)≤(b - a - 1) / m:=by omega
   have h2:(i:Int)*m≤(b - a - 1) / m*m:=Int.mul_le_mul_of_nonneg_right h1 (by omega)
   have h3:=Int.ediv_mul_le (b - a - 1) (b:=m) (by omega)
   omega
 · rw [if_neg hab] at h
   simp at h
theorem size_all {a b m:Int} (hm:1≤m) {j:Int} (h:j<b):j<a+((Builtin.Range.rangeSize a b m).toNat:Int)*m:=by
 rw [size_up hm]
 by_cases hab:a<b
 · rw [if_pos hab]
   have h0:0≤(b - a - 1) / m:=Int.ediv_nonneg (by omega) (by omega)
   have e:(((b - a - 1) / m+1).toNat:Int)=(b - a - 1) / m+1:=by omega
   rw [e]
   have:=Int.lt_ediv_add_one_mul_self (b - a - 1) (b:=m) (by omega)
   omega
 · rw [if_neg hab]
   simp
   omega
theorem small_up {a b m:Int} (hm:1≤m) (hm':m≤1000000) (ha:0≤a) (ha':a≤1000000) (hb:0≤b) (hb':b≤1000000):Builtin.Range.small a b m=true:=by
 have e:=size_up (a:=a) (b:=b) hm
 unfold Builtin.Range.small
 rw [e]
 by_cases hab:a<b
 · rw [if_pos hab]
   have h0:0≤(b - a - 1) / m:=Int.ediv_nonneg (by omega) (by omega)
   have h1:(b - a - 1) / m≤b - a - 1:=Int.ediv_le_self _ (by omega)
   simp only [Builtin.Range.rangeFitsLong,Bool.and_eq_true,Bool.or_eq_true,decide_eq_true_eq,beq_iff_eq,show m > 0 by omega,if_true]
   generalize (b - a - 1) / m=k at h0 h1
   omega
 · rw [if_neg hab]
   simp only [Builtin.Range.rangeFitsLong,Bool.and_eq_true,Bool.or_eq_true,decide_eq_true_eq,beq_iff_eq,show m > 0 by omega,if_true]
   omega
theorem next_ok {ns:List Int} {m a q:Int} (hm:1≤m) {i P:Nat} (hP:(P:Int)=a+(i:Int)*m) (h:∀ j:Nat,(j:Int)<a+(i:Int)*m→¬ Bad ns m a q j) (hb:¬ Bad ns m a q P) :
 ∀ j:Nat,(j:Int)<a+((i+1:Nat):Int)*m→¬ Bad ns m a q j:=by
 intro j hj hB
 by_cases hl:(j:Int)<a+(i:Int)*m
 · exact h j hl hB
 · have hc:(j:Int) % m=a:=by obtain ⟨_,_,e,_⟩:=hB;exact e
   have e:=Int.mul_ediv_add_emod (j:Int) m
   rw [hc] at e
   have h1:m*(i:Int)≤m*((j:Int) / m):=by rw [Int.mul_comm m (i:Int)];omega
   have h2:m*((j:Int) / m)<m*((i:Int)+1):=by
    rw [Int.mul_comm m ((i:Int)+1)]
    have:(((i+1:Nat):Int))=(i:Int)+1:=by omega
    rw [this] at hj
    omega
   have h3:=Int.le_of_mul_le_mul_left h1 (by omega)
   have h4:=Int.lt_of_mul_lt_mul_left h2 (by omega)
   have h5:(j:Int) / m=i:=by omega
   rw [h5,Int.mul_comm] at e
   have:j=P:=by omega
   subst this
   exact hb hB
theorem class_mod {m a:Int} (h0:0≤a) (h1:a<m) (i:Int):(a+i*m) % m=a:=by
 rw [Int.add_mul_emod_self_right]
 exact Int.emod_eq_of_lt h0 h1
end M27
namespace M80
open MRow
def off (g:Nat→Int) (s n:Nat):Int:=g n - if s≤n then g (n - s) else 0
theorem put_of {F c:Nat→Int} {s:Nat} (hs:0<s) (h:off F s=c):F=put c s:=by
 funext n
 induction n using Nat.strongRecOn with
 | ind n ih=>
   have e:=congrFun h n
   unfold off at e
   rw [put_eq c hs]
   by_cases hn:s≤n
   · rw [if_pos hn] at e ⊢
     rw [← ih (n - s) (by omega)]
     omega
   · rw [if_neg hn] at e ⊢
     omega
theorem off_put (g:Nat→Int) {s:Nat} (hs:0<s):off (put g s) s=g:=by
 funext n
 unfold off
 rw [put_eq g hs n]
 omega
theorem put_off (g:Nat→Int) {s:Nat} (hs:0<s):put (off g s) s=g:=(put_of hs rfl).symm
def PL (g:Nat→Int) (ss:List Nat):Nat→Int:=ss.foldl put g
theorem PL_app (g:Nat→Int) (a b:List Nat):PL g (a++b)=PL (PL g a) b:=by unfold PL;rw [List.foldl_append]
def ups (n:Nat):List Nat:=(List.range n).map (· + 1)
theorem ups_succ (n:Nat):ups (n+1)=ups n++[n+1]:=by unfold ups;rw [List.range_succ,List.map_append];rfl
theorem ups_pos {n x:Nat} (h:x∈ups n):0<x∧x≤n:=by
 obtain ⟨i,hi,rfl⟩:=List.mem_map.mp h
 have:=List.mem_range.mp hi
 omega
def below (m:Nat) (ss:List Nat) (g:Nat→Int):Nat→Int:=ss.foldl (fun g s=>off (put g s) (m*s)) g
end M80
namespace K31
open PySem L2 MRow M27 M80
section
variable {P:Program} {w:World} {K:PySem.W.Frag} {mg:Str→Option Value} {base:Heap} {f:Addr} {fd:FuncData}
theorem sc_begun:FnScope ["most"] ["most"] (defScope (top 18)):=⟨rfl,rfl,rfl,by decide +kernel,rfl,by decide +kernel,by decide +kernel⟩
def sp_begun:Sp:=fun vs H Q _=>∃ n:Nat,vs=[.int n]∧n≤1000∧∀ p H',H p=none→Same H H'→H' p=some (.lst ((tb dl (n+1)).map V.int))→Q (.ref p) H'
theorem fresh_back {H H':Hp} {p:Addr} (y:Same H H') (h:H' p=none):H p=none:=by
 cases e:H p with
 | none=>rfl
 | some o=>
   have:=y _ _ e
   rw [h] at this
   cases this
theorem ok_begun (F:Fun K "begun" "begun" (top 18) f fd)  : FnOk P w K mg base CX0 1 f fd ["most"] sp_begun:=by
 refine F.okz sc_begun (fun vs H Q E h=>?_) (fun cdv A outer s H vs Q E hr h=>?_)
 · obtain ⟨n,rfl,_⟩:=h;rfl
 obtain ⟨n,rfl,hn,q⟩:=h
 have nd:=sc_begun.nd
 refine ⟨_,(zss_one (zs_ret (ze_op op_addP (ze_lst (za_cons ze_int za_nil)) (ze_op op_mulQ (ze_lst (za_cons ze_int za_nil)) (zn 0))))),?_⟩
 refine ⟨by show 1≤sizeLine;decide,fun d hd=>?_⟩
 have g1:=Same.new hd (.lst [.int 1])
 refine ⟨by show 1≤sizeLine;decide,fun d2 hd2=>?_⟩
 have g2:=Same.new hd2 (.lst [.int 0])
 refine ⟨⟨by omega,by omega⟩,.inl ⟨_,upd_same,le_line (by show 1*(n:Int).toNat≤1000;omega),fun d3 hd3=>?_⟩⟩
 have g3:=Same.new hd3 (.lst (List.replicate (n:Int).toNat [V.int 0]).flatten)
 refine .inl ⟨_,_,g3 _ _ (g2 _ _ upd_same),upd_same,?_,fun d4 hd4=>?_⟩
 · rw [len_rep,sizeLine_eq];show 1+_*1≤_;omega
 · refine q d4 _ (fresh_back ((g1.trans g2).trans g3) hd4) (((g1.trans g2).trans g3).trans (Same.new hd4 _)) ?_
   rw [upd_same,rep_flat,tb_dl]
   rfl
theorem sc_put_on:FnScope ["row","size","told","n"] ["row","size"] (defScope (top 19)):=⟨rfl,rfl,rfl,by decide +kernel,rfl,by decide +kernel,by decide +kernel⟩
def sp_put_on:Sp:=fun vs H Q _=>∃ (a:Addr) (s L:Nat) (g:Nat→Int),vs=[.ref a,.int s]∧0<s∧s≤1000000∧L≤1000∧H a=some (.lst ((tb g L).map V.int))∧∀ p H',H p=none→Same H H'→H' p=some (.lst ((tb (put g s) L).map V.int))→Q (.ref p) H'
theorem ok_put_on (F:Fun K "put_on" "put_on" (top 19) f fd) (m_len:mg "len" = none) (m_list:mg "list" = none) (m_range:mg "range" = none):FnOk P w K mg base CX0 1 f fd ["row","size"] sp_put_on:=by
 refine F.okz sc_put_on (fun vs H Q E h=>?_) (fun cdv A outer s H vs Q E hr h=>?_)
 · obtain ⟨a,z,L,g,rfl,_⟩:=h;rfl
 obtain ⟨a,z,L,g,rfl,hz,hz2,hL,ha,q⟩:=h
 have nd:=sc_put_on.nd
 refine ⟨_,(zss_cons (zs_set (i:=2) nd rfl (Or.inl rfl) (zcb_list rfl m_list (za_cons (zn 0) za_nil) rfl rfl))
  (zss_cons (zs_for PassesOwn.never rfl (zi_range2 rfl m_range (za_cons (zn 1) (za_cons (zcb_len rfl m_len (za_cons (zn 0) za_nil) rfl rfl) za_nil))) (zg_name (i:=3) nd rfl (Or.inl rfl)) (zss_one (zs_augS (zn 2) (zn 3) get_list (ze_ix ix_P (zn 2) (ze_op op_subP (zn 3) (zn 1)) (fun _ _=>rfl)) ip_addP set_listP)))
  (zss_one (zs_ret (zn 2))))),?_⟩
 refine ⟨_,.inl (SqL.of ha),fun p hp=>?_⟩
 have y0:=Same.new hp (.lst ((tb g L).map V.int))
 refine ⟨_,.inl (SqL.of (y0 _ _ ha)),?_⟩
 rw [List.length_map,tb_len]
 refine ⟨(z:Int),(L:Int),rfl,⟨by omega,by omega,by omega,by omega⟩,?_⟩
 refine for_range (fun i σ H'=>Same H H'∧H' p=some (.lst ((tb (up g (put g z) (z+i)) L).map V.int))∧∃ pp,σ=[some (.ref a),some (.int z),some (.ref p),pp]) ⟨y0,by rw [Nat.add_zero,up_start g hz];exact upd_same,none,rfl⟩ ?_ ?_
 · rintro i σ H' hi ⟨y,hp',pp,rfl⟩
   have hn:z+i<L:=by omega
   have hget:∀ j,j<L→((tb (up g (put g z) (z+i)) L).map V.int)[j]? = some (.int (up g (put g z) (z+i) j)):=fun j hj=>by rw [List.getElem?_map,tb_get hj];rfl
   have e1:((z:Int)+(i:Int)).toNat=z+i:=by omega
   refine ⟨_,_,SqL.of hp',by omega,by rw [e1];exact hget _ hn,?_⟩
   refine ⟨_,.inl (SqL.of hp'),.int (up g (put g z) (z+i) i),atI_of (j:=i) (by omega) (hget i (by omega)),?_⟩
   refine ⟨_,hp',by omega,by rw [e1,List.length_map,tb_len];exact hn,Same.updN y hp,?_,_,rfl⟩
   rw [upd_same,e1]
   have e2:up g (put g z) (z+i) (z+i)+up g (put g z) (z+i) i=put g z (z+i):=by
    unfold up
    rw [if_neg (Nat.lt_irrefl _),if_pos (by omega),put_eq g hz (z+i),if_pos (by omega),Nat.add_sub_cancel_left]
   dsimp only
   rw [e2,← List.map_set,tb_set hn]
   rfl
 · rintro σ H' ⟨y,hp',pp,rfl⟩
   refine q p H' hp y ?_
   rw [hp',up_all _ _ (by omega)]
end
theorem tb_put {f:Nat→Int} {L n:Nat} (v:Int) (h:n<L):(tb f L).set n v=tb (fun j=>if j=n then v else f j) L:=by
 refine List.ext_getElem (by rw [List.length_set,tb_len,tb_len]) fun j h1 h2=>?_
 rw [List.getElem_set]
 by_cases e:n=j
 · rw [if_pos e,tb_at h2,if_pos e.symm]
 · rw [if_neg e,tb_at,tb_at,if_neg (Ne.symm e)]
section
variable {P:Program} {w:World} {K:PySem.W.Frag} {mg:Str→Option Value} {base:Heap} {f:Addr} {fd:FuncData}
theorem sc_to:FnScope ["row","size","told","n"] ["row","size"] (defScope (top 20)):=⟨rfl,rfl,rfl,by decide +kernel,rfl,by decide +kernel,by decide +kernel⟩
def sp_to:Sp:=fun vs H Q _=>∃ (a:Addr) (s L:Nat) (g:Nat→Int),vs=[.ref a,.int s]∧0<s∧s≤1000000∧L≤1000∧(H a=some (.lst ((tb g L).map V.int))∨H a=some (.tup ((tb g L).map V.int)))∧∀ p H',H p=none→Same H H'→H' p=some (.lst ((tb (off g s) L).map V.int))→Q (.ref p) H'
theorem ok_to (F:Fun K "taken_off" "taken_off" (top 20) f fd) (m_len:mg "len" = none) (m_list:mg "list" = none) (m_range:mg "range" = none):FnOk P w K mg base CX0 1 f fd ["row","size"] sp_to:=by
 refine F.okz sc_to (fun vs H Q E h=>?_) (fun cdv A outer s H vs Q E hr h=>?_)
 · obtain ⟨a,z,L,g,rfl,_⟩:=h;rfl
 obtain ⟨a,z,L,g,rfl,hz,hz2,hL,ha,q⟩:=h
 have nd:=sc_to.nd
 refine ⟨_,(zss_cons (zs_set (i:=2) nd rfl (Or.inl rfl) (zcb_list rfl m_list (za_cons (zn 0) za_nil) rfl rfl))
  (zss_cons (zs_for PassesOwn.never rfl (zi_range3 rfl m_range (za_cons (ze_op op_subP (zcb_len rfl m_len (za_cons (zn 0) za_nil) rfl rfl) ze_int) (za_cons (ze_op op_subP (zn 1) ze_int) (za_cons (ze_un un_neg ze_int) za_nil)))) (zg_name (i:=3) nd rfl (Or.inl rfl)) (zss_one (zs_augS (zn 2) (zn 3) get_list (ze_ix ix_P (zn 2) (ze_op op_subP (zn 3) (zn 1)) (fun _ _=>rfl)) ip_subP set_listP)))
  (zss_one (zs_ret (zn 2))))),?_⟩
 refine ⟨_,ha.elim (fun h=>.inl (SqL.of h)) .inr,fun p hp=>?_⟩
 have y0:=Same.new hp (.lst ((tb g L).map V.int))
 refine ⟨_,ha.elim (fun h=>.inl (SqL.of (y0 _ _ h))) (fun h=>.inr (y0 _ _ h)),?_⟩
 rw [List.length_map,tb_len]
 refine ⟨1,rfl,?_⟩
 refine ⟨(L:Int) - 1,(z:Int) - 1,-1,rfl,⟨by decide,⟨by decide,by decide⟩,small_down (by omega) (by omega) (by omega) (by omega)⟩,?_⟩
 rw [size_down]
 have eN:((L:Int) - 1 - ((z:Int) - 1)).toNat=L - z:=by omega
 rw [eN]
 refine for_rangeS (fun i σ H'=>i≤L - z∧Same H H'∧H' p=some (.lst ((tb (fun n=>if L≤n+i then off g z n else g n) L).map V.int))∧∃ pp,σ=[some (.ref a),some (.int z),some (.ref p),pp]) ⟨Nat.zero_le _,y0,?_,none,rfl⟩ ?_ ?_
 · rw [upd_same]
   congr 3
   exact tb_ext fun j hj=>by rw [if_neg (by omega)]
 · rintro i σ H' hi ⟨_,y,hp',pp,rfl⟩
   obtain ⟨n,en⟩:∃ n,L=n+1+i:=⟨L - 1 - i,by omega⟩
   have e0:(L:Int) - 1+(i:Int) * -1=(n:Int):=by omega
   rw [e0]
   have hnz:z≤n:=by omega
   have hget:∀ j,j<L→((tb (fun n=>if L≤n+i then off g z n else g n) L).map V.int)[j]? = some (.int (if L≤j+i then off g z j else g j)):=fun j hj=>by rw [List.getElem?_map,tb_get hj];rfl
   have e1:((n:Int)).toNat=n:=Int.toNat_natCast n
   refine ⟨_,_,SqL.of hp',by omega,by rw [e1];exact hget n (by omega),?_⟩
   refine ⟨_,.inl (SqL.of hp'),.int (if L≤(n - z)+i then off g z (n - z) else g (n - z)),atI_of (j:=n - z) (by omega) (hget (n - z) (by omega)),?_⟩
   refine ⟨_,hp',by omega,by rw [e1,List.length_map,tb_len];omega,by omega,Same.updN y hp,?_,_,rfl⟩
   rw [upd_same,e1]
   dsimp only
   rw [if_neg (by omega),if_neg (by omega),← List.map_set,tb_put _ (by omega)]
   congr 3
   refine tb_ext fun j hj=>?_
   by_cases ej:j=n
   · rw [if_pos ej,if_pos (by omega),ej]
     unfold off
     rw [if_pos hnz]
   · rw [if_neg ej]
     by_cases h:L≤j+i
     · rw [if_pos h,if_pos (by omega)]
     · rw [if_neg h,if_neg (by omega)]
 · rintro σ H' ⟨_,y,hp',pp,rfl⟩
   refine q p H' hp y ?_
   rw [hp']
   congr 3
   refine tb_ext fun j hj=>?_
   by_cases h:L≤j+(L - z)
   · rw [if_pos h]
   · rw [if_neg h]
     unfold off
     rw [if_neg (by omega),Int.sub_zero]
def nI (ss:List Nat):List V:=(ss.map fun (k:Nat)=>(k:Int)).map V.int
theorem nI_len (ss:List Nat):(nI ss).length=ss.length:=by unfold nI;rw [List.length_map,List.length_map]
theorem nI_at {ss:List Nat} {i:Nat} {x:V} (h:(nI ss)[i]? = some x):∃ s,ss[i]? = some s∧x=.int (s:Int):=by
 unfold nI at h
 rw [List.getElem?_map,List.getElem?_map] at h
 cases e:ss[i]? with
 | none=>rw [e] at h;cases h
 | some s=>rw [e] at h;exact ⟨s,rfl,(Option.some.inj h).symm⟩
theorem sc_of_sizes:FnScope ["some","most","row","size"] ["some","most"] (defScope (top 22)):=⟨rfl,rfl,rfl,by decide +kernel,rfl,by decide +kernel,by decide +kernel⟩
def sp_of_sizes:Sp:=fun vs H Q _=>∃ (l:Addr) (ss:List Nat) (n:Nat),vs=[.ref l,.int n]∧(∀ x∈ss,0<x∧x≤1000000)∧n≤600∧H l=some (.lst (nI ss))∧∀ p H',Same H H'→H' p=some (.lst ((tb (PL dl ss) (n+1)).map V.int))→Q (.ref p) H'
theorem ok_of_sizes (F:Fun K "of_sizes" "of_sizes" (top 22) f fd)  (F_begun:FnA P w K mg base "begun" 1 ["most"] sp_begun) (F_put_on:FnA P w K mg base "put_on" 1 ["row","size"] sp_put_on):FnOk P w K mg base CX0 2 f fd ["some","most"] sp_of_sizes:=by
 refine F.okz sc_of_sizes (fun vs H Q E h=>?_) (fun cdv A outer s H vs Q E hr h=>?_)
 · obtain ⟨l,ss,n,rfl,_⟩:=h;rfl
 obtain ⟨l,ss,n,rfl,hk,hn,hl,q⟩:=h
 have nd:=sc_of_sizes.nd
 refine ⟨_,(zss_cons (zs_set (i:=2) nd rfl (Or.inl rfl) (ze_fn F_begun hr (by decide) rfl (za_cons (zn 1) za_nil)))
  (zss_cons (zs_for PassesOwn.never rfl (zi_list (zn 0)) (zg_name (i:=3) nd rfl (Or.inl rfl)) (zss_one (zs_set (i:=2) nd rfl (Or.inl rfl) (ze_fn F_put_on hr (by decide) rfl (za_cons (zn 2) (za_cons (zn 3) za_nil))))))
  (zss_one (zs_ret (zn 2))))),?_⟩
 refine ⟨n,rfl,by omega,fun p H1 hp y1 hp1=>?_⟩
 refine ⟨l,rfl,⟨_,SqL.of (y1 _ _ hl)⟩,for_list (xs:=nI ss) (fun i σ H'=>Same H H'∧∃ r p3,σ=[some (.ref l),some (.int n),some (.ref r),p3]∧H' r=some (.lst ((tb (PL dl (ss.take i)) (n+1)).map V.int))) ⟨y1,p,_,rfl,hp1⟩ ?_ ?_ ?_⟩
 · rintro i σ H' _ ⟨y,_⟩
   exact SqL.of (y _ _ hl)
 · rintro i x σ H' hx ⟨y,r,p3,rfl,hr'⟩
   obtain ⟨z,hz,rfl⟩:=nI_at hx
   have hz2:=hk z (List.mem_of_getElem? hz)
   refine ⟨r,z,n+1,PL dl (ss.take i),rfl,hz2.1,hz2.2,by omega,hr',fun p2 H2 hp2 y2 hp2'=>?_⟩
   refine ⟨y.trans y2,p2,_,rfl,?_⟩
   rw [List.take_succ,hz,PL_app]
   exact hp2'
 · rintro σ H' ⟨y,r,p3,rfl,hr'⟩
   rw [nI_len,List.take_of_length_le (Nat.le_refl _)] at hr'
   exact q r H' y hr'
theorem sc_osb:FnScope ["some","m","most","row","size"] ["some","m","most"] (defScope (top 23)):=⟨rfl,rfl,rfl,by decide +kernel,rfl,by decide +kernel,by decide +kernel⟩
def sp_osb:Sp:=fun vs H Q _=>∃ (l:Addr) (ss:List Nat) (m n:Nat),vs=[.ref l,.int m,.int n]∧0<m∧m≤1000∧(∀ x∈ss,0<x∧x≤1000)∧n≤600∧H l=some (.lst (nI ss))∧∀ p H',Same H H'→H' p=some (.lst ((tb (below m ss dl) (n+1)).map V.int))→Q (.ref p) H'
theorem below_app (m:Nat) (g:Nat→Int) (a b:List Nat):below m (a++b) g=below m b (below m a g):=by unfold below;rw [List.foldl_append]
theorem ok_osb (F:Fun K "of_sizes_below" "of_sizes_below" (top 23) f fd)  (F_begun:FnA P w K mg base "begun" 1 ["most"] sp_begun) (F_put_on:FnA P w K mg base "put_on" 1 ["row","size"] sp_put_on) (F_taken_off:FnA P w K mg base "taken_off" 1 ["row","size"] sp_to):FnOk P w K mg base CX0 2 f fd ["some","m","most"] sp_osb:=by
 refine F.okz sc_osb (fun vs H Q E h=>?_) (fun cdv A outer s H vs Q E hr h=>?_)
 · obtain ⟨l,ss,m,n,rfl,_⟩:=h;rfl
 obtain ⟨l,ss,m,n,rfl,hm,hm2,hk,hn,hl,q⟩:=h
 have nd:=sc_osb.nd
 refine ⟨_,(zss_cons (zs_set (i:=3) nd rfl (Or.inl rfl) (ze_fn F_begun hr (by decide) rfl (za_cons (zn 2) za_nil)))
  (zss_cons (zs_for PassesOwn.never rfl (zi_list (zn 0)) (zg_name (i:=4) nd rfl (Or.inl rfl)) (zss_one (zs_set (i:=3) nd rfl (Or.inl rfl) (ze_fn F_taken_off hr (by decide) rfl (za_cons (ze_fn F_put_on hr (by decide) rfl (za_cons (zn 3) (za_cons (zn 4) za_nil))) (za_cons (ze_op op_mulQ (zn 1) (zn 4)) za_nil))))))
  (zss_one (zs_ret (zn 3))))),?_⟩
 refine ⟨n,rfl,by omega,fun p H1 hp y1 hp1=>?_⟩
 refine ⟨l,rfl,⟨_,SqL.of (y1 _ _ hl)⟩,for_list (xs:=nI ss) (fun i σ H'=>Same H H'∧∃ r p4,σ=[some (.ref l),some (.int m),some (.int n),some (.ref r),p4]∧H' r=some (.lst ((tb (below m (ss.take i) dl) (n+1)).map V.int))) ⟨y1,p,_,rfl,hp1⟩ ?_ ?_ ?_⟩
 · rintro i σ H' _ ⟨y,_⟩
   exact SqL.of (y _ _ hl)
 · rintro i x σ H' hx ⟨y,r,p4,rfl,hr'⟩
   obtain ⟨z,hz,rfl⟩:=nI_at hx
   have hz2:=hk z (List.mem_of_getElem? hz)
   refine ⟨r,z,n+1,_,rfl,hz2.1,by omega,by omega,hr',fun p2 H2 hp2 y2 hp2'=>?_⟩
   refine ⟨mulL (by omega) (by omega),?_⟩
   have e3:(m:Int)*(z:Int)=((m*z:Nat):Int):=by rw [Int.natCast_mul]
   have h1:m*z≤1000*1000:=Nat.mul_le_mul hm2 hz2.2
   refine ⟨p2,m*z,n+1,_,by rw [← e3],Nat.mul_pos hm hz2.1,by omega,by omega,.inl hp2',fun p3 H3 hp3 y3 hp3'=>?_⟩
   refine ⟨y.trans (y2.trans y3),p3,_,rfl,?_⟩
   rw [List.take_succ,hz,below_app]
   exact hp3'
 · rintro σ H' ⟨y,r,p4,rfl,hr'⟩
   rw [nI_len,List.take_of_length_le (Nat.le_refl _)] at hr'
   exact q r H' y hr'
end
end K31
namespace M17
open MRow M80
def bx (l k:Nat):Nat→Int:=(ups k).foldl (fun g i=>off (put g i) (l+i)) dl
theorem bx_succ (l k:Nat):bx l (k+1)=off (put (bx l k) (k+1)) (l+(k+1)):=by unfold bx;rw [ups_succ,List.foldl_append];rfl
theorem R_succ (k:Nat):PL dl (ups (k+1))=put (PL dl (ups k)) (k+1):=by rw [ups_succ,PL_app];rfl
theorem R_low {k j:Nat} (h:j≤k):PL dl (ups (k+1)) j=PL dl (ups k) j:=by rw [R_succ,put_low _ (by omega) (by omega)]
theorem R_far {n j:Nat} (h:j≤n):∀ e,PL dl (ups (n+e)) j=PL dl (ups n) j
 | 0=>rfl
 | e+1=>by rw [← Nat.add_assoc,R_low (by omega),R_far h e]
def Ls (d:Nat):Nat→Nat
 | 0=>0
 | m+1=>Ls d m+1+d*m
theorem Ls_ge (d:Nat):∀ m,m≤Ls d m
 | 0=>Nat.le_refl _
 | m+1=>by have:=Ls_ge d m;show m+1≤Ls d m+1+d*m;omega
theorem Ls_up (d:Nat) (m:Nat):∀ e,Ls d m≤Ls d (m+e)
 | 0=>Nat.le_refl _
 | e+1=>Nat.le_trans (Ls_up d m e) (by show Ls d (m+e)≤Ls d (m+e)+1+d*(m+e);omega)
def fq (d:Nat):Nat→Nat→Int
 | 0,_=>0
 | m+1,j=>fq d m j+if Ls d m≤j then PL dl (ups m) (j - Ls d m) else 0
theorem fq_far {d m n j:Nat} (hm:n<Ls d m) (h:j≤n):∀ e,fq d (m+e) j=fq d m j
 | 0=>rfl
 | e+1=>by
   show (fq d (m+e) j+if Ls d (m+e)≤j then PL dl (ups (m+e)) (j - Ls d (m+e)) else 0)=_
   have:=Ls_up d m e
   rw [if_neg (show ¬ Ls d (m+e)≤j by omega),fq_far hm h e,Int.add_zero]
def fow (d:Nat):Nat→Int:=fq d 602
theorem fow_is {d m n j:Nat} (hm:n<Ls d m) (hm2:m≤602) (h:j≤n):fq d m j=fow d j:=by
 have:=fq_far hm h (602 - m)
 rw [show m+(602 - m)=602 by omega] at this
 exact this.symm
def rsz (m:Nat) (rs:List Int) (n:Nat):List Nat:=(ups n).filter fun s=>decide ((s:Int) % (m:Int)∈rs)
end M17
namespace M17
open MRow M80
def blk (s:Nat):Nat→List Int→List Int→List Int
 | 0,_,_=>[]
 | f+1,prev,l=>match l with
   | []=>[]
   | _=>List.zipWith (· + ·) (l.take s) prev++blk s f (List.zipWith (· + ·) (l.take s) prev) (l.drop s)
def putL (L s:Nat) (l:List Int):List Int:=blk s (L / s+1) (List.replicate s 0) l
def tbf (g:Nat→Int) (p L:Nat):List Int:=(List.range L).map fun j=>g (p+j)
theorem tbf_len (g:Nat→Int) (p L:Nat):(tbf g p L).length=L:=by unfold tbf;simp
theorem tbf_at {g:Nat→Int} {p L i:Nat} (h:i<(tbf g p L).length):(tbf g p L)[i]=g (p+i):=by simp [tbf]
theorem tbf_take (g:Nat→Int) (p L s:Nat):(tbf g p L).take s=tbf g p (min s L):=by
 unfold tbf;rw [← List.map_take,List.take_range]
theorem tbf_drop (g:Nat→Int) (p L s:Nat):(tbf g p L).drop s=tbf g (p+s) (L - s):=by
 refine List.ext_getElem (by simp [tbf]) fun i h1 h2=>?_
 rw [List.getElem_drop,tbf_at,tbf_at,Nat.add_assoc]
theorem tbf_app (g:Nat→Int) (p a b:Nat):tbf g p a++tbf g (p+a) b=tbf g p (a+b):=by
 refine List.ext_getElem (by simp [tbf]) fun i h1 h2=>?_
 rw [List.getElem_append]
 split
 · rw [tbf_at,tbf_at]
 · rename_i c
   have c':¬ i<a:=by rw [tbf_len] at c;exact c
   rw [tbf_at,tbf_at]
   congr 1
   rw [tbf_len]
   omega
theorem zip_is {g:Nat→Int} {s p k:Nat} {prev:List Int} (hs:0<s) (hk:k≤s) (hl:prev.length=s) (hp:∀ j,j<k→prev.getD j 0=if s≤p+j then put g s (p+j - s) else 0) :
 List.zipWith (· + ·) (tbf g p k) prev=tbf (put g s) p k:=by
 refine List.ext_getElem (by rw [List.length_zipWith,tbf_len,tbf_len];omega) fun i h1 h2=>?_
 have hi:i<k:=by rw [tbf_len] at h2;exact h2
 rw [List.getElem_zipWith]
 have e:=hp i hi
 rw [List.getD_eq_getElem?_getD,List.getElem?_eq_getElem (by omega)] at e
 have e:prev[i]=if s≤p+i then put g s (p+i - s) else 0:=e
 rw [e,tbf_at,tbf_at,put_eq g hs (p+i)]
theorem blk_ok {g:Nat→Int} {s:Nat} (hs:0<s):∀ (f p L:Nat) (prev:List Int),L<f*s→prev.length=s→(∀ j,j<min s L→prev.getD j 0=if s≤p+j then put g s (p+j - s) else 0)→blk s f prev (tbf g p L)=tbf (put g s) p L
 | 0,p,L,prev,h,_,_=>by omega
 | f+1,p,0,prev,_,_,_=>rfl
 | f+1,p,L+1,prev,h,hl,hp=>by
   have e0:∃ x r,tbf g p (L+1)=x::r:=by
    cases e:tbf g p (L+1) with
    | nil=>have:=tbf_len g p (L+1);rw [e] at this;cases this
    | cons x r=>exact ⟨x,r,rfl⟩
   obtain ⟨x,r,e0⟩:=e0
   have e1:blk s (f+1) prev (tbf g p (L+1))=List.zipWith (· + ·) ((tbf g p (L+1)).take s) prev++blk s f (List.zipWith (· + ·) ((tbf g p (L+1)).take s) prev) ((tbf g p (L+1)).drop s):=by rw [e0];rfl
   rw [e1,tbf_take,tbf_drop,zip_is hs (Nat.min_le_left _ _) hl hp]
   by_cases c:L+1≤s
   · have z:L+1 - s=0:=by omega
     rw [z,Nat.min_eq_right c]
     have:blk s f (tbf (put g s) p (L+1)) (tbf g (p+s) 0)=[]:=by cases f <;> rfl
     rw [this,List.append_nil]
   · rw [Nat.min_eq_left (by omega),blk_ok hs f (p+s) (L+1 - s) (tbf (put g s) p s) (by rw [Nat.succ_mul] at h;omega) (tbf_len _ _ _) fun j hj=>?_,tbf_app,show s+(L+1 - s)=L+1 by omega]
     have hj':j<s:=by omega
     unfold tbf
     rw [List.getD_eq_getElem?_getD,List.getElem?_map,List.getElem?_range hj',if_pos (by omega),show p+s+j - s=p+j by omega]
     rfl
theorem tb_tbf (g:Nat→Int) (L:Nat):tb g L=tbf g 0 L:=by unfold tb tbf;exact List.map_congr_left fun j _=>by rw [Nat.zero_add]
theorem putL_ok (g:Nat→Int) {s:Nat} (hs:0<s) (L:Nat):putL L s (tb g L)=tb (put g s) L:=by
 unfold putL
 rw [tb_tbf,tb_tbf]
 refine blk_ok hs _ 0 L _ ?_ (List.length_replicate ..) fun j hj=>?_
 · have:=Nat.lt_mul_div_succ L hs
   rw [Nat.mul_comm]
   exact this
 · rw [if_neg (by omega),List.getD_eq_getElem?_getD,List.getElem?_replicate,if_pos (by omega)]
   rfl
def shf (k:Nat) (a:List Int):List Int→List Int:=fun r=>a.take k++List.zipWith (· + ·) (a.drop k) r
theorem shf_ok (f r:Nat→Int) {k L:Nat} (hk:k≤L):shf k (tb f L) (tb r L)=tb (fun j=>f j+if k≤j then r (j - k) else 0) L:=by
 unfold shf
 refine List.ext_getElem ?_ fun i h1 h2=>?_
 · simp [tb];omega
 · have hi:i<L:=by rw [tb_len] at h2;exact h2
   rw [List.getElem_append]
   split
   · rename_i c
     have c':i<k:=by simp [tb] at c;omega
     rw [List.getElem_take,tb_at,tb_at,if_neg (by omega),Int.add_zero]
   · rename_i c
     have c':¬ i<k:=fun z=>c (by simp [tb];omega)
     have el:((tb f L).take k).length=k:=by simp [tb];omega
     rw [List.getElem_zipWith,List.getElem_drop,tb_at,tb_at,tb_at,if_pos (by omega)]
     simp only [el]
     rw [show k+(i - k)=i by omega]
def foL (d L:Nat):Nat→Nat→Nat→List Int→List Int→List Int
 | 0,_,_,told,_=>told
 | f+1,m,le,told,row=>if le<L then foL d L f (m+1) (le+1+d*m) (shf le told row) (putL L (m+1) row) else told
theorem fq_next (d m:Nat):fq d (m+1)=fun j=>fq d m j+if Ls d m≤j then PL dl (ups m) (j - Ls d m) else 0:=rfl
theorem foL_ok (d L:Nat):∀ (f m:Nat),∃ M,foL d L f m (Ls d m) (tb (fq d m) L) (tb (PL dl (ups m)) L)=tb (fq d M) L∧m≤M∧M≤m+f∧(L≤Ls d M∨M=m+f)
 | 0,m=>⟨m,rfl,Nat.le_refl _,Nat.le_refl _,.inr rfl⟩
 | f+1,m=>by
   by_cases c:Ls d m<L
   · obtain ⟨M,e,h1,h2,h3⟩:=foL_ok d L f (m+1)
     refine ⟨M,?_,by omega,by omega,h3.imp id fun z=>by omega⟩
     show (if Ls d m<L then _ else _)=_
     rw [if_pos c,shf_ok _ _ (by omega),← fq_next,putL_ok _ (by omega),← R_succ]
     exact e
   · refine ⟨m,?_,Nat.le_refl _,by omega,.inl (by omega)⟩
     show (if Ls d m<L then _ else _)=_
     rw [if_neg c]
theorem foL_fow (d:Nat):foL d 601 602 0 0 (tb (fun _=>0) 601) (tb dl 601)=tb (fow d) 601:=by
 obtain ⟨M,e,h1,h2,h3⟩:=foL_ok d 601 602 0
 have e':foL d 601 602 0 0 (tb (fun _=>0) 601) (tb dl 601)=tb (fq d M) 601:=e
 rw [e']
 refine tb_ext fun j hj=>?_
 rcases h3 with h | h
 · exact fow_is (n:=600) (by omega) (by omega) (by omega)
 · have hM:M=602:=by omega
   subst hM
   rfl
end M17
namespace M21
open MRow
def sm (n:Nat) (f:Nat→Int):Int:=((List.range n).map f).sum
theorem sm_zero (f:Nat→Int):sm 0 f=0:=rfl
theorem sm_succ (n:Nat) (f:Nat→Int):sm (n+1) f=sm n f+f n:=by
 unfold sm
 rw [List.range_succ,List.map_append,List.sum_append_int]
 show _+(f n+0)=_
 omega
theorem sm_congr {n:Nat} {f g:Nat→Int} (h:∀ i,i<n→f i=g i):sm n f=sm n g:=by
 unfold sm
 rw [List.map_congr_left fun i hi=>h i (List.mem_range.mp hi)]
theorem sm_add (n:Nat) (f g:Nat→Int):sm n (fun i=>f i+g i)=sm n f+sm n g:=by
 induction n with
 | zero=>rfl
 | succ n ih=>rw [sm_succ,sm_succ,sm_succ,ih];omega
theorem sm_sub (n:Nat) (f g:Nat→Int):sm n (fun i=>f i - g i)=sm n f - sm n g:=by
 induction n with
 | zero=>rfl
 | succ n ih=>rw [sm_succ,sm_succ,sm_succ,ih];omega
theorem sm_shift (m n:Nat) (f:Nat→Int):sm (m+n) f=sm m f+sm n fun i=>f (m+i):=by
 induction n with
 | zero=>rw [sm_zero,Nat.add_zero];omega
 | succ n ih=>rw [← Nat.add_assoc,sm_succ,sm_succ,ih];omega
theorem sm_none {n:Nat} {f:Nat→Int} (h:∀ i,i<n→f i=0):sm n f=0:=by
 rw [sm_congr h]
 induction n with
 | zero=>rfl
 | succ n ih=>rw [sm_succ,ih fun i hi=>h i (by omega)];rfl
def cv (s g:Nat→Int) (n:Nat):Int:=sm n fun i=>s (i+1)*g (n - 1 - i)
def StpTo (N:Nat) (g s:Nat→Int):Prop:=∀ n:Nat,n≤N→(n:Int)*g n=cv s g n
theorem cv_ext {s t g h:Nat→Int} {n:Nat} (hs:∀ j,1≤j→j≤n→s j=t j) (hg:∀ j,j<n→g j=h j):cv s g n=cv t h n:=sm_congr fun i hi=>by
 rw [hs (i+1) (by omega) (by omega),hg (n - 1 - i) (by omega)]
theorem steps_one {N:Nat} {g h s t:Nat→Int} (g0:g 0=1) (e:∀ j,j≤N→g j=h j) (hs:StpTo N g s) (ht:StpTo N h t):∀ j,1≤j→j≤N→s j=t j:=by
 intro j
 induction j using Nat.strongRecOn with
 | _ j ih=>
   intro j1 jN
   obtain ⟨m,rfl⟩:∃ m,j=m+1:=⟨j - 1,by omega⟩
   have a:=hs (m+1) jN
   have b:=ht (m+1) jN
   rw [e (m+1) jN,b] at a
   unfold cv at a
   rw [sm_succ,sm_succ] at a
   have c:sm m (fun i=>t (i+1)*h (m+1 - 1 - i))=sm m (fun i=>s (i+1)*g (m+1 - 1 - i)):=sm_congr fun i hi=>by
    rw [ih (i+1) (by omega) (by omega) (by omega),e (m+1 - 1 - i) (by omega)]
   rw [c] at a
   have h0:m+1 - 1 - m=0:=by omega
   rw [h0,← e 0 (by omega),g0,Int.mul_one,Int.mul_one] at a
   omega
theorem steps_are (g:Nat→Int) (g0:g 0=1):∀ N,∃ s,StpTo N g s
 | 0=>⟨fun _=>0,fun n hn=>by
   have:n=0:=by omega
   subst this
   show (0:Int)*_=0
   omega⟩
 | N+1=>by
   obtain ⟨s,hs⟩:=steps_are g g0 N
   refine ⟨fun j=>if j≤N then s j else ((N+1:Nat):Int)*g (N+1) - sm N fun i=>s (i+1)*g (N - i),fun n hn=>?_⟩
   by_cases h:n≤N
   · rw [hs n h]
     exact cv_ext (fun j j1 jn=>by rw [if_pos (by omega)]) fun _ _=>rfl
   · have:n=N+1:=by omega
     subst this
     unfold cv
     rw [sm_succ]
     dsimp only
     rw [if_neg (show ¬ N+1≤N by omega)]
     have e:sm N (fun i=>(if i+1≤N then s (i+1) else ((N+1:Nat):Int)*g (N+1) - sm N fun i=>s (i+1)*g (N - i))*g (N+1 - 1 - i))=sm N fun i=>s (i+1)*g (N - i):=sm_congr fun i hi=>by
      rw [if_pos (by omega),show N+1 - 1 - i=N - i by omega]
     rw [e,show N+1 - 1 - N=0 by omega,g0,Int.mul_one]
     omega
def ind (d j:Nat):Int:=if j % d=0 then (d:Int) else 0
theorem put_diff {g:Nat→Int} {d:Nat} (hd:0<d) (n:Nat) (h:d≤n):put g d n - put g d (n - d)=g n:=by
 rw [put_eq g hd n,if_pos h]
 omega
def en (d:Nat) (G:Nat→Int) (n:Nat):Int:=sm n fun i=>ind d (i+1)*G (n - 1 - i)
theorem en_low {d n:Nat} {G:Nat→Int} (h:n<d):en d G n=0:=sm_none fun i hi=>by
 unfold ind
 rw [if_neg (by rw [Nat.mod_eq_of_lt (by omega)];omega)]
 omega
theorem en_up {d n:Nat} {G:Nat→Int} (hd:0<d) (h:d≤n):en d G n=(d:Int)*G (n - d)+en d G (n - d):=by
 obtain ⟨m,rfl⟩:∃ m,n=d+m:=⟨n - d,by omega⟩
 unfold en
 rw [sm_shift,show d+m - d=m by omega]
 congr 1
 · obtain ⟨c,rfl⟩:∃ c,d=c+1:=⟨d - 1,by omega⟩
   rw [sm_succ,sm_none]
   · unfold ind
     rw [if_pos (Nat.mod_self _),show c+1+m - 1 - c=m by omega]
     omega
   · intro i hi
     unfold ind
     rw [if_neg (by rw [Nat.mod_eq_of_lt (by omega)];omega)]
     omega
 · refine sm_congr fun i hi=>?_
   unfold ind
   rw [show d+i+1=(i+1)+d by omega,Nat.add_mod_right,show d+m - 1 - (d+i)=m - 1 - i by omega]
theorem cv_diff {g s:Nat→Int} {d:Nat} (hd:0<d) (n:Nat) (h:d≤n):cv s (put g d) n - cv s (put g d) (n - d)=cv s g n:=by
 obtain ⟨m,rfl⟩:∃ m,n=m+d:=⟨n - d,by omega⟩
 rw [show m+d - d=m by omega]
 unfold cv
 rw [sm_shift m d,sm_shift m d]
 have e1:sm m (fun i=>s (i+1)*g (m+d - 1 - i))=sm m (fun i=>s (i+1)*put g d (m+d - 1 - i)) - sm m (fun i=>s (i+1)*put g d (m - 1 - i)):=by
  rw [← sm_sub]
  refine sm_congr fun i hi=>?_
  rw [← Int.mul_sub]
  congr 1
  rw [← put_diff (g:=g) hd (m+d - 1 - i) (by omega),show m+d - 1 - i - d=m - 1 - i by omega]
 have e2:sm d (fun i=>s (m+i+1)*g (m+d - 1 - (m+i)))=sm d (fun i=>s (m+i+1)*put g d (m+d - 1 - (m+i))):=sm_congr fun i hi=>by
  rw [put_low g hd (show m+d - 1 - (m+i)<d by omega)]
 rw [e1,e2]
 omega
theorem put_steps {g s:Nat→Int} {d:Nat} (hd:0<d) {N:Nat} (h:StpTo N g s):StpTo N (put g d) fun j=>s j+ind d j:=by
 have split:∀ n,cv (fun j=>s j+ind d j) (put g d) n=cv s (put g d) n+en d (put g d) n:=fun n=>by
  unfold cv en
  rw [← sm_add]
  exact sm_congr fun i _=>Int.add_mul _ _ _
 intro n
 induction n using Nat.strongRecOn with
 | _ n ih=>
   intro hn
   rw [split]
   by_cases hdn:d≤n
   · have a:=ih (n - d) (by omega) (by omega)
     rw [split] at a
     have b:=cv_diff (g:=g) (s:=s) hd n hdn
     have c:=en_up (G:=put g d) hd hdn
     have e:=h n hn
     rw [← b,← put_diff (g:=g) hd n hdn,Int.mul_sub] at e
     have f:((n - d:Nat):Int)=(n:Int) - (d:Int):=by omega
     rw [f,Int.sub_mul] at a
     rw [c]
     omega
   · rw [en_low (by omega),put_low g hd (by omega),h n hn,Int.add_zero]
     exact cv_ext (fun _ _ _=>rfl) fun j hj=>(put_low g hd (by omega)).symm
def off (g:Nat→Int) (s n:Nat):Int:=g n - if s≤n then g (n - s) else 0
theorem put_off {g:Nat→Int} {d:Nat} (hd:0<d):∀ n,put (off g d) d n=g n:=by
 intro n
 induction n using Nat.strongRecOn with
 | _ n ih=>
   rw [put_eq _ hd]
   unfold off
   by_cases h:d≤n
   · rw [if_pos h,if_pos h]
     have:=ih (n - d) (by omega)
     unfold off at this
     rw [this]
     omega
   · rw [if_neg h,if_neg h]
     omega
theorem off_zero {g:Nat→Int} {d:Nat} (hd:0<d):off g d 0=g 0:=by
 unfold off
 rw [if_neg (by omega)]
 omega
theorem off_steps {g s:Nat→Int} {d:Nat} (hd:0<d) (g0:g 0=1) {N:Nat} (h:StpTo N g s):StpTo N (off g d) fun j=>s j - ind d j:=by
 obtain ⟨t,ht⟩:=steps_are (off g d) (by rw [off_zero hd,g0]) N
 have p:=put_steps hd ht
 have same:=steps_one (N:=N) (s:=s) (t:=fun j=>t j+ind d j) g0 (fun j _=>(put_off hd j).symm) h p
 intro n hn
 rw [ht n hn]
 refine cv_ext (fun j j1 jn=>?_) fun _ _=>rfl
 have:=same j j1 (by omega)
 omega
def iter (k:Nat) (f:(Nat→Int)→Nat→Int) (g:Nat→Int):Nat→Int:=match k with
 | 0=>g
 | k+1=>f (iter k f g)
def pw (g:Nat→Int) (d:Nat) (p:Int):Nat→Int:=if 0≤p then iter p.toNat (fun h=>put h d) g else iter (-p).toNat (fun h=>off h d) g
theorem put_zero (g:Nat→Int) {d:Nat} (hd:0<d):put g d 0=g 0:=put_low g hd hd
theorem iter_put {g s:Nat→Int} {d N:Nat} (hd:0<d) (g0:g 0=1) (h:StpTo N g s):∀ k,iter k (fun h=>put h d) g 0=1∧StpTo N (iter k (fun h=>put h d) g) fun j=>s j+(k:Int)*ind d j
 | 0=>⟨g0,fun n hn=>by
   show (n:Int)*g n=_
   rw [h n hn]
   exact cv_ext (fun j _ _=>by show s j=s j+(0:Int)*ind d j;omega) fun _ _=>rfl⟩
 | k+1=>by
   obtain ⟨a,b⟩:=iter_put hd g0 h k
   refine ⟨by show put _ d 0=1;rw [put_zero _ hd];exact a,fun n hn=>?_⟩
   have c:=put_steps hd b n hn
   show (n:Int)*put _ d n=_
   rw [c]
   refine cv_ext (fun j _ _=>?_) fun _ _=>rfl
   show s j+(k:Int)*ind d j+ind d j=s j+((k+1:Nat):Int)*ind d j
   rw [show ((k+1:Nat):Int)=(k:Int)+1 by omega,Int.add_mul,Int.one_mul]
   omega
theorem iter_off {g s:Nat→Int} {d N:Nat} (hd:0<d) (g0:g 0=1) (h:StpTo N g s):∀ k,iter k (fun h=>off h d) g 0=1∧StpTo N (iter k (fun h=>off h d) g) fun j=>s j - (k:Int)*ind d j
 | 0=>⟨g0,fun n hn=>by
   show (n:Int)*g n=_
   rw [h n hn]
   exact cv_ext (fun j _ _=>by show s j=s j - (0:Int)*ind d j;omega) fun _ _=>rfl⟩
 | k+1=>by
   obtain ⟨a,b⟩:=iter_off hd g0 h k
   refine ⟨by show off _ d 0=1;rw [off_zero hd];exact a,fun n hn=>?_⟩
   have c:=off_steps hd a b n hn
   show (n:Int)*off _ d n=_
   rw [c]
   refine cv_ext (fun j _ _=>?_) fun _ _=>rfl
   show s j - (k:Int)*ind d j - ind d j=s j - ((k+1:Nat):Int)*ind d j
   rw [show ((k+1:Nat):Int)=(k:Int)+1 by omega,Int.add_mul,Int.one_mul]
   omega
theorem pw_steps {g s:Nat→Int} {d N:Nat} (hd:0<d) (g0:g 0=1) (h:StpTo N g s) (p:Int):pw g d p 0=1∧StpTo N (pw g d p) fun j=>s j+p*ind d j:=by
 unfold pw
 split
 · rename_i hp
   have:=iter_put hd g0 h p.toNat
   rw [Int.toNat_of_nonneg hp] at this
   exact this
 · rename_i hp
   obtain ⟨a,b⟩:=iter_off hd g0 h (-p).toNat
   refine ⟨a,fun n hn=>?_⟩
   rw [b n hn]
   refine cv_ext (fun j _ _=>?_) fun _ _=>rfl
   show s j - ((-p).toNat:Int)*ind d j=s j+p*ind d j
   rw [Int.toNat_of_nonneg (by omega),Int.neg_mul]
   omega
def pd:List Int→Nat→(Nat→Int)→Nat→Int
 | [],_,g=>g
 | p::ps,d,g=>pd ps (d+1) (pw g d p)
def prod (ps:List Int):Nat→Int:=pd ps 1 dl
theorem pd_app (as bs:List Int):∀ (d:Nat) (g:Nat→Int),pd (as++bs) d g=pd bs (d+as.length) (pd as d g):=by
 induction as with
 | nil=>intro d g;rfl
 | cons a as ih=>
   intro d g
   show pd (as++bs) (d+1) (pw g d a)=pd bs (d+(as.length+1)) (pd as (d+1) (pw g d a))
   rw [ih,show d+1+as.length=d+(as.length+1) by omega]
theorem prod_snoc (ps:List Int) (p:Int):prod (ps++[p])=pw (prod ps) (ps.length+1) p:=by
 unfold prod
 rw [pd_app,Nat.add_comm 1]
 rfl
def sv (ps:List Int) (j:Nat):Int:=sm ps.length fun i=>ps.getD i 0*ind (i+1) j
theorem sv_snoc (ps:List Int) (p:Int) (j:Nat):sv (ps++[p]) j=sv ps j+p*ind (ps.length+1) j:=by
 unfold sv
 rw [List.length_append]
 show sm (ps.length+1) _=_
 rw [sm_succ]
 congr 1
 · refine sm_congr fun i hi=>?_
   rw [List.getD_eq_getElem?_getD,List.getElem?_append_left hi,← List.getD_eq_getElem?_getD]
 · rw [List.getD_eq_getElem?_getD,List.getElem?_append_right (Nat.le_refl _),Nat.sub_self]
   rfl
theorem dl_steps (N:Nat):StpTo N dl fun _=>0:=fun n _=>by
 have:cv (fun _=>0) dl n=0:=sm_none fun i _=>Int.zero_mul _
 rw [this]
 unfold dl
 by_cases h:n=0
 · rw [h];omega
 · rw [if_neg h];omega
theorem prod_steps (N:Nat) (ps:List Int):prod ps 0=1∧StpTo N (prod ps) (sv ps):=by
 obtain ⟨n,hn⟩:∃ n,n=ps.length:=⟨_,rfl⟩
 induction n generalizing ps with
 | zero=>
   have:ps=[]:=List.length_eq_zero_iff.mp hn.symm
   subst this
   exact ⟨rfl,fun n h=>by
    have:=dl_steps N n h
    show (n:Int)*dl n=_
    rw [this]
    exact cv_ext (fun _ _ _=>rfl) fun _ _=>rfl⟩
 | succ n ih=>
   rcases List.eq_nil_or_concat ps with rfl | ⟨qs,p,rfl⟩
   · cases hn
   · rw [List.concat_eq_append] at hn ⊢
     rw [List.length_append] at hn
     have hn':n=qs.length:=by
      have:n+1=qs.length+1:=hn
      omega
     obtain ⟨a,b⟩:=ih qs hn'
     obtain ⟨c,e⟩:=pw_steps (d:=qs.length+1) (by omega) a b p
     rw [prod_snoc]
     refine ⟨c,fun m hm=>?_⟩
     rw [e m hm]
     exact cv_ext (fun j _ _=>(sv_snoc qs p j).symm) fun _ _=>rfl
end M21
namespace M12
open MRow M80 M17
def odds (n:Nat):List Nat:=(List.range ((n+1) / 2)).map fun k=>2*k+1
theorem odds_pos {n x:Nat} (h:x∈odds n):0<x∧x≤n:=by
 unfold odds at h
 obtain ⟨k,hk,rfl⟩:=List.mem_map.mp h
 have:=List.mem_range.mp hk
 omega
end M12
namespace K31
open PySem L2 MRow M27 M80 M17 M12
theorem zss_never {X:Cx} {sts:List Stmt}:ZSs X sts tNever:=by with_unfolding_all exact pss_never
inductive Kn where
 | all
 | most (k:Nat)
 | times (m:Nat)
 | rests (m:Nat) (rs:List Int)
 | few (k:Nat)
 | box (k l:Nat)
 | off (d:Nat)
 | own
def Kn.Ok:Kn→Prop
 | .all=>True
 | .most k=>k≤600
 | .times m=>0<m∧m≤1000
 | .rests m _=>0<m∧m≤1000
 | .few k=>k≤600
 | .box k l=>k≤600∧l≤600
 | .off d=>1≤d∧d≤600
 | .own=>True
def KnAt (H:Hp) (c:Addr):Kn→Prop
 | .all=>H c=some (.tup [.str "all"])
 | .most k=>H c=some (.tup [.str "most",.int k])
 | .times m=>H c=some (.tup [.str "times",.int m])
 | .few k=>H c=some (.tup [.str "few",.int k])
 | .box k l=>H c=some (.tup [.str "box",.int k,.int l])
 | .off d=>H c=some (.tup [.str "off",.int d])
 | .own=>H c=some (.tup [.str "own"])
 | .rests m rs=>∃ d,H c=some (.tup [.str "rests",.int m,.ref d])∧H d=some (.tup (rs.map V.int))
def cf:Kn→Nat→Nat→Int
 | .all,n=>PL dl (ups n)
 | .most k,n=>PL dl (ups (min k n))
 | .times m,n=>below m (ups n) dl
 | .rests m rs,n=>PL dl (rsz m rs n)
 | .few k,n=>PL dl (ups (min k n))
 | .box k l,n=>bx l (min k n)
 | .off d,_=>fow d
 | .own,n=>below 2 (odds n) dl
theorem in_ints (p:Int) (ns:List Int):inV (.int p) (ns.map V.int)=decide (p∈ns):=by
 unfold inV
 rw [List.any_map]
 induction ns with
 | nil=>rfl
 | cons n r ih=>
   rw [List.any_cons,ih]
   show (n == p||decide (p∈r))=_
   by_cases h:n=p
   · subst h;simp
   · have:(n == p)=false:=by simpa using h
     rw [this,Bool.false_or]
     have h':¬ p=n:=fun e=>h e.symm
     simp [h']
theorem flat_ints (ns:List Int):(ns.map V.int).all flatV=true:=by
 rw [List.all_map]
 exact List.all_eq_true.mpr fun _ _=>rfl
theorem ups_nI (n:Nat):((List.range n).map fun (k:Nat)=>(1:Int)+(k:Int)*1).map V.int=nI (ups n):=by
 unfold nI ups
 rw [List.map_map,List.map_map,List.map_map]
 refine List.map_congr_left fun k _=>?_
 show V.int (1+(k:Int)*1)=V.int ((k+1:Nat):Int)
 congr 1
 omega
theorem ups_len (n:Nat):(ups n).length=n:=by unfold ups;simp
theorem rsz_succ (m:Nat) (rs:List Int) (n:Nat):rsz m rs (n+1)=rsz m rs n++if ((n+1:Nat):Int) % (m:Int)∈rs then [n+1] else []:=by
 unfold rsz
 rw [ups_succ,List.filter_append]
 congr 1
 by_cases h:((n+1:Nat):Int) % (m:Int)∈rs
 · rw [if_pos h,List.filter_cons_of_pos (p:=fun s:Nat=>decide ((s:Int) % (m:Int)∈rs)) (decide_eq_true h)];rfl
 · rw [if_neg h,List.filter_cons_of_neg (p:=fun s:Nat=>decide ((s:Int) % (m:Int)∈rs)) (by simpa using h)];rfl
theorem rsz_len (m:Nat) (rs:List Int) (n:Nat):(rsz m rs n).length≤n:=by
 have:=List.length_filter_le (fun s:Nat=>decide ((s:Int) % (m:Int)∈rs)) (ups n)
 rw [ups_len] at this
 exact this
theorem odds_nI (n:Nat):((List.range ((n+1) / 2)).map fun (k:Nat)=>(1:Int)+(k:Int)*2).map V.int=nI (odds n):=by
 unfold nI odds
 rw [List.map_map,List.map_map,List.map_map]
 refine List.map_congr_left fun k _=>?_
 show V.int (1+(k:Int)*2)=V.int ((2*k+1:Nat):Int)
 congr 1
 omega
theorem size_two (n:Nat):(Builtin.Range.rangeSize 1 ((n:Int)+1) 2).toNat=(n+1) / 2:=by
 rw [size_up (by decide)]
 split <;> omega
theorem size_one (c:Nat):(Builtin.Range.rangeSize 1 ((c:Int)+1) 1).toNat=c:=by
 rw [size_up (by decide)]
 by_cases h:(1:Int)<(c:Int)+1
 · rw [if_pos h,Int.ediv_one];omega
 · rw [if_neg h];omega
section
variable {P:Program} {w:World} {K:PySem.W.Frag} {mg:Str→Option Value} {base:Heap} {f:Addr} {fd:FuncData}
theorem sc_ib:FnScope ["k","l","most","row","i"] ["k","l","most"] (defScope (top 24)):=⟨rfl,rfl,rfl,by decide +kernel,rfl,by decide +kernel,by decide +kernel⟩
def sp_ib:Sp:=fun vs H Q _=>∃ k l n:Nat,vs=[.int k,.int l,.int n]∧k≤600∧l≤600∧n≤600∧∀ p H',Same H H'→H' p=some (.lst ((tb (bx l (min k n)) (n+1)).map V.int))→Q (.ref p) H'
theorem ok_ib (F:Fun K "in_box" "in_box" (top 24) f fd) (m_min:mg "min" = none) (m_range:mg "range" = none) (F_begun:FnA P w K mg base "begun" 1 ["most"] sp_begun) (F_put_on:FnA P w K mg base "put_on" 1 ["row","size"] sp_put_on) (F_taken_off:FnA P w K mg base "taken_off" 1 ["row","size"] sp_to):FnOk P w K mg base CX0 2 f fd ["k","l","most"] sp_ib:=by
 refine F.okz sc_ib (fun vs H Q E h=>?_) (fun cdv A outer s H vs Q E hr h=>?_)
 · obtain ⟨k,l,n,rfl,_⟩:=h;rfl
 obtain ⟨k,l,n,rfl,hk,hl,hn,q⟩:=h
 have nd:=sc_ib.nd
 refine ⟨_,(zss_cons (zs_set (i:=3) nd rfl (Or.inl rfl) (ze_fn F_begun hr (by decide) rfl (za_cons (zn 2) za_nil)))
  (zss_cons (zs_for PassesOwn.never rfl (zi_range2 rfl m_range (za_cons ze_int (za_cons (ze_op op_addP (zcb_min rfl rfl m_min (za_cons (zn 0) (za_cons (zn 2) za_nil)) rfl rfl) ze_int) za_nil))) (zg_name (i:=4) nd rfl (Or.inl rfl)) (zss_one (zs_set (i:=3) nd rfl (Or.inl rfl) (ze_fn F_taken_off hr (by decide) rfl (za_cons (ze_fn F_put_on hr (by decide) rfl (za_cons (zn 3) (za_cons (zn 4) za_nil))) (za_cons (ze_op op_addP (zn 1) (zn 4)) za_nil))))))
  (zss_one (zs_ret (zn 3))))),?_⟩
 refine ⟨n,rfl,by omega,fun p0 H1 hp0 y1 hr1=>?_⟩
 have ec:(if (n:Int)<(k:Int) then (n:Int) else (k:Int))=((min k n:Nat):Int):=by split <;> omega
 refine ⟨1,(if (n:Int)<(k:Int) then (n:Int) else (k:Int))+1,rfl,⟨by omega,by omega,by omega,by omega⟩,?_⟩
 have eN:((if (n:Int)<(k:Int) then (n:Int) else (k:Int))+1 - 1).toNat=min k n:=by omega
 rw [eN]
 refine for_range (fun i σ H'=>i≤min k n∧Same H H'∧∃ (r:Addr) (x4:Option V),σ=[some (.int k),some (.int l),some (.int n),some (.ref r),x4]∧H' r=some (.lst ((tb (bx l i) (n+1)).map V.int))) ⟨Nat.zero_le _,y1,p0,_,rfl,hr1⟩ ?_ ?_
 · rintro i σ H' hi ⟨_,y,r,x4,rfl,hr'⟩
   have ek:(1:Int)+(i:Int)=((i+1:Nat):Int):=by omega
   rw [ek]
   refine ⟨r,i+1,n+1,bx l i,rfl,by omega,by omega,by omega,hr',fun p2 H2 _ y2 hp2=>?_⟩
   refine ⟨p2,l+(i+1),n+1,_,congrArg (fun z=>[V.ref p2,V.int z]) (Int.natCast_add l (i+1)).symm,by omega,by omega,by omega,.inl hp2,fun p3 H3 _ y3 hp3=>?_⟩
   exact ⟨by omega,(y.trans y2).trans y3,p3,_,rfl,by rw [bx_succ];exact hp3⟩
 · rintro σ H' ⟨_,y,r,x4,rfl,hr'⟩
   exact q r H' y hr'
theorem sc_fb:FnScope ["d","most","told","row","many","least","n"] ["d","most"] (defScope (top 25)):=⟨rfl,rfl,rfl,by decide +kernel,rfl,by decide +kernel,by decide +kernel⟩
def sp_fb:Sp:=fun vs H Q _=>∃ d n:Nat,vs=[.int d,.int n]∧d≤600∧n≤600∧∀ p H',Same H H'→H' p=some (.lst ((tb (fow d) (n+1)).map V.int))→Q (.ref p) H'
theorem ok_fb (F:Fun K "falling_by" "falling_by" (top 25) f fd) (m_range:mg "range" = none) (F_begun:FnA P w K mg base "begun" 1 ["most"] sp_begun) (F_put_on:FnA P w K mg base "put_on" 1 ["row","size"] sp_put_on):FnOk P w K mg base CX0 2 f fd ["d","most"] sp_fb:=by
 refine F.okz sc_fb (fun vs H Q E h=>?_) (fun cdv A outer s H vs Q E hr h=>?_)
 · obtain ⟨d,n,rfl,_⟩:=h;rfl
 obtain ⟨dd,n,rfl,hd6,hn,q⟩:=h
 have nd:=sc_fb.nd
 refine ⟨_,(zss_cons (zs_set (i:=2) nd rfl (Or.inl rfl) (ze_op op_mulQ (ze_lst (za_cons ze_int za_nil)) (ze_op op_addP (zn 1) ze_int)))
  (zss_cons (zs_set (i:=3) nd rfl (Or.inl rfl) (ze_fn F_begun hr (by decide) rfl (za_cons (zn 1) za_nil)))
  (zss_cons (zs_set (i:=4) nd rfl (Or.inl rfl) ze_int)
  (zss_cons (zs_set (i:=5) nd rfl (Or.inl rfl) ze_int)
  (zss_cons (zs_while PassesOwn.never (zt_cmpP op_leP (zn 5) (zn 1) (nomark _)) (zss_cons (zs_for PassesOwn.never rfl (zi_range2 rfl m_range (za_cons (zn 5) (za_cons (ze_op op_addP (zn 1) ze_int) za_nil))) (zg_name (i:=6) nd rfl (Or.inl rfl)) (zss_one (zs_augS (zn 2) (zn 6) get_list (ze_ix ix_P (zn 3) (ze_op op_subP (zn 6) (zn 5)) (fun _ _=>rfl)) ip_addP set_listP)))
  (zss_cons (zs_aug (i:=5) nd rfl (Or.inl rfl) (ze_op op_addP ze_int (ze_op op_mulQ (zn 0) (zn 4))) ip_addP)
  (zss_cons (zs_aug (i:=4) nd rfl (Or.inl rfl) ze_int ip_addP)
  (zss_one (zs_set (i:=3) nd rfl (Or.inl rfl) (ze_fn F_put_on hr (by decide) rfl (za_cons (zn 3) (za_cons (zn 4) za_nil)))))))))
  (zss_one (zs_ret (zn 2)))))))),?_⟩
 refine ⟨by show 1≤sizeLine;decide,fun d hd=>?_⟩
 have yd:=Same.new hd (.lst [V.int 0])
 have e1:((n:Int)+1).toNat=n+1:=by omega
 refine ⟨⟨by omega,by omega⟩,.inl ⟨_,upd_same,le_line (by show 1*((n:Int)+1).toNat≤1000;omega),fun T hT=>?_⟩⟩
 rw [rep_flat,e1]
 have yT:=Same.new hT (.lst ((List.replicate (n+1) (0:Int)).map V.int))
 have hTH:H T=none:=fresh_back yd hT
 have yT2:=yd.trans yT
 have gT:upd (upd H d (.lst [V.int 0])) T (.lst ((List.replicate (n+1) (0:Int)).map V.int)) T=some (.lst ((tb (fq dd 0) (n+1)).map V.int)):=by
  rw [upd_same]
  congr 3
  show _=(List.range (n+1)).map fun _=>(0:Int)
  rw [List.map_const',List.length_range]
 generalize upd (upd H d (.lst [V.int 0])) T (.lst ((List.replicate (n+1) (0:Int)).map V.int))=H1 at yT yT2 gT
 refine ⟨n,rfl,by omega,fun R0 H2 hR0 y2 hR2=>?_⟩
 have RT:R0≠T:=fun z=>by rw [z,gT] at hR0;cases hR0
 refine while_by2 (fun m σ H'=>∃ (k:Nat) (R:Addr) (x6:Option V),m=n+1 - Ls dd k∧k≤602∧Same H H'∧R≠T∧H' T=some (.lst ((tb (fq dd k) (n+1)).map V.int))∧H' R=some (.lst ((tb (PL dl (ups k)) (n+1)).map V.int))∧σ=[some (.int dd),some (.int n),some (.ref T),some (.ref R),some (.int k),some (.int (Ls dd k)),x6]) (n+1)
  ⟨0,R0,none,rfl,by decide,yT2.trans y2,RT,y2 _ _ gT,hR2,rfl⟩ ?_
 rintro m σ H' ⟨k,R,x6,rfl,hk,y,RT',hT',hR',rfl⟩
 have lk:=Ls_ge dd k
 refine iteD (fun c=>?_) (fun c=>?_)
 · have hl:Ls dd k≤n:=by have c':(Ls dd k:Int)≤(n:Int):=c;omega
   refine ⟨fun σ' H'=>∃ m',m' < n+1 - Ls dd k∧∃ (k:Nat) (R:Addr) (x6:Option V),m'=n+1 - Ls dd k∧k≤602∧Same H H'∧R≠T∧H' T=some (.lst ((tb (fq dd k) (n+1)).map V.int))∧H' R=some (.lst ((tb (PL dl (ups k)) (n+1)).map V.int))∧σ'=[some (.int dd),some (.int n),some (.ref T),some (.ref R),some (.int k),some (.int (Ls dd k)),x6],fun σ' H' h=>h,?_⟩
   have eft:∀ j,fq dd (k+1) j=fq dd k j+if Ls dd k≤j then PL dl (ups k) (j - Ls dd k) else 0:=fun j=>rfl
   have el1:Ls dd (k+1)=Ls dd k+1+dd*k:=rfl
   generalize Ls dd k=l at hl lk eft el1
   generalize fq dd k=ft at hT' eft
   generalize eft2:fq dd (k+1)=ft2 at eft
   refine ⟨(l:Int),(n:Int)+1,rfl,⟨by omega,by omega,by omega,by omega⟩,?_⟩
   have eN:((n:Int)+1 - (l:Int)).toNat=n+1 - l:=by omega
   rw [eN]
   refine for_range (fun i σ H'=>i≤n+1 - l∧Same H H'∧H' T=some (.lst ((tb (up ft ft2 (l+i)) (n+1)).map V.int))∧H' R=some (.lst ((tb (PL dl (ups k)) (n+1)).map V.int))∧∃ x6,σ=[some (.int dd),some (.int n),some (.ref T),some (.ref R),some (.int k),some (.int l),x6]) ⟨Nat.zero_le _,y,?_,hR',_,rfl⟩ ?_ ?_
   · rw [hT']
     congr 3
     refine tb_ext fun j _=>?_
     unfold up
     rw [Nat.add_zero]
     split
     · rw [eft,if_neg (by omega),Int.add_zero]
     · rfl
   · rintro i σ H3 hi ⟨_,y3,hT3,hR3,x6,rfl⟩
     have e2:((l:Int)+(i:Int)).toNat=l+i:=by omega
     have hli:l+i<n+1:=by omega
     refine ⟨_,.int (up ft ft2 (l+i) (l+i)),SqL.of hT3,by omega,by rw [e2,List.getElem?_map,tb_get hli];rfl,?_⟩
     refine ⟨_,.inl (SqL.of hR3),.int (PL dl (ups k) i),atI_of (j:=i) (by omega) (by rw [List.getElem?_map,tb_get (by omega)];rfl),?_⟩
     refine ⟨_,hT3,by omega,by rw [e2,List.length_map,tb_len];exact hli,by omega,Same.updN y3 hTH,?_,by rw [upd_ne RT'];exact hR3,_,rfl⟩
     rw [upd_same,e2]
     have e3:up ft ft2 (l+i) (l+i)+PL dl (ups k) i=ft2 (l+i):=by
      unfold up
      rw [if_neg (Nat.lt_irrefl _),eft,if_pos (by omega),Nat.add_sub_cancel_left]
     dsimp only
     rw [e3,← List.map_set,tb_set hli]
     rfl
   · rintro σ H3 ⟨_,y3,hT3,hR3,x6,rfl⟩
     rw [up_all _ _ (by omega)] at hT3
     refine ⟨_,rfl,mulL (by omega) (by omega),?_⟩
     refine ⟨_,rfl,?_⟩
     have ek:(k:Int)+1=((k+1:Nat):Int):=by omega
     refine ⟨R,k+1,n+1,PL dl (ups k),by rw [← ek],by omega,by omega,by omega,hR3,fun R2 H4 hR2' y4 hR4=>?_⟩
     have e5:(l:Int)+(1+(dd:Int)*(k:Int))=((Ls dd (k+1):Nat):Int):=by rw [el1,Int.natCast_add,Int.natCast_add,Int.natCast_mul];omega
     refine ⟨n+1 - Ls dd (k+1),by rw [el1];omega,k+1,R2,x6,rfl,by omega,y3.trans y4,(fun z=>by rw [z,hT3] at hR2';cases hR2'),by rw [eft2];exact y4 _ _ hT3,by rw [R_succ];exact hR4,?_⟩
     show [some (V.int dd),some (.int n),some (.ref T),some (.ref R2),some (.int ((k:Int)+1)),some (.int ((l:Int)+(1+(dd:Int)*(k:Int)))),x6]=_
     rw [e5,ek]
 · refine q T H' y ?_
   rw [hT']
   congr 3
   exact tb_ext fun j hj=>fow_is (n:=n) (by have c':¬ ((Ls dd k:Nat):Int)≤(n:Int):=c;omega) hk (by omega)
theorem sc_counted:FnScope ["kind","most","word"] ["kind","most"] (defScope (top 26)):=⟨rfl,rfl,rfl,by decide +kernel,rfl,by decide +kernel,by decide +kernel⟩
def sp_counted:Sp:=fun vs H Q _=>∃ (c:Addr) (n:Nat) (k:Kn),vs=[.ref c,.int n]∧n≤600∧KnAt H c k∧k.Ok∧∀ p H',Same H H'→H' p=some (.lst ((tb (cf k n) (n+1)).map V.int))→Q (.ref p) H'
theorem ok_counted (F:Fun K "counted" "counted" (top 26) f fd) (m_list:mg "list" = none) (m_min:mg "min" = none) (m_range:mg "range" = none) (F_falling_by:FnA P w K mg base "falling_by" 2 ["d","most"] sp_fb) (F_in_box:FnA P w K mg base "in_box" 2 ["k","l","most"] sp_ib) (F_of_sizes:FnA P w K mg base "of_sizes" 2 ["some","most"] sp_of_sizes) (F_of_sizes_below:FnA P w K mg base "of_sizes_below" 2 ["some","m","most"] sp_osb):FnOk P w K mg base CX0 3 f fd ["kind","most"] sp_counted:=by
 refine F.okz sc_counted (fun vs H Q E h=>?_) (fun cdv A outer s H vs Q E hr h=>?_)
 · obtain ⟨k,n,kd,rfl,_⟩:=h;rfl
 obtain ⟨c,n,k,rfl,hn,hk,hok,q⟩:=h
 have nd:=sc_counted.nd
 have hu:=hr.units
 cases k with
 | all=>
   refine ⟨_,(zss_cons (zs_set (i:=2) nd rfl (Or.inl rfl) (ze_ix ix_P (zn 0) ze_int (fun _ _=>rfl)))
    (zss_cons (zs_if (zt_cmpP (op_eqD hu) (zn 2) ze_str (nomark _)) zss_never zss_nil)
    (zss_cons (zs_if (zt_cmpP (op_eqD hu) (zn 2) ze_str (nomark _)) zss_never zss_nil)
    (zss_cons (zs_if (zt_cmpP (op_eqD hu) (zn 2) ze_str (nomark _)) zss_never zss_nil)
    (zss_cons (zs_if (zt_cmpP (op_eqD hu) (zn 2) ze_str (nomark _)) zss_never zss_nil)
    (zss_cons (zs_if (zt_cmpP (op_eqD hu) (zn 2) ze_str (nomark _)) zss_never zss_nil)
    (zss_cons (zs_if (zt_cmpP (op_eqD hu) (zn 2) ze_str (nomark _)) (zss_one (zs_ret (ze_fn F_of_sizes hr (by decide) rfl (za_cons (zcb_lrange rfl rfl m_list (za_cons (zcb_range rfl m_range (za_cons ze_int (za_cons (ze_op op_addP (zn 1) ze_int) za_nil)) rfl rfl) za_nil) rfl rfl) (za_cons (zn 1) za_nil))))) zss_nil)
    zss_never))))))),?_⟩
   refine ⟨_,.inr hk,.str "all",rfl,?_⟩
   refine fun rp hrp=>?_
   have g1:=Same.new hrp (rngO rp 1 ((n:Int)+1) 1)
   refine ⟨1,(n:Int)+1,1,upd_same,small_up (by decide) (by decide) (by decide) (by decide) (by omega) (by omega),by decide,by rw [size_one];omega,fun l hl=>?_⟩
   rw [size_one,ups_nI]
   have g2:=Same.new hl (.lst (nI (ups n)))
   exact ⟨l,ups n,n,rfl,fun x hx=>by have:=ups_pos hx;omega,hn,upd_same,fun p H' y hp=>q p H' ((g1.trans g2).trans y) hp⟩
 | times m=>
   refine ⟨_,(zss_cons (zs_set (i:=2) nd rfl (Or.inl rfl) (ze_ix ix_P (zn 0) ze_int (fun _ _=>rfl)))
    (zss_cons (zs_if (zt_cmpP (op_eqD hu) (zn 2) ze_str (nomark _)) zss_never zss_nil)
    (zss_cons (zs_if (zt_cmpP (op_eqD hu) (zn 2) ze_str (nomark _)) zss_never zss_nil)
    (zss_cons (zs_if (zt_cmpP (op_eqD hu) (zn 2) ze_str (nomark _)) zss_never zss_nil)
    (zss_cons (zs_if (zt_cmpP (op_eqD hu) (zn 2) ze_str (nomark _)) (zss_one (zs_ret (ze_fn F_of_sizes_below hr (by decide) rfl (za_cons (zcb_lrange rfl rfl m_list (za_cons (zcb_range rfl m_range (za_cons ze_int (za_cons (ze_op op_addP (zn 1) ze_int) za_nil)) rfl rfl) za_nil) rfl rfl) (za_cons (ze_ix ix_P (zn 0) ze_int (fun _ _=>rfl)) (za_cons (zn 1) za_nil)))))) zss_nil)
    (zss_cons (zs_if (zt_cmpP (op_eqD hu) (zn 2) ze_str (nomark _)) zss_never zss_nil)
    (zss_cons (zs_if (zt_cmpP (op_eqD hu) (zn 2) ze_str (nomark _)) zss_never zss_nil)
    zss_never))))))),?_⟩
   refine ⟨_,.inr hk,.str "times",rfl,?_⟩
   refine fun rp hrp=>?_
   have g1:=Same.new hrp (rngO rp 1 ((n:Int)+1) 1)
   refine ⟨1,(n:Int)+1,1,upd_same,small_up (by decide) (by decide) (by decide) (by decide) (by omega) (by omega),by decide,by rw [size_one];omega,fun l hl=>?_⟩
   rw [size_one,ups_nI]
   have g2:=Same.new hl (.lst (nI (ups n)))
   refine ⟨_,.inr ((g1.trans g2) _ _ hk),.int m,rfl,?_⟩
   exact ⟨l,ups n,m,n,rfl,hok.1,hok.2,fun x hx=>by have:=ups_pos hx;omega,hn,upd_same,fun p H' y hp=>q p H' ((g1.trans g2).trans y) hp⟩
 | rests m rs=>
   obtain ⟨d,hk,hd⟩:=hk
   refine ⟨_,(zss_cons (zs_set (i:=2) nd rfl (Or.inl rfl) (ze_ix ix_P (zn 0) ze_int (fun _ _=>rfl)))
    (zss_cons (zs_if (zt_cmpP (op_eqD hu) (zn 2) ze_str (nomark _)) zss_never zss_nil)
    (zss_cons (zs_if (zt_cmpP (op_eqD hu) (zn 2) ze_str (nomark _)) zss_never zss_nil)
    (zss_cons (zs_if (zt_cmpP (op_eqD hu) (zn 2) ze_str (nomark _)) zss_never zss_nil)
    (zss_cons (zs_if (zt_cmpP (op_eqD hu) (zn 2) ze_str (nomark _)) zss_never zss_nil)
    (zss_cons (zs_if (zt_cmpP (op_eqD hu) (zn 2) ze_str (nomark _)) (zss_one (zs_ret (ze_fn F_of_sizes hr (by decide) rfl (za_cons (ze_comp ["size"] [("kind",0)] rfl ⟨rfl,by decide +kernel,by decide +kernel,rfl,rfl⟩ (zi_range2 rfl m_range (za_cons ze_int (za_cons (ze_op op_addP (zn 1) ze_int) za_nil))) kpg_name (fun _ _ _ _=>zg_name (i:=0) (show List.Nodup (["size","kind"]:List Str) by decide +kernel) rfl (Or.inl rfl)) (fun _ _ _ _=>(zif_one (zt_cmpP (op_in_seq' rfl) (ze_op op_modP (zn 0) (ze_ix (ix_P' rfl) (zn 1) ze_int (fun _ _=>rfl))) (ze_ix (ix_P' rfl) (zn 1) ze_int (fun _ _=>rfl)) (by with_unfolding_all rfl)))) (fun _ _ _ _=>(zn 0))) (za_cons (zn 1) za_nil))))) zss_nil)
    (zss_cons (zs_if (zt_cmpP (op_eqD hu) (zn 2) ze_str (nomark _)) zss_never zss_nil)
    zss_never))))))),?_⟩
   refine ⟨_,.inr hk,.str "rests",rfl,?_⟩
   refine ⟨1,(n:Int)+1,rfl,⟨by omega,by omega,by omega,by omega⟩,?_⟩
   have eN:((n:Int)+1 - 1).toNat=n:=by omega
   rw [eN]
   refine cmp_range (fun i zs H'=>i≤n∧H'=H∧zs=nI (rsz m rs i)) ⟨Nat.zero_le _,rfl,rfl⟩ ?_ ?_
   · rintro i zs H' hi ⟨_,rfl,rfl⟩
     have e1:(1:Int)+(i:Int)=((i+1:Nat):Int):=by omega
     have:=rsz_len m rs i
     refine ⟨by rw [nI_len];exact small1000 (by omega),?_⟩
     refine ⟨_,.inr hk,.int m,rfl,(show (0:Int)<(m:Int) by have:=hok.1;omega),?_⟩
     refine ⟨_,.inr hk,.ref d,rfl,?_⟩
     refine ⟨d,_,rfl,.inr (SqT.of hd),rfl,flat_ints rs,?_⟩
     rw [in_ints,e1]
     show if (decide (((i+1:Nat):Int) % (m:Int)∈rs))=true then _ else _
     refine iteB (fun c=>?_) (fun c=>?_)
     · refine ⟨by omega,rfl,?_⟩
       rw [rsz_succ,if_pos (of_decide_eq_true c)]
       unfold nI
       rw [List.map_append,List.map_append]
       rfl
     · refine ⟨by omega,rfl,?_⟩
       rw [rsz_succ,if_neg (by simpa using c),List.append_nil]
   · rintro zs H' ⟨_,rfl,rfl⟩ D hD
     exact ⟨D,rsz m rs n,n,rfl,fun x hx=>by have:=ups_pos (List.mem_filter.mp hx).1;omega,hn,upd_same,fun p H2 y hp=>q p H2 ((Same.new hD _).trans y) hp⟩
 | most k=>
   refine ⟨_,(zss_cons (zs_set (i:=2) nd rfl (Or.inl rfl) (ze_ix ix_P (zn 0) ze_int (fun _ _=>rfl)))
    (zss_cons (zs_if (zt_cmpP (op_eqD hu) (zn 2) ze_str (nomark _)) zss_never zss_nil)
    (zss_cons (zs_if (zt_cmpP (op_eqD hu) (zn 2) ze_str (nomark _)) zss_never zss_nil)
    (zss_cons (zs_if (zt_cmpP (op_eqD hu) (zn 2) ze_str (nomark _)) zss_never zss_nil)
    (zss_cons (zs_if (zt_cmpP (op_eqD hu) (zn 2) ze_str (nomark _)) zss_never zss_nil)
    (zss_cons (zs_if (zt_cmpP (op_eqD hu) (zn 2) ze_str (nomark _)) zss_never zss_nil)
    (zss_cons (zs_if (zt_cmpP (op_eqD hu) (zn 2) ze_str (nomark _)) zss_never zss_nil)
    (zss_one (zs_ret (ze_fn F_of_sizes hr (by decide) rfl (za_cons (zcb_lrange rfl rfl m_list (za_cons (zcb_range rfl m_range (za_cons ze_int (za_cons (ze_op op_addP (zcb_min rfl rfl m_min (za_cons (ze_ix ix_P (zn 0) ze_int (fun _ _=>rfl)) (za_cons (zn 1) za_nil)) rfl rfl) ze_int) za_nil)) rfl rfl) za_nil) rfl rfl) (za_cons (zn 1) za_nil)))))))))))),?_⟩
   refine ⟨_,.inr hk,.str "most",rfl,?_⟩
   refine ⟨_,.inr hk,.int k,rfl,?_⟩
   have ec:(if (n:Int)<(k:Int) then (n:Int) else (k:Int))=((min k n:Nat):Int):=by split <;> omega
   refine fun rp hrp=>?_
   have g1:=Same.new hrp (rngO rp 1 ((if (n:Int)<(k:Int) then (n:Int) else (k:Int))+1) 1)
   refine ⟨1,(if (n:Int)<(k:Int) then (n:Int) else (k:Int))+1,1,upd_same,by rw [ec];exact small_up (by decide) (by decide) (by decide) (by decide) (by omega) (by omega),by decide,by rw [ec,size_one];omega,fun l hl=>?_⟩
   rw [ec] at g1 hl
   rw [ec,size_one,ups_nI]
   have g2:=Same.new hl (.lst (nI (ups (min k n))))
   exact ⟨l,ups (min k n),n,rfl,fun x hx=>by have:=ups_pos hx;omega,hn,upd_same,fun p H' y hp=>q p H' ((g1.trans g2).trans y) hp⟩
 | few k=>
   refine ⟨_,(zss_cons (zs_set (i:=2) nd rfl (Or.inl rfl) (ze_ix ix_P (zn 0) ze_int (fun _ _=>rfl)))
    (zss_cons (zs_if (zt_cmpP (op_eqD hu) (zn 2) ze_str (nomark _)) zss_never zss_nil)
    (zss_cons (zs_if (zt_cmpP (op_eqD hu) (zn 2) ze_str (nomark _)) zss_never zss_nil)
    (zss_cons (zs_if (zt_cmpP (op_eqD hu) (zn 2) ze_str (nomark _)) zss_never zss_nil)
    (zss_cons (zs_if (zt_cmpP (op_eqD hu) (zn 2) ze_str (nomark _)) zss_never zss_nil)
    (zss_cons (zs_if (zt_cmpP (op_eqD hu) (zn 2) ze_str (nomark _)) zss_never zss_nil)
    (zss_cons (zs_if (zt_cmpP (op_eqD hu) (zn 2) ze_str (nomark _)) zss_never zss_nil)
    (zss_one (zs_ret (ze_fn F_of_sizes hr (by decide) rfl (za_cons (zcb_lrange rfl rfl m_list (za_cons (zcb_range rfl m_range (za_cons ze_int (za_cons (ze_op op_addP (zcb_min rfl rfl m_min (za_cons (ze_ix ix_P (zn 0) ze_int (fun _ _=>rfl)) (za_cons (zn 1) za_nil)) rfl rfl) ze_int) za_nil)) rfl rfl) za_nil) rfl rfl) (za_cons (zn 1) za_nil)))))))))))),?_⟩
   refine ⟨_,.inr hk,.str "few",rfl,?_⟩
   refine ⟨_,.inr hk,.int k,rfl,?_⟩
   have ec:(if (n:Int)<(k:Int) then (n:Int) else (k:Int))=((min k n:Nat):Int):=by split <;> omega
   refine fun rp hrp=>?_
   have g1:=Same.new hrp (rngO rp 1 ((if (n:Int)<(k:Int) then (n:Int) else (k:Int))+1) 1)
   refine ⟨1,(if (n:Int)<(k:Int) then (n:Int) else (k:Int))+1,1,upd_same,by rw [ec];exact small_up (by decide) (by decide) (by decide) (by decide) (by omega) (by omega),by decide,by rw [ec,size_one];omega,fun l hl=>?_⟩
   rw [ec] at g1 hl
   rw [ec,size_one,ups_nI]
   have g2:=Same.new hl (.lst (nI (ups (min k n))))
   exact ⟨l,ups (min k n),n,rfl,fun x hx=>by have:=ups_pos hx;omega,hn,upd_same,fun p H' y hp=>q p H' ((g1.trans g2).trans y) hp⟩
 | box k l=>
   refine ⟨_,(zss_cons (zs_set (i:=2) nd rfl (Or.inl rfl) (ze_ix ix_P (zn 0) ze_int (fun _ _=>rfl)))
    (zss_cons (zs_if (zt_cmpP (op_eqD hu) (zn 2) ze_str (nomark _)) (zss_one (zs_ret (ze_fn F_in_box hr (by decide) rfl (za_cons (ze_ix ix_P (zn 0) ze_int (fun _ _=>rfl)) (za_cons (ze_ix ix_P (zn 0) ze_int (fun _ _=>rfl)) (za_cons (zn 1) za_nil)))))) zss_nil)
    (zss_cons (zs_if (zt_cmpP (op_eqD hu) (zn 2) ze_str (nomark _)) zss_never zss_nil)
    (zss_cons (zs_if (zt_cmpP (op_eqD hu) (zn 2) ze_str (nomark _)) zss_never zss_nil)
    (zss_cons (zs_if (zt_cmpP (op_eqD hu) (zn 2) ze_str (nomark _)) zss_never zss_nil)
    (zss_cons (zs_if (zt_cmpP (op_eqD hu) (zn 2) ze_str (nomark _)) zss_never zss_nil)
    (zss_cons (zs_if (zt_cmpP (op_eqD hu) (zn 2) ze_str (nomark _)) zss_never zss_nil)
    zss_never))))))),?_⟩
   refine ⟨_,.inr hk,.str "box",rfl,?_⟩
   refine ⟨_,.inr hk,.int k,rfl,?_⟩
   refine ⟨_,.inr hk,.int l,rfl,?_⟩
   exact ⟨k,l,n,rfl,hok.1,hok.2,hn,q⟩
 | off d=>
   refine ⟨_,(zss_cons (zs_set (i:=2) nd rfl (Or.inl rfl) (ze_ix ix_P (zn 0) ze_int (fun _ _=>rfl)))
    (zss_cons (zs_if (zt_cmpP (op_eqD hu) (zn 2) ze_str (nomark _)) zss_never zss_nil)
    (zss_cons (zs_if (zt_cmpP (op_eqD hu) (zn 2) ze_str (nomark _)) (zss_one (zs_ret (ze_fn F_falling_by hr (by decide) rfl (za_cons (ze_ix ix_P (zn 0) ze_int (fun _ _=>rfl)) (za_cons (zn 1) za_nil))))) zss_nil)
    (zss_cons (zs_if (zt_cmpP (op_eqD hu) (zn 2) ze_str (nomark _)) zss_never zss_nil)
    (zss_cons (zs_if (zt_cmpP (op_eqD hu) (zn 2) ze_str (nomark _)) zss_never zss_nil)
    (zss_cons (zs_if (zt_cmpP (op_eqD hu) (zn 2) ze_str (nomark _)) zss_never zss_nil)
    (zss_cons (zs_if (zt_cmpP (op_eqD hu) (zn 2) ze_str (nomark _)) zss_never zss_nil)
    zss_never))))))),?_⟩
   refine ⟨_,.inr hk,.str "off",rfl,?_⟩
   refine ⟨_,.inr hk,.int d,rfl,?_⟩
   exact ⟨d,n,rfl,hok.2,hn,q⟩
 | own=>
   refine ⟨_,(zss_cons (zs_set (i:=2) nd rfl (Or.inl rfl) (ze_ix ix_P (zn 0) ze_int (fun _ _=>rfl)))
    (zss_cons (zs_if (zt_cmpP (op_eqD hu) (zn 2) ze_str (nomark _)) zss_never zss_nil)
    (zss_cons (zs_if (zt_cmpP (op_eqD hu) (zn 2) ze_str (nomark _)) zss_never zss_nil)
    (zss_cons (zs_if (zt_cmpP (op_eqD hu) (zn 2) ze_str (nomark _)) (zss_one (zs_ret (ze_fn F_of_sizes_below hr (by decide) rfl (za_cons (zcb_lrange rfl rfl m_list (za_cons (zcb_range rfl m_range (za_cons ze_int (za_cons (ze_op op_addP (zn 1) ze_int) (za_cons ze_int za_nil))) rfl rfl) za_nil) rfl rfl) (za_cons ze_int (za_cons (zn 1) za_nil)))))) zss_nil)
    (zss_cons (zs_if (zt_cmpP (op_eqD hu) (zn 2) ze_str (nomark _)) zss_never zss_nil)
    (zss_cons (zs_if (zt_cmpP (op_eqD hu) (zn 2) ze_str (nomark _)) zss_never zss_nil)
    (zss_cons (zs_if (zt_cmpP (op_eqD hu) (zn 2) ze_str (nomark _)) zss_never zss_nil)
    zss_never))))))),?_⟩
   refine ⟨_,.inr hk,.str "own",rfl,?_⟩
   refine ⟨by decide,fun rp hrp=>?_⟩
   have g1:=Same.new hrp (rngO rp 1 ((n:Int)+1) 2)
   refine ⟨1,(n:Int)+1,2,upd_same,small_up (by decide) (by decide) (by decide) (by decide) (by omega) (by omega),by decide,by rw [size_two];omega,fun l hl=>?_⟩
   rw [size_two,odds_nI]
   have g2:=Same.new hl (.lst (nI (odds n)))
   exact ⟨l,odds n,2,n,rfl,by decide,by decide,fun x hx=>by have:=odds_pos hx;omega,hn,upd_same,fun p H' y hp=>q p H' ((g1.trans g2).trans y) hp⟩
theorem sc_counts:FnScope ["kind","most"] ["kind","most"] (defScope (top 27)):=⟨rfl,rfl,rfl,by decide +kernel,rfl,by decide +kernel,by decide +kernel⟩
def sp_counts:Sp:=fun vs H Q _=>∃ (c:Addr) (n:Nat) (k:Kn),vs=[.ref c,.int n]∧n≤600∧KnAt H c k∧k.Ok∧∀ p H',Same H H'→H' p=some (.tup ((tb (cf k n) (n+1)).map V.int))→Q (.ref p) H'
theorem ok_counts (F:Fun K "counts" "counts" (top 27) f fd) (m_tuple:mg "tuple" = none) (F_counted:FnA P w K mg base "counted" 3 ["kind","most"] sp_counted):FnOk P w K mg base CX0 4 f fd ["kind","most"] sp_counts:=by
 refine F.okz sc_counts (fun vs H Q E h=>?_) (fun cdv A outer s H vs Q E hr h=>?_)
 · obtain ⟨k,n,kd,rfl,_⟩:=h;rfl
 obtain ⟨c,n,k,rfl,hn,hk,hok,q⟩:=h
 have nd:=sc_counts.nd
 refine ⟨_,(zss_one (zs_ret (zcb_tuple rfl m_tuple (za_cons (ze_fn F_counted hr (by decide) rfl (za_cons (zn 0) (za_cons (zn 1) za_nil))) za_nil) rfl rfl))),?_⟩
 refine ⟨c,n,k,rfl,hn,hk,hok,fun p H1 y1 hp1=>?_⟩
 exact ⟨_,.inl (SqL.of hp1),fun r2 H2 y2 hr2=>q r2 H2 (y1.trans y2) hr2⟩
end
end K31
namespace M17
open MRow M80
def odd6:List Int:=[1,1,1,2,2,3,4,5,6,8,10,12,15,18,22,27,32,38,46,54,64,76,89,104,122,142,165,192,222,256,296,340,390,448,512,585,668,760,864,982,1113,1260,1426,1610,1816,2048,2304,2590,2910,3264,3658,4097,4582,5120,5718,6378,7108,7917,8808,9792,10880,12076,13394,14848,16444,18200,20132,22250,24576,27130,29927,32992,36352,40026,44046,48446,53250,58499,64234,70488,77312,84756,92864,101698,111322,121792,133184,145578,159046,173682,189586,206848,225585,245920,267968,291874,317788,345856,376256,409174,444793,483330,525016,570078,618784,671418,728260,789640,855906,927406,1004544,1087744,1177438,1274118,1378304,1490528,1611388,1741521,1881578,2032290,2194432,2368800,2556284,2757826,2974400,3207086,3457027,3725410,4013544,4322816,4654670,5010688,5392550,5802008,6240974,6711480,7215644,7755776,8334326,8953856,9617150,10327156,11086968,11899934,12769602,13699699,14694244,15757502,16893952,18108418,19406016,20792120,22272512,23853318,25540982,27342421,29264960,31316314,33504746,35839008,38328320,40982540,43812110,46828032,50042056,53466624,57114844,61000704,65139008,69545358,74236384,79229676,84543782,90198446,96214550,102614114,109420549,116658616,124354422,132535702,141231780,150473568,160293888,170727424,181810744,193582642,206084096,219358315,233451098,248410816,264288462,281138048,299016608,317984256,338104630,359444904,382075868,406072422,431513602,458482688,487067746,517361670,549462336,583473184,619503296,657667584,698087424,740890786,786212446,834194700,884987529,938748852,995645336,1055852590,1119555488,1186949056,1258238720,1333640710,1413383026,1497705768,1586861606,1681116852,1780751883,1886061684,1997357056,2114965120,2239229960,2370513986,2509198528,2655684608,2810394454,2973772212,3146284870,3328423936,3520706304,3723675326,3937902688,4163989458,4402567324,4654300706,4919887992,5200062976,5495597248,5807301632,6136027874,6482671322,6848172604,7233519619,7639750522,8067955712,8519280128,8994926602,9496158208,10024300890,10580747264,11166959338,11784471548,12434895064,13119920928,13841323582,14600965705,15400801856,16242882560,17129359744,18062490974,19044644146,20078303620,21166075136,22310691192,23515017984,24782061070,26114971540,27517053882,28991772486,30542758738,32173819904,33888946600,35692320960,37588326642,39581557440,41676826624,43879178240,46193897032,48626519094,51182844672,53868949522,56691197084,59656252987,62771098024,66043042088,69479740554,73089209120,76879839744,80860419136,85040145750,89428647940,94036004868,98872765938,103949971456,109279176298,114872472064,120742510607,126902530816,133366383848,140148559930,147264218618,154729217536,162560142890,170774343642,179389964242,188425979304,197902232212,207839472390,218259394656,229184682870,240639052286,252647294208,265235325352,278430235904,292260340224,306755232574,321945841664,337864488192,354544947722,372022512608,390334057172,409518108690,429614917632,450666531450,472716874732,495811828759,519999315040,545329385792,571854313990,599628687918,628709513216,659156314788,691031243770,724399192576,759327910200,795888123110,834153664940,874201606890,916112394270,959969992704,1005862035461,1053879977632,1104119260918,1156679479970,1211664556454,1269182924648,1329347719190,1392276971520,1458093818816,1526926715868,1598909656578,1674182409148,1752890755072,1835186738752,1921228932216,2011182704478,2105220502772,2203522150410,2306275150210,2413675001278,2525925533946,2643239251488,2765837686784,2893951778822,3027822257408,3167700044480,3313846677248,3466534741118,3626048321048,3792683476992,3966748730794,4148565573659,4338469000206,4536808055808,4743946406976,4960262940968,5186152380864,5422025926436,5668311927092,5925456572864,6193924614094,6474200116480,6766787237064,7072211032064,7391018303854,7723778471936,8071084479444,8433553742947,8811829129614,9206579974150,9618503143424,10048324132444,10496798204736,10964711585280,11452882689344,11962163400706,12493440408000,13047636581998,13625712407808,14228667481438,14857542052794,15513418629884,16197423654282,16910729229128,17654554915430,18430169607104,19238893465516,20082099930208,20961217816576,21877733480960,22833193070488,23829204869148,24867441720078,25949643542056,27077619952640,28253252977152,29478499862528,30755396009352,32086058000384,33472686745954,34917570760097,36423089545254,37991717107136,39626025614146,41328689179000,43102487785006,44950311372460,46875164062334,48880168540672,50968570620480,53143743957460,55409194944512,57768567802880,60225649845546,62784376939520,65448839185792,68223286792200,71112136167457,74119976256080,77251575089318,80511886581728,83906057594564,87439435240798,91117574462854,94946245905984,98931444061528,103079395713070,107396568710144,111889681043072,116565710254336,121431903212544,126495786222432,131765175508648,137248188100782,142953253093376,148889123320640,155064887475476,161489982646592,168174207315550,175127734845952,182361127438194,189885350594524,197711788129024,205852257695744,214319026883034,223124829910884,232282884904960,241806911798586,251711150901902,262010382112696,272719944823232,283855758565430,295434344369603,307472846894368,319989057373738,333001437357056,346529143303468,360592052080640,375210787343946,390406746862530,406202130845496,422619971245764,439684162112802,457419491051264,475851671764998,495007377762304,514914277284172,535601069436938,557097521610170,579434508247040,602644050950309,626759360010788,651814877431176,677846321430326,704890732521792,732986521245024,762173517537344,792493021847638,823987858076150,856702428332358,890682769618944,925976612533600,962633441984512,1000704560035328,1040243150979584,1081304348644370,1123945306048160,1168225267521350,1214205643293832,1261950086684682,1311524574011392,1362997487228740,1416439699443142,1471924663429482,1529528503167446,1589330108554312,1651411233432320,1715856596955136,1782753988462274,1852194376012286,1924272018606886,1999084582288680,2076733260276736,2157322897180672,2240962117491470,2327763458527114,2417843507884236,2511323045610351,2608327191289920,2708985556107624,2813432400120490,2921806794949600,3034252791967794,3150919596233664,3271961746402048,3397539300701248,3527818029248524,3662969612954798,3803171849124234,3948608864043776,4099471332835560,4255956706695932,4418269447841280,4586621272457656,4761231401798354,4942326821776384,5130142551375961,5324921920049402,5526916854475456,5736388175033294,5953605902182496,6178849573157632,6412408569364172,6654582454692416,6905681325194186,7166026170543674,7435949247529300,7715794466060288,8005917788147074,8306687640136410,8618485338726400,8941705531262976,9276756650635608,9624061385342750,9984057165275480,10357196663576906,10743948315198452,11144796852752066,11560243860059904,11990808344078336,12437027325849664,12899456450932840,13378670620050080,13875264640662318,14389853899979968,14923075060210662,15475586776823052,16048070440393280,16641230942906536,17255797469365504,17892524315337728,18552191731392520,19235606795358220,19943604313103648,20677047748880384,21436830186242063,22223875320324628,23039138482617536,23883607699335168,24758304784261244,25664286467296970,26602645559925188,27574512158560256,28581054887124232,29623482180174912,30703043607660730]
theorem odd_fo:foL 1 601 602 0 0 (tb (fun _=>0) 601) (tb dl 601)=odd6:=by decide +kernel
theorem tb_one {f g:Nat→Int} {L:Nat} (h:tb f L=tb g L) {j:Nat} (hj:j<L):f j=g j:=by
 have h1:=tb_get (f:=f) hj
 have h2:=tb_get (f:=g) hj
 rw [h,h2] at h1
 exact (Option.some.inj h1).symm
end M17
set_option exponentiation.threshold 1000
namespace M14
open MRow
def sumTo:Nat→(Nat→Int)→Int
 | 0,_=>0
 | m+1,h=>sumTo m h+h m
theorem sumTo_ext {f g:Nat→Int}:∀ {m:Nat},(∀ i,i<m→f i=g i)→sumTo m f=sumTo m g
 | 0,_=>rfl
 | m+1,h=>by
   show sumTo m f+f m=sumTo m g+g m
   rw [sumTo_ext fun i hi=>h i (by omega),h m (by omega)]
theorem sumTo_add (f g:Nat→Int):∀ m,sumTo m (fun i=>f i+g i)=sumTo m f+sumTo m g
 | 0=>rfl
 | m+1=>by
   show sumTo m (fun i=>f i+g i)+(f m+g m)=(sumTo m f+f m)+(sumTo m g+g m)
   rw [sumTo_add f g m];omega
theorem sumTo_zero:∀ {m:Nat} {f:Nat→Int},(∀ i,i<m→f i=0)→sumTo m f=0
 | 0,_,_=>rfl
 | m+1,f,h=>by
   show sumTo m f+f m=0
   rw [sumTo_zero fun i hi=>h i (by omega),h m (by omega)];rfl
theorem sumTo_shift (f:Nat→Int) (s:Nat):∀ m,sumTo (s+m) f=sumTo s f+sumTo m (fun i=>f (s+i))
 | 0=>by show sumTo s f=sumTo s f+0;omega
 | m+1=>by
   show sumTo (s+m) f+f (s+m)=sumTo s f+(sumTo m (fun i=>f (s+i))+f (s+m))
   rw [sumTo_shift f s m];omega
theorem sumTo_head (f:Nat→Int) (m:Nat):sumTo (m+1) f=f 0+sumTo m (fun i=>f (i+1)):=by
 have h:=sumTo_shift f 1 m
 have e1:sumTo 1 f=f 0:=by show (0:Int)+f 0=f 0;omega
 have e2:sumTo m (fun i=>f (1+i))=sumTo m (fun i=>f (i+1)):=sumTo_ext fun i _=>by rw [Nat.add_comm]
 rw [e1,e2] at h
 rw [← h,Nat.add_comm]
theorem sumTo_rev (f:Nat→Int):∀ m,sumTo m f=sumTo m (fun i=>f (m - 1 - i))
 | 0=>rfl
 | m+1=>by
   rw [sumTo_head (fun i=>f (m+1 - 1 - i)) m]
   show sumTo m f+f m=f (m+1 - 1 - 0)+sumTo m (fun i=>f (m+1 - 1 - (i+1)))
   have e:sumTo m (fun i=>f (m+1 - 1 - (i+1)))=sumTo m (fun i=>f (m - 1 - i)):=sumTo_ext fun i hi=>by congr 1;omega
   have e0:m+1 - 1 - 0=m:=by omega
   rw [e,← sumTo_rev f m,e0];omega
def conv (f g:Nat→Int) (n:Nat):Int:=sumTo (n+1) fun i=>f i*g (n - i)
theorem conv_comm (f g:Nat→Int):conv f g=conv g f:=by
 funext n
 unfold conv
 rw [sumTo_rev]
 refine sumTo_ext fun i hi=>?_
 have e1:n+1 - 1 - i=n - i:=by omega
 have e2:n - (n - i)=i:=by omega
 rw [e1,e2,Int.mul_comm]
theorem conv_put_step (f g:Nat→Int) {s:Nat} (hs:0<s) (n:Nat):conv (put f s) g n=conv f g n+(if s≤n then conv (put f s) g (n - s) else 0):=by
 unfold conv
 have e:sumTo (n+1) (fun i=>put f s i*g (n - i))=sumTo (n+1) (fun i=>f i*g (n - i))+sumTo (n+1) (fun i=>(if s≤i then put f s (i - s) else 0)*g (n - i)):=by
  rw [← sumTo_add]
  refine sumTo_ext fun i _=>?_
  rw [← Int.add_mul,← put_eq f hs i]
 rw [e]
 congr 1
 by_cases h:s≤n
 · rw [if_pos h]
   have en:n+1=s+(n - s+1):=by omega
   rw [en,sumTo_shift,sumTo_zero (m:=s) fun i hi=>by rw [if_neg (by omega),Int.zero_mul],Int.zero_add]
   refine sumTo_ext fun i hi=>?_
   have e1:s+i - s=i:=by omega
   have e2:n - (s+i)=n - s - i:=by omega
   rw [if_pos (by omega),e1,e2]
 · rw [if_neg h]
   exact sumTo_zero fun i hi=>by rw [if_neg (by omega),Int.zero_mul]
theorem put_uniq {F c:Nat→Int} {s:Nat} (hs:0<s) (h:∀ n,F n=c n+(if s≤n then F (n - s) else 0)):F=put c s:=by
 have:∀ N n,n≤N→F n=put c s n:=by
  intro N
  induction N with
  | zero=>intro n hn;rw [h n,put_eq c hs n,if_neg (by omega),if_neg (by omega)]
  | succ N ih=>
    intro n hn
    rw [h n,put_eq c hs n]
    by_cases hsn:s≤n
    · rw [if_pos hsn,if_pos hsn,ih _ (by omega)]
    · rw [if_neg hsn,if_neg hsn]
 funext n
 exact this n n (Nat.le_refl _)
theorem conv_put (f g:Nat→Int) {s:Nat} (hs:0<s):conv (put f s) g=put (conv f g) s:=put_uniq hs (conv_put_step f g hs)
theorem conv_put2 (f g:Nat→Int) {s:Nat} (hs:0<s):conv f (put g s)=put (conv f g) s:=by rw [conv_comm,conv_put g f hs,conv_comm g f]
theorem conv_dl (g:Nat→Int):conv dl g=g:=by
 funext n
 unfold conv
 rw [sumTo_head,sumTo_zero fun i _=>by show dl (i+1)*_=0;unfold dl;rw [if_neg (Nat.succ_ne_zero i),Int.zero_mul]]
 show dl 0*g (n - 0)+0=g n
 unfold dl
 rw [if_pos rfl,Int.one_mul,Int.add_zero,Nat.sub_zero]
def S:Nat→Nat→Int
 | 0=>dl
 | s+1=>put (put (S s) (s+1)) (s+1)
end M14
namespace M15
open MRow
def near (k:Nat):Int:=(k:Int)*(3*(k:Int) - 1) / 2
def sgn (k:Nat):Int:=if (k:Int) % 2=0 then 1 else -1
def cpart (most:Int) (k:Nat):List (Int×Int):=(near k,sgn k)::(if (0:Int)<k∧near k+k≤most then [(near k+k,sgn k)] else [])
def cl:Nat→Int→Nat→List (Int×Int)→List (Int×Int)
 | 0,_,_,acc=>acc
 | f+1,most,k,acc=>if near k≤most then cl f most (k+1) (acc++cpart most k) else acc
def cor (most:Int):List (Int×Int):=cl 25 most 0 []
theorem near_big {k:Nat} (h:25≤k):600<near k:=by
 unfold near
 have h1:(25:Int)≤k:=by omega
 have h2:(25:Int)*(3*25 - 1)≤(k:Int)*(3*(k:Int) - 1):=Int.mul_le_mul h1 (by omega) (by omega) (by omega)
 omega
def sqf:Nat→Int→Int→Int
 | 0,s,_=>s
 | f+1,s,t=>if s*s<t then sqf f (s+1) t else s
def sgv (side:Int) (p:Nat):Int:=if sqf 130 side (24*(p:Int)+1)*sqf 130 side (24*(p:Int)+1)=24*(p:Int)+1 then 1 - 2*((sqf 130 side (24*(p:Int)+1)+1) / 6 % 2) else 0
def dst (st:List (Int×Int)×Int) (p:Nat):List (Int×Int)×Int:=
 (if sqf 130 st.2 (24*(p:Int)+1)*sqf 130 st.2 (24*(p:Int)+1)=24*(p:Int)+1 then st.1++[((p:Int),1 - 2*((sqf 130 st.2 (24*(p:Int)+1)+1) / 6 % 2))] else st.1,sqf 130 st.2 (24*(p:Int)+1))
def stp:Nat→List (Int×Int)×Int
 | 0=>([],1)
 | p+1=>dst (stp p) p
def chk:Nat→List (Int×Int)×Int→Nat→Bool
 | 0,_,_=>true
 | f+1,st,p=>decide (cor (p:Int)=(dst st p).1)&&chk f (dst st p) (p+1)
theorem chk_all:∀ {f p:Nat},chk f (stp p) p=true→∀ i,i<f→cor ((p+i:Nat):Int)=(stp (p+i+1)).1
 | 0,_,_,i,hi=>absurd hi (Nat.not_lt_zero _)
 | f+1,p,h,i,hi=>by
   have h':(decide (cor (p:Int)=(dst (stp p) p).1)&&chk f (dst (stp p) p) (p+1))=true:=h
   rw [Bool.and_eq_true] at h'
   cases i with
   | zero=>exact of_decide_eq_true h'.1
   | succ i=>
     have:=chk_all (f:=f) (p:=p+1) h'.2 i (by omega)
     have e:p+1+i=p+(i+1):=by omega
     rw [e] at this
     exact this
theorem chk_ok:chk 601 ([],1) 0=true:=by decide +kernel
theorem cor_due {m:Nat} (h:m≤600):cor (m:Int)=(stp (m+1)).1:=by
 have:=chk_all (f:=601) (p:=0) chk_ok m (by omega)
 rw [Nat.zero_add] at this
 exact this
def L:Nat→Nat→Int
 | 0=>dl
 | s+1=>fun j=>L s j - (if s+1≤j then L s (j - (s+1)) else 0)
theorem L_low {s j:Nat} (h:j≤s):∀ d,L (s+d) j=L s j
 | 0=>rfl
 | d+1=>by
   show L (s+d) j - (if s+d+1≤j then _ else 0)=_
   rw [if_neg (by omega),L_low h d];omega
def lstep (s:Nat) (row:List Int):List Int:=List.zipWith (fun a b=>a - b) row (List.replicate s 0++row)
def lls (N:Nat):Nat→List Int
 | 0=>1::List.replicate N 0
 | s+1=>lstep (s+1) (lls N s)
theorem lls_is (N:Nat):∀ s,lls N s=tb (L s) (N+1)
 | 0=>(tb_dl N).symm
 | s+1=>by
   show lstep (s+1) (lls N s)=_
   rw [lls_is N s]
   unfold lstep
   refine List.ext_getElem (by simp [tb_len]) fun j h1 h2=>?_
   have hj:j<N+1:=by rw [tb_len] at h2;exact h2
   rw [List.getElem_zipWith,tb_at,tb_at h2]
   show L s j - _=L s j - _
   congr 1
   by_cases h:s+1≤j
   · rw [if_pos h,List.getElem_append_right (by simpa using h),tb_at]
     simp
   · rw [if_neg h,List.getElem_append_left (by simpa using h)]
     simp
def chk2:List Int→List (Int×Int)×Int→Nat→Bool
 | [],_,_=>true
 | x::r,st,p=>decide (x=sgv st.2 p)&&chk2 r (dst st p) (p+1)
theorem chk2_all:∀ {l:List Int} {p:Nat},chk2 l (stp p) p=true→∀ (i:Nat) (h:i<l.length),l[i]=sgv (stp (p+i)).2 (p+i)
 | [],_,_,i,hi=>absurd hi (Nat.not_lt_zero _)
 | x::r,p,h,i,hi=>by
   have h':(decide (x=sgv (stp p).2 p)&&chk2 r (dst (stp p) p) (p+1))=true:=h
   rw [Bool.and_eq_true] at h'
   cases i with
   | zero=>exact of_decide_eq_true h'.1
   | succ i=>
     have:=chk2_all (l:=r) (p:=p+1) h'.2 i (by simpa using hi)
     have e:p+1+i=p+(i+1):=by omega
     rw [e] at this
     simpa using this
theorem cor_bnd:((List.range 601).all fun (m:Nat)=>((cor (m:Int)).all fun p=>decide (0≤p.1∧p.1≤(m:Int)∧-1≤p.2∧p.2≤1))&&decide ((cor (m:Int)).length≤100))=true:=by decide +kernel
theorem cor_in {m:Nat} (h:m≤600):(∀ p∈cor (m:Int),0≤p.1∧p.1≤(m:Int)∧-1≤p.2∧p.2≤1)∧(cor (m:Int)).length≤100:=by
 have:=List.all_eq_true.mp cor_bnd m (List.mem_range.mpr (by omega))
 rw [Bool.and_eq_true] at this
 exact ⟨fun p hp=>of_decide_eq_true (List.all_eq_true.mp this.1 p hp),of_decide_eq_true this.2⟩
theorem cl_len:∀ (f:Nat) (most:Int) (k:Nat) (acc:List (Int×Int)),acc.length≤(cl f most k acc).length
 | 0,_,_,_=>Nat.le_refl _
 | f+1,most,k,acc=>by
   unfold cl
   split
   · have:=cl_len f most (k+1) (acc++cpart most k)
     rw [List.length_append] at this
     omega
   · exact Nat.le_refl _
def run:Nat→Nat→List Int→List Int
 | 0,_,row=>row
 | k+1,s,row=>run k (s+1) (lstep (s+1) row)
theorem run_lls (N:Nat):∀ k s,run k s (lls N s)=lls N (s+k)
 | 0,_=>rfl
 | k+1,s=>by
   show run k (s+1) (lls N (s+1))=_
   rw [run_lls N k (s+1)]
   congr 1
   omega
def row100:List Int:=[1,-1,-1,0,0,1,0,1,0,0,0,0,-1,0,0,-1,0,0,0,0,0,0,1,0,0,0,1,0,0,0,0,0,0,0,0,-1,0,0,0,0,-1,0,0,0,0,0,0,0,0,0,0,1,0,0,0,0,0,1,0,0,0,0,0,0,0,0,0,0,0,0,-1,0,0,0,0,0,0,-1,0,0,0,0,0,0,0,0,0,0,0,0,0,0,1,0,0,0,0,0,0,0,1,1,0,-1,-1,-1,0,0,1,1,1,1,1,0,0,0,-1,-2,-1,-1,-1,-1,-1,0,0,0,-1,1,1,1,1,1,1,1,1,1,0,0,0,0,0,-1,-1,-1,-1,0,-1,-1,-1,-1,-1,-1,0,0,0,1,0,0,1,1,1,1,1,1,1,1,1,1,1,1,1,0,0,0,0,0,-1,0,-1,-1,-1,-1,-1,-1,-1,-1,-1,-2,-1,-1,-1,-1,-1,0,0,0,0,0,0,0,0,1,2,1,1,0,0,0,0,1,2,2,2,3,2,3,2,2,0,0,-1,-1,-1,-2,-2,-2,-2,-3,-2,-2,-1,-1,0,0,1,1,2,1,2,1,2,1,1,0,0,-1,0,-2,-1,-2,-2,-3,-3,-3,-3,-3,-2,-2,-2,-1,-2,0,0,1,1,2,2,3,3,4,4,5,4,5,4,5,4,4,3,3,2,2,1,1,0,0,-1,0,-3,-3,-4,-4,-5,-5,-5,-5,-5,-5,-5,-5,-5,-4,-4,-3,-3,-3,-2,-3,-2,-2,-1,0,2,2,4,4,6,6,7,6,7,5,6,5,5,4,4,2,2,1,-1,0,0,-1,0,0,0,1,1,1,2,2,2,2,2,0,1,1,-1,-1,-2,-3,-4,-5,-6,-7,-8,-8,-9,-9,-9,-10,-10,-9,-9,-8,-7,-6,-5,-3,-2,0,2,3,5,7,9,10,11,12,12,14,13,14,14,14,13,14,13,12,11,9,8,6,3,2,0,-2,-4,-5,-8,-9,-10,-11,-12,-13,-15,-15,-16,-17,-18,-17,-17,-16,-15,-13,-12,-9,-8,-5,-4,-1,-1,2,3,4,6,8,8,9,10,9,9,10,10,10,11,11,12,12,13,13,14,14,15,15,15,13,15,12,13,10,10,6,7,2,1,-3,-3,-9,-9,-13,-15,-19,-20,-24,-24,-27,-28,-29,-28,-30,-28,-27,-26,-24,-21,-17,-14,-11,-8,-4,0,3,7,11,14,18,21,25,27,31,31,35,35,37,35,36,33,33,30,28,24,23,18,17,11,8,3,0,-6,-10,-15,-18,-23,-25,-29,-31,-33,-34,-35,-36,-36,-36,-35,-34,-34,-32,-29,-28,-25,-22,-21,-18,-15,-12,-9,-6,-3,1,5,8,12,16,20,23,28,31,35,38,40,42,46,46,47,48,48,46,45,43,40,37,33,28,24,17,11,6,-1,-9,-15,-21,-28,-34,-40,-46,-49,-54,-56,-57,-59,-60,-59,-58,-57,-54,-51,-47,-42,-37,-31,-24,-18,-11,-3,4,13,21,27,34,40]
theorem run100:run 100 0 (1::List.replicate 600 0)=row100:=by decide +kernel
def row200:List Int:=[1,-1,-1,0,0,1,0,1,0,0,0,0,-1,0,0,-1,0,0,0,0,0,0,1,0,0,0,1,0,0,0,0,0,0,0,0,-1,0,0,0,0,-1,0,0,0,0,0,0,0,0,0,0,1,0,0,0,0,0,1,0,0,0,0,0,0,0,0,0,0,0,0,-1,0,0,0,0,0,0,-1,0,0,0,0,0,0,0,0,0,0,0,0,0,0,1,0,0,0,0,0,0,0,1,0,0,0,0,0,0,0,0,0,0,0,0,0,0,0,0,-1,0,0,0,0,0,0,0,0,-1,0,0,0,0,0,0,0,0,0,0,0,0,0,0,0,0,0,0,1,0,0,0,0,0,0,0,0,0,1,0,0,0,0,0,0,0,0,0,0,0,0,0,0,0,0,0,0,0,0,-1,0,0,0,0,0,0,0,0,0,0,-1,0,0,0,0,0,0,0,0,0,0,0,0,0,1,0,-1,-1,-1,0,0,1,1,2,1,1,0,0,0,-1,-1,-1,-1,-1,-1,0,0,0,0,0,1,1,1,1,1,1,1,1,1,0,0,0,0,0,-1,-1,-1,-1,-1,-1,-2,-1,-1,-1,-1,0,0,0,0,0,0,1,1,0,1,1,1,1,1,1,1,1,1,1,0,0,0,0,0,0,0,-1,-1,-1,-1,-1,-1,-1,-1,-1,0,-1,-1,-1,-1,-1,0,0,0,0,0,0,0,0,2,1,1,1,1,1,1,1,1,1,1,1,1,1,1,1,1,0,0,0,0,0,0,0,0,0,-1,-1,-1,-2,-1,-1,-1,-1,-1,-1,-1,-1,-1,-1,-1,-1,-1,-1,-2,0,0,0,0,0,0,0,0,0,0,1,1,1,1,1,1,1,1,1,1,1,1,1,1,1,1,1,1,1,1,2,0,0,0,0,0,0,0,0,0,0,0,-1,-1,-1,-1,0,-1,-1,-1,-1,-1,-1,-1,-1,-1,0,-1,-1,-2,-2,-2,-2,-1,-1,1,1,2,1,2,1,1,0,0,-1,-1,-2,-1,-1,-2,-1,-1,0,0,1,1,2,2,3,3,4,3,4,3,4,3,2,2,2,1,1,0,-1,-2,-2,-3,-3,-3,-3,-3,-3,-3,-3,-2,-2,-2,-2,-1,-1,0,0,1,1,2,2,3,2,3,2,3,2,4,2,2,1,1,0,0,-1,-1,-2,-2,-2,-2,-3,-3,-4,-4,-4,-3,-4,-4,-4,-4,-4,-4,-2,-2,-1,-1,0,0,1,1,2,2,3,3,4,4,5,5,6,5,6,5,6,5,6,5,6,5,5,4,4,2,1,1,1,0,0,-1,-1,-2,-2,-3,-3,-4,-4,-5,-6,-6,-6,-6,-6,-7,-6,-6,-6,-6,-6,-5,-5,-4,-4,-3,-3,-2,-2,-1,-1,0,0,1,1,2,2,3,3,4,4,6,5,6,5,6,5,6,5,6,5,6,5,5,5,4,3,4,3,3,2,2,1,1,0]
theorem run200:run 100 100 row100=row200:=by decide +kernel
def row300:List Int:=[1,-1,-1,0,0,1,0,1,0,0,0,0,-1,0,0,-1,0,0,0,0,0,0,1,0,0,0,1,0,0,0,0,0,0,0,0,-1,0,0,0,0,-1,0,0,0,0,0,0,0,0,0,0,1,0,0,0,0,0,1,0,0,0,0,0,0,0,0,0,0,0,0,-1,0,0,0,0,0,0,-1,0,0,0,0,0,0,0,0,0,0,0,0,0,0,1,0,0,0,0,0,0,0,1,0,0,0,0,0,0,0,0,0,0,0,0,0,0,0,0,-1,0,0,0,0,0,0,0,0,-1,0,0,0,0,0,0,0,0,0,0,0,0,0,0,0,0,0,0,1,0,0,0,0,0,0,0,0,0,1,0,0,0,0,0,0,0,0,0,0,0,0,0,0,0,0,0,0,0,0,-1,0,0,0,0,0,0,0,0,0,0,-1,0,0,0,0,0,0,0,0,0,0,0,0,0,0,0,0,0,0,0,0,0,0,1,0,0,0,0,0,0,0,0,0,0,0,1,0,0,0,0,0,0,0,0,0,0,0,0,0,0,0,0,0,0,0,0,0,0,0,0,-1,0,0,0,0,0,0,0,0,0,0,0,0,-1,0,0,0,0,0,0,0,0,0,0,0,0,0,0,0,0,0,0,0,0,0,0,0,0,0,0,1,0,0,0,0,0,0,0,0,0,0,0,0,0,2,0,-1,-1,-1,0,0,1,1,1,1,1,0,0,0,-1,-1,-1,-1,-1,-1,-1,0,0,0,0,1,1,1,0,1,1,1,1,1,0,0,0,0,0,-1,-1,-1,-1,-2,-1,-1,-1,-1,-1,-1,0,0,0,0,0,0,1,1,1,1,1,1,1,1,1,1,1,1,1,0,0,0,0,0,1,0,-1,-1,-1,-1,-1,-1,-1,-1,-1,-1,-1,-1,-1,-1,0,0,0,0,0,0,0,0,0,1,1,1,1,1,1,1,1,1,1,1,1,1,1,1,1,1,0,0,0,0,0,0,0,-1,0,-1,-1,-1,-1,-1,-1,-1,-1,-1,-1,-1,-1,-1,-1,-1,-2,-1,-1,-1,0,0,0,0,0,0,0,0,0,0,1,1,1,1,1,1,1,1,1,1,1,1,1,1,1,1,1,1,1,1,1,1,0,0,0,0,0,0,0,0,0,0,-1,-1,-1,-1,-1,-1,-1,0,-1,-1,-1,-1,-1,-1,-1,-1,-1,-1,-1,-1,-1,-1,-1,0,0,0,0,0,0,0,0,0,0,0,0,1,1,1,1,1,1,1,1,1,0,1,1,1,1,1,1,1,1,1,1,1,1,1,1,1,0,0,0,-1,0,0,0,0,0,0,0,0,0,-1,-1,-1,-1,-1,-1,-1,-1,-1,-1,-1,-1,-1,-1,-1,-1,-1,-1,-1,-1,-1,-1,-1,-1,-1,-1,-1,0,0,1,0,0,0,0,0,0,0,0,0,0]
theorem run300:run 100 200 row200=row300:=by decide +kernel
def row400:List Int:=[1,-1,-1,0,0,1,0,1,0,0,0,0,-1,0,0,-1,0,0,0,0,0,0,1,0,0,0,1,0,0,0,0,0,0,0,0,-1,0,0,0,0,-1,0,0,0,0,0,0,0,0,0,0,1,0,0,0,0,0,1,0,0,0,0,0,0,0,0,0,0,0,0,-1,0,0,0,0,0,0,-1,0,0,0,0,0,0,0,0,0,0,0,0,0,0,1,0,0,0,0,0,0,0,1,0,0,0,0,0,0,0,0,0,0,0,0,0,0,0,0,-1,0,0,0,0,0,0,0,0,-1,0,0,0,0,0,0,0,0,0,0,0,0,0,0,0,0,0,0,1,0,0,0,0,0,0,0,0,0,1,0,0,0,0,0,0,0,0,0,0,0,0,0,0,0,0,0,0,0,0,-1,0,0,0,0,0,0,0,0,0,0,-1,0,0,0,0,0,0,0,0,0,0,0,0,0,0,0,0,0,0,0,0,0,0,1,0,0,0,0,0,0,0,0,0,0,0,1,0,0,0,0,0,0,0,0,0,0,0,0,0,0,0,0,0,0,0,0,0,0,0,0,-1,0,0,0,0,0,0,0,0,0,0,0,0,-1,0,0,0,0,0,0,0,0,0,0,0,0,0,0,0,0,0,0,0,0,0,0,0,0,0,0,1,0,0,0,0,0,0,0,0,0,0,0,0,0,1,0,0,0,0,0,0,0,0,0,0,0,0,0,0,0,0,0,0,0,0,0,0,0,0,0,0,0,0,-1,0,0,0,0,0,0,0,0,0,0,0,0,0,0,-1,0,0,0,0,0,0,0,0,0,0,0,0,0,0,0,0,0,0,0,0,0,0,0,0,0,0,0,0,0,0,1,0,0,0,0,0,0,0,0,0,0,0,0,0,0,0,1,0,0,0,0,0,0,0,0,1,0,-1,-1,-1,0,0,1,1,1,1,1,0,0,0,-1,-1,-1,-1,-1,-1,-1,0,0,-1,0,1,1,1,1,1,1,1,1,1,0,0,0,0,0,-1,-2,-1,-1,-1,-1,-1,-1,-1,-1,-1,0,0,0,0,0,0,1,1,1,1,1,1,1,1,1,1,1,1,1,0,0,0,0,0,0,1,-1,-1,-1,-1,-1,-1,-1,-1,-1,-1,-1,-1,-1,-1,-1,0,0,1,0,0,0,0,0,1,1,1,1,1,1,1,1,1,1,1,1,1,1,1,1,1,0,0,0,0,0,0,0,0,0,-1,-1,-1,-1,-1,-2,-1,-1,-1,-1,-1,-1,-1,-1,-1,-1,-1,-1,-1,0,0,0,0,0,-1,0,0,0,0,1,1,1,1,1,1,1,1,1,1,1,1,1,1,1,1,1,1,1,1,1,0,0,0,0,0,0,0,0,0,0,0,-1,-1,0,-1,-1,-1,-1,-1,-1,-1,-1,-1,-1]
theorem run400:run 100 300 row300=row400:=by decide +kernel
def row500:List Int:=[1,-1,-1,0,0,1,0,1,0,0,0,0,-1,0,0,-1,0,0,0,0,0,0,1,0,0,0,1,0,0,0,0,0,0,0,0,-1,0,0,0,0,-1,0,0,0,0,0,0,0,0,0,0,1,0,0,0,0,0,1,0,0,0,0,0,0,0,0,0,0,0,0,-1,0,0,0,0,0,0,-1,0,0,0,0,0,0,0,0,0,0,0,0,0,0,1,0,0,0,0,0,0,0,1,0,0,0,0,0,0,0,0,0,0,0,0,0,0,0,0,-1,0,0,0,0,0,0,0,0,-1,0,0,0,0,0,0,0,0,0,0,0,0,0,0,0,0,0,0,1,0,0,0,0,0,0,0,0,0,1,0,0,0,0,0,0,0,0,0,0,0,0,0,0,0,0,0,0,0,0,-1,0,0,0,0,0,0,0,0,0,0,-1,0,0,0,0,0,0,0,0,0,0,0,0,0,0,0,0,0,0,0,0,0,0,1,0,0,0,0,0,0,0,0,0,0,0,1,0,0,0,0,0,0,0,0,0,0,0,0,0,0,0,0,0,0,0,0,0,0,0,0,-1,0,0,0,0,0,0,0,0,0,0,0,0,-1,0,0,0,0,0,0,0,0,0,0,0,0,0,0,0,0,0,0,0,0,0,0,0,0,0,0,1,0,0,0,0,0,0,0,0,0,0,0,0,0,1,0,0,0,0,0,0,0,0,0,0,0,0,0,0,0,0,0,0,0,0,0,0,0,0,0,0,0,0,-1,0,0,0,0,0,0,0,0,0,0,0,0,0,0,-1,0,0,0,0,0,0,0,0,0,0,0,0,0,0,0,0,0,0,0,0,0,0,0,0,0,0,0,0,0,0,1,0,0,0,0,0,0,0,0,0,0,0,0,0,0,0,1,0,0,0,0,0,0,0,0,0,0,0,0,0,0,0,0,0,0,0,0,0,0,0,0,0,0,0,0,0,0,0,0,-1,0,0,0,0,0,0,0,0,0,0,0,0,0,0,0,0,-1,0,0,0,0,0,0,0,0,0,0,0,0,0,0,0,0,0,0,0,0,0,0,0,0,0,0,0,0,0,0,0,0,0,0,1,0,0,0,0,0,0,0,0,0,0,0,0,0,0,0,0,0,1,0,0,0,0,0,1,0,-1,-1,-1,0,0,1,1,1,1,1,0,0,0,-1,-1,-1,-1,-1,-1,-1,0,0,0,0,1,1,1,1,1,0,1,1,1,0,0,0,0,0,-1,-1,-1,-1,-1,-1,-1,-1,-1,-1,-2,0,0,0,0,0,0,1,1,1,1,1,1,1,1,1,1,1,1,1,0,0,0,0,0,0,0,-1,-1,-1,-1,-1,-1,-1,-1,-1,-1,-1,-1,0,-1,-1,0,0,0,0,0,0,0,0]
theorem run500:run 100 400 row400=row500:=by decide +kernel
def row600:List Int:=[1,-1,-1,0,0,1,0,1,0,0,0,0,-1,0,0,-1,0,0,0,0,0,0,1,0,0,0,1,0,0,0,0,0,0,0,0,-1,0,0,0,0,-1,0,0,0,0,0,0,0,0,0,0,1,0,0,0,0,0,1,0,0,0,0,0,0,0,0,0,0,0,0,-1,0,0,0,0,0,0,-1,0,0,0,0,0,0,0,0,0,0,0,0,0,0,1,0,0,0,0,0,0,0,1,0,0,0,0,0,0,0,0,0,0,0,0,0,0,0,0,-1,0,0,0,0,0,0,0,0,-1,0,0,0,0,0,0,0,0,0,0,0,0,0,0,0,0,0,0,1,0,0,0,0,0,0,0,0,0,1,0,0,0,0,0,0,0,0,0,0,0,0,0,0,0,0,0,0,0,0,-1,0,0,0,0,0,0,0,0,0,0,-1,0,0,0,0,0,0,0,0,0,0,0,0,0,0,0,0,0,0,0,0,0,0,1,0,0,0,0,0,0,0,0,0,0,0,1,0,0,0,0,0,0,0,0,0,0,0,0,0,0,0,0,0,0,0,0,0,0,0,0,-1,0,0,0,0,0,0,0,0,0,0,0,0,-1,0,0,0,0,0,0,0,0,0,0,0,0,0,0,0,0,0,0,0,0,0,0,0,0,0,0,1,0,0,0,0,0,0,0,0,0,0,0,0,0,1,0,0,0,0,0,0,0,0,0,0,0,0,0,0,0,0,0,0,0,0,0,0,0,0,0,0,0,0,-1,0,0,0,0,0,0,0,0,0,0,0,0,0,0,-1,0,0,0,0,0,0,0,0,0,0,0,0,0,0,0,0,0,0,0,0,0,0,0,0,0,0,0,0,0,0,1,0,0,0,0,0,0,0,0,0,0,0,0,0,0,0,1,0,0,0,0,0,0,0,0,0,0,0,0,0,0,0,0,0,0,0,0,0,0,0,0,0,0,0,0,0,0,0,0,-1,0,0,0,0,0,0,0,0,0,0,0,0,0,0,0,0,-1,0,0,0,0,0,0,0,0,0,0,0,0,0,0,0,0,0,0,0,0,0,0,0,0,0,0,0,0,0,0,0,0,0,0,1,0,0,0,0,0,0,0,0,0,0,0,0,0,0,0,0,0,1,0,0,0,0,0,0,0,0,0,0,0,0,0,0,0,0,0,0,0,0,0,0,0,0,0,0,0,0,0,0,0,0,0,0,0,0,-1,0,0,0,0,0,0,0,0,0,0,0,0,0,0,0,0,0,0,-1,0,0,0,0,0,0,0,0,0,0,0,0,0,0,0,0,0,0,0,0,0,0,0,0,0,0,0,0,0,0,0,0,0,0,0,0,0,0,1,0,0,0,0,0,0,0,0,0,0]
theorem run600:run 100 500 row500=row600:=by decide +kernel
theorem at100:lls 600 100=row100:=(run_lls 600 100 0).symm.trans run100
theorem at200:lls 600 200=row200:=by
 have:=run_lls 600 100 100
 rw [at100,run200] at this
 exact this.symm
theorem at300:lls 600 300=row300:=by
 have:=run_lls 600 100 200
 rw [at200,run300] at this
 exact this.symm
theorem at400:lls 600 400=row400:=by
 have:=run_lls 600 100 300
 rw [at300,run400] at this
 exact this.symm
theorem at500:lls 600 500=row500:=by
 have:=run_lls 600 100 400
 rw [at400,run500] at this
 exact this.symm
theorem at600:lls 600 600=row600:=by
 have:=run_lls 600 100 500
 rw [at500,run600] at this
 exact this.symm
theorem chk2_ok:chk2 row600 ([],1) 0=true:=by decide +kernel
theorem L_sgn {n j:Nat} (hn:n≤600) (hj:j≤n):L n j=sgv (stp j).2 j:=by
 have h1:L 600 j=L n j:=by
  have:=L_low hj (600 - n)
  rw [Nat.add_sub_cancel' hn] at this
  exact this
 have hlen:j<(lls 600 600).length:=by rw [lls_is,tb_len];omega
 have h2:=chk2_all (l:=lls 600 600) (p:=0) (by rw [at600];exact chk2_ok) j hlen
 rw [Nat.zero_add] at h2
 rw [← h1,← h2]
 have:∀ (l:List Int) (e:l=tb (L 600) 601) (h:j<l.length),L 600 j=l[j]:=fun l e h=>by subst e;rw [tb_at]
 exact this _ (lls_is 600 600) hlen
end M15
namespace M16
open MRow M80 M17 M12 M14
theorem conv_off (f g:Nat→Int) {s:Nat} (hs:0<s):conv (off f s) g=off (conv f g) s:=by
 have h:=conv_put (off f s) g hs
 rw [put_off f hs] at h
 rw [h,off_put _ hs]
theorem L_R:∀ s,conv (M15.L s) (R s)=dl
 | 0=>conv_dl dl
 | s+1=>by
   show conv (off (M15.L s) (s+1)) (put (R s) (s+1))=dl
   rw [conv_off _ _ (by omega),conv_put2 _ _ (by omega),off_put _ (by omega)]
   exact L_R s
def cs (ps:List (Int×Int)) (f:Int→Int):Int:=(ps.map fun p=>p.2*f p.1).sum
theorem cs_snoc (ps:List (Int×Int)) (p v:Int) (f:Int→Int):cs (ps++[(p,v)]) f=cs ps f+v*f p:=by
 unfold cs
 rw [List.map_append,List.sum_append_int]
 show _+(v*f p+0)=_
 omega
theorem cs_stp (f:Int→Int):∀ k,cs (M15.stp k).1 f=sumTo k fun i=>M15.sgv (M15.stp i).2 i*f (i:Int)
 | 0=>rfl
 | k+1=>by
   show cs (M15.dst (M15.stp k) k).1 f=sumTo k (fun i=>M15.sgv (M15.stp i).2 i*f (i:Int))+M15.sgv (M15.stp k).2 k*f (k:Int)
   rw [← cs_stp f k]
   unfold M15.dst M15.sgv
   dsimp only
   split
   · rw [cs_snoc]
   · omega
def W:Nat→Int:=R 600
def fW (D:Nat→Int) (m:Nat) (p:Int):Int:=if p≤(m:Int) then D (m - p.toNat) else 0
theorem corner_conv (D:Nat→Int) {n m:Nat} (hn:n≤600) (hm:m≤n):cs (M15.cor (n:Int)) (fW D m)=conv (M15.L 600) D m:=by
 rw [M15.cor_due hn,cs_stp,show n+1=(m+1)+(n - m) by omega,sumTo_shift]
 have z:sumTo (n - m) (fun i=>M15.sgv (M15.stp (m+1+i)).2 (m+1+i)*fW D m ((m+1+i:Nat):Int))=0:=sumTo_zero fun i _=>by
  unfold fW
  rw [if_neg (by omega),Int.mul_zero]
 rw [z,Int.add_zero]
 refine sumTo_ext fun i hi=>?_
 rw [← M15.L_sgn hn (by omega:i≤n)]
 have e:=M15.L_low (s:=n) (j:=i) (by omega) (600 - n)
 rw [show n+(600 - n)=600 by omega] at e
 rw [e]
 unfold fW
 rw [if_pos (by omega),Int.toNat_natCast]
theorem L_one:∀ s,M15.L s 0=1
 | 0=>rfl
 | s+1=>by
   show M15.L s 0 - (if s+1≤0 then _ else 0)=1
   rw [if_neg (by omega),L_one s]
   rfl
theorem only_W {D:Nat→Int} (h:∀ m,m≤600→conv (M15.L 600) D m=dl m):∀ m,m≤600→D m=W m:=by
 intro m
 induction m using Nat.strongRecOn with
 | _ m ih=>
   intro hm
   have a:=h m hm
   have b:=congrFun (L_R 600) m
   unfold conv at a b
   rw [sumTo_head] at a b
   have e:sumTo m (fun i=>M15.L 600 (i+1)*D (m - (i+1)))=sumTo m (fun i=>M15.L 600 (i+1)*R 600 (m - (i+1))):=sumTo_ext fun i hi=>by
    rw [ih (m - (i+1)) (by omega) (by omega)]
    rfl
   rw [e,L_one] at a
   rw [L_one] at b
   show D m=R 600 m
   rw [Nat.sub_zero] at a b
   omega
def dq:Nat→Nat→Int
 | 0=>fun _=>0
 | k+1=>fun j=>dq k j+if k*k≤j then S k (j - k*k) else 0
def dqL (L:Nat):Nat→Nat→List Int→List Int→List Int
 | 0,_,a,_=>a
 | t+1,k,a,r=>dqL L t (k+1) (shf (k*k) a r) (putL L (k+1) (putL L (k+1) r))
theorem dqL_ok (L:Nat):∀ t k,(∀ i,i<k+t→i*i≤L)→dqL L t k (tb (dq k) L) (tb (S k) L)=tb (dq (k+t)) L
 | 0,_,_=>rfl
 | t+1,k,h=>by
   show dqL L t (k+1) (shf (k*k) (tb (dq k) L) (tb (S k) L)) (putL L (k+1) (putL L (k+1) (tb (S k) L)))=_
   rw [putL_ok _ (by omega),putL_ok _ (by omega),shf_ok _ _ (h k (by omega))]
   have:=dqL_ok L t (k+1) fun i hi=>h i (by omega)
   rw [show k+1+t=k+(t+1) by omega] at this
   exact this
def dRow:List Int:=[1,1,2,3,5,7,11,15,22,30,42,56,77,101,135,176,231,297,385,490,627,792,1002,1255,1575,1958,2436,3010,3718,4565,5604,6842,8349,10143,12310,14883,17977,21637,26015,31185,37338,44583,53174,63261,75175,89134,105558,124754,147273,173525,204226,239943,281589,329931,386155,451276,526823,614154,715220,831820,966467,1121505,1300156,1505499,1741630,2012558,2323520,2679689,3087735,3554345,4087968,4697205,5392783,6185689,7089500,8118264,9289091,10619863,12132164,13848650,15796476,18004327,20506255,23338469,26543660,30167357,34262962,38887673,44108109,49995925,56634173,64112359,72533807,82010177,92669720,104651419,118114304,133230930,150198136,169229875,190569292,214481126,241265379,271248950,304801365,342325709,384276336,431149389,483502844,541946240,607163746,679903203,761002156,851376628,952050665,1064144451,1188908248,1327710076,1482074143,1653668665,1844349560,2056148051,2291320912,2552338241,2841940500,3163127352,3519222692,3913864295,4351078600,4835271870,5371315400,5964539504,6620830889,7346629512,8149040695,9035836076,10015581680,11097645016,12292341831,13610949895,15065878135,16670689208,18440293320,20390982757,22540654445,24908858009,27517052599,30388671978,33549419497,37027355200,40853235313,45060624582,49686288421,54770336324,60356673280,66493182097,73232243759,80630964769,88751778802,97662728555,107438159466,118159068427,129913904637,142798995930,156919475295,172389800255,189334822579,207890420102,228204732751,250438925115,274768617130,301384802048,330495499613,362326859895,397125074750,435157697830,476715857290,522115831195,571701605655,625846753120,684957390936,749474411781,819876908323,896684817527,980462880430,1071823774337,1171432692373,1280011042268,1398341745571,1527273599625,1667727404093,1820701100652,1987276856363,2168627105469,2366022741845,2580840212973,2814570987591,3068829878530,3345365983698,3646072432125,3972999029388,4328363658647,4714566886083,5134205287973,5590088317495,6085253859260,6622987708040,7206841706490,7840656226137,8528581302375,9275102575355,10085065885767,10963707205259,11916681236278,12950095925895,14070545699287,15285151248481,16601598107914,18028182516671,19573856161145,21248279009367,23061871173849,25025873760111,27152408925615,29454549941750,31946390696157,34643126322519,37561133582570,40718063627362,44132934884255,47826239745920,51820051838712,56138148670947,60806135438329,65851585970275,71304185514919,77195892663512,83561103925871,90436839668817,97862933703585,105882246722733,114540884553038,123888443077259,133978259344888,144867692496445,156618412527946,169296722391554,182973889854026,197726516681672,213636919820625,230793554364681,249291451168559,269232701252579,290726957916112,313891991306665,338854264248680,365749566870782,394723676655357,425933084409356,459545750448675,495741934760846,534715062908609,576672674947168,621837416509615,670448123060170,722760953690372,779050629562167,839611730366814,904760108316360,974834369944625,1050197489931117,1131238503938606,1218374349844333,1312051800816215,1412749565173450,1520980492851175,1637293969337171,1762278433057269,1896564103591584,2040825852575075,2195786311682516,2362219145337711,2540952590045698,2732873183547535,2938929793929555,3160137867148997,3397584011986773,3652430836071053,3925922161489422,4219388528587095,4534253126900886,4872038056472084,5234371069753672,5622992691950605,6039763882095515,6486674127079088,6965850144195831,7479565078510584,8030248384943040,8620496275465025,9253082936723602,9930972392403501,10657331232548839,11435542077822104,12269218019229465,13162217895057704,14118662665280005,15142952738857194,16239786535829663,17414180133147295,18671488299600364,20017426762576945,21458096037352891,23000006655487337,24650106150830490,26415807633566326,28305020340996003,30326181989842964,32488293351466654,34800954869440830,37274405776748077,39919565526999991,42748078035954696,45772358543578028,49005643635237875,52462044228828641,56156602112874289,60105349839666544,64325374609114550,68834885946073850,73653287861850339,78801255302666615,84300815636225119,90175434980549623,96450110192202760,103151466321735325,110307860425292772,117949491546113972,126108517833796355,134819180623301520,144117936527873832,154043597379576030,164637479165761044,175943559810422753,188008647052292980,200882556287683159,214618299743286299,229272286871217150,244904537455382406,261578907351144125,279363328483702152,298330063062758076,318555973788329084,340122810048577428,363117512048110005,387632532919029223,413766180933342362,441622981929358437,471314064268398780,502957566506000020,536679070310691121,572612058898037559,610898403751884101,651688879997206959,695143713458946040,741433159884081684,790738119649411319,843250788562528427,899175348396088349,958728697912338045,1022141228367345362,1089657644424399782,1161537834849962850,1238057794119125085,1319510599727473500,1406207446561484054,1498478743590581081,1596675274490756791,1701169427975813525,1812356499739472950,1930656072350465812,2056513475336633805,2190401332423765131,2332821198543892336,2484305294265418180,2645418340688763701,2816759503217942792,2998964447736452194,3192707518433532826,3398704041358160275,3617712763867604423,3850538434667429186,4098034535626594791,4361106170762284114,4640713124699623515,4937873096788191655,5253665124416975163,5589233202595404488,5945790114707874597,6324621482504294325,6727090051741041926,7154640222653942321,7608802843339879269,8091200276484465581,8603551759348655060,9147679068859117602,9725512513742021729,10339097267123947241,10990600063775926994,11682316277192317780,12416677403151190382,13196258966925435702,14023788883518847344,14902156290309948968,15834420884488187770,16823822787139235544,17873792969689876004,18987964267331664557,20170183018805933659,21424521360255636320,22755290216580025259,24167053021441363961,25664640213837714846,27253164546230421739,28938037257084798150,30724985147095051099,32620068617410232189,34629700713903575934,36760667241831527309,39020148000237259665,41415739207102358378,43955477170518116534,46647863284229267991,49501890409405150715,52527070729108240605,55733465144636286656,59131714309169618645,62733071376043079215,66549436566966297367,70593393646562135510,74878248419470886233,79418069346443402240,84227730407729499781,89322956321353645667,94720370257893471820,100437544171752847604,106493051905239118581,112906525199196103354,119698712782720205954,126891542690981418000,134508188001572923840,142573136155347404229,151112262071917313678,160152905244553715585,169723951046458040965,179855916453958267598,190581040442651931034,201933379285114688629,213948907032733069132,226665621435831345565,240123655613925192081,254365395758574199975,269435605212954994471,285381555241961986287,302253162872576636605,320103136152993290544,338987127249525432549,358963893768162876613,380095468763120598477,402447339861711475160,426088638015652413417,451092336355096099864,477535459708164115593,505499305314204629558,535069675351607262125,566337121865805599675,599397204782301852926,634350763653787028583,671304203896731807232,710369798236628238005,751666004194993125591,795317798414758232180,841457028742823649455,890222784951928088294,941761789114997698055,996228806608573411012,1053787078862455346513,1114608778936426484248,1178875491155735802646,1246778716001272919665,1318520401612270233223,1394313503224447816939,1474382572040363953132,1558964374994977806173,1648308547066172438760,1742678277747760981187,1842351033503159891466,1947619317987658064007,2058791472042884901563,2176192515439287461625,2300165032574323995027,2431070104309287327876,2569288288377098289281,2715220650772245313220,2869289850802400662045,3031941282464413132742,3203644275096202070012,3384893356244349844341,3576209579998154653671,3778141924035171537110,3991268758958164118300,4216199393504640098482,4453575699570940947378,4704073821002175842062,4968405970488126319775,5247322318923878793976,5541612982013113936133,5852110108921301661040,6179690078238084808000,6525275806549652788115,6889839175409542385648,7274403582551733377346,7680046623716094332553,8107902911527474124146,8559167038437716736150,9035096690829005915201,9537015921990240021538,10066318591787500106586,10624471981512075020731,11213020592521695111580,11833590138006300416410,12487891737367521803652,13177726323474524612308,13904989273245567335012,14671675272840783232475,15479883428970761068959,16331822638729701493803,17229817230617210720599,18176312890390861435034,19173882885687454484110,20225234604409151266221,21333216422211708570598,22500824915577356165493,23731212437346370138355,25027695072821279146420,26393760995005382968154,27833079238879849385687,29349508915133986374841,30947108885217475101876,32630147920163234060900,34403115367205050943160,36270732348871285128752,38237963520943177237554,40310029416409244587122,42492419404397720872600,44790905293907018009131,47211555614160398040338,49760750604354432757376,52445197947746313627407,55271949286085137715955,58248417552751868050007,61382395164161775318496,64682073111542943380454,68156060996536236172174,71813408056839596203570,75663625229609055443637,79716708303343130521599,83983162210640880002321,88474026517495817981253,93200902166643654187580,98175979536033971312388,103412067875563710992446,108922626189067392956037,114721795630860408658491,120824433490320564237125,127246148840551966562301,134003339931725153597473,141113233412529912746558,148593925468119890197615,156464424966082817448060,164744698707340387584240,173455718882380096095248,182619512839056823919887,192259215272078129526277,202399122950629095580175,213064752104884207160129,224282898599046831034631,236081701023305130945921,248490706844586261413858,261540941761240642265710,275264982414934173206642,289697032618827122974972,304873003269975366031783,320830596120295386610807,337609391590065169560935,355250940815002702558187,373798862128436852709430,393298942187883251157044,413799241966727832978027,435350207840317348270000,458004788008144308553622]
theorem dRow_is:dqL 601 25 0 (tb (fun _=>0) 601) (tb dl 601)=dRow:=by decide +kernel
theorem dRow_tb:tb (dq 25) 601=dRow:=by
 have:=dqL_ok 601 25 0 (fun i hi=>by have:i*i≤24*24:=Nat.mul_le_mul (by omega) (by omega);omega)
 rw [← dRow_is]
 exact this.symm
def cmL (d:List Int) (ps:List (Int×Int)) (acc:List Int):List Int:=ps.foldl (fun acc p=>shf p.1.toNat acc (d.map (p.2 * ·))) acc
theorem cm_ok (D:Nat→Int) (L:Nat):∀ (ps:List (Int×Int)) (acc:Nat→Int),(∀ p∈ps,0≤p.1∧p.1.toNat≤L)→cmL (tb D L) ps (tb acc L)=tb (fun m=>acc m+cs ps (fW D m)) L
 | [],acc,_=>tb_ext fun j _=>by show acc j=acc j+0;omega
 | p::ps,acc,h=>by
   show cmL (tb D L) ps (shf p.1.toNat (tb acc L) ((tb D L).map (p.2 * ·)))=_
   have hp:=h p List.mem_cons_self
   have e:(tb D L).map (p.2 * ·)=tb (fun j=>p.2*D j) L:=by unfold tb;rw [List.map_map];rfl
   rw [e,shf_ok _ _ hp.2,cm_ok D L ps _ fun q hq=>h q (List.mem_cons_of_mem _ hq)]
   refine tb_ext fun j _=>?_
   show (acc j+if p.1.toNat≤j then p.2*D (j - p.1.toNat) else 0)+cs ps (fW D j)=acc j+(p.2*fW D j p.1+cs ps (fW D j))
   unfold fW
   by_cases g:p.1.toNat≤j
   · rw [if_pos g,if_pos (by omega)];omega
   · rw [if_neg g,if_neg (by omega),Int.mul_zero];omega
theorem d_corners:cmL dRow (M15.cor 600) (tb (fun _=>0) 601)=tb dl 601:=by decide +kernel
theorem dq_W {m:Nat} (hm:m≤600):dq 25 m=W m:=by
 refine only_W (fun m hm=>?_) m hm
 rw [← corner_conv (dq 25) (Nat.le_refl 600) hm]
 have a:=cm_ok (dq 25) 601 (M15.cor 600) (fun _=>0) fun p hp=>by have:=(M15.cor_in (Nat.le_refl 600)).1 p hp;omega
 rw [dRow_tb,d_corners] at a
 have c:=tb_one a (show m<601 by omega)
 rw [c]
 exact (Int.zero_add _).symm
end M16
namespace K31
open PySem L2 MRow M27 M80 M17 M12 M16 M14 M15
section
variable {P:Program} {w:World} {K:PySem.W.Frag} {mg:Str→Option Value} {base:Heap} {f:Addr} {fd:FuncData}
theorem sc_corners:FnScope ["most","told","k","near","sign","far"] ["most"] (defScope (top 31)):=⟨rfl,rfl,rfl,by decide +kernel,rfl,by decide +kernel,by decide +kernel⟩
def sp_cor:Sp:=fun vs H Q _=>∃ n:Nat,vs=[.int n]∧n≤600∧∀ r H' us,Same H H'→H' r=some (.tup us)→Prs H' us (cor (n:Int))→Q (.ref r) H'
theorem ok_corners (F:Fun K "corners" "corners" (top 31) f fd) (m_tuple:mg "tuple" = none):FnOk P w K mg base CX0 1 f fd ["most"] sp_cor:=by
 refine F.okz sc_corners (fun vs H Q E h=>?_) (fun cdv A outer s H vs Q E hr h=>?_)
 · obtain ⟨n,rfl,_⟩:=h;rfl
 obtain ⟨n,rfl,hn,q⟩:=h
 have nd:=sc_corners.nd
 have hu:=hr.units
 have hcl:=(cor_in hn).2
 have body:∃ t,ZSs (cxOf CX0 P w K mg base ["most","told","k","near","sign","far"] "corners" (defScope (top 31)) f cdv A outer s H E).nox ((forBody ((defBody (top 31)).getD 3 (.Pass ⟨0,0,0,0⟩))).drop 1) t ∧
  ∀ (D:Ends) (H5:Hp) (tt:Addr) (k:Nat) (us:List V) (ps:List (Int×Int)) (p5:Option V) (sv:Int),sv=sgn k→k≤24→H tt=none→Same H H5→H5 tt=some (.lst us)→Prs H5 us ps→us.length+2≤1000 →
    (∀ H' us' p4 p5,Same H H'→H' tt=some (.lst us')→Prs H' us' (ps++cpart n k)→D.nx [some (.int n),some (.ref tt),some (.int ((k+1:Nat):Int)),some (.int (near (k+1))),p4,p5] H') →
    t D [some (.int n),some (.ref tt),some (.int k),some (.int (near k)),some (.int sv),p5] H5:=by
  refine ⟨_,(zss_cons (zs_expr (zm_append (zn 1) (za_cons (ze_tup (za_cons (zn 3) (za_cons (zn 4) za_nil))) za_nil)))
   (zss_cons (zs_set (i:=5) nd rfl (Or.inl rfl) (ze_op op_addP (zn 3) (zn 2)))
   (zss_cons (zs_if (ZW.zt (zw_and (zt_cmpP op_gtP (zn 2) ze_int (nomark _)) (zw_and1 (zt_cmpP op_leP (zn 5) (zn 0) (nomark _))))) (zss_one (zs_expr (zm_append (zn 1) (za_cons (ze_tup (za_cons (zn 5) (za_cons (zn 4) za_nil))) za_nil)))) zss_nil)
   (zss_cons (zs_aug (i:=2) nd rfl (Or.inl rfl) ze_int ip_addP)
   (zss_one (zs_set (i:=3) nd rfl (Or.inl rfl) (ze_op op_fdivP (ze_op op_mulQ (zn 2) (ze_op op_subP (ze_op op_mulQ ze_int (zn 2)) ze_int)) ze_int))))))),?_⟩
  intro D H5 tt k us ps p5 sv hsv hk htt y hus hp hlen fin
  subst hsv
  refine ⟨tyL hus,by show 2≤sizeLine;decide,fun d hd=>?_⟩
  have g1:=Same.new hd (.tup [.int (near k),.int (sgn k)])
  refine ⟨_,g1 _ _ hus,small1000 (by omega),?_⟩
  have hus2:(upd (upd H5 d (.tup [.int (near k),.int (sgn k)])) tt (.lst (us++[.ref d]))) tt=some (.lst (us++[.ref d])):=upd_same
  have hp2:Prs (upd (upd H5 d (.tup [.int (near k),.int (sgn k)])) tt (.lst (us++[.ref d]))) (us++[.ref d]) (ps++[(near k,sgn k)]):=Prs.updL (g1 _ _ hus) ((hp.same g1).snoc (p:=(near k,sgn k)) ⟨d,rfl,upd_same⟩)
  have y2:Same H (upd (upd H5 d (.tup [.int (near k),.int (sgn k)])) tt (.lst (us++[.ref d]))):=Same.updN (y.trans g1) htt
  generalize upd (upd H5 d (.tup [.int (near k),.int (sgn k)])) tt (.lst (us++[.ref d]))=H6 at hus2 hp2 y2
  have e1:((k:Int)+1)=((k+1:Nat):Int):=by omega
  have endd:∀ (D2:Ends) (H7:Hp) (us7:List V) (p4 p5:Option V),D2.nx=D.nx→Same H H7→H7 tt=some (.lst us7)→Prs H7 us7 (ps++cpart n k)→D2.nx [some (.int n),some (.ref tt),some (.int ((k+1:Nat):Int)),some (.int (near (k+1))),p4,p5] H7:=fun D2 H7 us7 p4 p5 e a b c=>by rw [e];exact fin H7 us7 p4 p5 a b c
  have fini:∀ (H7:Hp) (us7:List V),Same H H7→H7 tt=some (.lst us7)→Prs H7 us7 (ps++cpart n k) →
   (∃ x,([some (V.int n),some (.ref tt),some (.int k),some (.int (near k)),some (.int (sgn k)),some (.int (near k+k))]:St)[2]? = some (some x)∧True):=fun _ _ _ _ _=>⟨_,rfl,trivial⟩
  have tailok:∀ (H7:Hp) (us7:List V),Same H H7→H7 tt=some (.lst us7)→Prs H7 us7 (ps++cpart n k) →
   IntMulOk 3 ((k:Int)+1)∧IntMulOk ((k:Int)+1) (3*((k:Int)+1) - 1)∧CDiv (((k:Int)+1)*(3*((k:Int)+1) - 1)) 2∧D.nx [some (.int n),some (.ref tt),some (.int ((k:Int)+1)),some (.int (((k:Int)+1)*(3*((k:Int)+1) - 1) / 2)),some (.int (sgn k)),some (.int (near k+k))] H7:=fun H7 us7 a b c=>by
   refine ⟨mulL (by decide) (by decide),mulL (by omega) (by omega),⟨by decide,by decide⟩,?_⟩
   have:=fin H7 us7 (some (.int (sgn k))) (some (.int (near k+k))) a b c
   unfold near at this ⊢
   rw [← e1] at this
   exact this
  refine iteD (fun c=>?_) (fun c=>?_)
  · refine iteD (fun c2=>?_) (fun c2=>?_)
    · refine ⟨tyL hus2,by show 2≤sizeLine;decide,fun d2 hd2=>?_⟩
      have g3:=Same.new hd2 (.tup [.int (near k+k),.int (sgn k)])
      refine ⟨_,g3 _ _ hus2,by rw [List.length_append,List.length_singleton];exact small1000 (by omega),?_⟩
      refine ⟨.int k,rfl,tailok _ _ (Same.updN (y2.trans g3) htt) upd_same ?_⟩
      have:=Prs.updL (ys:=us++[.ref d]++[.ref d2]) (g3 _ _ hus2) ((hp2.same g3).snoc (p:=(near k+k,sgn k)) ⟨d2,rfl,upd_same⟩)
      unfold cpart
      rw [if_pos ⟨c,c2⟩]
      have e5:ps++[(near k,sgn k),(near k+k,sgn k)]=ps++[(near k,sgn k)]++[(near k+k,sgn k)]:=by simp
      rw [e5]
      exact this
    · refine ⟨.int k,rfl,tailok _ _ y2 hus2 ?_⟩
      unfold cpart
      rw [if_neg (fun z=>c2 z.2)]
      exact hp2
  · refine iteF ?_
    refine ⟨.int k,rfl,tailok _ _ y2 hus2 ?_⟩
    unfold cpart
    rw [if_neg (fun z=>c z.1)]
    exact hp2
 obtain ⟨t3,ht3,body⟩:=body
 refine ⟨_,(zss_cons (zs_set (i:=1) nd rfl (Or.inl rfl) (ze_lst za_nil))
  (zss_cons (zs_set (i:=2) nd rfl (Or.inl rfl) ze_int)
  (zss_cons (zs_set (i:=3) nd rfl (Or.inl rfl) ze_int)
  (zss_cons (zs_while PassesOwn.never (zt_cmpP op_leP (zn 3) (zn 0) (nomark _)) (zss_cons (zs_set (i:=4) nd rfl (Or.inl rfl) (ze_ifExp (zt_cmpP (op_eqD hu) (ze_op op_modP (zn 2) ze_int) ze_int (nomark _)) ze_int (ze_un un_neg ze_int)))
  ht3))
  (zss_one (zs_ret (zcb_tuple rfl m_tuple (za_cons (zn 1) za_nil) rfl rfl))))))),?_⟩
 refine ⟨Nat.zero_le _,fun t ht=>?_⟩
 have g0:=Same.new ht (.lst [])
 refine while_by2 (fun m σ H'=>∃ (k:Nat) (us:List V) (ps:List (Int×Int)) (p4 p5:Option V),k+m=25∧Same H H'∧σ=[some (.int n),some (.ref t),some (.int k),some (.int (near k)),p4,p5]∧H' t=some (.lst us)∧Prs H' us ps∧cl m n k ps=cor n)
  25 ⟨0,[],[],none,none,rfl,g0,rfl,upd_same,.nil,rfl⟩ ?_
 rintro m σ H' ⟨k,us,ps,p4,p5,hkm,y,rfl,hus,hp,hcor⟩
 refine iteD (fun c=>?_) (fun c=>?_)
 · cases m with
   | zero=>have:=near_big (k:=k) (by omega);omega
   | succ m=>
   have hstep:cl m n (k+1) (ps++cpart n k)=cor n:=by
    rw [← hcor]
    conv=>rhs;unfold cl
    rw [if_pos c]
   have hlen:us.length+2≤1000:=by
    have:=cl_len m n (k+1) (ps++cpart n k)
    rw [hstep,List.length_append] at this
    rw [hp.length]
    omega
   refine ⟨_,fun _ _ z=>z,?_⟩
   refine ⟨(show (0:Int)<2 by decide),?_⟩
   refine iteD (fun c2=>?_) (fun c2=>?_)
   · have e2:(1:Int)=sgn k:=by unfold sgn;rw [if_pos (V.int.inj c2)]
     exact body _ H' t k us ps p5 1 e2 (by omega) ht y hus hp hlen fun H' us' p4 p5 a b c=>⟨m,Nat.lt_succ_self m,k+1,us',_,p4,p5,by omega,a,rfl,b,c,hstep⟩
   · have e2:-1=sgn k:=by unfold sgn;rw [if_neg (fun z=>c2 (show V.int ((k:Int) % 2)=V.int 0 by rw [z]))]
     exact ⟨_,rfl,body _ H' t k us ps p5 (-1) e2 (by omega) ht y hus hp hlen fun H' us' p4 p5 a b c=>⟨m,Nat.lt_succ_self m,k+1,us',_,p4,p5,by omega,a,rfl,b,c,hstep⟩⟩
 · have e:ps=cor n:=by
    rw [← hcor]
    cases m with
    | zero=>rfl
    | succ m=>conv=>rhs;unfold cl
              rw [if_neg c]
   subst e
   exact ⟨_,.inl (SqL.of hus),fun r H2 y2 hr2=>q r H2 us (y.trans y2) hr2 (hp.same y2)⟩
end
end K31
namespace K31
open PySem L2 MRow M21
section
variable {P:Program} {w:World} {K:PySem.W.Frag} {mg:Str→Option Value} {base:Heap} {f:Addr} {fd:FuncData}
theorem sc_pr:FnScope ["powers","row","size","power","turn"] ["powers"] (defScope (top 29)):=⟨rfl,rfl,rfl,by decide +kernel,rfl,by decide +kernel,by decide +kernel⟩
def sp_pr:Sp:=fun vs H Q _=>∃ (a:Addr) (ps:List Int),vs=[.ref a]∧H a=some (.tup (ps.map V.int))∧ps.length≤600∧(∀ p∈ps,p.natAbs≤20)∧∀ r H',Same H H'→H' r=some (.tup ((tb (prod ps) (ps.length+1)).map V.int))→Q (.ref r) H'
theorem ok_pr (F:Fun K "product" "product" (top 29) f fd) (m_enumerate:mg "enumerate" = none) (m_len:mg "len" = none) (m_range:mg "range" = none) (m_tuple:mg "tuple" = none) (F_begun:FnA P w K mg base "begun" 1 ["most"] sp_begun) (F_put_on:FnA P w K mg base "put_on" 1 ["row","size"] sp_put_on) (F_taken_off:FnA P w K mg base "taken_off" 1 ["row","size"] sp_to):FnOk P w K mg base CX0 2 f fd ["powers"] sp_pr:=by
 refine F.okz sc_pr (fun vs H Q E h=>?_) (fun cdv A outer s H vs Q E hr h=>?_)
 · obtain ⟨a,ps,rfl,_⟩:=h;rfl
 obtain ⟨a,ps,rfl,ha,hl,sm,q⟩:=h
 have nd:=sc_pr.nd
 refine ⟨_,(zss_cons (zs_set (i:=1) nd rfl (Or.inl rfl) (ze_fn F_begun hr (by decide) rfl (za_cons (zcb_len rfl m_len (za_cons (zn 0) za_nil) rfl rfl) za_nil)))
  (zss_cons (zs_for PassesOwn.never rfl (zi_enum1 rfl m_enumerate (za_cons (zn 0) za_nil)) (zg_tup rfl (zgs_cons (zg_name (i:=2) nd rfl (Or.inl rfl)) (zgs_cons (zg_name (i:=3) nd rfl (Or.inl rfl)) zgs_nil))) (zss_cons (zs_for PassesOwn.never rfl (zi_range1 rfl m_range (za_cons (zn 3) za_nil)) (zg_name (i:=4) nd rfl (Or.inl rfl)) (zss_one (zs_set (i:=1) nd rfl (Or.inl rfl) (ze_fn F_put_on hr (by decide) rfl (za_cons (zn 1) (za_cons (zn 2) za_nil))))))
  (zss_one (zs_for PassesOwn.never rfl (zi_range1 rfl m_range (za_cons (ze_un un_neg (zn 3)) za_nil)) (zg_name (i:=4) nd rfl (Or.inl rfl)) (zss_one (zs_set (i:=1) nd rfl (Or.inl rfl) (ze_fn F_taken_off hr (by decide) rfl (za_cons (zn 1) (za_cons (zn 2) za_nil)))))))))
  (zss_one (zs_ret (zcb_tuple rfl m_tuple (za_cons (zn 1) za_nil) rfl rfl))))),?_⟩
 refine ⟨_,.inr ha,?_⟩
 rw [List.length_map]
 refine ⟨ps.length,rfl,by omega,fun r0 H1 hr0 y1 hr1=>?_⟩
 refine ⟨_,y1 _ _ ha,?_⟩
 refine for_enum1 (xs:=ps.map V.int) (fun i σ H'=>Same H H'∧(∃ r,H' r=some (.lst ((tb (prod (ps.take i)) (ps.length+1)).map V.int))∧∃ x2 x3 x4,σ=[some (.ref a),some (.ref r),x2,x3,x4])) ⟨y1,r0,hr1,_,_,_,rfl⟩ ?_ ?_ ?_
 · rintro i σ H' _ ⟨y,_⟩
   exact y _ _ ha
 · rintro i x σ H' pp hx ⟨y,r,hr',x2,x3,x4,rfl⟩ hpp
   have hi:i<ps.length:=by have:=(List.getElem?_eq_some_iff.mp hx).1;simpa using this
   rw [getI hi] at hx
   cases hx
   have yp:=Same.new hpp (.tup [V.int ((i+1:Nat):Int),.int ps[i]])
   refine ⟨pp,_,rfl,SqT.of upd_same,rfl,_,_,rfl,_,_,rfl,rfl,?_⟩
   have y2:=y.trans yp
   have hr2:=yp _ _ hr'
   generalize upd H' pp (.tup [V.int ((i+1:Nat):Int),.int ps[i]])=H2 at yp y2 hr2
   have pb:=sm _ (List.getElem_mem hi)
   have et:prod (ps.take (i+1))=pw (prod (ps.take i)) (i+1) ps[i]:=by
    rw [List.take_succ,List.getElem?_eq_getElem hi]
    show prod (ps.take i++[ps[i]])=_
    rw [prod_snoc,List.length_take,Nat.min_eq_left (by omega)]
   generalize prod (ps.take i)=g at hr2 et
   generalize ps[i]=p at pb et
   refine ⟨p,rfl,by omega,by omega,?_⟩
   refine for_range (fun k σ H'=>k≤20∧Same H H'∧∃ r,H' r=some (.lst ((tb (iter k (fun h=>put h (i+1)) g) (ps.length+1)).map V.int))∧∃ x4,σ=[some (.ref a),some (.ref r),some (.int ((i+1:Nat):Int)),some (.int p),x4]) ⟨by decide,y2,r,hr2,_,rfl⟩ ?_ ?_
   · rintro k σ H3 hk ⟨_,y3,r3,hr3,x4,rfl⟩
     refine ⟨r3,i+1,ps.length+1,_,rfl,by omega,by omega,by omega,hr3,fun r4 H4 hr4 y4 hr4'=>?_⟩
     exact ⟨by omega,y3.trans y4,r4,hr4',_,rfl⟩
   · rintro σ H3 ⟨_,y3,r3,hr3,x4,rfl⟩
     refine ⟨p,rfl,?_⟩
     refine ⟨-p,rfl,by omega,by omega,?_⟩
     refine for_range (fun k σ H'=>k≤20∧Same H H'∧∃ r,H' r=some (.lst ((tb (iter k (fun h=>off h (i+1)) (iter p.toNat (fun h=>put h (i+1)) g)) (ps.length+1)).map V.int))∧∃ x4,σ=[some (.ref a),some (.ref r),some (.int ((i+1:Nat):Int)),some (.int p),x4]) ⟨by decide,y3,r3,hr3,_,rfl⟩ ?_ ?_
     · rintro k σ H5 hk ⟨_,y5,r5,hr5,x4,rfl⟩
       refine ⟨r5,i+1,ps.length+1,_,rfl,by omega,by omega,by omega,.inl hr5,fun r6 H6 hr6 y6 hr6'=>?_⟩
       exact ⟨by omega,y5.trans y6,r6,hr6',_,rfl⟩
     · rintro σ H5 ⟨_,y5,r5,hr5,x4,rfl⟩
       refine ⟨y5,r5,?_,_,_,_,rfl⟩
       rw [hr5,et]
       unfold pw
       by_cases hp:0≤p
       · rw [if_pos hp,show (-p).toNat=0 by omega]
         rfl
       · rw [if_neg hp,show p.toNat=0 by omega]
         rfl
 · rintro σ H' ⟨y,r,hr',x2,x3,x4,rfl⟩
   rw [List.take_of_length_le (by rw [List.length_map];exact Nat.le_refl _)] at hr'
   exact ⟨_,.inl (SqL.of hr'),fun r2 H2 y2 hr2=>q r2 H2 (y.trans y2) hr2⟩
end
end K31
namespace M30
open HT
def dv (ns:List Int) (q:Int) (m a:Nat):Bool:=(strd ns a m).all fun x=>decide (x % q=0)
theorem strd_mem {ns:List Int} {a m:Nat} {x:Int} (hm:1≤m):x∈strd ns a m↔∃ k,ns[a+k*m]? = some x:=by
 unfold strd
 rw [List.mem_filterMap]
 constructor
 · rintro ⟨k,_,h⟩
   exact ⟨k,h⟩
 · rintro ⟨k,h⟩
   refine ⟨k,List.mem_range.mpr ?_,h⟩
   have:=(List.getElem?_eq_some_iff.mp h).1
   have:k≤k*m:=Nat.le_mul_of_pos_right _ hm
   omega
theorem dv_bad {ns:List Int} {q:Int} {m a:Nat} (hm:1≤m) (ha:a<m):dv ns q m a=true↔∀ j,¬ M27.Bad ns (m:Int) (a:Int) q j:=by
 unfold dv
 rw [List.all_eq_true]
 constructor
 · rintro h j ⟨x,hx,hj,hq⟩
   have hj':j % m=a:=by
    have:((j % m:Nat):Int)=(a:Int):=by rw [Int.natCast_emod];exact hj
    exact Int.ofNat_inj.mp this
   have hm2:x∈strd ns a m:=(strd_mem hm).mpr ⟨j / m,by
    have:=Nat.div_add_mod j m
    rw [hj',Nat.mul_comm] at this
    rw [show a+j / m*m=j by omega]
    exact hx⟩
   exact hq (of_decide_eq_true (h x hm2))
 · intro h x hx
   obtain ⟨k,hk⟩:=(strd_mem hm).mp hx
   refine decide_eq_true ?_
   by_cases hq:x % q=0
   · exact hq
   · refine absurd ⟨x,hk,?_,hq⟩ (h (a+k*m))
     have:((a+k*m) % m)=a:=by rw [Nat.add_mul_mod_self_right];exact Nat.mod_eq_of_lt ha
     rw [← Int.natCast_emod,this]
theorem strd_len {ns:List Int} {a m:Nat} (hm:1≤m):2<(strd ns a m).length↔a+2*m<ns.length:=by
 unfold strd
 constructor
 · intro h
   by_cases hc:a+2*m<ns.length
   · exact hc
   · exfalso
     have h2:2≤ns.length:=by
      have:=List.length_filterMap_le (fun k=>ns[a+k*m]?) (List.range ns.length)
      rw [List.length_range] at this
      omega
     have:=range_cut (fun k=>ns[a+k*m]?) 2 (ns.length - 2) fun k hk=>List.getElem?_eq_none (by
      have:2*m≤k*m:=Nat.mul_le_mul_right _ hk
      omega)
     rw [show 2+(ns.length - 2)=ns.length by omega] at this
     rw [this] at h
     have h3:=List.length_filterMap_le (fun k=>ns[a+k*m]?) (List.range 2)
     rw [List.length_range] at h3
     omega
 · intro h
   have e:ns.length=3+(ns.length - 3):=by omega
   rw [e,List.range_add,List.filterMap_append,List.length_append]
   have h0:a+0*m<ns.length:=by omega
   have h1:a+1*m<ns.length:=by omega
   have h2:a+2*m<ns.length:=h
   have:((List.range 3).filterMap fun k=>ns[a+k*m]?)=[ns[a+0*m],ns[a+1*m],ns[a+2*m]]:=by
    show [0,1,2].filterMap (fun k=>ns[a+k*m]?)=_
    rw [List.filterMap_cons,List.getElem?_eq_getElem h0,List.filterMap_cons,List.getElem?_eq_getElem h1,List.filterMap_cons,List.getElem?_eq_getElem h2]
    rfl
   rw [this]
   show 2<3+_
   omega
def low (ns:List Int) (q:Int) (m a:Nat):Bool:=(List.range m).any fun s=>decide (1≤s)&&decide (m % s=0)&&dv ns q s (a % s)
theorem low_iff {ns:List Int} {q:Int} {m a:Nat}:low ns q m a=true↔∃ s,s<m∧1≤s∧m % s=0∧dv ns q s (a % s)=true:=by
 unfold low
 rw [List.any_eq_true]
 constructor
 · rintro ⟨s,hs,h⟩
   rw [Bool.and_eq_true,Bool.and_eq_true] at h
   exact ⟨s,List.mem_range.mp hs,of_decide_eq_true h.1.1,of_decide_eq_true h.1.2,h.2⟩
 · rintro ⟨s,h1,h2,h3,h4⟩
   exact ⟨s,List.mem_range.mpr h1,by rw [Bool.and_eq_true,Bool.and_eq_true];exact ⟨⟨decide_eq_true h2,decide_eq_true h3⟩,h4⟩⟩
def good (ns:List Int) (q:Int) (m a:Nat):Bool:=dv ns q m a&&decide (a+2*m<ns.length)&&!low ns q m a
def gl (ns:List Int) (q:Int) (m A:Nat):List (Int×Int):=((List.range A).filter fun a=>good ns q m a).map fun (a:Nat)=>((m:Int),(a:Int))
def TL (ns:List Int) (q:Int) (M:Nat):List (Int×Int):=(List.range M).flatMap fun i=>gl ns q (i+1) (i+1)
theorem gl_succ (ns:List Int) (q:Int) (m A:Nat):gl ns q m (A+1)=gl ns q m A++if good ns q m A=true then [((m:Int),(A:Int))] else []:=by
 unfold gl
 rw [List.range_succ,List.filter_append,List.map_append]
 congr 1
 by_cases h:good ns q m A=true
 · rw [if_pos h,List.filter_cons_of_pos h];rfl
 · rw [if_neg h,List.filter_cons_of_neg h];rfl
theorem gl_more {ns:List Int} {q:Int} {m A:Nat} (h:ns.length≤A+2*m):∀ j,gl ns q m (A+j)=gl ns q m A
 | 0=>rfl
 | j+1=>by
   have:¬ good ns q m (A+j)=true:=fun z=>by
    unfold good at z
    rw [Bool.and_eq_true,Bool.and_eq_true] at z
    have:=of_decide_eq_true z.1.2
    omega
   rw [← Nat.add_assoc,gl_succ,if_neg this,List.append_nil,gl_more h j]
theorem TL_succ (ns:List Int) (q:Int) (M:Nat):TL ns q (M+1)=TL ns q M++gl ns q (M+1) (M+1):=by
 unfold TL
 rw [List.range_succ,List.flatMap_append]
 simp
theorem gl_mem {ns:List Int} {q:Int} {m A:Nat} {p:Int×Int}:p∈gl ns q m A↔∃ a,a<A∧good ns q m a=true∧p=((m:Int),(a:Int)):=by
 unfold gl
 rw [List.mem_map]
 constructor
 · rintro ⟨a,ha,rfl⟩
   have:=List.mem_filter.mp ha
   exact ⟨a,List.mem_range.mp this.1,this.2,rfl⟩
 · rintro ⟨a,h1,h2,rfl⟩
   exact ⟨a,List.mem_filter.mpr ⟨List.mem_range.mpr h1,h2⟩,rfl⟩
theorem TL_mem {ns:List Int} {q:Int} {M:Nat} {p:Int×Int}:p∈TL ns q M↔∃ m a:Nat,1≤m∧m≤M∧a<m∧good ns q m a=true∧p=((m:Int),(a:Int)):=by
 unfold TL
 rw [List.mem_flatMap]
 constructor
 · rintro ⟨i,hi,h⟩
   obtain ⟨a,h1,h2,h3⟩:=gl_mem.mp h
   have:=List.mem_range.mp hi
   exact ⟨i+1,a,by omega,by omega,h1,h2,h3⟩
 · rintro ⟨m,a,h1,h2,h3,h4,h5⟩
   refine ⟨m - 1,List.mem_range.mpr (by omega),gl_mem.mpr ⟨a,by omega,?_,?_⟩⟩
   · rw [show m - 1+1=m by omega];exact h4
   · rw [show m - 1+1=m by omega];exact h5
theorem gl_len (ns:List Int) (q:Int) (m A:Nat):(gl ns q m A).length≤A:=by
 unfold gl
 rw [List.length_map]
 refine Nat.le_trans (List.length_filter_le _ _) ?_
 rw [List.length_range]
 exact Nat.le_refl _
theorem TL_len (ns:List Int) (q:Int):∀ M,(TL ns q M).length≤M*M
 | 0=>Nat.le_refl _
 | M+1=>by
   rw [TL_succ,List.length_append]
   have h1:=TL_len ns q M
   have h2:=gl_len ns q (M+1) (M+1)
   have:(M+1)*(M+1)=M*M+2*M+1:=by grind
   omega
def cm (T:List (Int×Int)) (m a:Int):Bool:=T.any fun p=>decide (m % p.1=0)&&decide (a % p.1=p.2)
theorem mod_mod {a s t:Nat} (h:s % t=0):a % s % t=a % t:=Nat.mod_mod_of_dvd a (Nat.dvd_of_mod_eq_zero h)
theorem cm_low {ns:List Int} {q:Int} {M A:Nat} (hA:A<M+1) (hl:A+2*(M+1)<ns.length):cm (TL ns q M++gl ns q (M+1) A) ((M+1:Nat):Int) (A:Int)=low ns q (M+1) A:=by
 rw [Bool.eq_iff_iff,low_iff]
 unfold cm
 rw [List.any_eq_true]
 constructor
 · rintro ⟨p,hp,h⟩
   rw [Bool.and_eq_true] at h
   have e1:=of_decide_eq_true h.1
   have e2:=of_decide_eq_true h.2
   rcases List.mem_append.mp hp with hp | hp
   · obtain ⟨m,a,m1,mM,am,hg,rfl⟩:=TL_mem.mp hp
     have f1:(M+1) % m=0:=by
      have e1':((M+1:Nat):Int) % (m:Int)=0:=e1
      rw [← Int.natCast_emod] at e1'
      exact Int.ofNat_inj.mp e1'
     have f2:A % m=a:=by
      have e2':(A:Int) % (m:Int)=(a:Int):=e2
      rw [← Int.natCast_emod] at e2'
      exact Int.ofNat_inj.mp e2'
     unfold good at hg
     rw [Bool.and_eq_true,Bool.and_eq_true] at hg
     exact ⟨m,by omega,m1,f1,by rw [f2];exact hg.1.1⟩
   · obtain ⟨a,ha,hg,rfl⟩:=gl_mem.mp hp
     exfalso
     have e2':(A:Int) % ((M+1:Nat):Int)=(a:Int):=e2
     rw [← Int.natCast_emod,Nat.mod_eq_of_lt hA] at e2'
     omega
 · rintro ⟨s,s1,s2,s3,s4⟩
   obtain ⟨t,⟨t1,t2,t3,t4⟩,least⟩:∃ t,(t<M+1∧1≤t∧(M+1) % t=0∧dv ns q t (A % t)=true)∧∀ u,u<t→¬ (u<M+1∧1≤u∧(M+1) % u=0∧dv ns q u (A % u)=true):=by
    have:∀ n s,s≤n→(s<M+1∧1≤s∧(M+1) % s=0∧dv ns q s (A % s)=true)→∃ t,(t<M+1∧1≤t∧(M+1) % t=0∧dv ns q t (A % t)=true)∧∀ u,u<t→¬ (u<M+1∧1≤u∧(M+1) % u=0∧dv ns q u (A % u)=true):=by
     intro n
     induction n with
     | zero=>intro s hs h;omega
     | succ n ih=>
       intro s hs h
       by_cases hu:∃ u,u<s∧(u<M+1∧1≤u∧(M+1) % u=0∧dv ns q u (A % u)=true)
       · obtain ⟨u,hu1,hu2⟩:=hu
         exact ih u (by omega) hu2
       · exact ⟨s,h,fun u hu1 hu2=>hu ⟨u,hu1,hu2⟩⟩
    exact this s s (Nat.le_refl _) ⟨s1,s2,s3,s4⟩
   have am:A % t<t:=Nat.mod_lt _ (by omega)
   have aA:A % t≤A:=Nat.mod_le _ _
   have hg:good ns q t (A % t)=true:=by
    unfold good
    rw [Bool.and_eq_true,Bool.and_eq_true]
    refine ⟨⟨t4,decide_eq_true (by omega)⟩,?_⟩
    cases hlow:low ns q t (A % t) with
    | false=>rfl
    | true=>
      exfalso
      obtain ⟨u,u1,u2,u3,u4⟩:=low_iff.mp hlow
      rw [mod_mod u3] at u4
      have:(M+1) % u=0:=by
       have d1:=Nat.dvd_of_mod_eq_zero u3
       have d2:=Nat.dvd_of_mod_eq_zero t3
       exact Nat.mod_eq_zero_of_dvd (Nat.dvd_trans d1 d2)
      exact least u u1 ⟨by omega,u2,this,u4⟩
   refine ⟨((t:Int),((A % t:Nat):Int)),List.mem_append_left _ (TL_mem.mpr ⟨t,A % t,t2,by omega,am,hg,rfl⟩),?_⟩
   rw [Bool.and_eq_true]
   refine ⟨decide_eq_true ?_,decide_eq_true ?_⟩
   · show ((M+1:Nat):Int) % (t:Int)=0
     rw [← Int.natCast_emod,t3]
     rfl
   · show (A:Int) % (t:Int)=((A % t:Nat):Int)
     rw [← Int.natCast_emod]
end M30
namespace K31
open PySem L2 MRow M27
section
variable {P:Program} {w:World} {K:PySem.W.Frag} {mg:Str→Option Value} {base:Heap} {f:Addr} {fd:FuncData}
theorem sc_first_not:FnScope ["row","claim","m","a","q","place"] ["row","claim"] (defScope (top 11)):=⟨rfl,rfl,rfl,by decide +kernel,rfl,by decide +kernel,by decide +kernel⟩
def sp_first:Sp:=fun vs H Q _=>∃ (r c:Addr) (ns:List Int) (m a q:Int),vs=[.ref r,.ref c]∧H r=some (.tup (ns.map V.int))∧ns.length≤1000∧H c=some (.tup [.int m,.int a,.int q])∧CB m a q∧∀ v H',Same H H'→IsF ns m a q v→Q v H'
theorem ok_first_not (F:Fun K "first_not" "first_not" (top 11) f fd) (m_len:mg "len" = none) (m_range:mg "range" = none):FnOk P w K mg base CX0 1 f fd ["row","claim"] sp_first:=by
 refine F.ok sc_first_not (fun vs H Q E h=>?_) (fun cdv A outer s H vs Q E hr h=>?_)
 · obtain ⟨r,c,ns,m,a,q,rfl,_⟩:=h;rfl
 obtain ⟨r,c,ns,m,a,q,rfl,hrow,hlen,hc,⟨m1,m2,a0,a1,q1,q2⟩,fin⟩:=h
 have nd:=sc_first_not.nd
 have hu:=hr.units
 refine ⟨_,(pss_cons (ps_asg (pn 1) (pg_tup rfl (pgs_cons (pg_name (i:=2) nd rfl (Or.inl rfl)) (pgs_cons (pg_name (i:=3) nd rfl (Or.inl rfl)) (pgs_cons (pg_name (i:=4) nd rfl (Or.inl rfl)) pgs_nil)))))
  (pss_cons (ps_for PassesOwn.never rfl (pi_range3 rfl m_range (pa_cons (pn 3) (pa_cons (pcb_len rfl m_len (pa_cons (pn 0) pa_nil) rfl rfl) (pa_cons (pn 2) pa_nil)))) (pg_name (i:=5) nd rfl (Or.inl rfl)) (pss_one (ps_if (pt_cmpP (op_neD hu) (pe_op op_modP (pe_ix ix_P (pn 0) (pn 5) (fun _ _=>rfl)) (pn 4)) pe_int (nomark _)) (pss_one (ps_ret (pn 5))) pss_nil)))
  (pss_one (ps_ret pe_non)))),?_⟩
 refine ⟨c,_,rfl,SqT.of hc,rfl,_,_,rfl,_,_,rfl,_,_,rfl,rfl,?_⟩
 refine ⟨_,.inr hrow,?_⟩
 refine ⟨a,(ns.length:Int),m,by rw [List.length_map],⟨by omega,⟨by omega,by omega⟩,small_up (by omega) (by omega) (by omega) (by omega) (by omega) (by omega)⟩,?_⟩
 refine for_rangeS (fun i σ H'=>H'=H∧(∀ j:Nat,(j:Int)<a+(i:Int)*m→¬ Bad ns m a q j)∧∃ p5,σ=[some (.ref r),some (.ref c),some (.int m),some (.int a),some (.int q),p5]) ⟨rfl,?_,_,rfl⟩ ?_ ?_
 · rintro j hj ⟨x,_,e,_⟩
   have:(j:Int)<a:=by simpa using hj
   rw [Int.emod_eq_of_lt (by omega) (by omega)] at e
   omega
 · rintro i σ _ hi ⟨rfl,hj,p5,rfl⟩
   have hlt:=size_lt m1 hi
   have him:0≤(i:Int)*m:=Int.mul_nonneg (by omega) (by omega)
   obtain ⟨p,hp⟩:∃ p:Nat,a+(i:Int)*m=(p:Int):=⟨(a+(i:Int)*m).toNat,by omega⟩
   have hpl:p<ns.length:=by omega
   have hcl:(p:Int) % m=a:=by rw [← hp];exact class_mod a0 a1 _
   refine ⟨_,.inr hrow,.int ns[p],atI_of hp (getI hpl),(show (0:Int)<q by omega),?_⟩
   refine iteB (fun c=>?_) (fun c=>?_)
   · have c':¬ ns[p] % q=0:=by simpa using c
     rw [hp]
     refine fin _ _ (Same.refl _) (.inr ⟨p,hpl,rfl,⟨ns[p],List.getElem?_eq_getElem hpl,hcl,c'⟩,fun j hjp=>hj j (by omega)⟩)
   · have c':ns[p] % q=0:=by simpa using c
     refine ⟨rfl,next_ok m1 hp.symm hj ?_,_,rfl⟩
     rintro ⟨x,hx,_,h⟩
     rw [List.getElem?_eq_getElem hpl] at hx
     cases hx
     exact h c'
 · rintro σ _ ⟨rfl,hj,p5,rfl⟩
   refine fin _ _ (Same.refl _) (.inl ⟨rfl,fun j hB=>?_⟩)
   have hjl:j<ns.length:=by obtain ⟨x,hx,_⟩:=hB;exact (List.getElem?_eq_some_iff.mp hx).1
   exact hj j (size_all m1 (by omega)) hB
end
end K31
namespace K31
open PySem L2 MRow M30
theorem big_line {n:Nat} (h:n≤100000):n≤sizeLine:=by rw [sizeLine_eq];omega
theorem dI {x y:Int}:decide (V.int x=V.int y)=decide (x=y):=by
 by_cases h:x=y
 · rw [decide_eq_true h,decide_eq_true (by rw [h])]
 · rw [decide_eq_false h,decide_eq_false fun z=>h (V.int.inj z)]
def cmb (m a:Int) (p:Int×Int):Bool:=decide (m % p.1=0)&&decide (a % p.1=p.2)
section
variable {P:Program} {w:World} {K:PySem.W.Frag} {mg:Str→Option Value} {base:Heap} {f:Addr} {fd:FuncData}
theorem sc_co:FnScope ["told","m","a"] ["told","m","a"] (defScope (top 13)):=⟨rfl,rfl,rfl,by decide +kernel,rfl,by decide +kernel,by decide +kernel⟩
def sp_co:Sp:=fun vs H Q _=>∃ (t:Addr) (us:List V) (T:List (Int×Int)) (m a:Int),vs=[.ref t,.int m,.int a]∧H t=some (.lst us)∧Prs H us T∧(∀ p∈T,1≤p.1)∧T.length≤50000∧∀ H',Same H H'→Q (.bl (cm T m a)) H'
theorem ok_co (F:Fun K "comes_of_one" "comes_of_one" (top 13) f fd) (m_any:mg "any" = none):FnOk P w K mg base CX0 1 f fd ["told","m","a"] sp_co:=by
 refine F.okz sc_co (fun vs H Q E h=>?_) (fun cdv A outer s H vs Q E hr h=>?_)
 · obtain ⟨t,us,T,m,a,rfl,_⟩:=h;rfl
 obtain ⟨t,us,T,m,a,rfl,ht,pr,pos,lT,q⟩:=h
 have nd:=sc_co.nd
 have hu:=hr.units
 have lu:=pr.length
 refine ⟨_,(zss_one (zs_ret (zcb_any rfl rfl m_any (za_cons (ze_comp ["step","rest"] [("m",1),("a",2)] rfl ⟨rfl,by decide +kernel,by decide +kernel,rfl,rfl⟩ (zi_list (zn 0)) kpg_two (fun _ _ _ _=>zg_tup rfl (zgs_cons (zg_name (i:=0) (show List.Nodup (["step","rest","m","a"]:List Str) by decide +kernel) rfl (Or.inl rfl)) (zgs_cons (zg_name (i:=1) (show List.Nodup (["step","rest","m","a"]:List Str) by decide +kernel) rfl (Or.inl rfl)) zgs_nil))) (fun _ _ _ _=>zif_nil) (fun _ _ _ _=>(ze_andP (ze_cmpR (op_eqD hu) (ze_op op_modP (zn 2) (zn 0)) ze_int (nomark _)) (ze_one (ze_cmpR (op_eqD hu) (ze_op op_modP (zn 3) (zn 0)) (zn 1) (nomark _)))))) za_nil) rfl rfl))),?_⟩
 refine ⟨t,rfl,⟨_,SqL.of ht⟩,cmp_list (xs:=us) (fun i zs H'=>H'=H∧zs=((T.take i).map (cmb m a)).map V.bl) ⟨rfl,rfl⟩ ?_ ?_ ?_⟩
 · rintro i zs H' _ ⟨rfl,_⟩
   exact SqL.of ht
 · rintro i z zs H' hz ⟨rfl,rfl⟩
   have hi:i<us.length:=(List.getElem?_eq_some_iff.mp hz).1
   obtain ⟨p,hp,b,rfl,hb⟩:=pr.get hz
   have p1:=pos p (List.mem_of_getElem? hp)
   refine ⟨Nat.lt_of_lt_of_le (show (((T.take i).map (cmb m a)).map V.bl).length<100000 by rw [List.length_map,List.length_map,List.length_take];omega) (big_line (Nat.le_refl _)),?_⟩
   refine ⟨b,_,rfl,SqT.of hb,rfl,_,_,rfl,_,_,rfl,rfl,?_⟩
   refine ⟨show (0:Int)<p.1 by omega,?_⟩
   refine iteD (fun c=>?_) (fun c=>?_)
   · refine ⟨show (0:Int)<p.1 by omega,rfl,?_⟩
     have c':m % p.1=0:=V.int.inj c
     rw [List.take_succ,hp,List.map_append,List.map_append]
     show _=_++[V.bl (cmb m a p)]
     unfold cmb
     rw [decide_eq_true c',Bool.true_and,← dI]
     rfl
   · refine ⟨rfl,?_⟩
     have c':¬ m % p.1=0:=fun z=>c (by show V.int (m % p.1)=V.int 0;rw [z])
     rw [List.take_succ,hp,List.map_append,List.map_append]
     show _=_++[V.bl (cmb m a p)]
     unfold cmb
     rw [decide_eq_false c',Bool.false_and]
 · rintro zs H' ⟨rfl,rfl⟩ D hD
   rw [List.take_of_length_le (by omega)]
   refine ⟨_,SqL.of upd_same,?_⟩
   have e:(T.map (cmb m a)).any id=cm T m a:=by
    unfold cm
    rw [List.any_map]
    rfl
   rw [e]
   exact q _ (Same.new hD _)
theorem sc_cl:FnScope ["row","most","q","told","m","a"] ["row","most","q"] (defScope (top 14)):=⟨rfl,rfl,rfl,by decide +kernel,rfl,by decide +kernel,by decide +kernel⟩
def sp_cl:Sp:=fun vs H Q _=>∃ (r:Addr) (ns:List Int) (M:Nat) (q:Int),vs=[.ref r,.int M,.int q]∧H r=some (.tup (ns.map V.int))∧ns.length≤1000∧M≤60∧2≤q∧q≤1000000∧∀ t us H',Same H H'→H' t=some (.tup us)→Prs H' us (TL ns q M)→Q (.ref t) H'
theorem ok_cl (F:Fun K "claims" "claims" (top 14) f fd) (m_len:mg "len" = none) (m_min:mg "min" = none) (m_range:mg "range" = none) (m_tuple:mg "tuple" = none) (F_comes_of_one:FnA P w K mg base "comes_of_one" 1 ["told","m","a"] sp_co) (F_first_not:FnA P w K mg base "first_not" 1 ["row","claim"] sp_first):FnOk P w K mg base CX0 2 f fd ["row","most","q"] sp_cl:=by
 refine F.okz sc_cl (fun vs H Q E h=>?_) (fun cdv A outer s H vs Q E hr h=>?_)
 · obtain ⟨r,ns,M,q,rfl,_⟩:=h;rfl
 obtain ⟨r,ns,M,q,rfl,hr0,ln,hM,q2,q6,fin⟩:=h
 have nd:=sc_cl.nd
 have hu:=hr.units
 refine ⟨_,(zss_cons (zs_set (i:=3) nd rfl (Or.inl rfl) (ze_lst za_nil))
  (zss_cons (zs_for PassesOwn.never rfl (zi_range2 rfl m_range (za_cons ze_int (za_cons (ze_op op_addP (zn 1) ze_int) za_nil))) (zg_name (i:=4) nd rfl (Or.inl rfl)) (zss_one (zs_for PassesOwn.never rfl (zi_range1 rfl m_range (za_cons (zcb_min rfl rfl m_min (za_cons (zn 4) (za_cons (ze_op op_subP (zcb_len rfl m_len (za_cons (zn 0) za_nil) rfl rfl) (ze_op op_mulQ ze_int (zn 4))) za_nil)) rfl rfl) za_nil)) (zg_name (i:=5) nd rfl (Or.inl rfl)) (zss_one (zs_if (ZW.zt (zw_and (zt_not (zt_valP (ze_fn F_comes_of_one hr (by decide) rfl (za_cons (zn 3) (za_cons (zn 4) (za_cons (zn 5) za_nil)))))) (zw_and1 (zt_cmpP op_isP (ze_fn F_first_not hr (by decide) rfl (za_cons (zn 0) (za_cons (ze_tup (za_cons (zn 4) (za_cons (zn 5) (za_cons (zn 2) za_nil)))) za_nil))) ze_non (nomark _))))) (zss_one (zs_expr (zm_append (zn 3) (za_cons (ze_tup (za_cons (zn 4) (za_cons (zn 5) za_nil))) za_nil)))) zss_nil)))))
  (zss_one (zs_ret (zcb_tuple rfl m_tuple (za_cons (zn 3) za_nil) rfl rfl))))),?_⟩
 refine ⟨by show 0≤sizeLine;decide,fun L hL=>?_⟩
 have yL:=Same.new hL (.lst [])
 have gL:upd H L (.lst []) L=some (.lst []):=upd_same
 generalize upd H L (.lst [])=H0 at yL gL
 refine ⟨1,(M:Int)+1,rfl,⟨by omega,by omega,by omega,by omega⟩,?_⟩
 have eM:((M:Int)+1 - 1).toNat=M:=by omega
 refine for_range (fun i σ H'=>i≤M∧Same H H'∧(∃ us,H' L=some (.lst us)∧Prs H' us (TL ns q i))∧∃ x4 x5,σ=[some (.ref r),some (.int M),some (.int q),some (.ref L),x4,x5]) ⟨Nat.zero_le _,yL,⟨[],gL,.nil⟩,_,_,rfl⟩ ?_ ?_
 · rintro i σ H' hi ⟨_,y,⟨us,hL',pr⟩,x4,x5,rfl⟩
   have hi':i<M:=by omega
   have ek:(1:Int)+(i:Int)=((i+1:Nat):Int):=by omega
   rw [ek]
   refine ⟨_,.inr (y _ _ hr0),?_⟩
   rw [List.length_map]
   refine ⟨mulL (by decide) (by decide),?_⟩
   obtain ⟨X,eX⟩:∃ X:Int,(if (ns.length:Int) - 2*((i+1:Nat):Int)<((i+1:Nat):Int) then (ns.length:Int) - 2*((i+1:Nat):Int) else ((i+1:Nat):Int))=X:=⟨_,rfl⟩
   have hX:X≤((i+1:Nat):Int)∧X≤(ns.length:Int) - 2*((i+1:Nat):Int)∧(X=((i+1:Nat):Int)∨X=(ns.length:Int) - 2*((i+1:Nat):Int)):=by
    rw [← eX]
    split <;> omega
   refine ⟨X,by rw [← eX],by omega,by omega,?_⟩
   refine for_range (fun j σ H'=>j≤X.toNat∧Same H H'∧(∃ us,H' L=some (.lst us)∧Prs H' us (TL ns q i++gl ns q (i+1) j))∧∃ x5,σ=[some (.ref r),some (.int M),some (.int q),some (.ref L),some (.int ((i+1:Nat):Int)),x5]) ⟨Nat.zero_le _,y,⟨us,hL',by rw [show gl ns q (i+1) 0=[] from rfl,List.append_nil];exact pr⟩,_,rfl⟩ ?_ ?_
   · rintro j σ H2 hj ⟨_,y2,⟨us2,hL2,pr2⟩,x5,rfl⟩
     have hj1:j<i+1:=by omega
     have hj2:j+2*(i+1)<ns.length:=by omega
     have lT:(TL ns q i++gl ns q (i+1) j).length≤5000:=by
      rw [List.length_append]
      have h1:=TL_len ns q i
      have h2:=gl_len ns q (i+1) j
      have h3:i*i≤60*60:=Nat.mul_le_mul (by omega) (by omega)
      omega
     have lu:=pr2.length
     refine ⟨L,us2,_,_,_,rfl,hL2,pr2,?_,by omega,fun H3 y3=>?_⟩
     · intro p hp
       rcases List.mem_append.mp hp with h | h
       · obtain ⟨m,a,h1,_,_,_,rfl⟩:=TL_mem.mp h
         show (1:Int)≤(m:Int)
         omega
       · obtain ⟨a,_,_,rfl⟩:=gl_mem.mp h
         show (1:Int)≤((i+1:Nat):Int)
         omega
     have ez:(0:Int)+(j:Int)=(j:Int):=by omega
     rw [ez,cm_low hj1 hj2]
     have hL3:=y3 _ _ hL2
     have pr3:=pr2.same y3
     cases hlow:low ns q (i+1) j with
     | true=>
       have ng:¬ good ns q (i+1) j=true:=by unfold good;rw [hlow];simp
       refine ⟨by omega,y2.trans y3,⟨us2,hL3,?_⟩,_,rfl⟩
       rw [gl_succ,if_neg ng,List.append_nil]
       exact pr3
     | false=>
       refine ⟨by show 3≤sizeLine;decide,fun d hd=>?_⟩
       have yd:=Same.new hd (.tup [V.int ((i+1:Nat):Int),.int (j:Int),.int q])
       have gd:upd H3 d (.tup [V.int ((i+1:Nat):Int),.int (j:Int),.int q]) d=some (.tup [V.int ((i+1:Nat):Int),.int (j:Int),.int q]):=upd_same
       have y4:=(y2.trans y3).trans yd
       have hL4:=yd _ _ hL3
       have pr4:=pr3.same yd
       generalize upd H3 d (.tup [V.int ((i+1:Nat):Int),.int (j:Int),.int q])=H4 at yd gd y4 hL4 pr4
       refine ⟨r,d,ns,((i+1:Nat):Int),(j:Int),q,rfl,y4 _ _ hr0,ln,gd,⟨by omega,by omega,by omega,by omega,by omega,by omega⟩,fun v H5 y5 isF=>?_⟩
       have y45:=y4.trans y5
       have hL5:=y5 _ _ hL4
       have pr5:=pr4.same y5
       rcases isF with ⟨rfl,nb⟩ | ⟨p,hp,rfl,hb,_⟩
       · have dt:dv ns q (i+1) j=true:=(dv_bad (by omega) hj1).mpr nb
         have gg:good ns q (i+1) j=true:=by unfold good;rw [dt,hlow,decide_eq_true hj2];rfl
         refine ⟨tyL hL5,?_⟩
         refine ⟨by show 2≤sizeLine;decide,fun e he=>?_⟩
         have ye:=Same.new he (.tup [V.int ((i+1:Nat):Int),.int (j:Int)])
         refine ⟨us2,ye _ _ hL5,Nat.lt_of_lt_of_le (show us2.length<100000 by omega) (big_line (Nat.le_refl _)),?_⟩
         refine ⟨by omega,Same.updN (y45.trans ye) hL,⟨_,upd_same,?_⟩,_,rfl⟩
         rw [gl_succ,if_pos gg,← List.append_assoc]
         exact Prs.updL (ye _ _ hL5) (Prs.snoc (p:=(((i+1:Nat):Int),(j:Int))) ⟨e,rfl,upd_same⟩ (pr5.same ye))
       · have df:¬ dv ns q (i+1) j=true:=fun z=>(dv_bad (by omega) hj1).mp z p hb
         have ng:¬ good ns q (i+1) j=true:=by unfold good;rw [Bool.and_eq_true,Bool.and_eq_true];exact fun z=>df z.1.1
         refine ⟨by omega,y45,⟨us2,hL5,?_⟩,_,rfl⟩
         rw [gl_succ,if_neg ng,List.append_nil]
         exact pr5
   · rintro σ H2 ⟨_,y2,⟨us2,hL2,pr2⟩,x5,rfl⟩
     refine ⟨by omega,y2,⟨us2,hL2,?_⟩,_,_,rfl⟩
     rw [TL_succ]
     have e:gl ns q (i+1) (i+1)=gl ns q (i+1) X.toNat:=by
      rcases hX.2.2 with h | h
      · rw [h,Int.toNat_natCast]
      · have hb:ns.length≤X.toNat+2*(i+1):=by omega
        have:=gl_more (ns:=ns) (q:=q) (m:=i+1) (A:=X.toNat) hb (i+1 - X.toNat)
        rw [show X.toNat+(i+1 - X.toNat)=i+1 by omega] at this
        exact this
     rw [e]
     exact pr2
 · rintro σ H' ⟨_,y,⟨us,hL',pr⟩,x4,x5,rfl⟩
   rw [eM] at pr
   refine ⟨_,.inl (SqL.of hL'),fun t H3 y3 ht3=>fin t us H3 (y.trans y3) ht3 (pr.same y3)⟩
end
end K31
namespace K31
open PySem L2 MRow M27 M30
theorem strd_map (ns:List Int) (a m:Nat):HT.strd (ns.map V.int) a m=(HT.strd ns a m).map V.int:=by
 unfold HT.strd
 rw [List.length_map,List.map_filterMap]
 refine HT.fm_congr' fun k=>?_
 rw [List.getElem?_map]
def Hold (ns:List Int) (m a q:Int):Prop:=∀ j,¬ Bad ns m a q j
theorem Hold.f {ns:List Int} {m a q:Int} {v:V} (h:Hold ns m a q) (hf:IsF ns m a q v):v=.non:=by
 rcases hf with ⟨rfl,_⟩ | ⟨p,_,_,hb,_⟩
 · rfl
 · exact absurd hb (h p)
def quo (ns:List Int) (a m:Nat) (q:Int):List Int:=(HT.strd ns a m).map fun x=>x / q
theorem strd_few (ns:List Int) (a m:Nat) (h:ns.length≤1000):(HT.strd ns a m).length≤1000:=by
 unfold HT.strd
 refine Nat.le_trans (List.length_filterMap_le _ _) ?_
 rw [List.length_range]
 exact h
theorem quo_few (ns:List Int) (a m:Nat) (q:Int) (h:ns.length≤1000):(quo ns a m q).length≤1000:=by
 unfold quo
 rw [List.length_map]
 exact strd_few ns a m h
theorem quo_back {ns:List Int} {a m:Nat} {q:Int} (hm:1≤m) (ha:a<m) (h:Hold ns m a q):(quo ns a m q).map (· * q)=HT.strd ns a m:=by
 have hd:=(dv_bad (ns:=ns) (q:=q) hm ha).mpr h
 unfold dv at hd
 rw [List.all_eq_true] at hd
 unfold quo
 rw [List.map_map]
 refine (List.map_congr_left fun x hx=>?_).trans (List.map_id _)
 have:=of_decide_eq_true (hd x hx)
 show x / q*q=x
 exact Int.ediv_mul_cancel_of_emod_eq_zero this
def eqs (ms qs:List Int) (i:Nat):List Bool:=((ms.zip qs).take i).map fun p=>decide (p.1=p.2)
theorem eqs_all:∀ {ms qs:List Int},ms.length=qs.length→((((ms.zip qs).map fun p=>decide (p.1=p.2)).all id=true)↔ms=qs)
 | [],[],_=>by simp
 | [],_::_,h=>by cases h
 | _::_,[],h=>by cases h
 | x::xs,y::ys,h=>by
   have ih:=eqs_all (ms:=xs) (qs:=ys) (by simpa using h)
   rw [List.zip_cons_cons,List.map_cons,List.all_cons,Bool.and_eq_true,ih]
   simp
section
variable {P:Program} {w:World} {K:PySem.W.Frag} {mg:Str→Option Value} {base:Heap} {f:Addr} {fd:FuncData}
theorem sc_whole:FnScope ["thing"] ["thing"] (defScope (top 4)):=⟨rfl,rfl,rfl,by decide +kernel,rfl,by decide +kernel,by decide +kernel⟩
def sp_whole:Sp:=fun vs H Q _=>∃ i:Int,vs=[.int i]∧Q (.bl true) H
theorem ok_whole (F:Fun K "is_whole" "is_whole" (top 4) f fd) (m_bool:mg "bool" = none) (m_int:mg "int" = none) (m_isinstance:mg "isinstance" = none):FnOk P w K mg base CX0 1 f fd ["thing"] sp_whole:=by
 refine F.okz sc_whole (fun vs H Q E h=>?_) (fun cdv A outer s H vs Q E hr h=>?_)
 · obtain ⟨i,rfl,_⟩:=h;rfl
 obtain ⟨i,rfl,q⟩:=h
 have nd:=sc_whole.nd
 refine ⟨_,(zss_one (zs_ret (ze_andP (zcb_isinstance rfl m_isinstance (za_cons (zn 0) (za_cons (zty_int rfl m_int) za_nil)) rfl rfl) (ze_one (ze_notP (zcb_isinstance rfl m_isinstance (za_cons (zn 0) (za_cons (zty_bool rfl m_bool) za_nil)) rfl rfl)))))),?_⟩
 refine ⟨"int",rfl,rfl,?_⟩
 refine iteB (fun _=>?_) (fun c=>absurd c (by decide))
 refine ⟨"int",rfl,rfl,?_⟩
 exact q
theorem sc_within:FnScope ["thing","least","most"] ["thing","least","most"] (defScope (top 5)):=⟨rfl,rfl,rfl,by decide +kernel,rfl,by decide +kernel,by decide +kernel⟩
def sp_within:Sp:=fun vs H Q _=>∃ i lo hi:Int,vs=[.int i,.int lo,.int hi]∧lo≤i∧i≤hi∧Q (.bl true) H
theorem ok_within (F:Fun K "is_within" "is_within" (top 5) f fd)  (F_is_whole:FnA P w K mg base "is_whole" 1 ["thing"] sp_whole):FnOk P w K mg base CX0 2 f fd ["thing","least","most"] sp_within:=by
 refine F.okz sc_within (fun vs H Q E h=>?_) (fun cdv A outer s H vs Q E hr h=>?_)
 · obtain ⟨i,lo,hi,rfl,_⟩:=h;rfl
 obtain ⟨i,lo,hi,rfl,h1,h2,q⟩:=h
 have nd:=sc_within.nd
 refine ⟨_,(zss_one (zs_ret (ze_andP (ze_fn F_is_whole hr (by decide) rfl (za_cons (zn 0) za_nil)) (ze_one (ze_chain op_leP op_leP (zn 1) (zn 0) (zn 2)))))),?_⟩
 refine ⟨i,rfl,?_⟩
 refine ⟨_,rfl,?_⟩
 rw [decide_eq_true h1]
 show Q (.bl (decide (i≤hi))) H
 rw [decide_eq_true h2]
 exact q
theorem sc_isc:FnScope ["thing","m","a","q"] ["thing"] (defScope (top 10)):=⟨rfl,rfl,rfl,by decide +kernel,rfl,by decide +kernel,by decide +kernel⟩
def sp_isc:Sp:=fun vs H Q _=>∃ (c:Addr) (m a q:Int),vs=[.ref c]∧H c=some (.tup [.int m,.int a,.int q])∧CB m a q∧Q (.bl true) H
theorem ok_isc (F:Fun K "is_claim" "is_claim" (top 10) f fd) (m_isinstance:mg "isinstance" = none) (m_len:mg "len" = none) (m_tuple:mg "tuple" = none) (g_MOST_STEP:IntG mg "MOST_STEP" 600) (g_LEAST_PARTER:IntG mg "LEAST_PARTER" 2) (g_MOST_PARTER:IntG mg "MOST_PARTER" 1000000) (F_is_within:FnA P w K mg base "is_within" 2 ["thing","least","most"] sp_within):FnOk P w K mg base CX0 3 f fd ["thing"] sp_isc:=by
 refine F.okz sc_isc (fun vs H Q E h=>?_) (fun cdv A outer s H vs Q E hr h=>?_)
 · obtain ⟨c,m,a,q,rfl,_⟩:=h;rfl
 obtain ⟨c,m,a,q,rfl,hc,⟨m1,m2,a0,a1,q1,q2⟩,fin⟩:=h
 have nd:=sc_isc.nd
 have hu:=hr.units
 refine ⟨_,(zss_cons (zs_if (ZW.zt (zw_or (zt_not (zt_valP (zcb_isinstance rfl m_isinstance (za_cons (zn 0) (za_cons (zty_tuple rfl m_tuple) za_nil)) rfl rfl))) (zw_or1 (zt_cmpP (op_neD hu) (zcb_len rfl m_len (za_cons (zn 0) za_nil) rfl rfl) ze_int (nomark _))))) (zss_one (zs_ret ze_bl)) zss_nil)
  (zss_cons (zs_asg (zn 0) (zg_tup rfl (zgs_cons (zg_name (i:=1) nd rfl (Or.inl rfl)) (zgs_cons (zg_name (i:=2) nd rfl (Or.inl rfl)) (zgs_cons (zg_name (i:=3) nd rfl (Or.inl rfl)) zgs_nil)))))
  (zss_one (zs_ret (ze_andP (ze_fn F_is_within hr (by decide) rfl (za_cons (zn 1) (za_cons ze_int (za_cons (ze_ig rfl g_MOST_STEP) za_nil)))) (ze_andP (ze_fn F_is_within hr (by decide) rfl (za_cons (zn 2) (za_cons ze_int (za_cons (ze_op op_subP (zn 1) ze_int) za_nil)))) (ze_one (ze_fn F_is_within hr (by decide) rfl (za_cons (zn 3) (za_cons (ze_ig rfl g_LEAST_PARTER) (za_cons (ze_ig rfl g_MOST_PARTER) za_nil))))))))))),?_⟩
 refine ⟨"tuple",(SqK.tup hc).ty,rfl,?_⟩
 refine iteB (fun c=>absurd c (by decide)) (fun _=>?_)
 refine ⟨_,.inr hc,?_⟩
 refine ⟨c,_,rfl,SqT.of hc,rfl,_,_,rfl,_,_,rfl,_,_,rfl,rfl,?_⟩
 refine ⟨m,1,600,rfl,m1,m2,?_⟩
 refine ⟨a,0,m - 1,rfl,a0,by omega,?_⟩
 exact ⟨q,2,1000000,rfl,q1,q2,fin⟩
theorem sc_qu:FnScope ["row","claim","place","m","a","q"] ["row","claim"] (defScope (top 12)):=⟨rfl,rfl,rfl,by decide +kernel,rfl,by decide +kernel,by decide +kernel⟩
def sp_qu:Sp:=fun vs H Q _=>∃ (r c:Addr) (ns:List Int) (m a:Nat) (q:Int),vs=[.ref r,.ref c]∧H r=some (.tup (ns.map V.int))∧ns.length≤1000∧H c=some (.tup [.int m,.int a,.int q])∧CB m a q∧Hold ns m a q∧∀ t H',Same H H'→H' t=some (.tup ((quo ns a m q).map V.int))→Q (.ref t) H'
theorem ok_qu (F:Fun K "quotients" "quotients" (top 12) f fd) (m_tuple:mg "tuple" = none) (F_first_not:FnA P w K mg base "first_not" 1 ["row","claim"] sp_first):FnOk P w K mg base CX0 2 f fd ["row","claim"] sp_qu:=by
 refine F.okz sc_qu (fun vs H Q E h=>?_) (fun cdv A outer s H vs Q E hr h=>?_)
 · obtain ⟨r,c,ns,m,a,q,rfl,_⟩:=h;rfl
 obtain ⟨r,c,ns,m,a,q,rfl,hrow,hlen,hc,cb,hold,fin⟩:=h
 have nd:=sc_qu.nd
 have hu:=hr.units
 refine ⟨_,(zss_cons (zs_set (i:=2) nd rfl (Or.inl rfl) (ze_fn F_first_not hr (by decide) rfl (za_cons (zn 0) (za_cons (zn 1) za_nil))))
  (zss_cons (zs_if (zt_cmpP op_isntP (zn 2) ze_non (nomark _)) (zss_one zs_no) zss_nil)
  (zss_cons (zs_asg (zn 1) (zg_tup rfl (zgs_cons (zg_name (i:=3) nd rfl (Or.inl rfl)) (zgs_cons (zg_name (i:=4) nd rfl (Or.inl rfl)) (zgs_cons (zg_name (i:=5) nd rfl (Or.inr rfl)) zgs_nil)))))
  (zss_one (zs_ret (zcb_tuple rfl m_tuple (za_cons (ze_comp ["number"] [("q",5)] rfl ⟨rfl,by decide +kernel,by decide +kernel,rfl,rfl⟩ (zi_tup (ze_stp (zn 0) (zn 4) (zn 3))) kpg_name (fun _ _ _ _=>zg_name (i:=0) (show List.Nodup (["number","q"]:List Str) by decide +kernel) rfl (Or.inl rfl)) (fun _ _ _ _=>zif_nil) (fun _ _ _ _=>(ze_op op_fdivP (zn 0) (zn 1)))) za_nil) rfl rfl)))))),?_⟩
 refine ⟨r,c,ns,m,a,q,rfl,hrow,hlen,hc,cb,fun v H1 y1 hf=>?_⟩
 obtain rfl:=hold.f hf
 have hc1:=y1 _ _ hc
 have hr1:=y1 _ _ hrow
 refine ⟨c,_,rfl,SqT.of hc1,rfl,_,_,rfl,_,_,rfl,_,_,rfl,rfl,?_⟩
 refine ⟨r,_,a,m,rfl,rfl,rfl,by have:=cb.1;omega,hr1,fun e H3 y3 he=>?_⟩
 rw [strd_map] at he
 have sl:=strd_few ns a m hlen
 have eq:quo ns a m q=(HT.strd ns a m).map fun x=>x / q:=rfl
 generalize HT.strd ns a m=ss at he sl eq
 refine ⟨e,rfl,⟨_,SqT.of he⟩,cmp_tup (xs:=ss.map V.int) (fun k zs H'=>H'=H3∧zs=((ss.take k).map fun x=>x / q).map V.int) ⟨rfl,rfl⟩ ?_ ?_ ?_⟩
 · rintro k zs H' _ ⟨rfl,_⟩
   exact SqT.of he
 · rintro k z zs H' hz ⟨rfl,rfl⟩
   have hk:k<ss.length:=by
    have:=(List.getElem?_eq_some_iff.mp hz).1
    rw [List.length_map] at this
    exact this
   have ez:z=.int ss[k]:=by rw [getI hk] at hz;exact (Option.some.inj hz).symm
   subst ez
   refine ⟨by rw [List.length_map,List.length_map,List.length_take];exact small1000 (by omega),?_⟩
   refine ⟨⟨by have:=cb.2.2.2.2.1;omega,by have:=cb.2.2.2.2.2;omega⟩,rfl,?_⟩
   rw [List.take_succ,List.getElem?_eq_getElem hk,List.map_append,List.map_append]
   rfl
 · rintro zs H' ⟨rfl,rfl⟩ D hD
   rw [List.length_map,List.take_of_length_le (Nat.le_refl _),← eq]
   refine ⟨_,.inl (SqL.of upd_same),fun t H4 y4 ht=>?_⟩
   exact fin t H4 (((y1.trans y3).trans (Same.new hD _)).trans y4) ht
theorem sc_sc:FnScope ["row","claim","thing","asked_for"] ["row","claim","thing"] (defScope (top 16)):=⟨rfl,rfl,rfl,by decide +kernel,rfl,by decide +kernel,by decide +kernel⟩
def sp_sc:Sp:=fun vs H Q _=>∃ (r c t:Addr) (ns ms:List Int) (m a:Nat) (q:Int),vs=[.ref r,.ref c,.ref t]∧H r=some (.tup (ns.map V.int))∧ns.length≤1000∧H c=some (.tup [.int m,.int a,.int q])∧CB m a q∧Hold ns m a q∧H t=some (.tup (ms.map V.int))∧ms.length=(quo ns a m q).length∧∀ H',Same H H'→Q (.bl (decide (ms=quo ns a m q))) H'
theorem ok_sc (F:Fun K "shows_claim" "shows_claim" (top 16) f fd) (m_all:mg "all" = none) (m_isinstance:mg "isinstance" = none) (m_len:mg "len" = none) (m_tuple:mg "tuple" = none) (m_zip:mg "zip" = none) (F_first_not:FnA P w K mg base "first_not" 1 ["row","claim"] sp_first) (F_is_whole:FnA P w K mg base "is_whole" 1 ["thing"] sp_whole) (F_quotients:FnA P w K mg base "quotients" 2 ["row","claim"] sp_qu):FnOk P w K mg base CX0 3 f fd ["row","claim","thing"] sp_sc:=by
 refine F.okz sc_sc (fun vs H Q E h=>?_) (fun cdv A outer s H vs Q E hr h=>?_)
 · obtain ⟨r,c,t,ns,ms,m,a,q,rfl,_⟩:=h;rfl
 obtain ⟨r,c,t,ns,ms,m,a,q,rfl,hrow,hlen,hc,cb,hold,ht,hml,fin⟩:=h
 have nd:=sc_sc.nd
 have hu:=hr.units
 refine ⟨_,(zss_cons (zs_if (zt_cmpP op_isntP (ze_fn F_first_not hr (by decide) rfl (za_cons (zn 0) (za_cons (zn 1) za_nil))) ze_non (nomark _)) (zss_one (zs_ret ze_bl)) zss_nil)
  (zss_cons (zs_set (i:=3) nd rfl (Or.inl rfl) (ze_fn F_quotients hr (by decide) rfl (za_cons (zn 0) (za_cons (zn 1) za_nil))))
  (zss_cons (zs_if (ZW.zt (zw_or (zt_not (zt_valP (zcb_isinstance rfl m_isinstance (za_cons (zn 2) (za_cons (zty_tuple rfl m_tuple) za_nil)) rfl rfl))) (zw_or1 (zt_cmpP (op_neD hu) (zcb_len rfl m_len (za_cons (zn 2) za_nil) rfl rfl) (zcb_len rfl m_len (za_cons (zn 3) za_nil) rfl rfl) (nomark _))))) (zss_one (zs_ret ze_bl)) zss_nil)
  (zss_one (zs_ret (zcb_all rfl rfl m_all (za_cons (ze_comp ["number","quotient"] [] rfl ⟨rfl,by decide +kernel,by decide +kernel,rfl,rfl⟩ (zi_zip rfl m_zip (za_cons (zn 2) (za_cons (zn 3) za_nil))) kpg_two (fun _ _ _ _=>zg_tup rfl (zgs_cons (zg_name (i:=0) (show List.Nodup (["number","quotient"]:List Str) by decide +kernel) rfl (Or.inl rfl)) (zgs_cons (zg_name (i:=1) (show List.Nodup (["number","quotient"]:List Str) by decide +kernel) rfl (Or.inl rfl)) zgs_nil))) (fun _ _ _ _=>zif_nil) (fun _ _ _ _=>(ze_andP (ze_fn F_is_whole hr (by decide) rfl (za_cons (zn 0) za_nil)) (ze_one (ze_cmpR (op_eqD hu) (zn 0) (zn 1) (nomark _)))))) za_nil) rfl rfl)))))),?_⟩
 refine ⟨r,c,ns,m,a,q,rfl,hrow,hlen,hc,cb,fun v H1 y1 hf=>?_⟩
 obtain rfl:=hold.f hf
 refine ⟨r,c,ns,m,a,q,rfl,y1 _ _ hrow,hlen,y1 _ _ hc,cb,hold,fun e H2 y2 he=>?_⟩
 have ql:=quo_few ns a m q hlen
 generalize quo ns a m q=qs at he ql hml fin
 have ht2:=y2 _ _ (y1 _ _ ht)
 refine ⟨"tuple",(SqK.tup ht2).ty,rfl,?_⟩
 refine iteB (fun c=>absurd c (by decide)) (fun _=>?_)
 refine ⟨_,.inr ht2,?_⟩
 refine ⟨_,.inr he,?_⟩
 rw [List.length_map,List.length_map,hml]
 refine iteB (fun c=>absurd c (by simp)) (fun _=>?_)
 refine ⟨true,true,_,_,SqK.tup ht2,SqK.tup he,?_⟩
 refine cmp_zip (xs:=ms.map V.int) (ys:=qs.map V.int) (fun j zs H'=>Same H2 H'∧zs=(eqs ms qs j).map V.bl) ⟨Same.refl _,rfl⟩ ?_ ?_ ?_ ?_
 · rintro j zs H' _ ⟨y',_⟩
   exact ⟨SqK.tup (y' _ _ ht2),SqK.tup (y' _ _ he)⟩
 · rintro j zs H' hj ⟨_,rfl⟩
   rw [List.length_map]
   unfold eqs
   rw [List.length_map,List.length_take]
   rw [List.length_map,List.length_map] at hj
   exact small1000 (by omega)
 · rintro j u v zs H' p hu hv ⟨y',rfl⟩ hp
   have hj1:j<ms.length:=by
    have:=(List.getElem?_eq_some_iff.mp hu).1
    rwa [List.length_map] at this
   have hj2:j<qs.length:=by omega
   have eu:u=.int ms[j]:=by rw [getI hj1] at hu;exact (Option.some.inj hu).symm
   subst eu
   have ev:v=.int qs[j]:=by rw [getI hj2] at hv;exact (Option.some.inj hv).symm
   subst ev
   have yp:=Same.new hp (.tup [.int ms[j],.int qs[j]])
   refine ⟨p,_,rfl,SqT.of upd_same,rfl,_,_,rfl,_,_,rfl,rfl,?_⟩
   refine ⟨_,rfl,?_⟩
   refine ⟨y'.trans yp,?_⟩
   have ez:(ms.zip qs)[j]? = some (ms[j],qs[j]):=by rw [List.getElem?_zip_eq_some];exact ⟨List.getElem?_eq_getElem hj1,List.getElem?_eq_getElem hj2⟩
   unfold eqs
   rw [List.take_succ,ez,List.map_append,List.map_append]
   show _++[V.bl (decide (V.int ms[j]=V.int qs[j]))]=_++[V.bl (decide (ms[j]=qs[j]))]
   rw [show decide (V.int ms[j]=V.int qs[j])=decide (ms[j]=qs[j]) from decide_eq_decide.mpr ⟨fun h=>V.int.inj h,fun h=>by rw [h]⟩]
 · rintro zs H' ⟨y',rfl⟩ D hD
   refine ⟨_,SqL.of upd_same,?_⟩
   have el:eqs ms qs (min (ms.map V.int).length (qs.map V.int).length)=(ms.zip qs).map fun p=>decide (p.1=p.2):=by
    unfold eqs
    rw [List.take_of_length_le (by rw [List.length_zip,List.length_map,List.length_map];exact Nat.le_refl _)]
   rw [el]
   have yD:=((y1.trans y2).trans y').trans (Same.new hD (.lst ((eqs ms qs (min (ms.map V.int).length (qs.map V.int).length)).map V.bl)))
   rw [el] at yD
   have:=fin _ yD
   have eb:((ms.zip qs).map fun p=>decide (p.1=p.2)).all id=decide (ms=qs):=by
    rw [Bool.eq_iff_iff,eqs_all hml,decide_eq_true_eq]
   rw [eb]
   exact this
end
theorem cut_init {ws:List Int} {m:Nat} (h:ws.length=m+1):cutV (ws.map V.int) none (some (-1))=(ws.take m).map V.int:=by
 unfold cutV
 have e:HT.sIx (ws.map V.int).length (ws.map V.int).length (some (-1))=m:=by
  rw [List.length_map,h]
  unfold HT.sIx
  dsimp only
  rw [if_pos (by decide)]
  omega
 rw [HT.sIx_none,e,List.drop_zero,Nat.sub_zero,List.map_take]
theorem atI_last (qs:List Int) (l:Int):atI ((qs++[l]).map V.int) (-1)=some (.int l):=by
 unfold atI ixN
 rw [if_neg (by decide),if_pos (by rw [List.length_map,List.length_append];show -(((qs.length+1:Nat)):Int)≤-1;omega)]
 show ((qs++[l]).map V.int)[(-1+((((qs++[l]).map V.int).length:Nat):Int)).toNat]? = _
 rw [List.length_map,List.length_append,show (-1+(((qs.length + [l].length:Nat)):Int)).toNat=qs.length by show (-1+((qs.length+1:Nat):Int)).toNat=_;omega]
 rw [List.map_append,List.getElem?_append_right (by rw [List.length_map];exact Nat.le_refl _),List.length_map,Nat.sub_self]
 rfl
def knl:List (Nat×Nat×Nat):=[(5,4,5),(7,5,7),(11,6,11),(25,24,25),(49,47,49),(121,116,121),(125,99,125),(343,243,49),(35,19,35),(55,39,55),(77,61,77),(385,369,385),(25,24,5)]
def CAt (H:Hp) (v:V) (c:Nat×Nat×Nat):Prop:=∃ b,v=.ref b∧H b=some (.tup [.int (c.1:Int),.int (c.2.1:Int),.int (c.2.2:Int)])
theorem CAt.same {H H':Hp} {v:V} {c:Nat×Nat×Nat} (h:CAt H v c) (y:Same H H'):CAt H' v c:=let ⟨b,e,hb⟩:=h;⟨b,e,y _ _ hb⟩
def CLs (H:Hp) (us:List V) (cs:List (Nat×Nat×Nat)):Prop:=us.length=cs.length∧∀ (i:Nat) v c,us[i]? = some v→cs[i]? = some c→CAt H v c
theorem CLs.nil {H:Hp}:CLs H [] []:=⟨rfl,fun i v c a=>by cases a⟩
theorem CLs.cons {H:Hp} {u:V} {us:List V} {c:Nat×Nat×Nat} {cs:List (Nat×Nat×Nat)} (h:CAt H u c) (r:CLs H us cs):CLs H (u::us) (c::cs):=by
 refine ⟨by rw [List.length_cons,List.length_cons,r.1],fun i v d a b=>?_⟩
 cases i with
 | zero=>cases a;cases b;exact h
 | succ j=>exact r.2 j v d a b
section
variable {P:Program} {w:World} {K:PySem.W.Frag} {mg:Str→Option Value} {base:Heap} {f:Addr} {fd:FuncData}
theorem sc_kn:FnScope ["_law_known_here"] [] (defScope (top 35)):=⟨rfl,rfl,rfl,by decide +kernel,rfl,by decide +kernel,by decide +kernel⟩
def sp_kn:Sp:=fun vs H Q _=>vs=[]∧∀ p us H',Same H H'→H' p=some (.lst us)→CLs H' us knl→Q (.ref p) H'
theorem ok_kn (F:Fun K "_law_known" "_law_known" (top 35) f fd)  : FnOk P w K mg base CX0 1 f fd [] sp_kn:=by
 refine F.okz sc_kn (fun vs H Q E h=>?_) (fun cdv A outer s H vs Q E hr h=>?_)
 · obtain ⟨rfl,_⟩:=h;rfl
 obtain ⟨rfl,q⟩:=h
 have nd:=sc_kn.nd
 have hu:=hr.units
 refine ⟨_,(zss_cons (zs_set (i:=0) nd rfl (Or.inl rfl) (ze_lst (za_cons (ze_tup (za_cons ze_int (za_cons ze_int (za_cons ze_int za_nil)))) (za_cons (ze_tup (za_cons ze_int (za_cons ze_int (za_cons ze_int za_nil)))) (za_cons (ze_tup (za_cons ze_int (za_cons ze_int (za_cons ze_int za_nil)))) (za_cons (ze_tup (za_cons ze_int (za_cons ze_int (za_cons ze_int za_nil)))) (za_cons (ze_tup (za_cons ze_int (za_cons ze_int (za_cons ze_int za_nil)))) (za_cons (ze_tup (za_cons ze_int (za_cons ze_int (za_cons ze_int za_nil)))) (za_cons (ze_tup (za_cons ze_int (za_cons ze_int (za_cons ze_int za_nil)))) za_nil)))))))))
  (zss_one (zs_ret (ze_op op_addP (zn 0) (ze_lst (za_cons (ze_tup (za_cons ze_int (za_cons ze_int (za_cons ze_int za_nil)))) (za_cons (ze_tup (za_cons ze_int (za_cons ze_int (za_cons ze_int za_nil)))) (za_cons (ze_tup (za_cons ze_int (za_cons ze_int (za_cons ze_int za_nil)))) (za_cons (ze_tup (za_cons ze_int (za_cons ze_int (za_cons ze_int za_nil)))) (za_cons (ze_tup (za_cons ze_int (za_cons ze_int (za_cons ze_int za_nil)))) (za_cons (ze_tup (za_cons ze_int (za_cons ze_int (za_cons ze_int za_nil)))) za_nil))))))))))),?_⟩
 refine ⟨by show 3≤sizeLine;decide,fun d1 h1=>?_⟩
 have y1:=Same.new h1 (.tup [V.int 5,.int 4,.int 5])
 have g1:CAt (upd H d1 (.tup [V.int 5,.int 4,.int 5])) (.ref d1) (5,4,5):=⟨_,rfl,upd_same⟩
 generalize upd H d1 (.tup [V.int 5,.int 4,.int 5])=H1 at y1 g1
 refine ⟨by show 3≤sizeLine;decide,fun d2 h2=>?_⟩
 have y2:=Same.new h2 (.tup [V.int 7,.int 5,.int 7])
 have g2:CAt (upd H1 d2 (.tup [V.int 7,.int 5,.int 7])) (.ref d2) (7,5,7):=⟨_,rfl,upd_same⟩
 generalize upd H1 d2 (.tup [V.int 7,.int 5,.int 7])=H2 at y2 g2
 refine ⟨by show 3≤sizeLine;decide,fun d3 h3=>?_⟩
 have y3:=Same.new h3 (.tup [V.int 11,.int 6,.int 11])
 have g3:CAt (upd H2 d3 (.tup [V.int 11,.int 6,.int 11])) (.ref d3) (11,6,11):=⟨_,rfl,upd_same⟩
 generalize upd H2 d3 (.tup [V.int 11,.int 6,.int 11])=H3 at y3 g3
 refine ⟨by show 3≤sizeLine;decide,fun d4 h4=>?_⟩
 have y4:=Same.new h4 (.tup [V.int 25,.int 24,.int 25])
 have g4:CAt (upd H3 d4 (.tup [V.int 25,.int 24,.int 25])) (.ref d4) (25,24,25):=⟨_,rfl,upd_same⟩
 generalize upd H3 d4 (.tup [V.int 25,.int 24,.int 25])=H4 at y4 g4
 refine ⟨by show 3≤sizeLine;decide,fun d5 h5=>?_⟩
 have y5:=Same.new h5 (.tup [V.int 49,.int 47,.int 49])
 have g5:CAt (upd H4 d5 (.tup [V.int 49,.int 47,.int 49])) (.ref d5) (49,47,49):=⟨_,rfl,upd_same⟩
 generalize upd H4 d5 (.tup [V.int 49,.int 47,.int 49])=H5 at y5 g5
 refine ⟨by show 3≤sizeLine;decide,fun d6 h6=>?_⟩
 have y6:=Same.new h6 (.tup [V.int 121,.int 116,.int 121])
 have g6:CAt (upd H5 d6 (.tup [V.int 121,.int 116,.int 121])) (.ref d6) (121,116,121):=⟨_,rfl,upd_same⟩
 generalize upd H5 d6 (.tup [V.int 121,.int 116,.int 121])=H6 at y6 g6
 refine ⟨by show 3≤sizeLine;decide,fun d7 h7=>?_⟩
 have y7:=Same.new h7 (.tup [V.int 125,.int 99,.int 125])
 have g7:CAt (upd H6 d7 (.tup [V.int 125,.int 99,.int 125])) (.ref d7) (125,99,125):=⟨_,rfl,upd_same⟩
 generalize upd H6 d7 (.tup [V.int 125,.int 99,.int 125])=H7 at y7 g7
 refine ⟨by show 7≤sizeLine;decide,fun e1 he1=>?_⟩
 have z1:=Same.new he1 (.lst [V.ref d1,.ref d2,.ref d3,.ref d4,.ref d5,.ref d6,.ref d7])
 have k1:upd H7 e1 (.lst [V.ref d1,.ref d2,.ref d3,.ref d4,.ref d5,.ref d6,.ref d7]) e1=some (.lst [V.ref d1,.ref d2,.ref d3,.ref d4,.ref d5,.ref d6,.ref d7]):=upd_same
 generalize upd H7 e1 (.lst [V.ref d1,.ref d2,.ref d3,.ref d4,.ref d5,.ref d6,.ref d7])=G1 at z1 k1
 refine ⟨by show 3≤sizeLine;decide,fun d8 h8=>?_⟩
 have y8:=Same.new h8 (.tup [V.int 343,.int 243,.int 49])
 have g8:CAt (upd G1 d8 (.tup [V.int 343,.int 243,.int 49])) (.ref d8) (343,243,49):=⟨_,rfl,upd_same⟩
 generalize upd G1 d8 (.tup [V.int 343,.int 243,.int 49])=H8 at y8 g8
 refine ⟨by show 3≤sizeLine;decide,fun d9 h9=>?_⟩
 have y9:=Same.new h9 (.tup [V.int 35,.int 19,.int 35])
 have g9:CAt (upd H8 d9 (.tup [V.int 35,.int 19,.int 35])) (.ref d9) (35,19,35):=⟨_,rfl,upd_same⟩
 generalize upd H8 d9 (.tup [V.int 35,.int 19,.int 35])=H9 at y9 g9
 refine ⟨by show 3≤sizeLine;decide,fun d10 h10=>?_⟩
 have y10:=Same.new h10 (.tup [V.int 55,.int 39,.int 55])
 have g10:CAt (upd H9 d10 (.tup [V.int 55,.int 39,.int 55])) (.ref d10) (55,39,55):=⟨_,rfl,upd_same⟩
 generalize upd H9 d10 (.tup [V.int 55,.int 39,.int 55])=H10 at y10 g10
 refine ⟨by show 3≤sizeLine;decide,fun d11 h11=>?_⟩
 have y11:=Same.new h11 (.tup [V.int 77,.int 61,.int 77])
 have g11:CAt (upd H10 d11 (.tup [V.int 77,.int 61,.int 77])) (.ref d11) (77,61,77):=⟨_,rfl,upd_same⟩
 generalize upd H10 d11 (.tup [V.int 77,.int 61,.int 77])=H11 at y11 g11
 refine ⟨by show 3≤sizeLine;decide,fun d12 h12=>?_⟩
 have y12:=Same.new h12 (.tup [V.int 385,.int 369,.int 385])
 have g12:CAt (upd H11 d12 (.tup [V.int 385,.int 369,.int 385])) (.ref d12) (385,369,385):=⟨_,rfl,upd_same⟩
 generalize upd H11 d12 (.tup [V.int 385,.int 369,.int 385])=H12 at y12 g12
 refine ⟨by show 3≤sizeLine;decide,fun d13 h13=>?_⟩
 have y13:=Same.new h13 (.tup [V.int 25,.int 24,.int 5])
 have g13:CAt (upd H12 d13 (.tup [V.int 25,.int 24,.int 5])) (.ref d13) (25,24,5):=⟨_,rfl,upd_same⟩
 generalize upd H12 d13 (.tup [V.int 25,.int 24,.int 5])=H13 at y13 g13
 refine ⟨by show 6≤sizeLine;decide,fun e2 he2=>?_⟩
 have z2:=Same.new he2 (.lst [V.ref d8,.ref d9,.ref d10,.ref d11,.ref d12,.ref d13])
 have w13:=((((y8.trans y9).trans y10).trans y11).trans y12).trans y13
 refine .inl ⟨_,_,z2 _ _ (w13 _ _ k1),upd_same,by show 13≤sizeLine;decide,fun p hp=>?_⟩
 have z3:=Same.new hp (.lst ([V.ref d1,.ref d2,.ref d3,.ref d4,.ref d5,.ref d6,.ref d7]++[V.ref d8,.ref d9,.ref d10,.ref d11,.ref d12,.ref d13]))
 have t13:=z2.trans z3
 have t12:=y13.trans t13
 have t11:=y12.trans t12
 have t10:=y11.trans t11
 have t9:=y10.trans t10
 have t8:=y9.trans t9
 have t7:=(z1.trans y8).trans t8
 have t6:=y7.trans t7
 have t5:=y6.trans t6
 have t4:=y5.trans t5
 have t3:=y4.trans t4
 have t2:=y3.trans t3
 have t1:=y2.trans t2
 refine q p _ _ (y1.trans t1) upd_same ?_
 exact .cons (g1.same t1) <| .cons (g2.same t2) <| .cons (g3.same t3) <| .cons (g4.same t4) <| .cons (g5.same t5) <| .cons (g6.same t6) <| .cons (g7.same t7) <| .cons (g8.same t8) <| .cons (g9.same t9) <| .cons (g10.same t10) <| .cons (g11.same t11) <| .cons (g12.same t12) <| .cons (g13.same t13) .nil
theorem sc_sn:FnScope ["_law_row","_law_claim","_law_m","_law_a","_law_q","_law_found"] ["_law_row","_law_claim"] (defScope (top 36)):=⟨rfl,rfl,rfl,by decide +kernel,rfl,by decide +kernel,by decide +kernel⟩
def sp_sn:Sp:=fun vs H Q _=>∃ (r c:Addr) (ns:List Int) (m a:Nat) (q:Int),vs=[.ref r,.ref c]∧H r=some (.tup (ns.map V.int))∧ns.length≤1000∧H c=some (.tup [.int m,.int a,.int q])∧CB m a q∧Hold ns m a q∧∀ H',Same H H'→Q (.bl true) H'
theorem ok_sn (F:Fun K "_law_shown" "_law_shown" (top 36) f fd) (m_tuple:mg "tuple" = none) (F_first_not:FnA P w K mg base "first_not" 1 ["row","claim"] sp_first) (F_is_claim:FnA P w K mg base "is_claim" 3 ["thing"] sp_isc) (F_quotients:FnA P w K mg base "quotients" 2 ["row","claim"] sp_qu) (F_shows_claim:FnA P w K mg base "shows_claim" 3 ["row","claim","thing"] sp_sc):FnOk P w K mg base CX0 4 f fd ["_law_row","_law_claim"] sp_sn:=by
 refine F.okz sc_sn (fun vs H Q E h=>?_) (fun cdv A outer s H vs Q E hr h=>?_)
 · obtain ⟨r,c,ns,m,a,q,rfl,_⟩:=h;rfl
 obtain ⟨r,c,ns,m,a,q,rfl,hrow,hlen,hc,cb,hold,fin⟩:=h
 have nd:=sc_sn.nd
 have hu:=hr.units
 have hm1:1≤m:=by have:=cb.1;omega
 have ham:a<m:=by have:=cb.2.2.2.1;omega
 refine ⟨_,(zss_cons (zs_asg (zn 1) (zg_tup rfl (zgs_cons (zg_name (i:=2) nd rfl (Or.inl rfl)) (zgs_cons (zg_name (i:=3) nd rfl (Or.inl rfl)) (zgs_cons (zg_name (i:=4) nd rfl (Or.inr rfl)) zgs_nil)))))
  (zss_cons (zs_if (ZW.zt (zw_or (zt_cmpP op_isntP (ze_fn F_is_claim hr (by decide) rfl (za_cons (zn 1) za_nil)) ze_bl (nomark _)) (zw_or1 (zt_cmpP op_isntP (ze_fn F_first_not hr (by decide) rfl (za_cons (zn 0) (za_cons (zn 1) za_nil))) ze_non (nomark _))))) (zss_one (zs_ret ze_bl)) zss_nil)
  (zss_cons (zs_set (i:=5) nd rfl (Or.inl rfl) (ze_fn F_quotients hr (by decide) rfl (za_cons (zn 0) (za_cons (zn 1) za_nil))))
  (zss_cons (zs_if (ZW.zt (zw_or (zt_cmpP (op_neD hu) (zcb_tuple rfl m_tuple (za_cons (ze_comp ["_law_by"] [("_law_q",4)] rfl ⟨rfl,by decide +kernel,by decide +kernel,rfl,rfl⟩ (zi_tup (zn 5)) kpg_name (fun _ _ _ _=>zg_name (i:=0) (show List.Nodup (["_law_by","_law_q"]:List Str) by decide +kernel) rfl (Or.inl rfl)) (fun _ _ _ _=>zif_nil) (fun _ _ _ _=>(ze_op op_mulQ (zn 0) (zn 1)))) za_nil) rfl rfl) (ze_stp (zn 0) (zn 3) (zn 2)) (nomark _)) (zw_or1 (zt_cmpP op_isntP (ze_fn F_shows_claim hr (by decide) rfl (za_cons (zn 0) (za_cons (zn 1) (za_cons (zn 5) za_nil)))) ze_bl (nomark _))))) (zss_one (zs_ret ze_bl)) zss_nil)
  (zss_one (zs_ret (ze_orP (ze_cmpR (op_eqD hu) (zn 5) (ze_tup za_nil) (nomark _)) (ze_one (ze_cmpR op_isP (ze_fn F_shows_claim hr (by decide) rfl (za_cons (zn 0) (za_cons (zn 1) (za_cons (ze_op op_addP (ze_slice sl_P (zn 5) zo_none (zo_some (ze_un un_neg ze_int))) (ze_tup (za_cons (ze_op op_addP (ze_ix ix_P (zn 5) (ze_un un_neg ze_int) (fun _ _=>rfl)) ze_int) za_nil))) za_nil)))) ze_bl (nomark _)))))))))),?_⟩
 refine ⟨c,_,rfl,SqT.of hc,rfl,_,_,rfl,_,_,rfl,_,_,rfl,rfl,?_⟩
 refine ⟨c,m,a,q,rfl,hc,cb,?_⟩
 refine ⟨r,c,ns,m,a,q,rfl,hrow,hlen,hc,cb,fun v H1 y1 hf=>?_⟩
 obtain rfl:=hold.f hf
 refine ⟨r,c,ns,m,a,q,rfl,y1 _ _ hrow,hlen,y1 _ _ hc,cb,hold,fun e H2 y2 he=>?_⟩
 have ql:=quo_few ns a m q hlen
 have qb:=quo_back hm1 ham hold
 obtain ⟨qs,eqs'⟩:∃ qs,qs=quo ns a m q:=⟨_,rfl⟩
 rw [← eqs'] at he ql qb
 have y12:=y1.trans y2
 refine ⟨e,rfl,⟨_,SqT.of he⟩,cmp_tup (xs:=qs.map V.int) (fun k zs H'=>H'=H2∧zs=((qs.take k).map (· * q)).map V.int) ⟨rfl,rfl⟩ ?_ ?_ ?_⟩
 · rintro k zs H' _ ⟨rfl,_⟩
   exact SqT.of he
 · rintro k z zs H' hz ⟨rfl,rfl⟩
   have hk:k<qs.length:=by
    have:=(List.getElem?_eq_some_iff.mp hz).1
    rw [List.length_map] at this
    exact this
   have ez:z=.int qs[k]:=by rw [getI hk] at hz;exact (Option.some.inj hz).symm
   subst ez
   refine ⟨by rw [List.length_map,List.length_map,List.length_take];exact small1000 (by omega),?_⟩
   refine ⟨mulR (by have:=cb.2.2.2.2.1;omega) (by have:=cb.2.2.2.2.2;omega),rfl,?_⟩
   rw [List.take_succ,List.getElem?_eq_getElem hk,List.map_append,List.map_append]
   rfl
 rintro zs H' ⟨rfl,rfl⟩ D hD
 rw [List.length_map,List.take_of_length_le (Nat.le_refl _),qb]
 have yD:=Same.new hD (.lst ((HT.strd ns a m).map V.int))
 refine ⟨_,.inl (SqL.of upd_same),fun t H3 y3 ht=>?_⟩
 have z3:=yD.trans y3
 have w3:=y12.trans z3
 refine ⟨r,_,a,m,rfl,rfl,rfl,hm1,w3 _ _ hrow,fun u H4 y4 hu4=>?_⟩
 rw [strd_map] at hu4
 refine ⟨_,_,.ints (y4 _ _ ht),.ints hu4,shaped_ints _,shaped_ints _,?_⟩
 rw [if_pos rfl,eqv_self (shaped_ints _)]
 refine iteB (fun c=>absurd c (by decide)) (fun _=>?_)
 have w4:=w3.trans y4
 have he4:=(z3.trans y4) _ _ he
 refine ⟨r,c,e,ns,qs,m,a,q,rfl,w4 _ _ hrow,hlen,w4 _ _ hc,cb,hold,he4,by rw [eqs'],fun H5 y5=>?_⟩
 rw [decide_eq_true eqs']
 have w5:=w4.trans y5
 have he5:=y5 _ _ he4
 refine ⟨Nat.zero_le _,fun d hd=>?_⟩
 have yd:=Same.new hd (.tup [])
 refine ⟨_,_,.ints (yd _ _ he5),.ints (ns:=[]) upd_same,shaped_ints _,shaped_ints [],?_⟩
 have he6:=yd _ _ he5
 have w6:=w5.trans yd
 generalize upd H5 d (.tup [])=H6 at he6 w6
 have en:PyData.eqv (.tuple (qs.map PyData.int)) (.tuple (([]:List Int).map PyData.int))=(qs.map PyData.int).isEmpty:=eqv_tuple_nil _
 rw [if_neg (show ¬ (false=true) by decide),en]
 by_cases h0:qs=[]
 · rw [h0]
   exact fin _ w6
 obtain ⟨init,l,ei⟩:∃ init l,qs=init++[l]:=⟨qs.dropLast,qs.getLast h0,(List.dropLast_concat_getLast h0).symm⟩
 have e0:(qs.map PyData.int).isEmpty=false:=by rw [ei];cases init <;> rfl
 rw [e0]
 have hl:qs.length=init.length+1:=by rw [ei,List.length_append];rfl
 refine ⟨1,rfl,-1,rfl,e,rfl,.inl ⟨_,he6,fun t7 H7 y7 ht7=>?_⟩⟩
 rw [cut_init hl] at ht7
 have et:qs.take init.length=init:=by rw [ei,List.take_left]
 rw [et] at ht7
 have he7:=y7 _ _ he6
 rw [ei] at he7
 refine ⟨1,rfl,_,.inr he7,.int l,atI_last init l,?_⟩
 refine ⟨by show 1≤sizeLine;decide,fun d8 hd8=>?_⟩
 have y8:=Same.new hd8 (.tup [V.int (l+1)])
 refine .inr ⟨_,_,y8 _ _ ht7,upd_same,by rw [List.length_map];show init.length+1≤sizeLine;exact Nat.le_of_lt (small1000 (by omega)),fun t9 H9 y9 ht9=>?_⟩
 have w9:=((w6.trans y7).trans y8).trans y9
 refine ⟨r,c,t9,ns,init++[l+1],m,a,q,rfl,w9 _ _ hrow,hlen,w9 _ _ hc,cb,hold,by rw [ht9,List.map_append];rfl,by rw [← eqs',hl,List.length_append];rfl,fun H10 y10=>?_⟩
 rw [decide_eq_false (fun h=>by
  rw [← eqs',ei] at h
  have:=List.append_cancel_left h
  have:=(List.cons.inj this).1
  omega)]
 exact fin _ (w9.trans y10)
end
end K31
namespace M31
open L2 MRow M27 M80 M17 M16
def Hold (ns:List Int) (m a q:Int):Prop:=∀ j,¬ Bad ns m a q j
def hchk (m a q:Nat):Nat→List Int→Bool
 | _,[]=>true
 | j,x::r=>(!decide (j % m=a)||decide (x % (q:Int)=0))&&hchk m a q (j+1) r
theorem hchk_ok {m a q:Nat}:∀ {l:List Int} {k:Nat},hchk m a q k l=true→∀ (i:Nat) x,l[i]? = some x→(k+i) % m=a→x % (q:Int)=0
 | [],_,_,i,x,h,_=>by cases h
 | y::r,k,h,i,x,hx,hk=>by
   unfold hchk at h
   obtain ⟨h1,h2⟩:=Bool.and_eq_true_iff.mp h
   cases i with
   | zero=>
     cases hx
     rw [show k+0=k from rfl] at hk
     rw [decide_eq_true hk] at h1
     simpa using h1
   | succ j=>exact hchk_ok h2 j x hx (by rw [← hk];congr 1;omega)
def knl:List (Nat×Nat×Nat):=[(5,4,5),(7,5,7),(11,6,11),(25,24,25),(49,47,49),(121,116,121),(125,99,125),(343,243,49),(35,19,35),(55,39,55),(77,61,77),(385,369,385),(25,24,5)]
theorem known_all:(knl.all fun c=>hchk c.1 c.2.1 c.2.2 0 dRow)=true:=by decide +kernel
theorem known {c:Nat×Nat×Nat} (h:c∈knl) (k:Nat):Hold (dRow.take k) c.1 c.2.1 c.2.2:=fun j ⟨x,hx,hj,hq⟩=>by
 have h1:=List.all_eq_true.mp known_all c h
 have hx2:dRow[j]? = some x:=by
  rw [List.getElem?_take] at hx
  split at hx
  · exact hx
  · cases hx
 exact hq (hchk_ok h1 j x hx2 (by rw [Nat.zero_add];exact_mod_cast hj))
theorem R_PL:∀ k,R k=PL dl (ups k)
 | 0=>rfl
 | k+1=>by rw [R_succ,← R_PL k];rfl
theorem rowA {n:Nat} (hn:n≤600):tb (PL dl (ups n)) (n+1)=dRow.take (n+1):=by
 rw [← dRow_tb]
 have e:(tb (dq 25) 601).take (n+1)=tb (dq 25) (n+1):=by
  unfold tb
  rw [← List.map_take,List.take_range,Nat.min_eq_left (by omega)]
 rw [e]
 refine tb_ext fun j hj=>?_
 rw [dq_W (by omega)]
 show _=R 600 j
 rw [R_PL,← R_far (n:=n) (by omega) (600 - n),show n+(600 - n)=600 by omega]
theorem dRow_len:dRow.length=601:=by decide +kernel
theorem prime_parts {p:Nat} (hp:p=2∨p=3∨p=5∨p=7) {n:Nat} {g:Int} (hn:n % p≠0) (h:(p:Int) ∣ (n:Int)*g):(p:Int) ∣ g:=by
 have h1:p ∣ n*g.natAbs:=by
  have:=Int.natAbs_dvd_natAbs.mpr h
  rw [Int.natAbs_mul] at this
  simpa using this
 have hc:Nat.Coprime p n:=by
  show Nat.gcd p n=1
  rw [Nat.gcd_rec]
  have:n % p<p:=Nat.mod_lt _ (by omega)
  rcases hp with rfl | rfl | rfl | rfl
  · have:n % 2=1:=by omega
    rw [this];decide
  · have:n % 3=1∨n % 3=2:=by omega
    rcases this with h | h <;> (rw [h];decide)
  · have:n % 5=1∨n % 5=2∨n % 5=3∨n % 5=4:=by omega
    rcases this with h | h | h | h <;> (rw [h];decide)
  · have:n % 7=1∨n % 7=2∨n % 7=3∨n % 7=4∨n % 7=5∨n % 7=6:=by omega
    rcases this with h | h | h | h | h | h <;> (rw [h];decide)
 have h2:=hc.dvd_of_dvd_mul_left h1
 exact Int.ofNat_dvd_left.mpr h2
theorem sm_dvd {p:Int}:∀ {n:Nat} {f:Nat→Int},(∀ i,i<n→p ∣ f i)→p ∣ M21.sm n f
 | 0,f,_=>⟨0,by rw [M21.sm_zero,Int.mul_zero]⟩
 | n+1,f,h=>by
   rw [M21.sm_succ]
   exact Int.dvd_add (sm_dvd fun i hi=>h i (by omega)) (h n (by omega))
theorem prod_dvd {p:Nat} (hp:p=2∨p=3∨p=5∨p=7) {ps:List Int} (h:∀ x∈ps,(p:Int) ∣ x) {n:Nat} (hn:n % p≠0):(p:Int) ∣ M21.prod ps n:=by
 have st:=(M21.prod_steps n ps).2 n (Nat.le_refl n)
 refine prime_parts hp hn ?_
 rw [st]
 unfold M21.cv
 refine sm_dvd fun i _=>?_
 refine Int.dvd_trans ?_ (Int.dvd_mul_right _ _)
 unfold M21.sv
 refine sm_dvd fun k hk=>?_
 refine Int.dvd_trans ?_ (Int.dvd_mul_right _ _)
 rw [List.getD_eq_getElem?_getD,List.getElem?_eq_getElem hk]
 exact h _ (List.getElem_mem hk)
def opos:Nat→List Int→List Int
 | _,[]=>[]
 | k,x::r=>if x % 2=1 then (k:Int)::opos (k+1) r else opos (k+1) r
theorem opos_snoc (x:Int):∀ (l:List Int) (k:Nat),opos k (l++[x])=opos k l++if x % 2=1 then [((k+l.length:Nat):Int)] else []
 | [],k=>by
   show (if x % 2=1 then (k:Int)::opos (k+1) [] else opos (k+1) [])=_
   split <;> rfl
 | y::r,k=>by
   show (if y % 2=1 then (k:Int)::opos (k+1) (r++[x]) else opos (k+1) (r++[x]))=(if y % 2=1 then (k:Int)::opos (k+1) r else opos (k+1) r)++_
   rw [opos_snoc x r (k+1),show k+(y::r).length=k+1+r.length by show k+(r.length+1)=_;omega]
   split <;> rfl
theorem opos_len:∀ (k:Nat) (l:List Int),(opos k l).length≤l.length
 | _,[]=>Nat.le_refl _
 | k,y::r=>by
   have:=opos_len (k+1) r
   show (if y % 2=1 then (k:Int)::opos (k+1) r else opos (k+1) r).length≤r.length+1
   split
   · show (opos (k+1) r).length+1≤_
     omega
   · omega
theorem odd_tb:tb (fow 1) 601=M17.odd6:=by rw [← foL_fow,odd_fo]
theorem odd_cor:((List.range 601).all fun m=>decide (opos 0 (odd6.take (m+1))=(M15.cor (m:Int)).map Prod.fst))=true:=by decide +kernel
theorem odd_row {n:Nat} (hn:n≤600):opos 0 (tb (fow 1) (n+1))=(M15.cor (n:Int)).map Prod.fst:=by
 have h:=List.all_eq_true.mp odd_cor n (List.mem_range.mpr (by omega))
 have e:=of_decide_eq_true h
 rw [← odd_tb] at e
 have e2:(tb (fow 1) 601).take (n+1)=tb (fow 1) (n+1):=by
  unfold tb
  rw [← List.map_take,List.take_range,Nat.min_eq_left (by omega)]
 rw [e2] at e
 exact e
end M31
namespace L2
open PySem PySem.Spec PyProof.Rows
section
variable {X:Cx} {a b c d:Expr} {pos:Pos} {ta tb tc td:TE}
def tChain3 (r r' r'':R2) (ta tb tc td:TE):TE:=fun σ H Q=>ta σ H fun x H1=>tb σ H1 fun y H2=>r x y H2 fun z H3=>∃ k,z=.bl k ∧
 (if k=true then tc σ H3 fun w' H4=>r' y w' H4 (fun z' H5=>∃ k',z'=.bl k'∧(if k'=true then td σ H5 fun v' H6=>r'' w' v' H6 Q else Q (.bl false) H5)) else Q (.bl false) H3)
theorem pt_chain3 {op op' op'':CmpOp} {r r' r'':R2} (ho:OpR X (compareOp op) r) (ho':OpR X (compareOp op') r') (ho'':OpR X (compareOp op'') r'') (ha:PE X a ta) (hb:PE X b tb) (hc:PE X c tc) (hd:PE X d td)
 (hm:lastMarks [op,op',op''] [b,c,d]=false:=by with_unfolding_all rfl):PT X (.Compare a [op,op',op''] [b,c,d] pos) (tTest (tChain3 r r' r'' ta tb tc td)):=by
 intro pins s σ H Q I h
 refine isTrue_chain (thn (ha pins s σ H _ I h) fun v s1 ⟨x,H1,I1,r1,q1⟩=>test_link (thn (hb pins s1 σ H1 _ I1 q1) fun u s2 ⟨y,H2,I2,r2,q2⟩=>
  thn (ho pins s2 σ H2 x y v u _ I2 r1 r2 q2) fun e s3 ⟨z,H3,I3,r3,k,ez,q3⟩=>?_)) hm
 subst ez
 cases r3
 refine wpAny_truthy_bool ?_
 cases k with
 | false=>
   obtain ⟨k',e',q'⟩:=q3
   cases e'
   exact ite_ff ⟨H3,I3,q'⟩
 | true=>
   refine ite_tt (test_link (thn (hc pins s3 σ H3 _ I3 q3) fun w' s4 ⟨z',H4,I4,r4,q4⟩=>thn (ho' pins s4 σ H4 y z' u w' _ I4 r2 r4 q4) fun d' s5 ⟨z2,H5,I5,r5,k2,e2,q5⟩=>?_))
   subst e2
   cases r5
   refine wpAny_truthy_bool ?_
   cases k2 with
   | false=>
     obtain ⟨k',e',q'⟩:=q5
     cases e'
     exact ite_ff ⟨H5,I5,q'⟩
   | true=>
     refine ite_tt (test_last (thn (hd pins s5 σ H5 _ I5 q5) fun v' s6 ⟨z3,H6,I6,r6,q6⟩=>thn (ho'' pins s6 σ H6 z' z3 w' v' _ I6 r4 r6 q6) fun d'' s7 ⟨z4,H7,I7,r7,k3,e3,q7⟩=>?_))
     subst e3
     cases r7
     exact wpAny_truthy_bool ⟨H7,I7,q7⟩
theorem zt_chain3 {op op' op'':CmpOp} {r r' r'':R2} (ho:OpR X (compareOp op) r) (ho':OpR X (compareOp op') r') (ho'':OpR X (compareOp op'') r'') (ha:ZE X a ta) (hb:ZE X b tb) (hc:ZE X c tc) (hd:ZE X d td)
 (hm:lastMarks [op,op',op''] [b,c,d]=false:=by with_unfolding_all rfl):ZT X (.Compare a [op,op',op''] [b,c,d] pos) (tTest (tChain3 r r' r'' ta tb tc td)):=by with_unfolding_all exact pt_chain3 ho ho' ho'' ha hb hc hd hm
end
end L2
namespace M81
open MRow
theorem sub_len {α:Type} [DecidableEq α]:∀ {l m:List α},l.Nodup→(∀ x∈l,x∈m)→l.length≤m.length
 | [],_,_,_=>Nat.zero_le _
 | a::l,m,hn,h=>by
   have hn2:=List.nodup_cons.mp hn
   have ha:=h a List.mem_cons_self
   have ih:=sub_len (m:=m.erase a) hn2.2 fun x hx=>by
    have:x≠a:=fun e=>hn2.1 (by rw [← e];exact hx)
    exact (List.mem_erase_of_ne this).mpr (h x (List.mem_cons_of_mem _ hx))
   rw [List.length_erase_of_mem ha] at ih
   have:=List.length_pos_of_mem ha
   rw [List.length_cons]
   omega
end M81
namespace STB
open PySem
theorem odd_off {o:Nat} (ho:o % 2=1):∀ (j a:Nat),2 ^ j ∣ a*o→2 ^ j ∣ a
 | 0,a,_=>Nat.one_dvd a
 | j+1,a,h=>by
   have h2:2 ∣ a*o:=Nat.dvd_trans ⟨2 ^ j,by rw [Nat.pow_succ,Nat.mul_comm]⟩ h
   have ha:a % 2=0:=by
    have:=Nat.mod_eq_zero_of_dvd h2
    rw [Nat.mul_mod,ho] at this
    omega
   obtain ⟨b,rfl⟩:∃ b,a=2*b:=⟨a / 2,by omega⟩
   rw [Nat.pow_succ,Nat.mul_comm,Nat.mul_assoc] at h
   have:=odd_off ho j b (Nat.dvd_of_mul_dvd_mul_left (by decide) h)
   rw [Nat.pow_succ,Nat.mul_comm]
   exact Nat.mul_dvd_mul_left 2 this
theorem p5_4:∀ n,5 ^ n % 4=1
 | 0=>rfl
 | n+1=>by rw [Nat.pow_succ,Nat.mul_mod,p5_4 n]
theorem p25_8:∀ n,5 ^ (2*n) % 8=1
 | 0=>rfl
 | n+1=>by rw [Nat.mul_succ,Nat.pow_add,Nat.mul_mod,p25_8 n]
theorem p5_div:∀ (k n:Nat),2 ^ (k+2) ∣ 5 ^ n - 1→2 ^ k ∣ n
 | 0,n,_=>Nat.one_dvd n
 | k+1,n,h=>by
   by_cases e:n % 2=0
   · obtain ⟨m,rfl⟩:∃ m,n=2*m:=⟨n / 2,by omega⟩
     have m4:=p5_4 m
     obtain ⟨o,ho⟩:∃ o,5 ^ m+1=2*o:=⟨(5 ^ m+1) / 2,by omega⟩
     have o2:o % 2=1:=by omega
     have fac:5 ^ (2*m) - 1=2*((5 ^ m - 1)*o):=by
      obtain ⟨t,ht⟩:∃ t,5 ^ m=t+1:=⟨5 ^ m - 1,by omega⟩
      have e1:5 ^ (2*m)=5 ^ m*5 ^ m:=by rw [Nat.two_mul,Nat.pow_add]
      have e2:2*((5 ^ m - 1)*o)=(5 ^ m - 1)*(2*o):=by rw [Nat.mul_left_comm]
      rw [e1,e2,← ho,ht,Nat.add_sub_cancel]
      rw [show (t+1)*(t+1)=t*(t+1+1)+1 by simp only [Nat.add_mul,Nat.mul_add,Nat.one_mul,Nat.mul_one];omega,Nat.add_sub_cancel]
     rw [fac,show k+1+2=(k+2)+1 from rfl,Nat.pow_succ,Nat.mul_comm (2 ^ (k+2))] at h
     have:=p5_div k m (odd_off o2 _ _ (Nat.dvd_of_mul_dvd_mul_left (by decide) h))
     rw [Nat.pow_succ,Nat.mul_comm]
     exact Nat.mul_dvd_mul_left 2 this
   · exfalso
     obtain ⟨m,rfl⟩:∃ m,n=2*m+1:=⟨n / 2,by omega⟩
     have m8:=p25_8 m
     have d8:8 ∣ 5 ^ (2*m+1) - 1:=Nat.dvd_trans ⟨2 ^ k,by rw [show k+1+2=k+3 from rfl,Nat.pow_add,Nat.mul_comm]⟩ h
     have:=Nat.mod_eq_zero_of_dvd d8
     rw [Nat.pow_succ] at this
     omega
def it (M:Nat):Nat→Nat→Nat
 | 0,i=>i
 | n+1,i=>(5*it M n i+1) % M
theorem it_is {M i:Nat} (hM:0<M) (hi:i<M):∀ n,4*it M n i+1=5 ^ n*(4*i+1) % (4*M)
 | 0=>by rw [Nat.pow_zero,Nat.one_mul,Nat.mod_eq_of_lt (by omega)];rfl
 | n+1=>by
   have ih:=it_is hM hi n
   show 4*((5*it M n i+1) % M)+1=_
   have e:4*((5*it M n i+1) % M)=(4*(5*it M n i+1)) % (4*M):=(Nat.mul_mod_mul_left 4 _ M).symm
   have lt:(5*it M n i+1) % M<M:=Nat.mod_lt _ hM
   rw [Nat.pow_succ,Nat.mul_comm (5 ^ n) 5,Nat.mul_assoc,Nat.mul_mod,← ih]
   have e5:5 % (4*M)*(4*it M n i+1) % (4*M)=5*(4*it M n i+1) % (4*M):=by
    rw [Nat.mul_mod,Nat.mod_mod,← Nat.mul_mod]
   rw [e5]
   have e6:5*(4*it M n i+1)=4*(5*it M n i+1)+1:=by omega
   have e7:(4*(5*it M n i+1)+1) % (4*M)=4*((5*it M n i+1) % M)+1:=by
    have hx:5*it M n i+1=M*((5*it M n i+1) / M)+(5*it M n i+1) % M:=(Nat.div_add_mod _ _).symm
    generalize (5*it M n i+1) % M=r at *
    generalize (5*it M n i+1) / M=d at *
    rw [hx,Nat.mul_add,← Nat.mul_assoc,Nat.add_assoc,Nat.mul_add_mod,Nat.mod_eq_of_lt (by omega)]
   rw [e6,e7]
theorem it_inj {k i:Nat} (hi:i<2 ^ k) {a b:Nat} (hab:a<b) (hb:b<2 ^ k):it (2 ^ k) a i≠it (2 ^ k) b i:=fun e=>by
 have hM:0<2 ^ k:=Nat.two_pow_pos k
 have h1:=it_is hM hi a
 have h2:=it_is hM hi b
 rw [e,h2] at h1
 have sub:4*2 ^ k ∣ 5 ^ b*(4*i+1) - 5 ^ a*(4*i+1):=Nat.dvd_of_mod_eq_zero (Nat.sub_mod_eq_zero_of_mod_eq h1)
 obtain ⟨c,rfl⟩:∃ c,b=a+c:=⟨b - a,by omega⟩
 have fac:5 ^ (a+c)*(4*i+1) - 5 ^ a*(4*i+1)=(5 ^ c - 1)*(5 ^ a*(4*i+1)):=by
  rw [Nat.pow_add,Nat.sub_mul,Nat.one_mul]
  congr 1
  rw [Nat.mul_comm (5 ^ a),Nat.mul_assoc]
 rw [fac] at sub
 have o2:(5 ^ a*(4*i+1)) % 2=1:=by
  have:=p5_4 a
  rw [Nat.mul_mod,show 5 ^ a % 2=1 by omega,show (4*i+1) % 2=1 by omega]
 rw [show 4*2 ^ k=2 ^ (k+2) by rw [Nat.pow_add,Nat.mul_comm]] at sub
 have:=p5_div k c (odd_off o2 _ _ sub)
 have:=Nat.le_of_dvd (by omega) this
 omega
theorem free_leap {k i:Nat} (hi:i<2 ^ k) (L:List Nat) (hL:L.length<2 ^ k):∃ l,l≤L.length∧it (2 ^ k) l i∉L:=by
 refine Classical.byContradiction fun no=>?_
 have all:∀ l,l≤L.length→it (2 ^ k) l i∈L:=fun l hl=>Classical.byContradiction fun z=>no ⟨l,hl,z⟩
 have nd:((List.range (L.length+1)).map fun l=>it (2 ^ k) l i).Nodup:=by
  unfold List.Nodup
  rw [List.pairwise_map]
  refine List.Pairwise.imp_of_mem (fun {a b} ha hb hlt=>?_) (List.pairwise_lt_range (n:=L.length+1))
  have:=List.mem_range.mp hb
  exact it_inj hi hlt (by omega)
 have:=M81.sub_len nd fun y hy=>by
  obtain ⟨l,hl,rfl⟩:=List.mem_map.mp hy
  exact all l (by have:=List.mem_range.mp hl;omega)
 rw [List.length_map,List.length_range] at this
 omega
end STB
namespace STB
open PySem SetTable
def Wd (h:Int) (l:Nat):Nat:=bits h / 32 ^ l
def Lp (M:Nat) (h:Int):Nat→Nat
 | 0=>bits h % M
 | l+1=>(Lp M h l*5+1+Wd h l / 32) % M
theorem Wd_succ (h:Int) (l:Nat):Wd h (l+1)=Wd h l / 32:=by unfold Wd;rw [Nat.pow_succ,Nat.div_div_eq_div_mul]
theorem bits_lt (h:Int):bits h<2 ^ 64:=by
 unfold bits
 have h1:=Int.emod_nonneg h (show (2 ^ 64:Int)≠0 by decide)
 have h2:=Int.emod_lt_of_pos h (show (0:Int)<2 ^ 64 by decide)
 omega
theorem Wd_end (h:Int) (l:Nat):Wd h (13+l)=0:=by
 have:=bits_lt h
 unfold Wd
 rw [Nat.pow_add,← Nat.div_div_eq_div_mul,Nat.div_eq_of_lt (show bits h<32 ^ 13 by omega),Nat.zero_div]
theorem Lp_lt {M:Nat} (hM:0<M) (h:Int):∀ l,Lp M h l<M
 | 0=>Nat.mod_lt _ hM
 | _+1=>Nat.mod_lt _ hM
theorem Lp_it {M:Nat} (h:Int):∀ l,Lp M h (13+l)=it M l (Lp M h 13)
 | 0=>rfl
 | l+1=>by
   show (Lp M h (13+l)*5+1+Wd h (13+l) / 32) % M=(5*it M l (Lp M h 13)+1) % M
   rw [Wd_end,Lp_it h l,Nat.zero_div,Nat.add_zero,Nat.mul_comm]
theorem leap_free {k:Nat} (h:Int) (L:List Nat) (hL:L.length<2 ^ k):∃ l,l≤13+L.length∧Lp (2 ^ k) h l∉L:=by
 obtain ⟨l,h1,h2⟩:=free_leap (Lp_lt (Nat.two_pow_pos k) h 13) L hL
 exact ⟨13+l,by omega,by rw [Lp_it];exact h2⟩
def adv (t:SetTable) (h:Int):Nat→Probe
 | 0=>t.probeStart h
 | n+1=>t.advance (adv t h n)
theorem adv_dummy (t:SetTable) (h:Int):∀ n,(adv t h n).dummy=none
 | 0=>rfl
 | n+1=>by
   have ih:=adv_dummy t h n
   show (t.advance (adv t h n)).dummy=none
   unfold advance
   split
   · exact ih
   · exact ih
theorem adv_run (t:SetTable) (h:Int) {s i w m:Nat} (e:adv t h s={ j:=i,more:=m,i:=i,perturb:=w,dummy:=none }):∀ r,r≤m→adv t h (s+r)={ j:=i+r,more:=m - r,i:=i,perturb:=w,dummy:=none }
 | 0,_=>e
 | r+1,hr=>by
   show t.advance (adv t h (s+r))=_
   rw [adv_run t h e r (by omega)]
   unfold advance
   rw [if_pos (show m - r > 0 by omega)]
   show ({ j:=i+r+1,more:=m - r - 1,i:=i,perturb:=w,dummy:=none }:Probe)=_
   rw [Nat.sub_sub]
   rfl
theorem run_few (mask i:Nat):runEnd mask i - i≤9:=by unfold runEnd;split <;> omega
theorem adv_leap (t:SetTable) (h:Int):∀ l,∃ s,s≤10*l∧adv t h s={ j:=Lp (t.mask+1) h l,more:=runEnd t.mask (Lp (t.mask+1) h l) - Lp (t.mask+1) h l,i:=Lp (t.mask+1) h l,perturb:=Wd h l,dummy:=none }
 | 0=>⟨0,Nat.le_refl _,by
   show t.probeStart h=_
   unfold probeStart Wd
   rw [Nat.pow_zero,Nat.div_one]
   rfl⟩
 | l+1=>by
   obtain ⟨s,hs,e⟩:=adv_leap t h l
   have few:=run_few t.mask (Lp (t.mask+1) h l)
   refine ⟨s+(runEnd t.mask (Lp (t.mask+1) h l) - Lp (t.mask+1) h l)+1,by omega,?_⟩
   show t.advance (adv t h (s+_))=_
   rw [adv_run t h e _ (Nat.le_refl _)]
   unfold advance
   rw [if_neg (by simp)]
   unfold leap
   rw [Wd_succ]
   rfl
theorem no_dummy (j:Nat):has #[] j=false:=by
 unfold has
 rw [beq_eq_false_iff_ne]
 intro z
 rw [Array.getElem?_eq_some_iff] at z
 obtain ⟨hl,_⟩:=z
 exact absurd hl (Nat.not_lt_zero _)
theorem slot_free {t:SetTable} (hd:t.dummies=#[]) {j:Nat} (hj:j∉t.place.toList):t.slot j=.empty:=by
 unfold slot
 rw [hd,no_dummy]
 rw [if_neg,if_neg (by decide)]
 intro z
 rw [beq_iff_eq] at z
 exact hj (by rw [Array.mem_toList_iff];exact Array.mem_of_getElem? z)
theorem slot_cases {t:SetTable} (hd:t.dummies=#[]) (j:Nat):t.slot j=.empty∨∃ i,t.slot j=.live i∧t.place[i]? = some j:=by
 unfold slot
 rw [hd,no_dummy]
 by_cases z:(t.place[below t.place j]? == some j)=true
 · exact .inr ⟨below t.place j,by dsimp only;rw [if_pos z],by simpa using z⟩
 · exact .inl (by dsimp only;rw [if_neg z];rfl)
theorem reach {t:SetTable} {k:Nat} (hk:t.mask+1=2 ^ k) (hd:t.dummies=#[]) (hz:t.place.size<2 ^ k) (h:Int):∃ N,N≤10*(13+t.place.size)∧t.slot (adv t h N).j=.empty:=by
 obtain ⟨l,h1,h2⟩:=leap_free (k:=k) h t.place.toList (by rw [Array.length_toList];exact hz)
 obtain ⟨s,hs,e⟩:=adv_leap t h l
 rw [Array.length_toList] at h1
 refine ⟨s,by omega,?_⟩
 rw [e,hk]
 exact slot_free hd h2
theorem go_spec {t:SetTable} (hd:t.dummies=#[]) {H:Nat→Int} {h:Int} {N:Nat} (hN:t.slot (adv t h N).j=.empty):∀ fuel n,n≤N→N - n<fuel →
 (∃ j,t.slot j=.empty∧probe.go t H h fuel (adv t h n)=some (.empty j none))∨∃ m j i,n≤m∧m<N∧probe.go t H h fuel (adv t h n)=some (.candidate j i (adv t h (m+1)))∧t.slot j=.live i∧t.place[i]? = some j
 | 0,n,_,h0=>absurd h0 (Nat.not_lt_zero _)
 | fuel+1,n,hn,hf=>by
   unfold probe.go
   rcases slot_cases hd (adv t h n).j with e | ⟨i,e,ep⟩
   · rw [e,adv_dummy]
     exact .inl ⟨_,e,rfl⟩
   · rw [e]
     have ne:n≠N:=fun z=>by rw [z,hN] at e;cases e
     dsimp only
     split
     · exact .inr ⟨n,_,i,Nat.le_refl _,by omega,rfl,e,ep⟩
     · rcases go_spec hd (H:=H) hN fuel (n+1) (by omega) (by omega) with ⟨j,r0,r⟩ | ⟨m,j,i',a,b,c,d⟩
       · exact .inl ⟨j,r0,r⟩
       · exact .inr ⟨m,j,i',by omega,b,c,d⟩
theorem find_first {p:Nat→Bool} {n:Nat} (hn:0<n) (h:p 0=true):(List.range n).find? p=some 0:=by
 obtain ⟨m,rfl⟩:∃ m,n=m+1:=⟨n - 1,by omega⟩
 rw [List.range_succ_eq_map,List.find?_cons,h]
theorem free_ok {mask:Nat} {ow:Array (Option Nat)} (hs:ow.size=mask+1) {h:Int}:∀ (fuel l L:Nat),l≤L→L - l<fuel→ow.getD (Lp (mask+1) h L) (some 0)=none→∃ j,layClean.free mask ow fuel (Lp (mask+1) h l) (Wd h l)=some j∧ow.getD j (some 0)=none
 | 0,l,L,_,h0,_=>absurd h0 (Nat.not_lt_zero _)
 | fuel+1,l,L,hl,hf,hL=>by
   unfold layClean.free
   split
   · rename_i k e
     have:=List.find?_some e
     exact ⟨_,rfl,by simpa using this⟩
   · rename_i e
     have ne:l≠L:=fun z=>by
      subst z
      rw [find_first (by unfold runEnd;split <;> omega) (by rw [Nat.add_zero,hL];rfl)] at e
      cases e
     obtain ⟨j,r1,r2⟩:=free_ok hs (h:=h) fuel (l+1) L (by omega) (by omega) hL
     refine ⟨j,?_,r2⟩
     rw [← r1]
     unfold leap
     rw [Wd_succ]
     rfl
theorem fm_congr {f g:Nat→Option Nat}:∀ {l:List Nat},(∀ i∈l,f i=g i)→l.filterMap f=l.filterMap g
 | [],_=>rfl
 | a::l,h=>by rw [List.filterMap_cons,List.filterMap_cons,h a List.mem_cons_self,fm_congr fun i hi=>h i (List.mem_cons_of_mem _ hi)]
theorem somes_set {f:Nat→Option Nat} {j v:Nat} (hj:f j=none):∀ N,j<N→List.Perm ((List.range N).filterMap fun i=>if i=j then some v else f i) (v::(List.range N).filterMap f)
 | 0,h=>absurd h (Nat.not_lt_zero _)
 | N+1,h=>by
   rw [List.range_succ,List.filterMap_append,List.filterMap_append]
   by_cases e:j=N
   · subst e
     have same:(List.range j).filterMap (fun i=>if i=j then some v else f i)=(List.range j).filterMap f:=by
      refine fm_congr fun i hi=>?_
      have:=List.mem_range.mp hi
      rw [if_neg (by omega)]
     rw [same]
     have e1:[j].filterMap (fun i=>if i=j then some v else f i)=[v]:=by simp
     have e2:[j].filterMap f=[]:=by simp [hj]
     rw [e1,e2,List.append_nil]
     exact List.perm_append_singleton _ _
   · have ih:=somes_set (v:=v) hj N (by omega)
     have e1:[N].filterMap (fun i=>if i=j then some v else f i)=[N].filterMap f:=by
      rw [List.filterMap_cons,List.filterMap_cons,if_neg (fun z=>e z.symm)]
      rfl
     rw [e1]
     exact (ih.append_right _)
theorem lay_ok {k mask:Nat} (hk:mask+1=2 ^ k) (hs:List Int) (hl:hs.length<2 ^ k):∀ (rest done:List Int) (ow:Array (Option Nat)),hs=done++rest→ow.size=mask+1→List.Perm ((List.range (mask+1)).filterMap fun j=>ow.getD j none) (List.range done.length) →
 ∃ ow':Array (Option Nat),(rest.foldl (fun (acc:Option (Array (Option Nat)×Nat)) h=>do
   let (owner,q) ← acc
   let j ← layClean.free mask owner (turns mask) (bits h % (mask+1)) (bits h)
   pure (owner.setIfInBounds j (some q),q+1)) (some (ow,done.length)))=some (ow',hs.length)∧List.Perm ((List.range (mask+1)).filterMap fun j=>ow'.getD j none) (List.range hs.length)
 | [],done,ow,e,z,pm=>by
   rw [List.append_nil] at e
   subst e
   exact ⟨ow,rfl,pm⟩
 | h::rest,done,ow,e,z,pm=>by
   rw [List.foldl_cons]
   have ld:done.length<2 ^ k:=by have:=congrArg List.length e;rw [List.length_append,List.length_cons] at this;omega
   have lpm:=pm.length_eq
   rw [List.length_range] at lpm
   -- the places that are taken
   obtain ⟨l,l1,l2⟩:=leap_free (k:=k) h ((List.range (mask+1)).filter fun j=>(ow.getD j none).isSome) (by
    have:((List.range (mask+1)).filterMap fun j=>ow.getD j none).length=((List.range (mask+1)).filter fun j=>(ow.getD j none).isSome).length:=by rw [List.length_filterMap_eq_countP,List.countP_eq_length_filter]
    omega)
   have lf:((List.range (mask+1)).filter fun j=>(ow.getD j none).isSome).length=done.length:=by
    rw [← List.countP_eq_length_filter,← List.length_filterMap_eq_countP,lpm]
   rw [lf] at l1
   rw [← hk] at l2
   have inr:Lp (mask+1) h l<mask+1:=Lp_lt (Nat.succ_pos _) h l
   have none':ow.getD (Lp (mask+1) h l) none=none:=by
    cases c:ow.getD (Lp (mask+1) h l) none with
    | none=>rfl
    | some q=>exact absurd (List.mem_filter.mpr ⟨List.mem_range.mpr inr,by rw [c];rfl⟩) l2
   have none0:ow.getD (Lp (mask+1) h l) (some 0)=none:=by
    rw [Array.getD_eq_getD_getElem?,Array.getElem?_eq_getElem (by omega)] at none' ⊢
    exact none'
   obtain ⟨j,f1,f2⟩:=free_ok z (h:=h) (turns mask) 0 l (Nat.zero_le _) (by unfold turns;omega) none0
   have e0:Wd h 0=bits h:=by unfold Wd;rw [Nat.pow_zero,Nat.div_one]
   rw [e0] at f1
   have f1:layClean.free mask ow (turns mask) (bits h % (mask+1)) (bits h)=some j:=f1
   have jlt:j<ow.size:=by
    refine Classical.byContradiction fun no=>?_
    rw [Array.getD_eq_getD_getElem?,Array.getElem?_eq_none (by omega)] at f2
    cases f2
   have jn:ow.getD j none=none:=by
    rw [Array.getD_eq_getD_getElem?,Array.getElem?_eq_getElem jlt] at f2 ⊢
    exact f2
   show ∃ ow':Array (Option Nat),List.foldl _ (do
    let (owner,q) ← some (ow,done.length)
    let j ← layClean.free mask owner (turns mask) (bits h % (mask+1)) (bits h)
    pure (owner.setIfInBounds j (some q),q+1)) rest=some (ow',hs.length)∧_
   have step:(do
    let (owner,q) ← some (ow,done.length)
    let j ← layClean.free mask owner (turns mask) (bits h % (mask+1)) (bits h)
    pure (owner.setIfInBounds j (some q),q+1):Option (Array (Option Nat)×Nat))=some (ow.setIfInBounds j (some done.length),done.length+1):=by
    show (layClean.free mask ow (turns mask) (bits h % (mask+1)) (bits h) >>= fun j=>pure (ow.setIfInBounds j (some done.length),done.length+1))=_
    rw [f1]
    rfl
   rw [step]
   have:=lay_ok hk hs hl rest (done++[h]) (ow.setIfInBounds j (some done.length)) (by rw [e,List.append_assoc];rfl) (by rw [Array.size_setIfInBounds];exact z) (by
    have ef:(fun i=>(ow.setIfInBounds j (some done.length)).getD i none)=fun i=>if i=j then some done.length else ow.getD i none:=funext fun i=>by
     rw [Array.getD_eq_getD_getElem?,Array.getD_eq_getD_getElem?,Array.getElem?_setIfInBounds]
     by_cases c:j=i
     · subst c;rw [if_pos rfl,if_pos rfl,if_pos jlt];rfl
     · rw [if_neg c,if_neg (fun z=>c z.symm)]
    rw [ef,List.length_append,List.length_singleton]
    refine (somes_set (f:=fun i=>ow.getD i none) jn (mask+1) (by omega)).trans ?_
    rw [List.range_succ (n:=done.length)]
    exact (List.Perm.cons _ pm).trans (List.perm_append_singleton _ _).symm)
   rw [List.length_append,List.length_singleton] at this
   exact this
section
variable {prog:Program} {w:World} {A:Around} {E:Value→Shared→Prop} {s:Shared}
abbrev TK (prog:Program) (w:World) (h:Heap) (ks:List Int) (a:Addr):Prop:=IsTupleKey (intKind prog w) h ks a
abbrev hs (prog:Program) (w:World) (ks:List Int):Int:=tupleKeyHash (intKind prog w) ks
theorem items_int {ks:List Int} {vs:List Value} (h:ItemsAre (intKind prog w) ks vs):∀ v∈vs,∃ k t,v=.int k t:=by
 induction h with
 | nil=>intro v hv;cases hv
 | @cons k v' ks vs h1 _ ih=>
   intro v hv
   rcases List.mem_cons.mp hv with rfl | hv
   · cases v with
     | int k' t=>exact ⟨k',t,rfl⟩
     | _=>simp [intKind,Value.isInt] at h1
   · exact ih v hv
theorem by_value {ks:List Int} {a:Addr} {Q:Bool→Shared→Prop} (hk:TK prog w s.heap ks a) (h:Q true s):wpAny (model prog w) A (hashByValue 8 (.ref a)) Q E s:=by
 have hT:=hk.typeIs
 obtain ⟨o,items,n,ho,_,hd,hi⟩:=hk
 unfold hashByValue
 refine wpAny_bind (wpAny_specialOf hT F.slot_tuple_hash.lookup ?_)
 dsimp only
 refine wpAny_bind (wpAny_seqItems ho hd ?_)
 refine wpAny_bind ?_
 show wpAny _ _ (forIn items _ _) _ _ s
 rw [← Array.forIn_toList]
 refine wpAny_forIn_list _ (fun rest r s'=>r.1=none∧s'=s∧∀ v∈rest,∃ k t,v=.int k t) _ ?_ ?_ _ _ ⟨rfl,rfl,items_int hi⟩
 · rintro v rest r s' ⟨hr,rfl,hall⟩
   obtain ⟨k,t,rfl⟩:=hall _ List.mem_cons_self
   have e:hashByValue 7 (.int k t)=pure true:=by simp [hashByValue]
   rw [e]
   refine wpAny_bind (wpAny_pure ?_)
   simp only [Bool.not_true,Bool.false_eq_true,if_false]
   exact wpAny_pure ⟨rfl,rfl,fun u hu=>hall u (List.mem_cons_of_mem _ hu)⟩
 · rintro ⟨r1,r2⟩ s' ⟨hr,rfl,_⟩
   simp only at hr
   subst hr
   exact wpAny_pure h
theorem no_class {ks:List Int} {a:Addr} {Q:Bool→Shared→Prop} (hk:TK prog w s.heap ks a) (h:Q false s):wpAny (model prog w) A (ofAClassStatement 8 (.ref a)) Q E s:=by
 have hT:=hk.typeIs
 obtain ⟨o,items,n,ho,_,hd,hi⟩:=hk
 unfold ofAClassStatement
 refine wpAny_bind (wpAny_typeOf hT ?_)
 dsimp only
 rw [if_pos (by rfl)]
 refine wpAny_bind (wpAny_pure ?_)
 simp only [Bool.not_true,Bool.false_eq_true,if_false]
 refine wpAny_bind (wpAny_seqItems ho hd ?_)
 dsimp only
 refine wpAny_bind ?_
 show wpAny _ _ (forIn items _ _) _ _ s
 rw [← Array.forIn_toList]
 refine wpAny_forIn_list _ (fun rest r s'=>r.1=none∧s'=s∧∀ v∈rest,∃ k t,v=.int k t) _ ?_ ?_ _ _ ⟨rfl,rfl,items_int hi⟩
 · rintro v rest r s' ⟨hr,rfl,hall⟩
   obtain ⟨k,t,rfl⟩:=hall _ List.mem_cons_self
   have e:ofAClassStatement 7 (.int k t)=pure false:=by simp [ofAClassStatement]
   rw [e]
   refine wpAny_bind (wpAny_pure ?_)
   simp only [Bool.false_eq_true,if_false]
   exact wpAny_pure ⟨rfl,rfl,fun u hu=>hall u (List.mem_cons_of_mem _ hu)⟩
 · rintro ⟨r1,r2⟩ s' ⟨hr,rfl,_⟩
   simp only at hr
   subst hr
   exact wpAny_pure h
theorem unseen {ks:List Int} {a:Addr} {l:List Value} {Q:Bool→Shared→Prop} (hk:TK prog w s.heap ks a) (hl:∀ v∈l,∃ ks b,v=.ref b∧TK prog w s.heap ks b) (h:Q false s):wpAny (model prog w) A (searchCouldBeSeen (.ref a) l) Q E s:=by
 unfold searchCouldBeSeen
 refine wpAny_bind ?_
 refine wpAny_forIn_list _ (fun rest r s'=>r.1=none∧s'=s∧∀ v∈rest,∃ ks b,v=.ref b∧TK prog w s.heap ks b) _ ?_ ?_ _ _ ⟨rfl,rfl,hl⟩
 · rintro v rest r s' ⟨hr,rfl,hall⟩
   obtain ⟨ks',b,rfl,hb⟩:=hall _ List.mem_cons_self
   have nx:=fun u hu=>hall u (List.mem_cons_of_mem _ hu)
   dsimp only
   by_cases c:(a == b||(carriedByValue (.ref a)&&carriedByValue (.ref b)))=true
   · rw [if_pos c]
     exact wpAny_pure ⟨rfl,rfl,nx⟩
   · rw [if_neg c]
     refine wpAny_bind (wpAny_eqIsQuiet_tuple hk ?_)
     simp only [Bool.not_true,Bool.false_eq_true,if_false]
     refine wpAny_bind (wpAny_eqIsQuiet_tuple hb ?_)
     simp only [Bool.not_true,Bool.false_eq_true,if_false]
     refine wpAny_bind (no_class hk ?_)
     simp only [Bool.false_eq_true,if_false]
     refine wpAny_bind (no_class hb ?_)
     simp only [Bool.false_eq_true,if_false]
     exact wpAny_pure ⟨rfl,rfl,nx⟩
 · rintro ⟨r1,r2⟩ s' ⟨hr,rfl,_⟩
   simp only at hr
   subst hr
   exact wpAny_pure h
end
end STB
namespace STB
open PySem SetTable PyProof.Rows
theorem cons_erase {α:Type}:∀ (l:List α) (i:Nat) (h:i<l.length),(l[i]::l.eraseIdx i).Perm l
 | a::l,0,_=>.refl _
 | a::l,i+1,h=>(List.Perm.swap a _ _).trans (.cons a (cons_erase l i (Nat.lt_of_succ_lt_succ h)))
theorem pick_go {α:Type} (next:Nat→Nat):∀ (fuel k:Nat) (left:List α) (out:Array α),left.length=fuel→(pickOrder.go next fuel k left out).toList.Perm (out.toList++left)
 | 0,k,left,out,h=>by
   rw [List.length_eq_zero_iff.mp h,List.append_nil]
   unfold pickOrder.go
   exact .refl _
 | fuel+1,k,left,out,h=>by
   have hi:next k % left.length<left.length:=Nat.mod_lt _ (by omega)
   unfold pickOrder.go
   rw [List.getElem?_eq_getElem hi]
   dsimp only
   refine (pick_go next fuel (k+1) _ _ (by rw [List.length_eraseIdx_of_lt hi,h];rfl)).trans ?_
   rw [Array.toList_push,List.append_assoc]
   exact List.Perm.append_left _ (cons_erase left _ hi)
theorem pick_perm {α:Type} (next:Nat→Nat) (xs:Array α):(pickOrder next xs).toList.Perm xs.toList:=by
 have:=pick_go next xs.size 0 xs.toList #[] (by simp)
 simpa [pickOrder] using this
theorem below_go {xs:Array Nat} {j r:Nat} (h1:∀ m,m<r→m<xs.size→xs.getD m j<j) (h2:∀ m,r≤m→m<xs.size→¬ xs.getD m j<j):∀ fuel lo hi,lo≤r→r≤hi→hi≤xs.size→hi - lo≤fuel→below.go xs j fuel lo hi=r
 | 0,lo,hi,a,b,c,d=>by unfold below.go;omega
 | fuel+1,lo,hi,a,b,c,d=>by
   unfold below.go
   split
   · rename_i lt
     dsimp only
     split
     · rename_i g
       refine below_go h1 h2 fuel _ hi ?_ b c (by omega)
       by_cases z:r≤(lo+hi) / 2
       · exact absurd g (h2 _ z (by omega))
       · omega
     · rename_i g
       refine below_go h1 h2 fuel lo _ a ?_ (by omega) (by omega)
       by_cases z:(lo+hi) / 2<r
       · exact absurd (h1 _ z (by omega)) g
       · omega
   · omega
theorem below_zero (xs:Array Nat):below xs 0=0:=below_go (fun m h _=>absurd h (Nat.not_lt_zero _)) (fun m _ _ h=>absurd h (Nat.not_lt_zero _)) _ _ _ (Nat.le_refl _) (Nat.zero_le _) (Nat.le_refl _) (by omega)
theorem below_next {xs:Array Nat} (up:∀ a b,a<b→(hb:b<xs.size)→xs.getD a 0<xs.getD b 0) {i:Nat} (hi:i<xs.size):below xs (xs.getD i 0+1)=i+1:=by
 have eq:∀ m j,m<xs.size→xs.getD m j=xs.getD m 0:=fun m j h=>by simp [Array.getD,h]
 refine below_go (r:=i+1) (fun m h hm=>?_) (fun m h hm z=>?_) _ _ _ (Nat.zero_le _) (by omega) (Nat.le_refl _) (by omega)
 · rw [eq _ _ hm]
   by_cases e:m=i
   · subst e;exact Nat.lt_succ_self _
   · exact Nat.lt_succ_of_lt (up m i (by omega) hi)
 · rw [eq _ _ hm] at z
   have:=up i m (by omega) hm
   omega
abbrev Up (xs:Array Nat):Prop:=xs.toList.Pairwise (· < ·)
theorem cut (j:Nat):∀ l:List Nat,l.Pairwise (· < ·)→∃ a b,l=a++b∧(∀ x∈a,x<j)∧∀ x∈b,j≤x
 | [],_=>⟨[],[],rfl,(fun _ z=>(List.not_mem_nil z).elim),fun _ z=>(List.not_mem_nil z).elim⟩
 | x::l,h=>by
   obtain ⟨h1,h2⟩:=List.pairwise_cons.mp h
   by_cases c:x<j
   · obtain ⟨a,b,e,p,q⟩:=cut j l h2
     refine ⟨x::a,b,by rw [e];rfl,fun y hy=>?_,q⟩
     rcases List.mem_cons.mp hy with rfl | hy
     · exact c
     · exact p y hy
   · refine ⟨[],x::l,rfl,(fun _ z=>(List.not_mem_nil z).elim),fun y hy=>?_⟩
     rcases List.mem_cons.mp hy with rfl | hy
     · omega
     · have:=h1 y hy
       omega
theorem below_is {xs:Array Nat} {j:Nat} {a b:List Nat} (e:xs.toList=a++b) (p:∀ x∈a,x<j) (q:∀ x∈b,j≤x):below xs j=a.length:=by
 have sz:xs.size=a.length+b.length:=by rw [← Array.length_toList,e,List.length_append]
 have g:∀ m (h:m<xs.size),xs.getD m j=xs.toList[m]'(by simpa using h):=fun m h=>by simp [Array.getD,h]
 refine below_go (fun m h hm=>?_) (fun m h hm z=>?_) _ _ _ (Nat.zero_le _) (by omega) (Nat.le_refl _) (by omega)
 · rw [g m hm]
   refine p _ ?_
   have:xs.toList[m]'(by simpa using hm)=a[m]:=by simp only [e,List.getElem_append_left h]
   rw [this]
   exact List.getElem_mem h
 · rw [g m hm] at z
   have lt:m - a.length<b.length:=by omega
   have:xs.toList[m]'(by simpa using hm)=b[m - a.length]:=by simp only [e,List.getElem_append_right h]
   rw [this] at z
   have:=q _ (List.getElem_mem lt)
   omega
theorem put_up {t:SetTable} {j:Nat} (h:Up t.place) (hs:t.slot j=.empty):Up (t.put j).1.place:=by
 obtain ⟨a,b,e,p,q⟩:=cut j _ h
 have eb:=below_is e p q
 have hp:Up (insertAt t.place (below t.place j) j):=by
  unfold Up insertAt
  rw [eb]
  have e2:((t.place.extract 0 a.length).push j++t.place.extract a.length t.place.size).toList=a++j::b:=by
   have sz:t.place.size=a.length+b.length:=by rw [← Array.length_toList,e,List.length_append]
   simp only [Array.toList_append,Array.toList_push,Array.toList_extract,e,sz]
   simp [List.extract_eq_drop_take,e]
  rw [e2]
  have h':=h
  unfold Up at h'
  rw [e] at h'
  obtain ⟨u1,u2,u3⟩:=List.pairwise_append.mp h'
  have ne:∀ x∈b,j<x:=fun x hx=>by
   have le:=q x hx
   refine Nat.lt_of_le_of_ne le fun z=>?_
   subst z
   obtain ⟨y,b',rfl⟩:∃ y b',b=y::b':=by cases b with
    | nil=>cases hx
    | cons y b'=>exact ⟨y,b',rfl⟩
   have y1:=q y List.mem_cons_self
   have:y=j:=by
    rcases List.mem_cons.mp hx with z | z
    · exact z.symm
    · have:=(List.pairwise_cons.mp u2).1 _ z;omega
   subst this
   have gp:t.place[a.length]? = some y:=by
    rw [← Array.getElem?_toList,e];simp
   unfold slot at hs
   dsimp only at hs
   rw [eb,gp,if_pos (by simp)] at hs
   cases hs
  refine List.pairwise_append.mpr ⟨u1,List.pairwise_cons.mpr ⟨ne,u2⟩,fun x hx y hy=>?_⟩
  rcases List.mem_cons.mp hy with rfl | hy
  · exact p x hx
  · exact u3 x hx y hy
 exact hp
end STB
namespace STB
open PySem SetTable
theorem si_next:Slot "set_iterator" "__next__" "set_iterator.__next__":=by
 refine Slot.of (owner:="set_iterator") (n:="__next__") ?_ (by decide +kernel) (by decide +kernel) (by decide +kernel) (.inl (by decide +kernel)) ?_
 · rw [typeLookup_type,builtinLookup_eq_fast];kernel_rfl
 · rw [isSubtype_type];kernel_rfl
theorem si_iter:Slot "set_iterator" "__iter__" "set_iterator.__iter__":=by
 refine Slot.of (owner:="set_iterator") (n:="__iter__") ?_ (by decide +kernel) (by decide +kernel) (by decide +kernel) (.inl (by decide +kernel)) ?_
 · rw [typeLookup_type,builtinLookup_eq_fast];kernel_rfl
 · rw [isSubtype_type];kernel_rfl
theorem si_next_e:entryFor table "set_iterator.__next__" = some Builtin.«set_iterator.__next__»:=entryFor_of_tree (by kernel_rfl)
theorem si_next_a (a:Value):argsOk "set_iterator.__next__" ⟨[a],[]⟩:=by
 unfold argsOk;kernel_rfl
theorem si_iter_a (a:Value):argsOk "set_iterator.__iter__" ⟨[a],[]⟩:=by
 unfold argsOk;kernel_rfl
theorem si_iter_e:entryFor table "set_iterator.__iter__" = some Builtin.«dict_keyiterator.__iter__»:=
 entryFor_alias (id':="dict_keyiterator.__iter__") (by kernel_rfl) rfl (by decide +kernel) (by kernel_rfl)
theorem set_iter_e:entryFor table "set.__iter__" = some Builtin.«frozenset.__iter__»:=
 entryFor_alias (id':="frozenset.__iter__") (by kernel_rfl) rfl (by decide +kernel) (by kernel_rfl)
abbrev bt (w:World):Bool:=w.params.followText "set-order"
structure Gd (w:World) (es:Array (Int×Value)) (t:SetTable) (vs:List Value):Prop where
 up:Up t.place
 plain:t.plain=true
 led:t.led=!bt w
 perm:(es.toList.map (·.2)).Perm vs
def IsSI (h:Heap) (it a:Addr) (sl i n ep:Nat):Prop:=
 ∃ o,h.get? it=some o∧o.cls=.type "set_iterator"∧o.data=.fields #[.int sl 0,.int i 0,.ref a,.int n 0,.int ep 0]
def SetAt (h:Heap) (a:Addr) (es:Array (Int×Value)) (ep:Nat) (t:SetTable):Prop:=∃ o,h.get? a=some o∧o.ExactSet∧o.data=.set es ep t
theorem IsSI.typeIs {s:Shared} {it a sl i n ep} (x:IsSI s.heap it a sl i n ep):s.TypeIs (.ref it) "set_iterator":=let ⟨o,ho,hc,_⟩:=x;⟨o,ho,hc⟩
theorem IsSI.at {h h':Heap} {it a sl i n ep} (x:IsSI h it a sl i n ep) (e:∀ o,h.get? it=some o→h'.get? it=some o):IsSI h' it a sl i n ep:=let ⟨o,ho,r⟩:=x;⟨o,e _ ho,r⟩
theorem SetAt.at {h h':Heap} {a es ep t} (x:SetAt h a es ep t) (e:∀ o,h.get? a=some o→h'.get? a=some o):SetAt h' a es ep t:=let ⟨o,ho,r⟩:=x;⟨o,e _ ho,r⟩
theorem SetAt.typeIs {s:Shared} {a es ep t} (x:SetAt s.heap a es ep t):s.TypeIs (.ref a) "set":=let ⟨o,ho,hx,_⟩:=x;⟨o,ho,hx.1⟩
def ord (w:World) (a:Addr) (ep:Nat) (es:Array (Int×Value)):Array (Int×Value):=if bt w=true then pickOrder (w.params.setOrder a ep) es else es
theorem ord_perm (w:World) (a:Addr) (ep:Nat) (es:Array (Int×Value)):(ord w a ep es).toList.Perm es.toList:=by
 unfold ord;split
 · exact pick_perm _ _
 · exact .refl _
theorem ord_size (w:World) (a:Addr) (ep:Nat) (es:Array (Int×Value)):(ord w a ep es).size=es.size:=by
 rw [← Array.length_toList,(ord_perm w a ep es).length_eq,Array.length_toList]
def plc (t:SetTable):Nat→Nat
 | 0=>0
 | i+1=>t.place.getD i 0+1
def sla (w:World) (t:SetTable) (i:Nat):Nat:=if bt w=true then 0 else plc t i
section
variable {prog:Program} {w:World} {A:Around} {E:Value→Shared→Prop} {s:Shared}
theorem up_get {xs:Array Nat} (h:Up xs):∀ a b,a<b→b<xs.size→xs.getD a 0<xs.getD b 0:=fun a b hab hb=>by
 have:=List.pairwise_iff_getElem.mp h a b (by simpa using Nat.lt_trans hab hb) (by simpa using hb) hab
 simpa [Array.getD,hb,Nat.lt_trans hab hb] using this
theorem next_of {a:Addr} {es:Array (Int×Value)} {ep i:Nat} {t:SetTable} {vs:List Value} {Q:Option (Value×Nat)→Shared→Prop} (hi:i≤es.size) (S:SetAt s.heap a es ep t) (hf:t.fits es.size=true) (G:Gd w es t vs)
 (h:Q ((ord w a ep es)[i]?.map fun e=>(e.2,sla w t (i+1))) s):wpAny (model prog w) A (setNext a (sla w t i) i ep) Q E s:=by
 obtain ⟨o,ho,hx,hd⟩:=S
 have ps:t.place.size=es.size:=by
  unfold SetTable.fits at hf
  rw [Bool.and_eq_true] at hf
  simpa using hf.1
 unfold setNext
 refine wpAny_bind (wpAny_setState_of ho hd hf ?_)
 dsimp only
 unfold setsByText
 refine wpAny_bind (wpAny_bind (wpAny_askSetting (wpAny_pure ?_)))
 dsimp only
 have hw:(model prog w).w=w:=rfl
 by_cases c:bt w=true
 · rw [hw,if_pos c]
   rw [if_neg (by simp)]
   unfold setWalk
   refine wpAny_bind (wpAny_bind (wpAny_setState_of ho hd hf ?_))
   dsimp only
   unfold setsByText
   refine wpAny_bind (wpAny_bind (wpAny_askSetting (wpAny_pure ?_)))
   dsimp only
   rw [hw,if_pos c]
   refine wpAny_bind (wpAny_askSetting (wpAny_pure (wpAny_pure ?_)))
   unfold ord at h
   rw [if_pos c] at h
   unfold sla at h ⊢
   rw [if_pos c] at h ⊢
   exact h
 · rw [hw,if_neg c]
   have pl:=G.plain
   have ld:=G.led
   rw [show bt w=false by simpa using c] at ld
   refine Eq.mpr (congrArg (fun z=>wpAny _ _ z _ _ _) (if_neg ?_)) ?_
   · show ¬ ((!t.plain&&decide (es.size > 1))=true)
     rw [pl];simp
   refine wpAny_bind (Eq.mpr (congrArg (fun z=>wpAny _ _ z _ _ _) (show _=(pure ():Sem Unit) from if_neg ?_)) ?_)
   · show ¬ ((!t.led&&!es.isEmpty)=true)
     rw [ld];simp
   refine wpAny_pure ?_
   unfold ord at h
   rw [if_neg c] at h
   unfold sla at h ⊢
   rw [if_neg c] at h ⊢
   have eb:below t.place (plc t i)=i:=by
    cases i with
    | zero=>exact below_zero _
    | succ i=>exact below_next (up_get G.up) (by omega)
   rw [eb]
   refine wpAny_pure ?_
   by_cases lt:i<es.size
   · rw [Array.getElem?_eq_getElem lt,Array.getElem?_eq_getElem (by omega:i<t.place.size)]
     rw [Array.getElem?_eq_getElem lt] at h
     have e2:t.place.getD i 0=t.place[i]'(by omega):=by simp [Array.getD,show i<t.place.size by omega]
     simp only [Option.map_some,plc,e2] at h
     exact h
   · rw [Array.getElem?_eq_none (by omega)] at h ⊢
     exact h
theorem si_step {it a:Addr} {es:Array (Int×Value)} {ep i:Nat} {t:SetTable} {vs:List Value} {Q:Option Value→Shared→Prop} (ne:a≠it) (I:IsSI s.heap it a (sla w t i) i es.size ep) (S:SetAt s.heap a es ep t) (hf:t.fits es.size=true) (G:Gd w es t vs) (hi:i<es.size)
 (h:∀ e h',(ord w a ep es)[i]? = some e→IsSI h' it a (sla w t (i+1)) (i+1) es.size ep→Heap.SameBut it s.heap h'→Q (some e.2) { s with heap:=h' }):wpAny (model prog w) A (pyNext (.ref it)) Q E s:=by
 obtain ⟨o,ho,hc,hd⟩:=id I
 obtain ⟨os,hos,hxs,hds⟩:=id S
 unfold pyNext
 refine wpAny_bind (wpAny_attempt (wpAny_callSpecial?_slot (name:=Str.ofString "__next__") I.typeIs si_next (wpAny_call_entry si_next I.typeIs si_next_e ?_ (si_next_a _))))
 unfold Builtin.«set_iterator.__next__»
 refine wpAny_bind (wpAny_pure ?_)
 refine wpAny_bind (wpAny_fieldsOf ho hd ?_)
 dsimp only
 unfold setEntries
 refine wpAny_bind (wpAny_bind (wpAny_setState_of hos hds hf (wpAny_pure ?_)))
 dsimp only
 rw [if_neg (by simp)]
 simp only [Int.toNat_natCast]
 refine wpAny_bind (next_of (Nat.le_of_lt hi) S hf G ?_)
 have lt:i<(ord w a ep es).size:=by rw [ord_size];exact hi
 rw [Array.getElem?_eq_getElem lt]
 dsimp only [Option.map_some]
 refine wpAny_bind (wpAny_setField ho hd (by simp) ?_)
 have h1:=Heap.get?_update_self (Obj.mapFields (·.setIfInBounds 0 (rawInt (sla w t (i+1))))) ho (Obj.isFreed_of_fields (Obj.data_mapFields hd _))
 have d1:(Obj.mapFields (·.setIfInBounds 0 (rawInt (sla w t (i+1)))) o).data=.fields #[.int (sla w t (i+1)) 0,.int i 0,.ref a,.int es.size 0,.int ep 0]:=by rw [Obj.data_mapFields hd];rfl
 have c1:(Obj.mapFields (·.setIfInBounds 0 (rawInt (sla w t (i+1)))) o).cls=.type "set_iterator":=(Obj.cls_mapFields ..).trans hc
 have b1:=Heap.SameBut.update s.heap it (Obj.mapFields (·.setIfInBounds 0 (rawInt (sla w t (i+1)))))
 generalize Obj.mapFields (·.setIfInBounds 0 (rawInt (sla w t (i+1)))) o=o1 at h1 d1 c1
 generalize s.heap.update it (Obj.mapFields (·.setIfInBounds 0 (rawInt (sla w t (i+1)))))=g1 at h1 b1
 refine wpAny_bind (wpAny_setField h1 d1 (by simp) ?_)
 have I2:IsSI (g1.update it (Obj.mapFields (·.setIfInBounds 1 (rawInt ((i:Int)+1))))) it a (sla w t (i+1)) (i+1) es.size ep:=
  ⟨_,Heap.get?_update_self _ h1 (Obj.isFreed_of_fields (Obj.data_mapFields d1 _)),(Obj.cls_mapFields ..).trans c1,by rw [Obj.data_mapFields d1];rfl⟩
 exact wpAny_pure ⟨_,rfl,wpAny_pure (h _ _ (Array.getElem?_eq_getElem lt) I2 (b1.trans (Heap.SameBut.update ..)))⟩
theorem si_done {it a:Addr} {es:Array (Int×Value)} {ep:Nat} {t:SetTable} {vs:List Value} {Q:Option Value→Shared→Prop} (hh:A.handled=none) (I:IsSI s.heap it a (sla w t es.size) es.size es.size ep) (S:SetAt s.heap a es ep t) (hf:t.fits es.size=true) (G:Gd w es t vs)
 (h:∀ h',Heap.ExtBut it s.heap h'→Q none { s with heap:=h' }):wpAny (model prog w) A (pyNext (.ref it)) Q E s:=by
 obtain ⟨o,ho,hc,hd⟩:=id I
 obtain ⟨os,hos,hxs,hds⟩:=id S
 unfold pyNext
 refine wpAny_bind (wpAny_attempt (wpAny_callSpecial?_slot (name:=Str.ofString "__next__") I.typeIs si_next (wpAny_call_entry si_next I.typeIs si_next_e ?_ (si_next_a _))))
 unfold Builtin.«set_iterator.__next__»
 refine wpAny_bind (wpAny_pure ?_)
 refine wpAny_bind (wpAny_fieldsOf ho hd ?_)
 dsimp only
 unfold setEntries
 refine wpAny_bind (wpAny_bind (wpAny_setState_of hos hds hf (wpAny_pure ?_)))
 dsimp only
 rw [if_neg (by simp)]
 simp only [Int.toNat_natCast]
 refine wpAny_bind (next_of (Nat.le_refl _) S hf G ?_)
 rw [Array.getElem?_eq_none (by rw [ord_size];exact Nat.le_refl _)]
 dsimp only [Option.map_none]
 refine wpAny_bind (wpAny_setField ho hd (by simp) ?_)
 refine wpAny_bind ?_
 simp only [newExc,newTuple]
 refine wpAny_bind (wpAny_newObj_type ?_ (by size_fits))
 refine wpAny_bind (m:=firstArgMember _ _) (wpAny_of_eq (a:=Value.none) (by first | rfl | (simp only [firstArgMember];rfl)) ?_)
 refine wpAny_newObj_type ?_ (by size_fits)
 simp only [raiseNew]
 refine wpAny_bind (wpAny_handled ?_)
 rw [show A.in1.handled=none from hh]
 refine wpAny_bind (wpAny_pure (wpAny_throw ?_))
 refine wpAny_bind (wpAny_isInstance (T:="StopIteration") (b:=true) ⟨_,Heap.get?_push_size _ rfl,rfl⟩ isSubtype_stop ?_)
 exact wpAny_pure (h _ (((Heap.SameBut.update ..).extBut.push _).push _))
theorem si_self {it a:Addr} {sl i n ep:Nat} {Q:Value→Shared→Prop} (I:IsSI s.heap it a sl i n ep) (h:Q (.ref it) s):wpAny (model prog w) A (pyIter (.ref it)) Q E s:=by
 refine wpAny_pyIter_slot I.typeIs si_iter (wpAny_call_entry si_iter I.typeIs si_iter_e ?_ (si_iter_a _))
 show wpAny _ _ (ret (.ref it)) _ _ s
 exact wpAny_pure ⟨_,rfl,"set_iterator",_,I.typeIs,si_next.lookup,h⟩
theorem walk_set (hh:A.handled=none) (it a:Addr) (ne:a≠it) {es:Array (Int×Value)} {ep:Nat} {t:SetTable} {vs:List Value} (hf:t.fits es.size=true) (G:Gd w es t vs) :
 Walks prog w A it [it,a] [it] es.size (fun i v=>∃ e,(ord w a ep es)[i]? = some e∧e.2=v) (fun i h=>IsSI h it a (sla w t i) i es.size ep∧SetAt h a es ep t) where
 sub:=fun b hb=>by simp at hb;simp [hb]
 frame:=fun _ _ _ st hk=>⟨st.1.at fun o e=>hk it (by simp) o e,st.2.at fun o e=>hk a (by simp) o e⟩
 item:=fun i s Q E hi st hQ=>by
  refine si_step ne st.1 st.2 hf G hi fun e h' he I' sb=>?_
  exact hQ _ h' s.toks ⟨e,he,rfl⟩ ⟨I',st.2.at fun o e=>sb.extBut a o ne e⟩ fun b o hb e=>sb.extBut b o (fun z=>hb (by simp [z])) e
 done:=fun s Q E st hQ=>si_done hh st.1 st.2 hf G fun h' eb=>hQ h' s.toks fun b o hb e=>eb b o (fun z=>hb (by simp [z])) e
 self:=fun _ _ _ _ st hQ=>si_self st.1 hQ
theorem iter_set {a:Addr} {es:Array (Int×Value)} {ep:Nat} {t:SetTable} {vs:List Value} {Q:Value→Shared→Prop} (S:SetAt s.heap a es ep t) (hf:t.fits es.size=true) (G:Gd w es t vs)
 (h:Q (.ref s.heap.objs.size) { s with heap:=s.heap.push { cls:=.type "set_iterator",data:=.fields #[.int 0 0,.int 0 0,.ref a,.int es.size 0,.int ep 0] } }):wpAny (model prog w) A (pyIter (.ref a)) Q E s:=by
 obtain ⟨o,ho,hx,hd⟩:=id S
 refine wpAny_pyIter_slot S.typeIs F.slot_set_iter (wpAny_call_entry F.slot_set_iter S.typeIs set_iter_e ?_ (F.args_set_iter_1 _))
 unfold Builtin.«frozenset.__iter__»
 refine wpAny_bind (wpAny_pure ?_)
 unfold Builtin.Frozenset.sizeOf setEntries
 refine wpAny_bind (wpAny_bind (wpAny_bind (wpAny_setState_of ho hd hf (wpAny_pure (wpAny_pure ?_)))))
 dsimp only
 unfold setDrawn setsByText
 refine wpAny_bind (wpAny_bind (wpAny_setState_of ho hd hf ?_))
 dsimp only
 refine wpAny_bind (wpAny_bind (wpAny_askSetting (wpAny_pure (wpAny_pure ?_))))
 have dr:((!(model prog w).w.params.followText "set-order")&&(!t.plain&&decide (es.size > 1)))=false:=by rw [G.plain];simp
 refine Eq.mpr (congrArg (fun z=>wpAny _ _ z _ _ _) (if_neg (fun z=>absurd (dr.symm.trans z) (by decide)))) ?_
 refine wpAny_bind (wpAny_pure ?_)
 unfold setEpoch
 refine wpAny_bind (wpAny_bind (wpAny_setState_of ho hd hf (wpAny_pure ?_)))
 unfold newFields
 refine wpAny_bind (wpAny_newObj_type (wpAny_pure ⟨_,rfl,"set_iterator",_,⟨_,Heap.get?_push_size _ rfl,rfl⟩,si_next.lookup,?_⟩))
 exact h
end
structure Tbl (prog:Program) (w:World) (z:Nat) (h:Heap) (D:List (List Int)) (es:Array (Int×Value)) (t:SetTable) (n:Nat):Prop where
 size:es.size=n
 place:t.place.size=n
 nodum:t.dummies=#[]
 two:∃ k,t.mask+1=2 ^ (k+1)
 room:n*5<t.mask*3
 of:∀ e∈es.toList,∃ ks∈D,∃ b,e=(hs prog w ks,.ref b)∧b<z∧TK prog w h ks b
theorem Tbl.fits {prog:Program} {w:World} {h:Heap} {z D es t n} (T:Tbl prog w z h D es t n):t.fits es.size=true:=by
 have h1:=T.place
 have h2:=T.size
 have h3:=T.room
 unfold SetTable.fits fill
 rw [T.nodum,h1,h2,Bool.and_eq_true]
 exact ⟨by simp,decide_eq_true (by show n+0≤_;omega)⟩
section
variable {prog:Program} {w:World} {A:Around} {E:Value→Shared→Prop} {s:Shared}
theorem search {a:Addr} {o:Obj} {es:Array (Int×Value)} {ep:Nat} {t:SetTable} {n z:Nat} {D:List (List Int)} {ks:List Int} {b:Addr} (hu:A.units<cLine) (ho:s.heap.get? a=some o) (hd:o.data=.set es ep t) (T:Tbl prog w z s.heap D es t n) (hk:TK prog w s.heap ks b) (nw:ks∉D)
 {N:Nat} (hN:N≤10*(13+n)) (hS:t.slot (adv t (hs prog w ks) N).j=.empty) {Q:SetFound→Shared→Prop} (h:∀ j,t.slot j=.empty→Q (.free j false) s) :
 ∀ (fuel m:Nat) (st:Option Probe),m≤N→N - m<fuel→st.getD (t.probeStart (hs prog w ks))=adv t (hs prog w ks) m→wpAny (model prog w) A (setSearchFrom a (.ref b) (hs prog w ks) true fuel st) Q E s
 | 0,m,st,_,h0,_=>absurd h0 (Nat.not_lt_zero _)
 | fuel+1,m,st,hm,hf,est=>by
   unfold setSearchFrom
   refine wpAny_bind (wpAny_setState_of ho hd T.fits ?_)
   dsimp only
   have gw:t.gaveWay=false:=by
    obtain ⟨k,e⟩:=T.two
    unfold gaveWay
    rw [Nat.pow_succ] at e
    rw [beq_eq_false_iff_ne]
    omega
   rw [gw]
   simp only [Bool.false_eq_true,if_false]
   rw [est]
   have sz:=T.room
   have big:N - m<10*turns t.mask:=by unfold turns;omega
   have pe:∀ H,t.probe H (hs prog w ks) (adv t (hs prog w ks) m)=probe.go t H (hs prog w ks) (10*turns t.mask) (adv t (hs prog w ks) m):=fun _=>rfl
   rw [pe]
   rcases go_spec T.nodum hS (10*turns t.mask) m hm big with ⟨j,e0,e⟩ | ⟨m',j,i,m1,m2,e,sl,pl⟩
   · rw [e]
     exact wpAny_pure (h j e0)
   · rw [e]
     dsimp only
     have il:i<es.size:=by
      have:=(Array.getElem?_eq_some_iff.mp pl).1
      rw [T.place] at this
      rw [T.size];exact this
     have mem:es[i]∈es.toList:=by rw [Array.mem_toList_iff];exact Array.getElem_mem il
     obtain ⟨ks',kD,b',ee,_,hb'⟩:=T.of _ mem
     have eget:es[i]? = some (hs prog w ks',.ref b'):=by rw [Array.getElem?_eq_getElem il,ee]
     have ne:ks'≠ks:=fun z=>nw (z▸kD)
     have rest:wpAny (model prog w) A (do
      let some (_,v1):=es[i]? | unsupported "internal:set-entry"
      let q1 ← holding [v1] (eqBool v1 (.ref b))
      let (e1,_,t1) ← setState a
      if true&&q1 then return SetFound.there none
      let some m1:=t1.sameMemory t.moves t.mask | unsupported "set.changed-during-lookup:is-the-new-block-at-the-old-address"
      let l1 ← match (if m1 then t1.slot j else .empty) with
       | .live i1=>match e1[i1]? with
         | some (_,v2)=>do pure (if ← isSame v2 v1 then some i1 else none)
         | none=>pure none
       | _=>pure none
      match l1 with
      | none=>rule "set.search.anew";setSearchFrom a (.ref b) (hs prog w ks) true fuel none
      | some i1=>if q1 then return .there (some i1) else setSearchFrom a (.ref b) (hs prog w ks) true fuel (some (adv t (hs prog w ks) (m' + 1)))) Q E s:=by
      rw [eget]
      dsimp only
      refine wpAny_bind (wpAny_holding (wpAny_eqBool_tuple hu hb' hk ?_))
      rw [decide_eq_false ne]
      refine wpAny_bind (wpAny_setState_of ho hd T.fits ?_)
      dsimp only
      simp only [Bool.and_false,Bool.false_eq_true,if_false]
      have sm:t.sameMemory t.moves t.mask=some true:=by unfold sameMemory;rw [if_pos (by simp)]
      rw [sm]
      dsimp only
      rw [if_pos rfl,sl]
      dsimp only
      rw [eget]
      dsimp only
      refine wpAny_bind (wpAny_isSame_ref_self (wpAny_bind (wpAny_pure ?_)))
      rw [if_pos rfl]
      dsimp only
      exact search hu ho hd T hk nw hN hS h fuel (m' + 1) _ (by omega) (by omega) rfl
     by_cases c:t.led=true
     · rw [c]
       simp only [Bool.not_true,Bool.false_eq_true,if_false]
       exact rest
     · rw [show t.led=false by simpa using c]
       simp only [Bool.not_false,if_true]
       refine wpAny_bind (unseen hk (fun v hv=>?_) ?_)
       · obtain ⟨e',he',rfl⟩:=List.mem_map.mp hv
         have:e'∈es.toList:=by
          rw [Array.mem_toList_iff] at he' ⊢
          exact (Array.mem_filter.mp he').1
         obtain ⟨ks2,_,b2,e2,_,h2⟩:=T.of _ this
         exact ⟨ks2,b2,by rw [e2],h2⟩
       · simp only [Bool.false_eq_true,if_false]
         exact rest
end
theorem above_go {n:Nat}:∀ (fuel k:Nat),n<2 ^ (k+1)*2 ^ fuel→∃ k',sizeAbove.go n fuel (2 ^ (k+1))=2 ^ (k' + 1)∧n<2 ^ (k' + 1)∧(2 ^ (k' + 1)≤2 ^ (k+1)∨2 ^ (k' + 1)≤2*n)
 | 0,k,h=>⟨k,rfl,by simpa using h,.inl (Nat.le_refl _)⟩
 | fuel+1,k,h=>by
   unfold sizeAbove.go
   split
   · rename_i c
     obtain ⟨k',e,h1,h2⟩:=above_go (n:=n) fuel (k+1) (by rw [Nat.pow_succ 2 (k+1),Nat.mul_assoc,Nat.mul_comm 2,← Nat.pow_succ];exact h)
     refine ⟨k',by rw [← e,Nat.pow_succ 2 (k+1)],h1,.inr ?_⟩
     rcases h2 with h2 | h2
     · rw [Nat.pow_succ 2 (k+1)] at h2;omega
     · exact h2
   · rename_i c
     exact ⟨k,rfl,by omega,.inl (Nat.le_refl _)⟩
theorem above_is {n:Nat} (hn:n<100000):∃ k,sizeAbove n=2 ^ (k+1)∧n<2 ^ (k+1)∧2 ^ (k+1)≤2*n+8:=by
 obtain ⟨k,e,h1,h2⟩:=above_go (n:=n) 64 2 (Nat.lt_of_lt_of_le hn (by decide))
 refine ⟨k,e,h1,?_⟩
 have:(2:Nat) ^ (2+1)=8:=rfl
 omega
theorem mem_ins {α:Type} {xs:Array α} {p:Nat} {x e:α} (h:e∈(insertAt xs p x).toList):e∈xs.toList∨e=x:=by
 have:=(SetTable.insertAt_perm xs p x).mem_iff.mp h
 rw [Array.toList_push] at this
 rcases List.mem_append.mp this with h | h
 · exact .inl h
 · exact .inr (List.mem_singleton.mp h)
theorem size_ins {α:Type} (xs:Array α) (p:Nat) (x:α):(insertAt xs p x).size=xs.size+1:=by
 have:=(SetTable.insertAt_perm xs p x).length_eq
 rw [Array.length_toList,Array.length_toList,Array.size_push] at this
 exact this
theorem TK.keep {prog:Program} {w:World} {h h':Heap} {ks:List Int} {a b:Addr} {o:Obj} {es ep t} (x:TK prog w h ks b) (ho:h.get? a=some o) (hd:o.data=.set es ep t) (sb:Heap.SameBut a h h'):TK prog w h' ks b:=by
 obtain ⟨o',items,n,ho',hc,hd',hi⟩:=x
 have hne:b≠a:=by
  rintro rfl
  obtain rfl:o'=o:=Option.some.inj (ho'.symm.trans ho)
  rw [hd] at hd';exact nomatch hd'
 exact ⟨o',items,n,(sb.2 b hne).trans ho',hc,hd',hi⟩
theorem mapfm {f:Nat→Option Nat}:∀ l:List Nat,((l.filterMap fun j=>(f j).map (j,·)).map (·.2))=l.filterMap f
 | []=>rfl
 | a::l=>by
   rw [List.filterMap_cons,List.filterMap_cons]
   cases f a with
   | none=>exact mapfm l
   | some v=>show v::_=v::_;rw [mapfm l]
theorem up_fm (f:Nat→Option Nat):∀ l:List Nat,l.Pairwise (· < ·)→((l.filterMap fun j=>(f j).map (j,·)).map (·.1)).Pairwise (· < ·)
 | [],_=>.nil
 | a::l,h=>by
   obtain ⟨h1,h2⟩:=List.pairwise_cons.mp h
   have r:=up_fm f l h2
   rw [List.filterMap_cons]
   cases f a with
   | none=>exact r
   | some v=>
     refine List.pairwise_cons.mpr ⟨fun x hx=>?_,r⟩
     obtain ⟨y,hy,rfl⟩:=List.mem_map.mp hx
     obtain ⟨j,hj,e⟩:=List.mem_filterMap.mp hy
     cases hv:f j with
     | none=>rw [hv] at e;cases e
     | some u=>rw [hv] at e;cases e;exact h1 j hj
theorem Gd.put {w:World} {es:Array (Int×Value)} {t:SetTable} {vs:List Value} (G:Gd w es t vs) {j:Nat} (hj:t.slot j=.empty) (h:Int) (x:Value):Gd w (insertAt es (t.put j).2 (h,x)) (t.put j).1 (x::vs):=
 ⟨put_up G.up hj,G.plain,G.led,by
  have:=(SetTable.insertAt_perm es (t.put j).2 (h,x)).map (·.2)
  rw [Array.toList_push,List.map_append] at this
  exact (this.trans List.perm_append_comm).trans (.cons x G.perm)⟩
theorem relaid_ok {t:SetTable} {es:Array (Int×Value)} {wanted:Nat} (h1:es.size<wanted) (h2:wanted<100000):∃ t' od,t.relaid (es.map (·.1)) wanted=some (t',od)∧List.Perm (od.filterMap (es[·]?)).toList es.toList∧t'.place.size=es.size∧t'.dummies=#[]∧(∃ k,t'.mask+1=2 ^ (k+1))∧wanted≤t'.mask∧od.toList.Perm (List.range es.size)∧Up t'.place∧t'.plain=t.plain∧t'.led=t.led:=by
 obtain ⟨k,e,a1,a2⟩:=above_is h2
 unfold relaid laid layClean
 rw [e]
 have em:2 ^ (k+1) - 1+1=2 ^ (k+1):=by have:=Nat.two_pow_pos (k+1);omega
 have hlen:(es.map (·.1)).toList.length=es.size:=by rw [Array.length_toList,Array.size_map]
 obtain ⟨ow,f1,f2⟩:=lay_ok (k:=k+1) em (es.map (·.1)).toList (by rw [hlen];omega) (es.map (·.1)).toList [] (Array.replicate (2 ^ (k+1) - 1+1) none) rfl (by rw [Array.size_replicate]) (by
  have:((List.range (2 ^ (k+1) - 1+1)).filterMap fun j=>(Array.replicate (2 ^ (k+1) - 1+1) (none:Option Nat)).getD j none)=[]:=by
   rw [List.filterMap_eq_nil_iff]
   intro j hj
   rw [Array.getD_eq_getD_getElem?,Array.getElem?_replicate]
   split <;> rfl
  rw [this]
  exact .nil)
 rw [← Array.foldl_toList,List.length_nil] at *
 rw [f1,hlen] at *
 refine ⟨_,_,rfl,?_,?_,rfl,⟨k,em⟩,by show wanted≤2 ^ (k+1) - 1;omega,?_,?_,rfl,rfl⟩
 · have e1:∀ l:List Nat,((l.toArray).filterMap (es[·]?)).toList=l.filterMap (fun i=>es[i]?):=fun l=>by rw [Array.toList_filterMap]
   rw [e1,mapfm (f:=fun j=>ow.getD j none)]
   refine (f2.filterMap _).trans ?_
   rw [filterMap_getElem?_range]
 · show (List.map _ _).toArray.size=_
   rw [List.size_toArray,List.length_map,← List.length_map (f:=Prod.snd),mapfm (f:=fun j=>ow.getD j none),f2.length_eq,List.length_range]
 · show (List.map _ _).Perm _
   rw [mapfm (f:=fun j=>ow.getD j none)]
   exact f2
 · show (List.map _ _).Pairwise (· < ·)
   exact up_fm _ _ List.pairwise_lt_range
section
variable {prog:Program} {w:World} {A:Around} {E:Value→Shared→Prop} {s:Shared}
theorem add {a:Addr} {o:Obj} {es:Array (Int×Value)} {ep:Nat} {t:SetTable} {n z:Nat} {D:List (List Int)} {ks:List Int} {b:Addr} (bz:b<z) (hu:A.units<cLine) (ho:s.heap.get? a=some o) (hex:o.ExactSet) (hd:o.data=.set es ep t) (T:Tbl prog w z s.heap D es t n) (hk:TK prog w s.heap ks b) (nw:ks∉D) (hn:n<6000) {vs:List Value} (G:Gd w es t vs)
 {Q:Bool→Shared→Prop} (h:∀ h' o' es' ep' t',h'.get? a=some o'→o'.ExactSet→o'.data=.set es' ep' t'→Tbl prog w z h' (ks::D) es' t' (n+1)→Gd w es' t' (.ref b::vs)→Heap.SameBut a s.heap h'→Q true { s with heap:=h' }) :
 wpAny (model prog w) A (setAddHashed a (.ref b) (hs prog w ks)) Q E s:=by
 unfold setAddHashed setAddHashedIn
 refine wpAny_holding (wpAny_bind (wpAny_setState_of ho hd T.fits ?_))
 dsimp only
 have ns:byScan (.ref b) es=false:=rfl
 rw [ns]
 simp only [Bool.false_eq_true,if_false]
 obtain ⟨k,ek⟩:=T.two
 have rm:=T.room
 obtain ⟨N,hN,hS⟩:=reach ek T.nodum (by rw [T.place];omega) (hs prog w ks)
 rw [T.place] at hN
 unfold setSearch
 refine wpAny_bind (search hu ho hd T hk nw hN hS (fun j hj=>?_) 100000 0 none (Nat.zero_le _) (by omega) rfl)
 dsimp only
 refine wpAny_bind (wpAny_setState_of ho hd T.fits ?_)
 dsimp only
 have tail:∀ t1:SetTable,t1=(t.put j).1→wpAny (model prog w) A (do
  storeSet a (insertAt es (t.put j).2 (hs prog w ks,.ref b)) t1
  if (!false&&t1.tooFull)=true then do
   setRelay a (grown (es.size+1))
   pure true
  else pure true) Q E s:=by
  rintro t1 rfl
  have sz:=size_ins es (t.put j).2 (hs prog w ks,Value.ref b)
  have p1:(t.put j).1.place.size=n+1:=by show (insertAt t.place _ j).size=_;rw [size_ins,T.place]
  have d1:(t.put j).1.dummies=#[]:=by show (if has t.dummies j=true then _ else t.dummies)=_;rw [T.nodum,no_dummy];rfl
  have m1:(t.put j).1.mask=t.mask:=rfl
  have G1:=G.put hj (hs prog w ks) (.ref b)
  refine wpAny_bind (wpAny_storeSet_of ho hd ?_ (by rw [sz,T.size,sizeLine_eq];omega))
  have hg:(s.heap.update a (Obj.putSet (insertAt es (t.put j).2 (hs prog w ks,.ref b)) (t.put j).1)).get? a=some { o with data:=.set (insertAt es (t.put j).2 (hs prog w ks,.ref b)) (ep+1) (t.put j).1 }:=by
   have:=Heap.get?_update_self (Obj.putSet (insertAt es (t.put j).2 (hs prog w ks,.ref b)) (t.put j).1) ho (by rw [putSet_of _ _ hd];rfl)
   rw [putSet_of _ _ hd] at this
   exact this
  have sb:=Heap.SameBut.update s.heap a (Obj.putSet (insertAt es (t.put j).2 (hs prog w ks,.ref b)) (t.put j).1)
  generalize s.heap.update a (Obj.putSet (insertAt es (t.put j).2 (hs prog w ks,.ref b)) (t.put j).1)=h1 at hg sb
  have of1:∀ e∈(insertAt es (t.put j).2 (hs prog w ks,Value.ref b)).toList,∃ ks'∈ks::D,∃ b',e=(hs prog w ks',.ref b')∧b' < z∧TK prog w h1 ks' b':=fun e he=>by
   rcases mem_ins he with he | rfl
   · obtain ⟨ks',k1,b',e1,lt,k2⟩:=T.of e he
     exact ⟨ks',List.mem_cons_of_mem _ k1,b',e1,lt,TK.keep k2 ho hd sb⟩
   · exact ⟨ks,List.mem_cons_self,b,rfl,bz,TK.keep hk ho hd sb⟩
  generalize insertAt es (t.put j).2 (hs prog w ks,Value.ref b)=es1 at hg sz of1 G1
  generalize (t.put j).1=t1 at hg p1 d1 m1 G1
  rw [T.size] at sz
  have fill1:t1.fill=n+1:=by unfold fill;rw [d1,p1];rfl
  have fits1:t1.fits es1.size=true:=by
   unfold SetTable.fits
   rw [p1,sz,fill1,Bool.and_eq_true]
   exact ⟨by simp,decide_eq_true (by rw [m1];omega)⟩
  split
  · rename_i c
    unfold setRelay
    refine wpAny_bind (wpAny_bind (wpAny_setState_of hg rfl fits1 ?_))
    dsimp only
    have gr:grown (es.size+1)=(n+1)*4:=by unfold grown;rw [T.size,if_neg (by omega)]
    rw [gr]
    obtain ⟨k2,e2,_,b2⟩:=above_is (n:=(n+1)*4) (by omega)
    rw [if_neg (by rw [e2,sizeLine_eq];omega)]
    obtain ⟨t2,od,r1,r2,r3,r4,r5,r6,_,r8,r9,r10⟩:=relaid_ok (t:=t1) (es:=es1) (wanted:=(n+1)*4) (by omega) (by omega)
    rw [r1]
    refine wpAny_bind ?_
    show wpAny (model prog w) A (do
     let e2:=od.filterMap (es1[·]?)
     if e2.size != es1.size then unsupported "internal:set-table-lost-an-element"
     pure (e2,t2)) _ E _
    have z2:(od.filterMap (es1[·]?)).size=es1.size:=by rw [← Array.length_toList,r2.length_eq,Array.length_toList]
    generalize od.filterMap (es1[·]?)=es2 at r2 z2
    dsimp only
    rw [if_neg (by rw [z2];simp)]
    refine wpAny_pure ?_
    dsimp only
    refine wpAny_storeSet_of hg rfl ?_ (by rw [z2,sz,sizeLine_eq];omega)
    have hg2:(h1.update a (Obj.putSet es2 t2)).get? a=some { o with data:=.set es2 (ep+1+1) t2 }:=by
     have:=Heap.get?_update_self (Obj.putSet es2 t2) hg (by rw [putSet_of _ _ rfl];rfl)
     rw [putSet_of _ _ rfl] at this
     exact this
    have sb2:=Heap.SameBut.update h1 a (Obj.putSet es2 t2)
    refine wpAny_pure (h _ _ es2 _ t2 hg2 hex rfl ⟨by rw [z2,sz],by rw [r3,sz],r4,r5,by omega,fun e he=>?_⟩ ⟨r8,r9.trans G1.plain,r10.trans G1.led,(r2.map _).trans G1.perm⟩ (sb.trans sb2))
    obtain ⟨ks',k1,b',e1,lt,k3⟩:=of1 e (r2.mem_iff.mp he)
    exact ⟨ks',k1,b',e1,lt,TK.keep k3 hg rfl sb2⟩
  · rename_i c
    have nf:¬ t1.tooFull=true:=by simpa using c
    unfold tooFull at nf
    rw [fill1] at nf
    have nf:(n+1)*5<t1.mask*3:=by simpa using nf
    exact wpAny_pure (h _ _ es1 _ t1 hg hex rfl ⟨sz,p1,d1,by rw [m1];exact T.two,by omega,of1⟩ G1 sb)
 by_cases c:(t.put j).1.plain=true
 · rw [if_pos c]
   refine wpAny_bind (by_value hk ?_)
   simp only [if_true]
   exact tail _ rfl
 · rw [if_neg c]
   refine wpAny_bind (wpAny_pure ?_)
   simp only [if_true]
   exact tail _ rfl
end
end STB
namespace STB
open PySem SetTable PyProof.Rows
def Dk (key:Nat→List Int):Nat→List (List Int)
 | 0=>[]
 | i+1=>key i::Dk key i
theorem Dk_mem {key:Nat→List Int} {x:List Int}:∀ {i},x∈Dk key i→∃ j,j<i∧x=key j
 | 0,h=>by cases h
 | i+1,h=>by
   rcases List.mem_cons.mp h with rfl | h
   · exact ⟨i,Nat.lt_succ_self _,rfl⟩
   · obtain ⟨j,h1,h2⟩:=Dk_mem h
     exact ⟨j,by omega,h2⟩
def Vk (val:Nat→Value):Nat→List Value
 | 0=>[]
 | i+1=>val i::Vk val i
theorem Vk_rev (vs:List Value):∀ i,i≤vs.length→Vk (fun j=>vs.getD j .none) i=(vs.take i).reverse
 | 0,_=>rfl
 | i+1,h=>by
   have hl:i<vs.length:=h
   rw [Vk,Vk_rev vs i (by omega),List.take_succ_eq_append_getElem hl,List.reverse_append,List.getD_eq_getElem?_getD,List.getElem?_eq_getElem hl]
   rfl
theorem Vk_perm (vs:List Value):(Vk (fun j=>vs.getD j .none) vs.length).Perm vs:=by
 rw [Vk_rev vs _ (Nat.le_refl _),List.take_length]
 exact List.reverse_perm vs
def HasV (w:World) (h:Heap) (a:Addr) (vs:List Value):Prop:=∃ es ep t,SetAt h a es ep t∧t.fits es.size=true∧Gd w es t vs
theorem HasV.at {w:World} {h h':Heap} {a vs} (x:HasV w h a vs) (e:∀ o,h.get? a=some o→h'.get? a=some o):HasV w h' a vs:=let ⟨es,ep,t,S,r⟩:=x;⟨es,ep,t,S.at e,r⟩
theorem HasV.perm {w:World} {h:Heap} {a vs vs'} (x:HasV w h a vs) (p:vs.Perm vs'):HasV w h a vs':=let ⟨es,ep,t,S,f,G⟩:=x;⟨es,ep,t,S,f,G.up,G.plain,G.led,G.perm.trans p⟩
def Old (h0 h:Heap) (z:Nat):Prop:=∀ b o,b<z→h0.get? b=some o→h.get? b=some o
theorem TK.old {prog:Program} {w:World} {h0 h:Heap} {z:Nat} {ks:List Int} {b:Addr} (x:TK prog w h0 ks b) (hb:b<z) (g:Old h0 h z):TK prog w h ks b:=by
 obtain ⟨o,items,n,ho,r⟩:=x
 exact ⟨o,items,n,g b o hb ho,r⟩
section
variable {prog:Program} {w:World} {A:Around} {R:Result→Shared→Prop} {I:Addr} {fp wr:List Addr} {G:Array GenState→Array GenState→Prop} {n:Nat} {P:Nat→Value→Prop} {St:Nat→Shared→Prop}
theorem set_loop (W:WalksS prog w A.in1 I fp wr G n P St) (S:Addr) (hSf:S∉fp) {h0:Heap} {z:Nat} (hz:z≤S) (hwr:∀ b∈wr,z≤b)
 (key:Nat→List Int) (val:Nat→Value) (hvv:∀ i v,P i v→v=val i) (hval:∀ i v,P i v→∃ b,v=.ref b∧b<z∧TK prog w h0 (key i) b) (inj:∀ i j,i<j→j<n→key i≠key j) (hn:n≤6000) (hu:A.in1.units<cLine) :
 ∀ (k i:Nat) (s:Shared),n - i=k→i≤n→St i s→Old h0 s.heap z→(∃ o es ep t,s.heap.get? S=some o∧o.ExactSet∧o.data=.set es ep t∧Tbl prog w z s.heap (Dk key i) es t i∧Gd w es t (Vk val i)) →
   (∀ s',Moved (S::wr) G s s'→HasV w s'.heap S (Vk val n)→(∃ o es ep t,s'.heap.get? S=some o∧o.ExactSet∧o.data=.set es ep t∧t.fits es.size=true∧es.size=n)→R (.ok (.ret .none)) s') →
   codeAny (model prog w) A (.builtin "set.update.loop" ⟨[.ref S,.ref I],[]⟩) R s:=by
 have hSw:S∉wr:=fun h=>hSf (W.sub _ h)
 have hsub:∀ b∈wr,b∈S::wr:=fun b hb=>List.mem_cons_of_mem _ hb
 intro k
 induction k with
 | zero=>
   intro i s hk hi hst hold hS hR
   obtain rfl:i=n:=by omega
   refine codeAny_builtin F.entry_set_update_loop ?_
   rw [Around.under_plainId F.plain_set_update_loop _]
   show wpAny _ A.in1 (pyNext (.ref I) >>= _) _ _ s
   refine wpAny_bind (W.done s _ _ hst fun s' hm=>?_)
   obtain ⟨o,es,ep,t,ho,hex,hd,T,Gg⟩:=hS
   exact wpAny_pure (hR s' (hm.mono hsub) ⟨es,ep,t,⟨o,hm.heap S _ hSw ho,hex,hd⟩,T.fits,Gg⟩ ⟨o,es,ep,t,hm.heap S _ hSw ho,hex,hd,T.fits,T.size⟩)
 | succ k ih=>
   intro i s hk hi hst hold hS hR
   have hlt:i<n:=by omega
   refine codeAny_builtin F.entry_set_update_loop ?_
   rw [Around.under_plainId F.plain_set_update_loop _]
   show wpAny _ A.in1 (pyNext (.ref I) >>= _) _ _ s
   refine wpAny_bind (W.item i s _ _ hlt hst fun v s' hP hst' hm=>?_)
   have ev:=hvv i v hP
   obtain ⟨b,rfl,bz,hb⟩:=hval i v hP
   obtain ⟨o,es,ep,t,ho,hex,hd,T,Gg⟩:=hS
   have old':Old h0 s'.heap z:=fun c o hc e=>hm.heap c o (fun z'=>by have:=hwr c z';omega) (hold c o hc e)
   have ho':=hm.heap S _ hSw ho
   have T':Tbl prog w z s'.heap (Dk key i) es t i:=⟨T.size,T.place,T.nodum,T.two,T.room,fun e he=>by
    obtain ⟨ks,k1,c,e1,lt,o2,items,m,ho2,r⟩:=T.of e he
    exact ⟨ks,k1,c,e1,lt,o2,items,m,hm.heap c o2 (fun z'=>absurd lt (Nat.not_lt.mpr (hwr c z'))) ho2,r⟩⟩
   have hk':=TK.old hb bz old'
   have nw:key i∉Dk key i:=fun z'=>by
    obtain ⟨j,h1,h2⟩:=Dk_mem z'
    exact inj j i h1 hlt h2.symm
   show wpAny _ A.in1 (holding [Value.ref b] (setAdd S (.ref b)) >>= _) _ _ s'
   refine wpAny_bind (wpAny_holding ?_)
   unfold setAdd
   refine wpAny_holding (wpAny_bind (wpAny_pyHash_tuple (knd:=intKind prog w) hu hk' ?_))
   refine add (s:={ s' with toks:=s'.toks+((key i).length+1) }) bz hu ho' hex hd T' hk' nw (by omega) Gg fun h' o' es' ep' t' g1 g2 g3 T2 G2 sb=>?_
   have same:∀ c,c≠S→h'.get? c=s'.heap.get? c:=fun c hc=>sb.2 c hc
   have oldn:Old h0 h' z:=fun c o hc e=>by
    rw [same c (fun z'=>by subst z';omega)]
    exact old' c o hc e
   refine wpAny_pure ⟨plainId_quiet F.plain_set_update_loop _,ih (i+1) _ (by omega) hlt (W.frame _ s' _ _ hst' (Nat.le_add_right _ _) fun c hc o e=>?_) oldn ⟨o',es',ep',t',g1,g2,g3,T2,by rw [ev] at G2;exact G2⟩ fun s'' hm'' hV'' hS''=>?_⟩
   · rw [same c fun z'=>hSf (z'▸hc)];exact e
   · refine hR s'' (Moved.trans W.gtrans ((hm.mono hsub).then_heap (Nat.le_add_right _ _) fun c o hc e=>?_) hm'') hV'' hS''
     rw [same c fun z'=>hc (z'▸List.mem_cons_self)];exact e
end
end STB
namespace L2
open PySem PySem.Spec PyProof.Rows
section
variable {X:Cx}
variable {e:Expr} {es:List Expr} {t:TA} {p pos:Pos}
theorem boot_set:bootBuiltins "set" = some (.type "set"):=by decide +kernel
end
end L2
namespace STB
open PySem SetTable PyProof.Rows
abbrev nS (q:Bool):Obj:={ cls:=.type "set",dict:=none,data:=.set #[] 0 (.fresh 0 0 q) }
theorem new_gd {w:World}:Gd w #[] (.fresh 0 0 (!bt w)) []:=⟨.nil,rfl,rfl,.nil⟩
theorem new_tbl {prog:Program} {w:World} {z:Nat} {h:Heap} (q:Bool):Tbl prog w z h [] #[] (.fresh 0 0 q) 0:=
 ⟨rfl,rfl,rfl,⟨2,rfl⟩,by show 0*5<7*3;decide,fun e he=>by cases he⟩
theorem sub_tup_set:isSubtype (.type "tuple") (.type "set")=pure false:=by
 rw [isSubtype_type];kernel_rfl
theorem sub_tup_fs:isSubtype (.type "tuple") (.type "frozenset")=pure false:=by
 rw [isSubtype_type];kernel_rfl
section
variable {prog:Program} {w:World} {A:Around} {E:Value→Shared→Prop} {s:Shared}
theorem set_made (a:Value) {Q:Value→Shared→Prop} (h:Q (.ref s.heap.objs.size) { s with heap:=s.heap.push (nS (!bt w)) }) :
 codeAny (model prog w) A (.call (.builtin "set.__new__") ⟨[.type "set",a],[]⟩) (wants Q E) s:=by
 refine codeAny_of_tree ?_
 refine wpAny_bind (wpAny_of_eq (F.newCall_set_1 a) (wpAny_pure ⟨plainId_quiet F.plain_set_new _,codeAny_builtin F.entry_set_new ?_⟩))
 rw [Around.under_plainId F.plain_set_new _]
 unfold Builtin.«set.__new__» Builtin.Frozenset.newClass
 have sb:=sub_set_self
 obtain ⟨hp,g,d,tk,os⟩:=s
 dsimp only
 wp_walk
 refine wpAny_askSetting (wpAny_pure ?_)
 dsimp only
 simp only [newObj]
 refine wpAny_bind (wpAny_alloc (wpAny_pure ?_))
 exact wpAny_pure h
def LP (prog:Program) (w:World) (A:Around) (s:Shared) (l:Addr) (its:Array Value) (VS:Heap→Prop):Prop:=
 ∀ (B:Around) (I:Addr) (s1:Shared) (R:Result→Shared→Prop) (St:Nat→Shared→Prop),B.in1.units<A.units+8→s.heap.objs.size∉[I,l]→s.heap.objs.size≤I →
   Old s.heap s1.heap s.heap.objs.size→s1.heap.get? s.heap.objs.size=some (nS (!bt w))→WalksS prog w B.in1 I [I,l] [I] (fun a b=>b=a) its.size (fun i v=>its[i]? = some v) St→St 0 s1 →
   (∀ s',Moved [s.heap.objs.size,I] (fun a b=>b=a) s1 s'→VS s'.heap→R (.ok (.ret .none)) s')→codeAny (model prog w) B (.builtin "set.update.loop" ⟨[.ref s.heap.objs.size,.ref I],[]⟩) R s1
set_option maxHeartbeats 6400000 in
theorem set_from_list {l:Addr} {its:Array Value} {VS:Heap→Prop} {Q:Value→Shared→Prop} (hh:A.handled=none) (hl:s.heap.IsList l its) (lp:LP prog w A s l its VS)
 (h:∀ (h2:Heap) (k2:Nat),VS h2→(∀ b o,b<s.heap.objs.size→s.heap.get? b=some o→h2.get? b=some o)→Q (.ref s.heap.objs.size) { s with heap:=h2,toks:=k2 }) :
 wpAny (model prog w) A (call (.type "set") [.ref l]) Q E s:=by
 obtain ⟨c,tl,mro⟩:=F.called_set.mro
 have m1:=F.called_set.made
 have m2:=F.called_set.sub
 refine wpAny_call (codeAny_of_tree ?_)
 show wpAny _ _ (callAny (.type "set") _) _ _ _
 refine wpAny_pure ⟨Code.quiet_builtin _ (by decide +kernel),codeAny_builtin F.entry_type_call ?_⟩
 rw [Around.under_plain (weight_type_call_type "set" [.ref l] []) rfl]
 have m3:=F.called_set.notType
 have m4:=F.called_set.canCreate
 have m5:=F.typeCall_set_1 (.ref l)
 repeat (any_goals (first | assumption | wp_step))
 refine codeAny_mono (set_made (.ref l) (E:=E) (Q:=fun ob s1=>ob=.ref s.heap.objs.size∧s1={ s with heap:=s.heap.push (nS (!bt w)) }) ⟨rfl,rfl⟩) fun r s1 hr=>?_
 generalize hq:(!bt w)=q at hr
 cases r with
 | error e=>exact hr
 | ok fl=>
   cases fl with
   | ret ob=>
     obtain ⟨rfl,rfl⟩:=hr
     have gS:(s.heap.push (nS q)).get? s.heap.objs.size=some (nS q):=Heap.get?_push_size _ rfl
     have tS:Shared.TypeIs { s with heap:=s.heap.push (nS q) } (.ref s.heap.objs.size) "set":=⟨_,gS,rfl⟩
     have m6:=F.called_set.init.lookup
     have m7:=F.called_set.init.bind (.ref s.heap.objs.size)
     repeat (any_goals (first | assumption | wp_step))
     refine codeAny_mono (codeAny_call_builtin (R:=wants (fun r s2=>r=.none∧∃ h2 k2,s2={ s with heap:=h2,toks:=k2 }∧VS h2 ∧
      (∀ b o,b<s.heap.objs.size→s.heap.get? b=some o→h2.get? b=some o)) E) F.called_set.init.plain F.entry_set_init (check_set_init_1 tS ?_)) fun r2 s2 hr2=>?_
     · obtain ⟨ol,g1,c1,nl,d1⟩:=hl
       obtain ⟨oc,od,oda,osl⟩:=ol
       simp only at c1 d1
       subst c1;subst d1
       have g2:(s.heap.push (nS q)).get? l=some { cls:=.type "list",dict:=od,data:=.seq its nl,slots:=osl }:=Heap.get?_push_of_some _ g1
       have b1:=F.sub_list_set
       have b2:=F.sub_list_frozenset
       have b3:(Value.type "list" == Value.type "dict")=false:=by decide
       have l1:(s.heap.push (nS q)).IsList l its:=⟨_,g2,rfl,nl,rfl⟩
       unfold Builtin.«set.__init__» noKeywords Builtin.Frozenset.updateFrom
       generalize hPI:pyIter=PI
       wp_walk
       subst hPI
       refine wpAny_pyIter_list l1 ?_
       refine wpAny_bind (wpAny_runValue ?_)
       have lS:l<s.heap.objs.size:=Heap.lt_size g1
       have h3:A.in1.in1.in1.handled=none:=by simp [hh]
       have nI:l≠(s.heap.push (nS q)).objs.size:=by
        rw [Heap.size_push];exact Nat.ne_of_lt (Nat.lt_succ_of_lt lS)
       have Sf:s.heap.objs.size∉[(s.heap.push (nS q)).objs.size,l]:=by
        rw [Heap.size_push];simp only [List.mem_cons,List.mem_singleton,List.not_mem_nil,or_false,not_or]
        exact ⟨Nat.ne_of_lt (Nat.lt_succ_self _),Nat.ne_of_gt lS⟩
       have olds:Old s.heap ((s.heap.push (nS q)).push { cls:=.type "list_iterator",data:=.fields #[.ref l,.int 0 0] }) s.heap.objs.size:=fun b o _ e=>Heap.get?_push_of_some _ (Heap.get?_push_of_some _ e)
       refine lp _ _ _ _ _ ?un Sf ?wr olds (by rw [hq];exact Heap.get?_push_of_some _ gS) ((Walks.list h3 _ l nI its).toS) ⟨⟨_,Heap.get?_push_size _ rfl,rfl,rfl⟩,(l1.push _)⟩ ?fin
       case wr=>
        rw [Heap.size_push]
        exact Nat.le_succ _
       case un=>simp only [Around.in1_units];omega
       case fin=>
        intro s3 mv hS3
        obtain ⟨h2,ge,dr,k2,os⟩:=s3
        have eg:ge=s.gens:=mv.gens
        have ed:dr=s.drawn:=mv.drawn
        have eo:os=s.os:=mv.os
        subst eg;subst ed;subst eo
        show wpAny _ _ _ _ _ _
        refine wpAny_pure ?_
        show wpAny _ _ (ret Value.none) _ _ _
        refine wpAny_pure ⟨rfl,h2,k2,rfl,hS3,fun b o lt e=>?_⟩
        have n1:b≠s.heap.objs.size:=Nat.ne_of_lt lt
        have n2:b≠(s.heap.push (nS q)).objs.size:=by
         rw [Heap.size_push];exact Nat.ne_of_lt (Nat.lt_succ_of_lt lt)
        exact mv.heap b o (by simp only [List.mem_cons,List.mem_singleton,List.not_mem_nil,or_false,not_or];exact ⟨n1,n2⟩) (Heap.get?_push_of_some _ (Heap.get?_push_of_some _ e))
     · cases r2 with
       | error e=>exact hr2
       | ok f2=>
         cases f2 with
         | ret r=>
           obtain ⟨rfl,h2,k2,rfl,hS2,hk2⟩:=hr2
           repeat (any_goals (first | assumption | wp_step))
           exact h _ _ hS2 hk2
         | next=>exact hr2.elim
         | brk=>exact hr2.elim
         | cont=>exact hr2.elim
   | next=>exact hr.elim
   | brk=>exact hr.elim
   | cont=>exact hr.elim
set_option maxHeartbeats 6400000 in
theorem set_from_tup {l:Addr} {its:Array Value} {VS:Heap→Prop} {Q:Value→Shared→Prop} (hh:A.handled=none) (hl:s.heap.IsTuple l its) (lp:LP prog w A s l its VS)
 (h:∀ (h2:Heap) (k2:Nat),VS h2→(∀ b o,b<s.heap.objs.size→s.heap.get? b=some o→h2.get? b=some o)→Q (.ref s.heap.objs.size) { s with heap:=h2,toks:=k2 }) :
 wpAny (model prog w) A (call (.type "set") [.ref l]) Q E s:=by
 obtain ⟨c,tl,mro⟩:=F.called_set.mro
 have m1:=F.called_set.made
 have m2:=F.called_set.sub
 refine wpAny_call (codeAny_of_tree ?_)
 show wpAny _ _ (callAny (.type "set") _) _ _ _
 refine wpAny_pure ⟨Code.quiet_builtin _ (by decide +kernel),codeAny_builtin F.entry_type_call ?_⟩
 rw [Around.under_plain (weight_type_call_type "set" [.ref l] []) rfl]
 have m3:=F.called_set.notType
 have m4:=F.called_set.canCreate
 have m5:=F.typeCall_set_1 (.ref l)
 repeat (any_goals (first | assumption | wp_step))
 refine codeAny_mono (set_made (.ref l) (E:=E) (Q:=fun ob s1=>ob=.ref s.heap.objs.size∧s1={ s with heap:=s.heap.push (nS (!bt w)) }) ⟨rfl,rfl⟩) fun r s1 hr=>?_
 generalize hq:(!bt w)=q at hr
 cases r with
 | error e=>exact hr
 | ok fl=>
   cases fl with
   | ret ob=>
     obtain ⟨rfl,rfl⟩:=hr
     have gS:(s.heap.push (nS q)).get? s.heap.objs.size=some (nS q):=Heap.get?_push_size _ rfl
     have tS:Shared.TypeIs { s with heap:=s.heap.push (nS q) } (.ref s.heap.objs.size) "set":=⟨_,gS,rfl⟩
     have m6:=F.called_set.init.lookup
     have m7:=F.called_set.init.bind (.ref s.heap.objs.size)
     repeat (any_goals (first | assumption | wp_step))
     refine codeAny_mono (codeAny_call_builtin (R:=wants (fun r s2=>r=.none∧∃ h2 k2,s2={ s with heap:=h2,toks:=k2 }∧VS h2 ∧
      (∀ b o,b<s.heap.objs.size→s.heap.get? b=some o→h2.get? b=some o)) E) F.called_set.init.plain F.entry_set_init (check_set_init_1 tS ?_)) fun r2 s2 hr2=>?_
     · obtain ⟨ol,g1,c1,nl,d1⟩:=hl
       obtain ⟨oc,od,oda,osl⟩:=ol
       simp only at c1 d1
       subst c1;subst d1
       have g2:(s.heap.push (nS q)).get? l=some { cls:=.type "tuple",dict:=od,data:=.seq its nl,slots:=osl }:=Heap.get?_push_of_some _ g1
       have b1:=sub_tup_set
       have b2:=sub_tup_fs
       have b3:(Value.type "tuple" == Value.type "dict")=false:=by decide
       have l1:(s.heap.push (nS q)).IsTuple l its:=⟨_,g2,rfl,nl,rfl⟩
       unfold Builtin.«set.__init__» noKeywords Builtin.Frozenset.updateFrom
       generalize hPI:pyIter=PI
       wp_walk
       subst hPI
       refine wpAny_pyIter_tuple l1 ?_
       refine wpAny_bind (wpAny_runValue ?_)
       have lS:l<s.heap.objs.size:=Heap.lt_size g1
       have h3:A.in1.in1.in1.handled=none:=by simp [hh]
       have nI:l≠(s.heap.push (nS q)).objs.size:=by
        rw [Heap.size_push];exact Nat.ne_of_lt (Nat.lt_succ_of_lt lS)
       have Sf:s.heap.objs.size∉[(s.heap.push (nS q)).objs.size,l]:=by
        rw [Heap.size_push];simp only [List.mem_cons,List.mem_singleton,List.not_mem_nil,or_false,not_or]
        exact ⟨Nat.ne_of_lt (Nat.lt_succ_self _),Nat.ne_of_gt lS⟩
       have olds:Old s.heap ((s.heap.push (nS q)).push { cls:=.type "tuple_iterator",data:=.fields #[.ref l,.int 0 0] }) s.heap.objs.size:=fun b o _ e=>Heap.get?_push_of_some _ (Heap.get?_push_of_some _ e)
       refine lp _ _ _ _ _ ?un Sf ?wr olds (by rw [hq];exact Heap.get?_push_of_some _ gS) ((Walks.tuple h3 _ l nI its).toS) ⟨⟨_,Heap.get?_push_size _ rfl,rfl,rfl⟩,(l1.push _)⟩ ?fin
       case wr=>
        rw [Heap.size_push]
        exact Nat.le_succ _
       case un=>simp only [Around.in1_units];omega
       case fin=>
        intro s3 mv hS3
        obtain ⟨h2,ge,dr,k2,os⟩:=s3
        have eg:ge=s.gens:=mv.gens
        have ed:dr=s.drawn:=mv.drawn
        have eo:os=s.os:=mv.os
        subst eg;subst ed;subst eo
        show wpAny _ _ _ _ _ _
        refine wpAny_pure ?_
        show wpAny _ _ (ret Value.none) _ _ _
        refine wpAny_pure ⟨rfl,h2,k2,rfl,hS3,fun b o lt e=>?_⟩
        have n1:b≠s.heap.objs.size:=Nat.ne_of_lt lt
        have n2:b≠(s.heap.push (nS q)).objs.size:=by
         rw [Heap.size_push];exact Nat.ne_of_lt (Nat.lt_succ_of_lt lt)
        exact mv.heap b o (by simp only [List.mem_cons,List.mem_singleton,List.not_mem_nil,or_false,not_or];exact ⟨n1,n2⟩) (Heap.get?_push_of_some _ (Heap.get?_push_of_some _ e))
     · cases r2 with
       | error e=>exact hr2
       | ok f2=>
         cases f2 with
         | ret r=>
           obtain ⟨rfl,h2,k2,rfl,hS2,hk2⟩:=hr2
           repeat (any_goals (first | assumption | wp_step))
           exact h _ _ hS2 hk2
         | next=>exact hr2.elim
         | brk=>exact hr2.elim
         | cont=>exact hr2.elim
   | next=>exact hr.elim
   | brk=>exact hr.elim
   | cont=>exact hr.elim
theorem lp_tup {l:Addr} {its:Array Value} (key:Nat→List Int) (hu:A.units+8<cLine) (hi:∀ (i:Nat) v,its[i]? = some v→∃ b,v=.ref b∧b<s.heap.objs.size∧TK prog w s.heap (key i) b) (inj:∀ i j,i<j→j<its.size→key i≠key j) (hb:its.size≤6000) :
 LP prog w A s l its (fun h=>HasV w h s.heap.objs.size its.toList):=by
 intro B I s1 R St un Sf le olds gS W st fin
 refine set_loop W s.heap.objs.size Sf (h0:=s.heap) (z:=s.heap.objs.size) (Nat.le_refl _) (fun b hb'=>by rw [List.mem_singleton.mp hb'];exact le) key (fun j=>its.toList.getD j .none) (fun i v hv=>?_) (fun i v hv=>hi i v hv) inj hb (by omega) (its.size - 0) 0 _ (by omega) (Nat.zero_le _)
  st olds ⟨nS (!bt w),#[],0,_,gS,⟨rfl,rfl,rfl⟩,rfl,new_tbl _,new_gd⟩ fun s' mv hV _=>fin s' mv (hV.perm ?_)
 · rw [List.getD_eq_getElem?_getD,Array.getElem?_toList,hv];rfl
 · have:=Vk_perm its.toList
   rw [Array.length_toList] at this
   exact this
end
end STB
namespace SRV
open PySem PySem.W PySem.Calls
open PyProof.Rows hiding K SortedTo K_bubble K_mirror K_congr K_mirror_equal
def lexb:List Int→List Int→Bool
 | [],[]=>false
 | [],_::_=>true
 | _::_,[]=>false
 | a::as,b::bs=>if a=b then lexb as bs else decide (a<b)
theorem lexb_irr:∀ a,lexb a a=false
 | []=>rfl
 | a::as=>by rw [lexb,if_pos rfl];exact lexb_irr as
theorem lexb_trans:∀ {a b c:List Int},lexb a b=true→lexb b c=true→lexb a c=true
 | [],[],_,h,_=>by cases h
 | [],_::_,[],_,h=>by cases h
 | [],_::_,_::_,_,_=>rfl
 | _::_,[],_,h,_=>by cases h
 | _::_,_::_,[],_,h=>by cases h
 | a::as,b::bs,c::cs,h1,h2=>by
   rw [lexb] at h1 h2 ⊢
   by_cases e1:a=b
   · rw [if_pos e1] at h1
     subst e1
     by_cases e2:a=c
     · rw [if_pos e2] at h2 ⊢;exact lexb_trans h1 h2
     · rw [if_neg e2] at h2 ⊢;exact h2
   · rw [if_neg e1] at h1
     have l1:=of_decide_eq_true h1
     by_cases e2:b=c
     · subst e2;rw [if_neg e1];exact h1
     · rw [if_neg e2] at h2
       have l2:=of_decide_eq_true h2
       rw [if_neg (by omega)]
       exact decide_eq_true (by omega)
theorem lexb_total:∀ (a b:List Int),lexb a b=false→lexb b a=false→a=b
 | [],[],_,_=>rfl
 | [],_::_,h,_=>by cases h
 | _::_,[],_,h=>by cases h
 | a::as,b::bs,h1,h2=>by
   rw [lexb] at h1 h2
   by_cases e:a=b
   · subst e
     rw [if_pos rfl] at h1 h2
     rw [lexb_total as bs h1 h2]
   · rw [if_neg e] at h1
     rw [if_neg (fun x=>e x.symm)] at h2
     have:=of_decide_eq_false h1
     have:=of_decide_eq_false h2
     omega
def pos (D:List (List Int)) (x:List Int):Int:=(D.countP fun d=>lexb d x:Nat)
theorem pos_lt {D:List (List Int)} {x y:List Int} (hx:x∈D) (h:lexb x y=true):pos D x<pos D y:=by
 unfold pos
 have le:∀ (D:List (List Int)),(D.countP fun d=>lexb d x)≤D.countP fun d=>lexb d y:=fun D=>List.countP_mono_left fun d _ hd=>lexb_trans hd h
 have:(D.countP fun d=>lexb d x)<D.countP fun d=>lexb d y:=by
  induction D with
  | nil=>cases hx
  | cons d D ih=>
    rw [List.countP_cons,List.countP_cons]
    rcases List.mem_cons.mp hx with e | hx
    · subst e
      have:=le D
      rw [lexb_irr,if_neg (by simp),if_pos h]
      omega
    · have:=ih hx
      by_cases hd:lexb d x=true
      · rw [if_pos hd,if_pos (lexb_trans hd h)];omega
      · rw [if_neg hd];split <;> omega
 omega
theorem pos_is {D:List (List Int)} {x y:List Int} (hx:x∈D) (hy:y∈D):decide (pos D x<pos D y)=lexb x y:=by
 cases h:lexb x y with
 | true=>exact decide_eq_true (pos_lt hx h)
 | false=>
   refine decide_eq_false ?_
   cases h2:lexb y x with
   | true=>have:=pos_lt hy h2;omega
   | false=>rw [lexb_total x y h h2];omega
def datOf (h:Heap):Value→List Int
 | .ref a=>match h.get? a with
   | some o=>match o.data with
     | .seq xs _=>xs.toList.map numOf
     | _=>[]
   | none=>[]
 | _=>[]
def TI (h:Heap) (v:Value) (ns:List Int):Prop:=∃ a o its n,v=.ref a∧h.get? a=some o∧o.cls=.type "tuple"∧o.data=.seq (List.toArray its) n∧IntsAre its ns
theorem ints_num:∀ {its:List Value} {ns:List Int},IntsAre its ns→its.map numOf=ns
 | _,_,.nil=>rfl
 | _,_,.cons _ _ h=>by rw [List.map_cons,ints_num h];rfl
theorem TI.dat {h:Heap} {v:Value} {ns:List Int} (t:TI h v ns):datOf h v=ns:=by
 obtain ⟨a,o,its,n,rfl,ho,hc,hd,hI⟩:=t
 unfold datOf
 dsimp only
 rw [ho]
 dsimp only
 rw [hd]
 exact ints_num hI
section
variable {prog:Program} {w:World} {A:Around} {E:Value→Shared→Prop} {s:Shared}
theorem lex_ask {b fin:Bool} {Q:Bool→Shared→Prop}:∀ {xs ys:List Value} {ns ms:List Int} (i:Nat),IntsAre xs ns→IntsAre ys ms→(b=true→i=0∨True)→fin=decide (ns.length<ms.length)→Q (lexb ns ms) s→KatLex prog w A b fin Q (xs.zip ys) i s
 | _,_,_,_,i,.nil,.nil,_,e,h=>by
   subst e
   exact kat_nil h
 | _,_,_,_,i,.nil,.cons _ _ _,_,e,h=>by
   subst e
   refine kat_nil ?_
   rw [decide_eq_true (by simp)]
   exact h
 | _,_,_,_,i,.cons _ _ _,.nil,_,e,h=>by
   subst e
   refine kat_nil ?_
   rw [decide_eq_false (by simp)]
   exact h
 | _,_,_,_,i,.cons n _ hx,.cons m _ hy,_,e,h=>by
   refine kat_cons (wpAny_eqBool_int ?_)
   by_cases hn:n=m
   · rw [show (n == m)=true by simpa using hn]
     refine kat_yes (lex_ask (i+1) hx hy (fun _=>.inr trivial) (by rw [e,List.length_cons,List.length_cons];exact decide_eq_decide.mpr (by omega)) ?_)
     rw [lexb,if_pos hn] at h
     exact h
   · rw [show (n == m)=false by simpa using hn]
     rw [lexb,if_neg hn] at h
     refine kat_no ?_
     cases hb:(b&&i == 0) with
     | true=>exact oneLt_int h
     | false=>exact kat_one _ _ (PyProof.Rows.lt_int h)
theorem tup_lt {st:SortSt} {x y:Keyed} {b:Bool} {ns ms:List Int} {Q:Option Bool→SortSt→Prop} (hk:kindOf st=tuples' b) (hx:TI s.heap x.1 ns) (hy:TI s.heap y.1 ms) (h:Q (some (lexb ns ms)) st):wpS (model prog w) A E s (lt' x y) Q st:=by
 obtain ⟨a,o,its,n,e1,ho,hc,hd,hI⟩:=hx
 obtain ⟨a',o',its',n',e1',ho',hc',hd',hI'⟩:=hy
 rw [lt'_eq]
 refine wpS_bind (wpS_get ?_)
 rw [hk,e1,e1']
 refine wpS_bind (wpS_lift (wpAny_attempt (kat_lt ho hd ho' hd' (lex_ask 0 hI hI' (fun _=>.inr trivial) ?_ ⟨rfl,wpS_pure h⟩))))
 rw [List.size_toArray,List.size_toArray,hI.length,hI'.length]
abbrev kvT (s:Shared) (D:List (List Int)):KV where
 sh:=s
 kind:=tuples' true
 kv:=fun p=>pos D (datOf s.heap p.1)
 good:=fun p=>∃ ns∈D,TI s.heap p.1 ns
 lt:=fun {prog w A E st x y Q} hk hx hy h=>by
  obtain ⟨ns,m1,t1⟩:=hx
  obtain ⟨ms,m2,t2⟩:=hy
  rw [t1.dat,t2.dat,pos_is m1 m2] at h
  exact tup_lt hk t1 t2 h
theorem ti_firsts {h:Heap}:∀ {vs:List Value},(∀ v∈vs,∃ ns,ns≠[]∧TI h v ns)→∃ fs,KatTups h vs fs∧fs.length=vs.length∧∀ v∈fs,∃ k t,v=Value.int k t
 | [],_=>⟨[],trivial,rfl,fun v hv=>nomatch hv⟩
 | v::vs,g=>by
   obtain ⟨fs,a,b,c⟩:=ti_firsts (vs:=vs) fun v hv=>g v (List.mem_cons_of_mem _ hv)
   obtain ⟨ns,hne,x,o,its,n,rfl,ho,hc,hd,hI⟩:=g v List.mem_cons_self
   cases hI with
   | nil=>exact absurd rfl hne
   | cons k t hI=>
     refine ⟨.int k t::fs,KatTups.cons ho hc hd rfl a,by simp [b],fun w hw=>?_⟩
     rcases List.mem_cons.mp hw with rfl | hw
     · exact ⟨_,_,rfl⟩
     · exact c w hw
theorem t_core {a:Addr} {e1:Nat} {vs:List Value} {P:Fin→Shared→Prop} (hA:s.heap.get? a=some (seqObj "list" #[] e1)) (hT:∀ v∈vs,∃ ns,TI s.heap v ns) (hN:2≤vs.length→∀ v∈vs,datOf s.heap v≠[]) (hz:vs.length≤sizeLine)
 (h:∀ o:List Value,o.Perm vs→o.Pairwise (fun u v=>lexb (datOf s.heap v) (datOf s.heap u)=false)→P (.done (.ret .none)) { s with heap:=s.heap.update a (Obj.mapSeq fun _=>List.toArray o) }):wpAny (model prog w) A (SRT.core a e1 vs.toArray false) P E s:=by
 unfold SRT.core
 have fin:∀ z:SortSt,(arrOf z).Perm (pairsOf vs)→failedOf z=none→(arrOf z).toList.Pairwise (fun p q=>lexb (datOf s.heap q.1) (datOf s.heap p.1)=false)→wpAny (model prog w) A (do
  let tch:=(← seqEpoch a) != e1
  Builtin.List.listUpdate (.ref a) fun _=>if false then ((arrOf z).map (·.2)).reverse else (arrOf z).map (·.2)
  if let some e:=failedOf z then rule "list.sort.comparison-raised";throw e
  if tch then rule "list.sort.modified";raiseError "ValueError" "list modified during sort"
  ret .none) P E s:=fun z hp hf hs=>by
  have hlen:((arrOf z).map (·.2)).size≤sizeLine+1:=by rw [Array.size_map,hp.size_eq,pairsOf_size];omega
  rw [if_neg Bool.false_ne_true]
  refine wpAny_bind (seqEpoch_at hA rfl (wpAny_bind (listUpdate_at hA rfl ?_ (hsz2:=hlen))))
  rw [hf]
  simp only [bne_self_eq_false,Bool.false_eq_true,if_false]
  have hpl:=Array.perm_iff_toList_perm.mp hp
  rw [pairsOf_toList] at hpl
  have same:∀ p∈(arrOf z).toList,p.1=p.2:=fun p hp'=>by
   have:=hpl.mem_iff.mp hp'
   have zz:∀ (l:List Value),∀ p∈l.zip l,p.1=p.2:=fun l=>by
    induction l with
    | nil=>intro p hp;cases hp
    | cons x l ih=>
      intro p hp
      rcases List.mem_cons.mp hp with rfl | hp
      · rfl
      · exact ih p hp
   exact zz vs p this
  have e2:(arrOf z).map (·.2)=List.toArray ((arrOf z).toList.map (·.2)):=by
   apply Array.ext'
   simp
  rw [e2]
  refine wpAny_pure (h _ ?_ ?_)
  · have:=hpl.map (·.2)
    have e3:(vs.zip vs).map (·.2)=vs:=by
     rw [List.map_snd_zip]
     exact Nat.le_refl _
    rw [e3] at this
    exact this
  · rw [List.pairwise_map]
    refine List.Pairwise.imp_of_mem (fun {p q} hp hq hpq=>?_) hs
    rw [← same p hp,← same q hq]
    exact hpq
 rw [if_neg Bool.false_ne_true]
 by_cases h2:vs.toArray.size<2
 · rw [if_pos h2,if_pos h2]
   refine wpAny_bind (wpAny_pure ?_)
   dsimp only
   rw [StateT.run_pure]
   refine wpAny_bind (wpAny_pure (fin (SortSt.mk' general' _ #[] 7 none) (Array.Perm.refl _) rfl ?_))
   rw [List.size_toArray] at h2
   show (pairsOf vs).toList.Pairwise _
   rw [pairsOf_toList]
   match vs,h2 with
   | [],_=>exact .nil
   | [x],_=>exact List.pairwise_singleton _ _
   | x::y::r,g=>simp only [List.length_cons] at g;omega
 · rw [if_neg h2,if_neg h2]
   rw [List.size_toArray] at h2
   obtain ⟨fs,t1,t2,t3⟩:=ti_firsts (h:=s.heap) (vs:=vs) fun v hv=>by
    obtain ⟨ns,t⟩:=hT v hv
    refine ⟨ns,fun e=>hN (by omega) v hv ?_,t⟩
    rw [t.dat,e]
   refine wpAny_bind (kat_kind t1 (by omega) (T:=.type "int") (fun v hv=>?_) rfl ?_)
   · obtain ⟨k,t,rfl⟩:=t3 v hv;exact .now
   letI inst:KV:=kvT s (vs.map (datOf s.heap))
   have good:AllI (vs.toArray.zip vs.toArray):=fun p hp=>by
    have hp:p∈(pairsOf vs).toList:=hp
    rw [pairsOf_toList] at hp
    have hv:p.1∈vs:=(List.of_mem_zip hp).1
    obtain ⟨ns,t⟩:=hT p.1 hv
    exact ⟨ns,List.mem_map.mpr ⟨p.1,hv,t.dat⟩,t⟩
   refine wpAny_bind (wpAny_mono (s_all (st:=SortSt.mk' (tuples' true) (vs.toArray.zip vs.toArray) #[] 7 none)
    (Q:=fun _ z=>(arrOf z).Perm (pairsOf vs)∧failedOf z=none∧SortedTo (arrOf z) (pairsOf vs).size) good rfl rfl rfl rfl fun z g1 g2 g3=>⟨g1,g2,g3⟩) ?_ fun _ _ e=>e)
   rintro ⟨⟨⟩,z⟩ s' ⟨e,g1,g2,g3⟩
   have e:s'=s:=e
   rw [e]
   refine fin z g1 g2 ?_
   rw [List.pairwise_iff_getElem]
   intro i j hi hj hij
   have sz:(arrOf z).size=(pairsOf vs).size:=g1.size_eq
   have le:=g3 i j (by omega) (by rw [← sz];simpa using hj)
   rw [K_at hi,K_at hj] at le
   have le:pos (vs.map (datOf s.heap)) (datOf s.heap (arrOf z).toList[i].1)≤pos (vs.map (datOf s.heap)) (datOf s.heap (arrOf z).toList[j].1):=le
   have inD:∀ p∈(arrOf z).toList,datOf s.heap p.1∈vs.map (datOf s.heap):=fun p hp=>by
    have hp:=(Array.perm_iff_toList_perm.mp g1).mem_iff.mp hp
    rw [pairsOf_toList] at hp
    exact List.mem_map.mpr ⟨_,(List.of_mem_zip hp).1,rfl⟩
   rw [← pos_is (inD _ (List.getElem_mem hj)) (inD _ (List.getElem_mem hi))]
   exact decide_eq_false (by omega)
end
open PyProof.Rows hiding K SortedTo K_bubble K_mirror K_congr K_mirror_equal
section
variable {prog:Program} {w:World} {A:Around} {E:Value→Shared→Prop} {s:Shared}
theorem TI.keep {h h':Heap} {v:Value} {ns:List Int} (t:TI h v ns) (k:∀ a o,v=.ref a→h.get? a=some o→h'.get? a=some o):TI h' v ns:=by
 obtain ⟨a,o,its,n,rfl,ho,hc,hd,hI⟩:=t
 exact ⟨a,o,its,n,rfl,k a o rfl ho,hc,hd,hI⟩
def Up (h:Heap) (u v:Value):Prop:=lexb (datOf h v) (datOf h u)=false
theorem t_sort {a:Addr} {vs:List Value} {n:Nat} {P:Fin→Shared→Prop} (hA:s.heap.get? a=some (seqObj "list" vs.toArray n)) (hT:∀ v∈vs,∃ ns,TI s.heap v ns) (hne:∀ v∈vs,v≠.ref a) (hN:2≤vs.length→∀ v∈vs,datOf s.heap v≠[]) (hz:vs.length≤sizeLine)
 (h:∀ o:List Value,o.Perm vs→o.Pairwise (Up s.heap)→P (.done (.ret .none)) { s with heap:=sortedHeap s.heap a vs (List.toArray o) }):wpAny (model prog w) A (Builtin.«list.sort» ⟨[.ref a],[]⟩) P E s:=by
 rw [SRT.plain_core]
 refine SRT.w_start hA hz fun s' e1 e hA'=>?_
 have keep:∀ v∈vs,∀ ns,TI s.heap v ns→TI s'.heap v ns:=fun v hv ns t=>t.keep fun b o eb ho=>by
  subst e
  have hb:b≠a:=fun x=>hne v hv (by rw [eb,x])
  refine Heap.get?_push_of_some _ (Heap.get?_push_of_some _ ?_)
  rw [Heap.get?_update_ne _ _ _ _ hb]
  exact ho
 have dat:∀ v∈vs,datOf s'.heap v=datOf s.heap v:=fun v hv=>by
  obtain ⟨ns,t⟩:=hT v hv
  rw [t.dat,(keep v hv ns t).dat]
 refine t_core hA' (fun v hv=>?_) (fun h2 v hv=>?_) hz fun o p1 p2=>?_
 · obtain ⟨ns,t⟩:=hT v hv
   exact ⟨ns,keep v hv ns t⟩
 · rw [dat v hv]
   exact hN h2 v hv
 · have p3:o.Pairwise (Up s.heap):=p2.imp_of_mem fun {u v} hu hv g=>by
    unfold Up
    rw [← dat v (p1.mem_iff.mp hv),← dat u (p1.mem_iff.mp hu)]
    exact g
   have:=h o p1 p3
   subst e
   exact this
end
end SRV
namespace L2
open PySem PySem.Spec PyProof.Rows
section
variable {X:Cx}
theorem vals_rfs:∀ {ps:List (Addr×List Int)} {its:List Value},Vals (ps.map fun q=>V.ref q.1) its→its=ps.map fun q=>Value.ref q.1
 | [],_,.nil=>rfl
 | _::_,_,.cons h r=>by rw [List.map_cons,← vals_rfs r];cases h;rfl
theorem rfs_vals:∀ (ps:List (Addr×List Int)),Vals (ps.map fun q=>V.ref q.1) (ps.map fun q=>Value.ref q.1)
 | []=>.nil
 | _::ps=>.cons rfl (rfs_vals ps)
variable {e:Expr} {es:List Expr} {t:TA} {p pos:Pos}
end
end L2
namespace STB
open PySem SetTable PyProof.Rows
section
variable {prog:Program} {w:World} {A:Around} {E:Value→Shared→Prop} {s:Shared}
theorem hint_set {a:Addr} {Q:Bool→Shared→Prop} (hm:s.TypeIs (.ref a) "set") (h:Q false s):wpAny (model prog w) A (Builtin.List.listLengthHint (.ref a)) Q E s:=by
 unfold Builtin.List.listLengthHint
 refine wpAny_bind (wpAny_specialOf hm F.slot_set_len.lookup ?_)
 generalize hid:("set.__len__" : String)=id0
 wp_delta
 rw [show splitId id0=some ("set","__len__") from by subst hid;decide +kernel]
 subst hid
 refine wpAny_bind (wpAny_isInstance hm sub_set_self ?_)
 refine wpAny_ite_split (fun hab=>absurd hab (by decide)) (fun _=>?_)
 refine wpAny_ite_split (fun _=>?_) (fun hab=>absurd (by decide +kernel) hab)
 refine wpAny_bind (wpAny_typeOf hm ?_)
 exact wpAny_pure h
def EntAt (w:World) (a:Addr) (ep:Nat) (es:Array (Int×Value)) (i:Nat) (v:Value):Prop:=∃ e,(ord w a ep es)[i]? = some e∧e.2=v
theorem ents_perm {w:World} {a:Addr} {ep:Nat} {es:Array (Int×Value)} {t:SetTable} {vs:List Value} (G:Gd w es t vs) {acc:Array Value} (h:ItemsOf (EntAt w a ep es) acc es.size):acc.toList.Perm vs:=by
 have e:acc.toList=(ord w a ep es).toList.map (·.2):=by
  refine List.ext_getElem? fun i=>?_
  rw [Array.getElem?_toList,List.getElem?_map,Array.getElem?_toList]
  by_cases lt:i<acc.size
  · obtain ⟨e,e1,e2⟩:=h.2 i acc[i] (Array.getElem?_eq_getElem lt)
    rw [Array.getElem?_eq_getElem lt,e1,← e2];rfl
  · rw [Array.getElem?_eq_none (by omega),Array.getElem?_eq_none (by rw [ord_size,← h.1];omega)];rfl
 rw [e]
 exact ((ord_perm w a ep es).map _).trans G.perm
theorem extend_set {R:Result→Shared→Prop} {d:Addr} {es:Array (Int×Value)} {ep:Nat} {t:SetTable} {vs:List Value} (hh:A.handled=none) (hm:SetAt s.heap d es ep t) (hf:t.fits es.size=true) (G:Gd w es t vs) (hlen:es.size≤sizeLine) (S:Addr) (res:Value) (c₀:Nat) (hS:s.heap.get? S=some { cls:=.type "list",data:=.seq #[] c₀ })
 (hR:∀ h' tk acc' c',(∀ b o,b≠S→s.heap.get? b=some o→h'.get? b=some o)→h'.get? S=some { cls:=.type "list",dict:=none,data:=.seq acc' c',slots:=#[] } →
   acc'.toList.Perm vs→R (.ok (.ret res)) { s with heap:=h',toks:=tk }) :
 wpAny (model prog w) A.in1 (Builtin.List.listExtendWith (.ref S) (.ref d) res)
  (fun fin s'=>match fin with | .done f=>R (.ok f) s' | .again c'=>c'.quiet=true∧codeAny (model prog w) A c' R s') (fun e s'=>R (.error e) s') s:=by
 obtain ⟨od,hod,hxd,hdd⟩:=id hm
 have hSd:S≠d:=fun e=>by
  rw [e,hod] at hS
  have:=Option.some.inj hS
  rw [this] at hdd
  cases hdd
 have hSlt:S<s.heap.objs.size:=Heap.lt_size hS
 have hdlt:d<s.heap.objs.size:=Heap.lt_size hod
 have hSI:S≠s.heap.objs.size:=Nat.ne_of_lt hSlt
 have hdI:d≠s.heap.objs.size:=Nat.ne_of_lt hdlt
 have hSf:S∉[s.heap.objs.size,d]:=fun hmm=>by
  rcases List.mem_cons.mp hmm with e | hmm
  · exact hSI e
  · exact hSd (List.mem_singleton.mp hmm)
 have W:=(walk_set (prog:=prog) (w:=w) (A:=A.in1) (ep:=ep) hh s.heap.objs.size d hdI hf G).toS
 have key:∀ (h:Heap) (c₁ tk:Nat),IsSI h s.heap.objs.size d 0 0 es.size ep→SetAt h d es ep t→(∀ b o,b≠S→s.heap.get? b=some o→h.get? b=some o) →
  h.get? S=some { cls:=.type "list",data:=.seq #[] c₁ }→codeAny (model prog w) A (.builtin "list.extend.loop" ⟨[.ref S,.ref s.heap.objs.size,res],[]⟩) R { s with heap:=h,toks:=tk }:=by
  intro h c₁ tk hit hda hk hS₁
  have st0:sla w t 0=0:=by unfold sla plc;split <;> rfl
  refine codeAny_extend_loopS W hlen S hSf res es.size 0 _ #[] c₁ rfl (Nat.zero_le _) ⟨by rw [st0];exact hit,hda⟩ hS₁ (ItemsOf.nil _) fun s' acc' c' hmv hS' hacc=>?_
  rw [Moved.eq_with hmv]
  refine hR s'.heap s'.toks acc' c' (fun b o hb e=>hmv.heap b o (fun hmem=>?_) (hk b o hb e)) hS' (ents_perm G hacc)
  rcases List.mem_cons.mp hmem with e' | hmem
  · exact hb e'
  · exact absurd (Heap.lt_size e) (by rw [List.mem_singleton.mp hmem];exact Nat.lt_irrefl _)
 unfold Builtin.List.listExtendWith
 refine wpAny_bind (wpAny_typeOf (T:="set") hm.typeIs ?_)
 have h1:Builtin.List.listSameRef (.ref S) (.ref d)=false:=by simp [Builtin.List.listSameRef,hSd]
 have h2:(Value.type "set" == Value.type "list")=false:=by decide
 have h3:(Value.type "set" == Value.type "tuple")=false:=by decide
 simp only [h1,h2,h3,Bool.or_false,Bool.false_eq_true,if_false]
 refine wpAny_bind (iter_set hm hf G ?_)
 generalize hO:({ cls:=.type "set_iterator",data:=.fields #[.int 0 0,.int 0 0,.ref d,.int es.size 0,.int ep 0] }:Obj)=O
 have keep:∀ b o,s.heap.get? b=some o→(s.heap.push O).get? b=some o:=fun b o e=>Heap.get?_push_of_some _ e
 have hm₁:=hm.at fun o e=>keep _ _ e
 refine wpAny_bind (wpAny_holding (hint_set (SetAt.typeIs (s:={ s with heap:=s.heap.push O }) hm₁) ?_))
 have hit₁:IsSI (s.heap.push O) s.heap.objs.size d 0 0 es.size ep:=⟨_,Heap.get?_push_size _ (by rw [← hO];rfl),by rw [← hO],by rw [← hO];rfl⟩
 have hS₁:=keep _ _ hS
 refine wpAny_ite_split (fun _=>?_) (fun _=>wpAny_pure ⟨plainId_quiet F.plain_extend_loop _,key _ c₀ _ hit₁ hm₁ (fun b o _ e=>keep _ _ e) hS₁⟩)
 refine wpAny_bind (wpAny_rule ?_)
 refine wpAny_bind ?_
 show wpAny _ _ (updateSeq S (·.push .none) >>= fun _=>updateSeq S (·.pop)) _ _ _
 refine wpAny_bind (wpAny_updateSeq hS₁ rfl ?_)
 have hS₂:=Heap.get?_update_self (Obj.mapSeq (·.push Value.none)) hS₁ rfl
 refine wpAny_updateSeq (hz:=by seq_fits) hS₂ rfl ?_
 have hS₃:=Heap.get?_update_self (Obj.mapSeq (·.pop)) hS₂ rfl
 refine wpAny_pure ⟨plainId_quiet F.plain_extend_loop _,key _ _ _ (hit₁.at fun o e=>?_) (hm₁.at fun o e=>?_) (fun b o hb e=>?_) hS₃⟩
 · exact (Heap.get?_update_other _ _ hSI).trans ((Heap.get?_update_other _ _ hSI).trans e)
 · exact (Heap.get?_update_other _ _ hSd).trans ((Heap.get?_update_other _ _ hSd).trans e)
 · exact (Heap.get?_update_other _ _ (Ne.symm hb)).trans ((Heap.get?_update_other _ _ (Ne.symm hb)).trans (keep b o e))
theorem collect_set {d:Addr} {vs:List Value} {Q:List Value→Shared→Prop} (hh:A.handled=none) (hm:HasV w s.heap d vs) (hlen:vs.length≤sizeLine)
 (h:∀ h' tk acc,(∀ b o,s.heap.get? b=some o→h'.get? b=some o)→s.heap.objs.size<h'.objs.size→acc.Perm vs→Q acc { s with heap:=h',toks:=tk }):wpAny (model prog w) A (collect (.ref d)) Q E s:=by
 obtain ⟨es,ep,t,S,hf,G⟩:=hm
 have sz:es.size=vs.length:=by rw [← G.perm.length_eq,List.length_map,Array.length_toList]
 unfold collect
 refine wpAny_bind (wpAny_runValue (codeAny_builtin F.entry_proto_collect ?_))
 rw [Around.under_plainId F.plain_proto_collect _]
 show wpAny _ A.in1 (newList [] >>= fun l=>again (.builtin "list.__iadd__" ⟨[l,.ref d],[]⟩)) _ _ s
 refine wpAny_bind (wpAny_newObj_type ?_)
 refine wpAny_pure ⟨plainId_quiet F.plain_list_iadd _,codeAny_builtin F.entry_list_iadd ?_⟩
 rw [Around.under_plainId F.plain_list_iadd _]
 have hN:(s.heap.push { cls:=.type "list",data:=.seq ([]:List Value).toArray }).get? s.heap.objs.size=some { cls:=.type "list",data:=.seq ([]:List Value).toArray }:=Heap.get?_push_size _ rfl
 show wpAny _ A.in1 (Builtin.List.listExtendWith (.ref s.heap.objs.size) (.ref d) (.ref s.heap.objs.size)) _ _ _
 refine extend_set (R:=fun r s'=>match r with
  | .ok (.ret v)=>wpAny (model prog w) A (match v with
    | .ref a=>do
      let z ← load a
      match z.data with
      | .seq xs _=>pure xs.toList
      | _=>unsupported "internal:collect"
    | _=>unsupported "internal:collect") Q E s'
  | .ok _=>False
  | .error e=>E e s') hh (S.at fun o e=>Heap.get?_push_of_some _ e) hf G (by omega) s.heap.objs.size (.ref s.heap.objs.size) 0 hN fun h' tk acc' c' hk hS' hacc=>?_
 refine wpAny_bind (wpAny_load hS' ?_)
 exact wpAny_pure (h h' tk acc'.toList (fun b o e=>hk b o (Nat.ne_of_lt (Heap.lt_size e)) (Heap.get?_push_of_some _ e)) (Heap.lt_size hS') hacc)
open SRT L2 in
open SRT L2 SRV in
theorem sorted_setT {d:Addr} {vs:List Value} {Q:Value→Shared→Prop} (hh:A.handled=none) (hm:HasV w s.heap d vs) (hI:∀ v∈vs,∃ ns,TI s.heap v ns) (hN:2≤vs.length→∀ v∈vs,datOf s.heap v≠[]) (hlen:vs.length≤sizeLine)
 (h:∀ h' tk l (r:List Value) e,(∀ b o,s.heap.get? b=some o→h'.get? b=some o)→s.heap.objs.size≤l→h'.get? l=some (seqObj "list" r.toArray e)→r.Perm vs→r.Pairwise (SRV.Up s.heap)→Q (.ref l) { s with heap:=h',toks:=tk }) :
 wpAny (model prog w) A (call (.builtin "sorted") [.ref d]) Q E s:=by
 refine Calls.call_function_entry kind_sorted plain_sorted entry_sorted (args_sorted1 _) ?_
 unfold Builtin.«sorted»
 refine wpAny_bind (m:=checkCount "sorted" 1 1 _) (wpAny_pure (wpAny_bind (collect_set (A:=A.in1) hh hm hlen fun h' tk acc keep hsz hacc=>wpAny_bind (wpAny_newList ?_ ?hs))))
 case hs=>rw [hacc.length_eq];exact hlen
 have hz:acc.length≤sizeLine:=by rw [hacc.length_eq];exact hlen
 have hL:(h'.push (seqObj "list" acc.toArray 0)).get? h'.objs.size=some (seqObj "list" acc.toArray 0):=Heap.get?_push_size _ rfl
 show wpAny _ _ _ _ _ { s with heap:=h'.push (seqObj "list" acc.toArray 0),toks:=tk }
 have kp:∀ v ns,TI s.heap v ns→TI (h'.push (seqObj "list" acc.toArray 0)) v ns:=fun v ns t=>t.keep fun b o _ e=>Heap.get?_push_of_some _ (keep b o e)
 have dat:∀ v∈vs,datOf (h'.push (seqObj "list" acc.toArray 0)) v=datOf s.heap v:=fun v hv=>by
  obtain ⟨ns,t⟩:=hI v hv
  rw [t.dat,(kp v ns t).dat]
 refine wpAny_bind (wpAny_holding (wpAny_call_entry slot_list_sort ⟨_,hL,rfl⟩ entry_list_sort (t_sort hL (fun v hv=>?_) (fun v hv=>?_) (fun h2 v hv=>?_) hz fun r g1 g2=>⟨_,rfl,wpAny_pure ⟨_,rfl,?_⟩⟩) (args_list_sort _)))
 · obtain ⟨ns,t⟩:=hI v (hacc.mem_iff.mp hv)
   exact ⟨ns,kp v ns t⟩
 · intro e
   obtain ⟨ns,b,ob,its,k,e2,e3,_⟩:=hI v (hacc.mem_iff.mp hv)
   rw [e2] at e
   cases e
   exact absurd (Heap.lt_size (keep _ _ e3)) (Nat.lt_irrefl _)
 · have:=hN (by rw [← hacc.length_eq];exact h2) v (hacc.mem_iff.mp hv)
   show datOf (h'.push (seqObj "list" acc.toArray 0)) v≠[]
   rw [dat v (hacc.mem_iff.mp hv)]
   exact this
 · have g3:r.Pairwise (SRV.Up s.heap):=g2.imp_of_mem fun {u v} hu hv g=>by
    unfold SRV.Up at g ⊢
    rw [← dat v (hacc.mem_iff.mp (g1.mem_iff.mp hv)),← dat u (hacc.mem_iff.mp (g1.mem_iff.mp hu))]
    exact g
   obtain ⟨e,he⟩:=sortedHeap_at (out:=r.toArray) hL
   refine h _ tk _ r e (fun b o eb=>?_) (Nat.le_of_lt hsz) he (g1.trans hacc) g3
   have e1:=keep b o eb
   have e2:=Heap.get?_push_of_some (seqObj "list" acc.toArray 0) e1
   have hb:b≠h'.objs.size:=Nat.ne_of_lt (Heap.lt_size e1)
   rw [sortedHeap_old hb (Heap.lt_size e2)]
   exact e2
end
end STB
namespace L2
open PySem PySem.Spec PyProof.Rows
theorem items_of {prog:Program} {w:World}:∀ {its:List Value} {ns:List Int},IntsAre its ns→ItemsAre (intKind prog w) ns its
 | _,_,.nil=>.nil
 | _,_,.cons n t h=>.cons (intKind_is _ _ _ _) (items_of h)
section
variable {X:Cx}
def SqE (H:Hp) (l:Addr) (us:List V):Prop:=H l=some (.lst us)∨H l=some (.tup us)
variable {e:Expr} {es:List Expr} {t:TA} {p p2 pos pos2:Pos}
theorem pe_nest {r1 r2 rr:List V→Hp→VK→Prop} (hc1:CallR X (.type "set") r1) (hc2:CallR X (.builtin "sorted") r2) (cv:∀ vs H Q,rr vs H Q→r1 vs H (fun x H2=>r2 [x] H2 Q))
 (hg:Gl X "set") (hm:X.mg "set" = none) (hg2:Gl X "sorted") (hm2:X.mg "sorted" = none) (ha:PA X (e::es) t) (he:starEach (e::es) X.env=(false,eval e X.env)::starEach es X.env) (hpl:(backTo pos (starEach es X.env)).any (·.1)=false) :
 PE X (.Call (.Name "sorted" p2) [.Call (.Name "set" p) (e::es) [] pos] [] pos2) (tCB rr t):=by
 intro pins s σ H Q I h
 have p1:PE X (.Call (.Name "set" p) (e::es) [] pos) (fun σ' H' Q'=>(t σ' H' fun vs H1=>rr vs H1 Q)∧∀ x H2,r2 [x] H2 Q→Q' x H2):=by
  intro pins s σ H Q' I h
  refine wpAny_Call_Name_kw (ld_blt I hg hm boot_set ?_ (by decide) (by decide))
  refine callWith_type1 (thn (ha pos pins s σ H _ I h.1) fun us s1 ⟨vs,H1,I1,r1,q1⟩=>?_) he hpl
  refine thn (hc1 pins s1 σ H1 vs us _ I1 r1 (cv _ _ _ q1)) fun u s2 ⟨v,H2,I2,rv,q2⟩=>⟨v,H2,I2,rv,h.2 v H2 q2⟩
 refine wpAny_Call_Name_kw (ld_blt I hg2 hm2 boot_sorted' ?_ (by decide) (by decide))
 refine callWith_builtin1 (thn (pa_cons p1 pa_nil rfl pos2 pins s σ H (fun xs H2=>∃ x,xs=[x]∧r2 [x] H2 Q) I ⟨h,fun x H2 q=>⟨x,rfl,q⟩⟩) fun us s1 ⟨vs,H1,I1,rr1,q1⟩=>?_) rfl rfl
 obtain ⟨x,rfl,q⟩:=q1
 exact hc2 pins s1 σ H1 _ us Q I1 rr1 q
def rSetW (w:World):List V→Hp→VK→Prop:=fun vs H Q=>match vs with
 | [.ref l]=>∃ ps:List (Addr×List Int),SqE H l (ps.map fun q=>V.ref q.1)∧(∀ q∈ps,H q.1=some (.tup (q.2.map V.int)))∧(ps.map (·.2)).Nodup∧ps.length≤6000∧∀ p,H p=none→Q (.ref p) (upd H p (.ext fun h=>STB.HasV w h p (ps.map fun q=>Value.ref q.1)))
 | _=>False
theorem call_setW (hu:X.A.units+64<cLine) (hc:X.calm=true):CallR X (.type "set") (rSetW X.w):=by
 intro pins s σ H xs us Q I r h
 unfold rSetW at h
 split at h
 · rename_i l
   obtain ⟨ps,hl,hd,nd,hn,q⟩:=h
   obtain ⟨u,rfl,rx⟩:=vals1 r
   cases rx
   have fin:∀ (h2:Heap) (k2:Nat),STB.HasV X.w h2 s.heap.objs.size (ps.map fun q=>Value.ref q.1)→(∀ b o,b<s.heap.objs.size→s.heap.get? b=some o→h2.get? b=some o)→EP X pins σ Q (.ref s.heap.objs.size) { s with heap:=h2,toks:=k2 }:=fun h2 k2 hS hk=>by
    have I2:Inv X pins σ (upd H s.heap.objs.size (.ext fun h=>STB.HasV X.w h s.heap.objs.size (ps.map fun q=>Value.ref q.1))) { s with heap:=h2,toks:=k2 }:=
     I.laid (t':=k2) (fun b o e=>hk b o (Heap.lt_size e) e) (Nat.le_refl _) (show ObjOk X.prog X.w _ _ _ (.ext fun h=>STB.HasV X.w h s.heap.objs.size (ps.map fun q=>Value.ref q.1)) from ⟨hS,by obtain ⟨es,ep,t,⟨o,e,_⟩,_⟩:=hS;exact ⟨o,e⟩,fun h1 h3 hv k=>hv.at k⟩)
    exact ⟨.ref s.heap.objs.size,_,I2,rfl,q _ (I.hok.fresh (Nat.le_refl _))⟩
   have tk:∀ (i:Nat) (v:Value),(ps.map fun q=>Value.ref q.1)[i]? = some v→∃ b,v=.ref b∧b<s.heap.objs.size∧STB.TK X.prog X.w s.heap ((ps.map (·.2)).getD i []) b:=fun i v hv=>by
    rw [List.getElem?_map] at hv
    cases hx:ps[i]? with
    | none=>rw [hx] at hv;cases hv
    | some x=>
      rw [hx] at hv
      cases hv
      obtain ⟨ts,rv,pl,_⟩:=I.tuple (SqT.of (K:=X.K) (hd x (List.mem_of_getElem? hx)))
      obtain ⟨o,g1,g2,m,g3⟩:=id pl
      refine ⟨x.1,rfl,Heap.lt_size g1,o,ts.toArray,m,g1,g2,g3,?_⟩
      have:(ps.map (·.2)).getD i []=x.2:=by rw [List.getD_eq_getElem?_getD,List.getElem?_map,hx];rfl
      rw [this]
      exact items_of (intsAre_of rv)
   have inj:∀ i j,i<j→j<ps.length→(ps.map (·.2)).getD i []≠(ps.map (·.2)).getD j []:=fun i j hij hj=>by
    have hj':j<(ps.map (·.2)).length:=by rw [List.length_map];exact hj
    rw [List.getD_eq_getElem?_getD,List.getD_eq_getElem?_getD,List.getElem?_eq_getElem hj',List.getElem?_eq_getElem (Nat.lt_trans hij hj')]
    exact fun z=>by
     have:=(List.getElem?_inj (Nat.lt_trans hij hj') nd).mp (by rw [List.getElem?_eq_getElem hj',List.getElem?_eq_getElem (Nat.lt_trans hij hj')];exact congrArg some z)
     omega
   rcases hl with hl | hl
   · obtain ⟨its,n,r',ho,hz⟩:=I.lst hl
     obtain rfl:=vals_rfs r'
     exact STB.set_from_list (its:=(ps.map fun q:Addr×List Int=>Value.ref q.1).toArray) (I.ok.hd hc) ⟨_,ho,rfl,n,rfl⟩ (STB.lp_tup (fun i=>(ps.map (·.2)).getD i []) (by omega) (fun i v hv=>tk i v (by simpa using hv)) (fun i j hij hj=>inj i j hij (by simpa using hj)) (by simpa using hn)) fin
   · obtain ⟨ts,rv,pl,_⟩:=I.tuple (SqT.of (K:=X.K) hl)
     obtain rfl:=vals_rfs rv
     exact STB.set_from_tup (its:=(ps.map fun q:Addr×List Int=>Value.ref q.1).toArray) (I.ok.hd hc) pl (STB.lp_tup (fun i=>(ps.map (·.2)).getD i []) (by omega) (fun i v hv=>tk i v (by simpa using hv)) (fun i j hij hj=>inj i j hij (by simpa using hj)) (by simpa using hn)) fin
 · exact h.elim
def rSortW (w:World):List V→Hp→VK→Prop:=fun xs H Q=>match xs with
 | [.ref d]=>∃ ps:List (Addr×List Int),H d=some (.ext fun h=>STB.HasV w h d (ps.map fun q=>Value.ref q.1))∧(∀ q∈ps,H q.1=some (.tup (q.2.map V.int)))∧(2≤ps.length→∀ q∈ps,q.2≠[])∧ps.length≤6000∧∀ l ps',H l=none→List.Perm ps' ps→ps'.Pairwise (fun a b=>SRV.lexb b.2 a.2=false)→Q (.ref l) (upd H l (.lst (ps'.map fun q=>V.ref q.1)))
 | _=>False
theorem call_sortW (hc:X.calm=true):CallR X (.builtin "sorted") (rSortW X.w):=by
 intro pins s σ H xs us Q I r h
 unfold rSortW at h
 split at h
 · rename_i d
   obtain ⟨ps,e,hd,hne,hn,q⟩:=h
   obtain ⟨u,rfl,rx⟩:=vals1 r
   cases rx
   obtain ⟨hv,_⟩:=I.hok d _ e
   have hz2:ps.length≤sizeLine:=by rw [sizeLine_eq];omega
   have ti:∀ x∈ps,SRV.TI s.heap (.ref x.1) x.2:=fun x hx=>by
    obtain ⟨its,rv,pl,hz⟩:=I.tuple (SqT.of (K:=X.K) (hd x hx))
    obtain ⟨o,ho,hc,n,hdd⟩:=id pl
    exact ⟨_,o,its,n,rfl,ho,hc,hdd,intsAre_of rv⟩
   refine STB.sorted_setT (I.ok.hd hc) hv (fun v hv=>?_) (fun h2 v hv=>?_) (by rw [List.length_map];exact hz2) fun h' tk l out e' keep hl hr a1 a2=>?_
   · obtain ⟨x,hx,rfl⟩:=List.mem_map.mp hv
     exact ⟨_,ti x hx⟩
   · obtain ⟨x,hx,rfl⟩:=List.mem_map.mp hv
     rw [(ti x hx).dat]
     exact hne (by rw [List.length_map] at h2;exact h2) x hx
   · let g:Value→Addr×List Int:=fun v=>match v with
      | .ref a=>(a,SRV.datOf s.heap (.ref a))
      | _=>(0,[])
     have gr:∀ x∈ps,g (.ref x.1)=x:=fun x hx=>by
      show (x.1,SRV.datOf s.heap (.ref x.1))=x
      rw [(ti x hx).dat]
     have perm:(out.map g).Perm ps:=by
      have:=a1.map g
      rw [List.map_map] at this
      rw [show ps.map (g ∘ fun q=>Value.ref q.1)=ps from by
       have:ps.map (g ∘ fun q=>Value.ref q.1)=ps.map id:=List.map_congr_left fun x hx=>gr x hx
       rw [this,List.map_id]] at this
      exact this
     have back:out=(out.map g).map fun q=>Value.ref q.1:=by
      rw [List.map_map]
      have:out.map ((fun q=>Value.ref q.1) ∘ g)=out.map id:=List.map_congr_left fun v hv=>by
       obtain ⟨x,hx,rfl⟩:=List.mem_map.mp (a1.mem_iff.mp hv)
       show Value.ref (g (.ref x.1)).1=_
       rw [gr x hx]
       rfl
      rw [this,List.map_id]
     have up:(out.map g).Pairwise (fun a b=>SRV.lexb b.2 a.2=false):=by
      rw [List.pairwise_map]
      refine a2.imp_of_mem fun {u v} hu hv h=>?_
      obtain ⟨x,hx,rfl⟩:=List.mem_map.mp (a1.mem_iff.mp hu)
      obtain ⟨y,hy,rfl⟩:=List.mem_map.mp (a1.mem_iff.mp hv)
      exact h
     generalize out.map g=qs at perm back up
     subst back
     refine ⟨.ref l,_,I.laid (t':=tk) (a:=l) (o:=.lst (qs.map fun q=>V.ref q.1)) keep hl ?_,rfl,q _ qs (I.hok.fresh hl) perm up⟩
     refine ⟨?_,_,e',rfs_vals qs,hr⟩
     rw [List.length_map,perm.length_eq]
     exact hz2
 · exact h.elim
def rST:List V→Hp→VK→Prop:=fun vs H Q=>match vs with
 | [.ref l]=>∃ ps:List (Addr×List Int),SqE H l (ps.map fun q=>V.ref q.1)∧(∀ q∈ps,H q.1=some (.tup (q.2.map V.int)))∧(ps.map (·.2)).Nodup∧(2≤ps.length→∀ q∈ps,q.2≠[])∧ps.length≤6000 ∧
   ∀ p o q ps',H p=none→H q=none→q≠p→List.Perm ps' ps→ps'.Pairwise (fun a b=>SRV.lexb b.2 a.2=false)→Q (.ref q) (upd (upd H p o) q (.lst (ps'.map fun q=>V.ref q.1)))
 | _=>False
theorem rST_conv (w:World):∀ vs H Q,rST vs H Q→rSetW w vs H (fun x H2=>rSortW w [x] H2 Q):=by
 intro vs H Q h
 unfold rST at h
 split at h
 · rename_i l
   obtain ⟨ps,h1,h2,h3,h4,h5,h6⟩:=h
   refine ⟨ps,h1,h2,h3,h5,fun p hp=>⟨ps,upd_same,fun q hq=>?_,h4,h5,fun q ps' hq n1 n2=>?_⟩⟩
   · have hne:q.1≠p:=fun z=>by have:=h2 q hq;rw [z,hp] at this;cases this
     rw [upd_ne hne]
     exact h2 q hq
   · have hne:q≠p:=fun z=>by rw [z,upd_same] at hq;cases hq
     exact h6 p _ q ps' hp (by rw [upd_ne hne] at hq;exact hq) hne n1 n2
 · exact h.elim
theorem pcb_st (hu:X.A.units+64<cLine) (hc:X.calm=true) (hg:Gl X "set") (hm:X.mg "set" = none) (hg2:Gl X "sorted") (hm2:X.mg "sorted" = none) (ha:PA X (e::es) t) (he:starEach (e::es) X.env=(false,eval e X.env)::starEach es X.env) (hpl:(backTo pos (starEach es X.env)).any (·.1)=false) :
 PE X (.Call (.Name "sorted" p2) [.Call (.Name "set" p) (e::es) [] pos] [] pos2) (tCB rST t):=pe_nest (call_setW hu hc) (call_sortW hc) (rST_conv X.w) hg hm hg2 hm2 ha he hpl
theorem zcb_st (hu:X.A.units+64<cLine) (hc:X.calm=true) (hg:Gl X "set") (hm:X.mg "set" = none) (hg2:Gl X "sorted") (hm2:X.mg "sorted" = none) (ha:ZA X (e::es) t) (he:starEach (e::es) X.env=(false,eval e X.env)::starEach es X.env) (hpl:(backTo pos (starEach es X.env)).any (·.1)=false) :
 ZE X (.Call (.Name "sorted" p2) [.Call (.Name "set" p) (e::es) [] pos] [] pos2) (tCB rST t):=by with_unfolding_all exact pcb_st hu hc hg hm hg2 hm2 ha he hpl
end
end L2
namespace K31
open PySem L2 MRow M27 M30
def lt2 (p p':Int×Int):Prop:=p.1<p'.1∨(p.1=p'.1∧p.2<p'.2)
theorem gl_up (ns:List Int) (q:Int) (m:Nat):∀ A,(gl ns q m A).Pairwise lt2
 | 0=>.nil
 | A+1=>by
   rw [gl_succ]
   split
   · refine List.pairwise_append.mpr ⟨gl_up ns q m A,List.pairwise_singleton _ _,fun p hp p' hp'=>?_⟩
     obtain ⟨a,ha,_,rfl⟩:=gl_mem.mp hp
     rw [List.mem_singleton.mp hp']
     exact .inr ⟨rfl,by show (a:Int)<A;omega⟩
   · rw [List.append_nil]
     exact gl_up ns q m A
theorem TL_up (ns:List Int) (q:Int):∀ M,(TL ns q M).Pairwise lt2
 | 0=>.nil
 | M+1=>by
   rw [TL_succ]
   refine List.pairwise_append.mpr ⟨TL_up ns q M,gl_up ns q _ _,fun p hp p' hp'=>.inl ?_⟩
   obtain ⟨m,a,_,hm,_,_,rfl⟩:=TL_mem.mp hp
   obtain ⟨a',_,_,rfl⟩:=gl_mem.mp hp'
   show (m:Int)<((M+1:Nat):Int)
   omega
theorem TL_good {ns:List Int} {q:Int} {M:Nat} {p:Int×Int} (h:p∈TL ns q M):∃ m a:Nat,p=((m:Int),(a:Int))∧1≤m∧m≤M∧a<m∧Hold ns m a q∧a+2*m<ns.length∧∀ s r:Int,(s,r)∈TL ns q M→s<m→¬ ((m:Int) % s=0∧(a:Int) % s=r):=by
 obtain ⟨m,a,m1,hm,ha,hg,rfl⟩:=TL_mem.mp h
 unfold good at hg
 obtain ⟨h1,h2⟩:=Bool.and_eq_true_iff.mp hg
 obtain ⟨h1,h3⟩:=Bool.and_eq_true_iff.mp h1
 refine ⟨m,a,rfl,m1,hm,ha,(dv_bad m1 ha).mp h1,of_decide_eq_true h3,fun s r hs hsm ⟨e1,e2⟩=>?_⟩
 obtain ⟨s',r',s1,_,hr,hg',e⟩:=TL_mem.mp hs
 have es:s=(s':Int):=congrArg Prod.fst e
 have er:r=(r':Int):=congrArg Prod.snd e
 subst es er
 unfold good at hg'
 have hd:=(Bool.and_eq_true_iff.mp (Bool.and_eq_true_iff.mp hg').1).1
 have:low ns q m a=true:=low_iff.mpr ⟨s',by omega,s1,by exact_mod_cast e1,by
  have:a % s'=r':=by exact_mod_cast e2
  rw [this]
  exact hd⟩
 rw [this] at h2
 cases h2
theorem TL_comes {ns:List Int} {q:Int} {M m a:Nat} (m1:1≤m) (hm:m≤M) (ha:a<m) (h:Hold ns m a q) (hl:a+2*m<ns.length):cm (TL ns q M) m a=true:=by
 have key:∀ k,k≤m→1≤k→m % k=0→dv ns q k (a % k)=true→∃ s,1≤s∧s≤m∧m % s=0∧good ns q s (a % s)=true:=by
  intro k
  induction k using Nat.strongRecOn with
  | _ k ih=>
    intro hk k1 hmk hd
    by_cases hlow:low ns q k (a % k)=true
    · obtain ⟨s,hs,s1,hks,hds⟩:=low_iff.mp hlow
      have hms:m % s=0:=Nat.mod_eq_zero_of_dvd (Nat.dvd_trans (Nat.dvd_of_mod_eq_zero hks) (Nat.dvd_of_mod_eq_zero hmk))
      rw [mod_mod hks] at hds
      exact ih s hs (by omega) s1 hms hds
    · refine ⟨k,k1,hk,hmk,?_⟩
      unfold good
      have hak:a % k<k:=Nat.mod_lt _ (by omega)
      have hale:a % k≤a:=Nat.mod_le _ _
      rw [hd,decide_eq_true (show a % k+2*k<ns.length by
       rcases Nat.lt_or_ge k m with h1 | h1
       · obtain ⟨c,hc⟩:=Nat.dvd_of_mod_eq_zero hmk
         have:2≤c:=by
          rcases c with _ | _ | c
          · omega
          · omega
          · omega
         have:2*k≤m:=by rw [hc,Nat.mul_comm];exact Nat.mul_le_mul_left _ this
         omega
       · omega)]
      simpa using hlow
 obtain ⟨s,s1,hs,hms,hg⟩:=key m (Nat.le_refl m) m1 (Nat.mod_self m) (by rw [Nat.mod_eq_of_lt ha];exact (dv_bad m1 ha).mpr h)
 unfold cm
 rw [List.any_eq_true]
 refine ⟨((s:Int),((a % s:Nat):Int)),TL_mem.mpr ⟨s,a % s,s1,by omega,Nat.mod_lt _ (by omega),hg,rfl⟩,?_⟩
 rw [decide_eq_true (show (m:Int) % (s:Int)=0 by exact_mod_cast hms),decide_eq_true (show (a:Int) % (s:Int)=((a % s:Nat):Int) by exact_mod_cast rfl)]
 rfl
section
variable {P:Program} {w:World} {K:PySem.W.Frag} {mg:Str→Option Value} {base:Heap} {f:Addr} {fd:FuncData}
theorem sc_cs:FnScope ["_law_told","_law_claim"] ["_law_told","_law_claim"] (defScope (top 38)):=⟨rfl,rfl,rfl,by decide +kernel,rfl,by decide +kernel,by decide +kernel⟩
def sp_cs:Sp:=fun vs H Q _=>∃ (t c:Addr) (us:List V) (T:List (Int×Int)) (m a q:Int),vs=[.ref t,.ref c]∧H t=some (.tup us)∧Prs H us T∧(∀ p∈T,1≤p.1)∧T.length≤50000∧H c=some (.tup [.int m,.int a,.int q])∧∀ H',Same H H'→Q (.bl (cm T m a)) H'
theorem ok_cs (F:Fun K "_law_comes" "_law_comes" (top 38) f fd) (m_any:mg "any" = none):FnOk P w K mg base CX0 1 f fd ["_law_told","_law_claim"] sp_cs:=by
 refine F.okz sc_cs (fun vs H Q E h=>?_) (fun cdv A outer s H vs Q E hr h=>?_)
 · obtain ⟨t,c,us,T,m,a,q,rfl,_⟩:=h;rfl
 obtain ⟨t,c,us,T,m,a,q0,rfl,ht,pr,pos,lT,hc,q⟩:=h
 have nd:=sc_cs.nd
 have hu:=hr.units
 have lu:=pr.length
 refine ⟨_,(zss_one (zs_ret (zcb_any rfl rfl m_any (za_cons (ze_comp ["_law_m","_law_a"] [("_law_claim",1)] rfl ⟨rfl,by decide +kernel,by decide +kernel,rfl,rfl⟩ (zi_tup (zn 0)) kpg_two (fun _ _ _ _=>zg_tup rfl (zgs_cons (zg_name (i:=0) (show List.Nodup (["_law_m","_law_a","_law_claim"]:List Str) by decide +kernel) rfl (Or.inl rfl)) (zgs_cons (zg_name (i:=1) (show List.Nodup (["_law_m","_law_a","_law_claim"]:List Str) by decide +kernel) rfl (Or.inl rfl)) zgs_nil))) (fun _ _ _ _=>zif_nil) (fun _ _ _ _=>(ze_andP (ze_cmpR (op_eqD hu) (ze_op op_modP (ze_ix (ix_P' rfl) (zn 2) ze_int (fun _ _=>rfl)) (zn 0)) ze_int (nomark _)) (ze_one (ze_cmpR (op_eqD hu) (ze_op op_modP (ze_ix (ix_P' rfl) (zn 2) ze_int (fun _ _=>rfl)) (zn 0)) (zn 1) (nomark _)))))) za_nil) rfl rfl))),?_⟩
 refine ⟨t,rfl,⟨_,SqT.of ht⟩,cmp_tup (xs:=us) (fun i zs H'=>H'=H∧zs=((T.take i).map (cmb m a)).map V.bl) ⟨rfl,rfl⟩ ?_ ?_ ?_⟩
 · rintro i zs H' _ ⟨rfl,_⟩
   exact SqT.of ht
 · rintro i z zs H' hz ⟨rfl,rfl⟩
   have hi:i<us.length:=(List.getElem?_eq_some_iff.mp hz).1
   obtain ⟨p,hp,b,rfl,hb⟩:=pr.get hz
   have p1:=pos p (List.mem_of_getElem? hp)
   refine ⟨Nat.lt_of_lt_of_le (show (((T.take i).map (cmb m a)).map V.bl).length<100000 by rw [List.length_map,List.length_map,List.length_take];omega) (big_line (Nat.le_refl _)),?_⟩
   refine ⟨b,_,rfl,SqT.of hb,rfl,_,_,rfl,_,_,rfl,rfl,?_⟩
   refine ⟨_,.inr hc,.int m,rfl,?_⟩
   refine ⟨show (0:Int)<p.1 by omega,?_⟩
   refine iteD (fun c=>?_) (fun c=>?_)
   · refine ⟨_,.inr hc,.int a,rfl,?_⟩
     refine ⟨show (0:Int)<p.1 by omega,rfl,?_⟩
     have c':m % p.1=0:=V.int.inj c
     rw [List.take_succ,hp,List.map_append,List.map_append]
     show _=_++[V.bl (cmb m a p)]
     unfold cmb
     rw [decide_eq_true c',Bool.true_and,← dI]
     rfl
   · refine ⟨rfl,?_⟩
     have c':¬ m % p.1=0:=fun z=>c (by show V.int (m % p.1)=V.int 0;rw [z])
     rw [List.take_succ,hp,List.map_append,List.map_append]
     show _=_++[V.bl (cmb m a p)]
     unfold cmb
     rw [decide_eq_false c',Bool.false_and]
 · rintro zs H' ⟨rfl,rfl⟩ D hD
   rw [List.take_of_length_le (by omega)]
   refine ⟨_,SqL.of upd_same,?_⟩
   have e:(T.map (cmb m a)).any id=cm T m a:=by
    unfold cm
    rw [List.any_map]
    rfl
   rw [e]
   exact q _ (Same.new hD _)
end
end K31
namespace M63
open SRV
theorem sorted_self {α:Type} {d:α→List Int}:∀ {ps ps':List α},ps.Pairwise (fun a b=>lexb (d a) (d b)=true)→ps'.Perm ps→ps'.Pairwise (fun a b=>lexb (d b) (d a)=false)→ps'=ps
 | [],ps',_,perm,_=>perm.eq_nil
 | p::r,[],_,perm,_=>absurd perm.length_eq (by simp)
 | p::r,q::r',up,perm,ord=>by
   have up':=List.pairwise_cons.mp up
   have ord':=List.pairwise_cons.mp ord
   have hq:q∈p::r:=perm.mem_iff.mp List.mem_cons_self
   have hp:p∈q::r':=perm.mem_iff.mpr List.mem_cons_self
   have e:q=p:=by
    rcases List.mem_cons.mp hq with h | h
    · exact h
    · rcases List.mem_cons.mp hp with g | g
      · exact g.symm
      · have h1:=up'.1 q h
        have h2:=ord'.1 p g
        rw [h1] at h2
        cases h2
   subst e
   rw [sorted_self up'.2 (List.Perm.cons_inv perm) ord'.2]
end M63
namespace K31
open PySem L2 MRow M27 M30
theorem cells {H:Hp}:∀ {vs ps},Prs H vs ps→∃ cs:List (Addr×List Int),vs=cs.map (fun q=>V.ref q.1)∧(∀ q∈cs,H q.1=some (.tup (q.2.map V.int)))∧cs.map (·.2)=ps.map fun p=>[p.1,p.2]
 | _,_,.nil=>⟨[],rfl,fun _ h=>(nomatch h),rfl⟩
 | _,_,.cons (p:=p) ⟨b,e,h⟩ r=>by
   obtain ⟨cs,rfl,h2,h3⟩:=cells r
   refine ⟨(b,[p.1,p.2])::cs,by rw [e];rfl,fun q hq=>?_,by rw [List.map_cons,h3];rfl⟩
   rcases List.mem_cons.mp hq with rfl | hq
   · exact h
   · exact h2 q hq
theorem lex_up {cs:List (Addr×List Int)} {T:List (Int×Int)} (e:cs.map (·.2)=T.map fun p=>[p.1,p.2]) (h:T.Pairwise lt2):cs.Pairwise (fun a b=>SRV.lexb a.2 b.2=true):=by
 have h1:(cs.map (·.2)).Pairwise (fun a b=>SRV.lexb a b=true):=by
  rw [e,List.pairwise_map]
  refine h.imp fun {p p'} hp=>?_
  show (if p.1=p'.1 then (if p.2=p'.2 then SRV.lexb [] [] else decide (p.2<p'.2)) else decide (p.1<p'.1))=true
  rcases hp with hp | ⟨h1,h2⟩
  · rw [if_neg (by omega),decide_eq_true hp]
  · rw [if_pos h1,if_neg (by omega),decide_eq_true h2]
 exact List.pairwise_map.mp h1
theorem shaped_lprs (ps:List (Int×Int)):SeqAt.shaped (.list (ps.map prD))=true:=by
 obtain ⟨h1,h2⟩:=canPrs ps
 unfold SeqAt.shaped
 rw [Bool.and_eq_true]
 exact ⟨by simp only [PyData.canLay0];exact h1,decide_eq_true (by simp only [PyData.depth];omega)⟩
section
variable {P:Program} {w:World} {K:PySem.W.Frag} {mg:Str→Option Value} {base:Heap} {f:Addr} {fd:FuncData}
theorem sc_tr:FnScope ["_law_row","_law_most","_law_q","_law_told","_law_m","_law_a"] ["_law_row","_law_most","_law_q"] (defScope (top 37)):=⟨rfl,rfl,rfl,by decide +kernel,rfl,by decide +kernel,by decide +kernel⟩
def sp_tr:Sp:=fun vs H Q _=>∃ (r:Addr) (ns:List Int) (q:Int),vs=[.ref r,.int 60,.int q]∧H r=some (.tup (ns.map V.int))∧ns.length≤1000∧2≤q∧q≤1000000∧∀ t us H',Same H H'→H' t=some (.tup us)→Prs H' us (TL ns q 60)→Q (.ref t) H'
theorem ok_tr (F:Fun K "_law_told_right" "_law_told_right" (top 37) f fd) (m_any:mg "any" = none) (m_len:mg "len" = none) (m_list:mg "list" = none) (m_set:mg "set" = none) (m_sorted:mg "sorted" = none) (F_claims:FnA P w K mg base "claims" 2 ["row","most","q"] sp_cl) (F_first_not:FnA P w K mg base "first_not" 1 ["row","claim"] sp_first):FnOk P w K mg base CX0 3 f fd ["_law_row","_law_most","_law_q"] sp_tr:=by
 refine F.okz sc_tr (fun vs H Q E h=>?_) (fun cdv A outer s H vs Q E hr h=>?_)
 · obtain ⟨r,ns,q,rfl,_⟩:=h;rfl
 obtain ⟨r,ns,q,rfl,hrow,hlen,q1,q2,fin⟩:=h
 have nd:=sc_tr.nd
 have hu:=hr.units
 refine ⟨_,(zss_cons (zs_set (i:=3) nd rfl (Or.inl rfl) (ze_fn F_claims hr (by decide) rfl (za_cons (zn 0) (za_cons (zn 1) (za_cons (zn 2) za_nil)))))
  (zss_cons (zs_if (zt_cmpP (op_neD hu) (zcb_list rfl m_list (za_cons (zn 3) za_nil) rfl rfl) (zcb_st hu rfl rfl m_set rfl m_sorted (za_cons (zn 3) za_nil) rfl rfl) (nomark _)) (zss_one (zs_ret ze_non)) zss_nil)
  (zss_cons (zs_for PassesOwn.never rfl (zi_tup (zn 3)) (zg_tup rfl (zgs_cons (zg_name (i:=4) nd rfl (Or.inr rfl)) (zgs_cons (zg_name (i:=5) nd rfl (Or.inr rfl)) zgs_nil))) (zss_cons (zs_if (ZW.zt (zw_or (zt_cmpP op_isntP (ze_fn F_first_not hr (by decide) rfl (za_cons (zn 0) (za_cons (ze_tup (za_cons (zn 4) (za_cons (zn 5) (za_cons (zn 2) za_nil)))) za_nil))) ze_non (nomark _)) (zw_or (zt_cmpP op_ltP (zcb_len rfl m_len (za_cons (ze_stp (zn 0) (zn 5) (zn 4)) za_nil) rfl rfl) ze_int (nomark _)) (zw_or1 (zt_not (zt_chain3 op_leP op_ltP op_leP ze_int (zn 5) (zn 4) (zn 1))))))) (zss_one (zs_ret ze_non)) zss_nil)
  (zss_one (zs_if (zt_valP (zcb_any rfl rfl m_any (za_cons (ze_comp ["_law_step","_law_rest"] [("_law_m",4),("_law_a",5)] rfl ⟨rfl,by decide +kernel,by decide +kernel,rfl,rfl⟩ (zi_tup (zn 3)) kpg_two (fun _ _ _ _=>zg_tup rfl (zgs_cons (zg_name (i:=0) (show List.Nodup (["_law_step","_law_rest","_law_m","_law_a"]:List Str) by decide +kernel) rfl (Or.inl rfl)) (zgs_cons (zg_name (i:=1) (show List.Nodup (["_law_step","_law_rest","_law_m","_law_a"]:List Str) by decide +kernel) rfl (Or.inl rfl)) zgs_nil))) (fun _ _ _ _=>(zif_one (zt_cmpP op_ltP (zn 0) (zn 2) (nomark _)))) (fun _ _ _ _=>(ze_andP (ze_cmpR (op_eqD hu) (ze_op op_modP (zn 2) (zn 0)) ze_int (nomark _)) (ze_one (ze_cmpR (op_eqD hu) (ze_op op_modP (zn 3) (zn 0)) (zn 1) (nomark _)))))) za_nil) rfl rfl)) (zss_one (zs_ret ze_non)) zss_nil))))
  (zss_one (zs_ret (zn 3)))))),?_⟩
 refine ⟨r,ns,60,q,rfl,hrow,hlen,by decide,q1,q2,fun t us H1 y1 ht pr=>?_⟩
 have tl:=TL_len ns q 60
 have up:=TL_up ns q 60
 have good:∀ p∈TL ns q 60,∃ m a:Nat,p=((m:Int),(a:Int))∧1≤m∧m≤60∧a<m∧Hold ns m a q∧a+2*m<ns.length∧∀ s r:Int,(s,r)∈TL ns q 60→s<m→¬ ((m:Int) % s=0∧(a:Int) % s=r):=fun p hp=>TL_good hp
 generalize TL ns q 60=T at pr tl up good fin
 have lu:=pr.length
 obtain ⟨cs,ec,hcs,e2⟩:=cells pr
 have lc:cs.length=T.length:=by have:=congrArg List.length e2;rw [List.length_map,List.length_map] at this;exact this
 refine ⟨_,.inr ht,fun l hl0=>?_⟩
 have y2:=Same.new hl0 (.lst us)
 have hl:upd H1 l (.lst us) l=some (.lst us):=upd_same
 generalize upd H1 l (.lst us)=H2 at y2 hl
 have lup:=lex_up e2 up
 refine ⟨cs,.inr (by rw [← ec];exact y2 _ _ ht),fun q hq=>y2 _ _ (hcs q hq),?_,fun _ q hq e=>?_,by omega,fun p o l2 cs' hp hl2 hne perm ord=>?_⟩
 · rw [List.nodup_iff_pairwise_ne,List.pairwise_map]
   refine lup.imp fun {a b} h e=>?_
   rw [e,SRV.lexb_irr] at h
   cases h
 · have:q.2∈cs.map (·.2):=List.mem_map.mpr ⟨q,hq,rfl⟩
   rw [e2] at this
   obtain ⟨p,_,ep⟩:=List.mem_map.mp this
   rw [e] at ep
   cases ep
 have ecs:=M63.sorted_self (d:=fun q:Addr×List Int=>q.2) lup perm ord
 subst ecs
 rw [← ec]
 have yp:=Same.new hp o
 have hl2':upd H2 p o l2=none:=by rw [upd_ne hne];exact hl2
 have yl:=Same.new hl2' (.lst us)
 have z2:=y2.trans (yp.trans yl)
 have pr3:=pr.same z2
 refine ⟨_,_,.lst ((yp.trans yl) _ _ hl) pr3.dat,.lst upd_same pr3.dat,shaped_lprs _,shaped_lprs _,?_⟩
 have ht3:=z2 _ _ ht
 have y3:=y1.trans z2
 generalize upd (upd H2 p o) l2 (.lst us)=H3 at pr3 ht3 y3
 rw [if_pos rfl,eqv_self (shaped_lprs _)]
 refine iteB (fun c=>absurd c (by decide)) (fun _=>?_)
 refine ⟨t,rfl,⟨_,SqT.of ht3⟩,for_tup (xs:=us) (fun i σ H'=>Same H3 H'∧∃ x4 x5,σ=[some (.ref r),some (.int 60),some (.int q),some (.ref t),x4,x5]) ⟨Same.refl _,_,_,rfl⟩ ?_ ?_ ?_⟩
 · rintro i σ H' _ ⟨y,_⟩
   exact SqT.of (y _ _ ht3)
 · rintro i v σ H' hv ⟨y,x4,x5,rfl⟩
   obtain ⟨p0,hp0,b,rfl,hb⟩:=pr3.get hv
   obtain ⟨m,a,rfl,m1,m60,ham,hold,hfar,hno⟩:=good p0 (List.mem_of_getElem? hp0)
   have y4:=y3.trans y
   have hb4:=y _ _ hb
   refine ⟨b,_,rfl,SqT.of hb4,rfl,_,_,rfl,_,_,rfl,rfl,?_⟩
   refine ⟨by show 3≤sizeLine;decide,fun d hd=>?_⟩
   have yd:=Same.new hd (.tup [V.int (m:Int),.int (a:Int),.int q])
   refine ⟨r,d,ns,m,a,q,rfl,yd _ _ (y4 _ _ hrow),hlen,upd_same,⟨by omega,by omega,by omega,by omega,q1,q2⟩,fun v H5 y5 hf=>?_⟩
   obtain rfl:=hold.f hf
   have y6:=yd.trans y5
   refine ⟨r,_,a,m,rfl,rfl,rfl,m1,(y4.trans y6) _ _ hrow,fun e H7 y7 he=>?_⟩
   refine ⟨_,.inr he,?_⟩
   rw [strd_map,List.length_map]
   have sl:=(strd_len (ns:=ns) (a:=a) (m:=m) m1).mpr hfar
   refine iteD (fun c=>absurd c (by omega)) (fun _=>?_)
   refine ⟨_,rfl,?_⟩
   rw [decide_eq_true (show (0:Int)≤(a:Int) by omega),if_pos rfl]
   refine ⟨_,rfl,?_⟩
   rw [decide_eq_true (show (a:Int)<(m:Int) by omega),if_pos rfl]
   refine ⟨_,rfl,?_⟩
   rw [decide_eq_true (show (m:Int)≤60 by omega)]
   have y8:=y.trans (y6.trans y7)
   have ht8:=y8 _ _ ht3
   have pr8:=pr3.same y8
   refine ⟨t,rfl,⟨_,SqT.of ht8⟩,cmp_tup (xs:=us) (fun k zs H''=>H''=H7∧∃ n,n≤k∧zs=(List.replicate n false).map V.bl) ⟨rfl,0,Nat.zero_le _,rfl⟩ ?_ ?_ ?_⟩
   · rintro k zs H'' _ ⟨rfl,_⟩
     exact SqT.of ht8
   · rintro k z zs H'' hz ⟨rfl,n,hn,rfl⟩
     obtain ⟨p,hp,b',rfl,hb'⟩:=pr8.get hz
     have hk:=(List.getElem?_eq_some_iff.mp hz).1
     obtain ⟨m',a',ep,m1',_,_,_,_,_⟩:=good p (List.mem_of_getElem? hp)
     subst ep
     refine ⟨Nat.lt_of_lt_of_le (show ((List.replicate n false).map V.bl).length<100000 by rw [List.length_map,List.length_replicate];omega) (big_line (Nat.le_refl _)),?_⟩
     refine ⟨b',_,rfl,SqT.of hb',rfl,_,_,rfl,_,_,rfl,rfl,?_⟩
     refine iteD (fun c=>?_) (fun c=>?_)
     · refine ⟨show (0:Int)<(m':Int) by omega,?_⟩
       have no:=hno _ _ (List.mem_of_getElem? hp) c
       refine iteD (fun c1=>?_) (fun c1=>?_)
       · refine ⟨show (0:Int)<(m':Int) by omega,rfl,n+1,by omega,?_⟩
         have c':(m:Int) % (m':Int)=0:=V.int.inj c1
         show _++[V.bl (decide (V.int ((a:Int) % (m':Int))=V.int (a':Int)))]=_
         rw [decide_eq_false (fun h=>no ⟨c',V.int.inj h⟩),List.replicate_succ',List.map_append]
         rfl
       · refine ⟨rfl,n+1,by omega,?_⟩
         rw [List.replicate_succ',List.map_append]
         rfl
     · exact ⟨rfl,n,by omega,rfl⟩
   · rintro zs H'' ⟨rfl,n,hn,rfl⟩ D hD
     refine ⟨_,SqL.of upd_same,?_⟩
     have ef:(List.replicate n false).any id=false:=by
      rw [List.any_eq_false]
      intro x hx
      rw [List.eq_of_mem_replicate hx]
      decide
     rw [ef]
     refine iteB (fun c=>absurd c (by decide)) (fun _=>?_)
     exact ⟨y8.trans (Same.new hD _),_,_,rfl⟩
 · rintro σ H' ⟨y,x4,x5,rfl⟩
   exact fin t us H' (y3.trans y) (y _ _ ht3) (pr3.same y)
end
theorem hold_prod {p:Nat} (hp:p=2∨p=3∨p=5∨p=7) {ps:List Int} (h:∀ x∈ps,(p:Int) ∣ x) {a:Nat} (a1:1≤a) (ap:a<p) (L:Nat):Hold (tb (M21.prod ps) L) p a p:=fun j ⟨x,hx,hj,hq⟩=>by
 have hjL:j<L:=by
  have:=(List.getElem?_eq_some_iff.mp hx).1
  rwa [tb_len] at this
 rw [tb_get hjL] at hx
 have ex:=Option.some.inj hx
 have hn:j % p≠0:=fun e=>by
  have:((j % p:Nat):Int)=(a:Int):=by exact_mod_cast hj
  omega
 have:=M31.prod_dvd hp h hn
 rw [← ex] at hq
 exact hq (Int.emod_eq_zero_of_dvd this)
theorem pick4 {k:Int} (h0:0≤k) (h1:k<4):∃ p:Nat,atI [V.int 2,.int 3,.int 5,.int 7] k=some (.int (p:Int))∧(p=2∨p=3∨p=5∨p=7):=by
 have:k=0∨k=1∨k=2∨k=3:=by omega
 rcases this with rfl | rfl | rfl | rfl
 · exact ⟨2,rfl,.inl rfl⟩
 · exact ⟨3,rfl,.inr (.inl rfl)⟩
 · exact ⟨5,rfl,.inr (.inr (.inl rfl))⟩
 · exact ⟨7,rfl,.inr (.inr (.inr rfl))⟩
section
variable {P:Program} {w:World} {K:PySem.W.Frag} {mg:Str→Option Value} {base:Heap} {f:Addr} {fd:FuncData}
theorem sc_pp:FnScope ["_law_hand_here","_law_prime","_law_sizes_many","_law_row","_law_a"] ["_law_hand_here"] (defScope (top 39)):=⟨rfl,rfl,rfl,by decide +kernel,rfl,by decide +kernel,by decide +kernel⟩
def sp_pp:Sp:=fun vs H Q _=>∃ (h:Addr) (n:Nat),vs=[.ref h]∧Hand H h n∧n<100000∧∀ H',Step h (n+100) H H'→Q (.bl true) H'
theorem ok_pp (F:Fun K "_law_product_right" "_law_product_right" (top 39) f fd) (m_range:mg "range" = none) (m_tuple:mg "tuple" = none) (F_law_shown:FnA P w K mg base "_law_shown" 4 ["_law_row","_law_claim"] sp_sn) (F_law_take:FnA P w K mg base "_law_take" 1 ["_law_hand_here","_law_many"] sp_take) (F_first_not:FnA P w K mg base "first_not" 1 ["row","claim"] sp_first) (F_product:FnA P w K mg base "product" 2 ["powers"] sp_pr):FnOk P w K mg base CX0 5 f fd ["_law_hand_here"] sp_pp:=by
 refine F.okz sc_pp (fun vs H Q E h=>?_) (fun cdv A outer s H vs Q E hr h=>?_)
 · obtain ⟨h,n,rfl,_⟩:=h;rfl
 obtain ⟨h,n,rfl,hh,hn,fin⟩:=h
 have nd:=sc_pp.nd
 have hu:=hr.units
 refine ⟨_,(zss_cons (zs_asg (ze_tup (za_cons (ze_ix ix_P (ze_lst (za_cons ze_int (za_cons ze_int (za_cons ze_int (za_cons ze_int za_nil))))) (ze_fn F_law_take hr (by decide) rfl (za_cons (zn 0) (za_cons ze_int za_nil))) (fun _ _=>rfl)) (za_cons (ze_op op_addP ze_int (ze_fn F_law_take hr (by decide) rfl (za_cons (zn 0) (za_cons (ze_ix ix_P (ze_lst (za_cons ze_int (za_cons ze_int za_nil))) (ze_fn F_law_take hr (by decide) rfl (za_cons (zn 0) (za_cons ze_int za_nil))) (fun _ _=>rfl)) za_nil)))) za_nil))) (zg_tup rfl (zgs_cons (zg_name (i:=1) nd rfl (Or.inr rfl)) (zgs_cons (zg_name (i:=2) nd rfl (Or.inl rfl)) zgs_nil))))
  (zss_cons (zs_set (i:=3) nd rfl (Or.inl rfl) (ze_fn F_product hr (by decide) rfl (za_cons (zcb_tuple rfl m_tuple (za_cons (ze_comp ["_law_size"] [("_law_prime",1),("_law_hand_here",0)] rfl ⟨rfl,by decide +kernel,by decide +kernel,rfl,rfl⟩ (zi_range1 rfl m_range (za_cons (zn 2) za_nil)) kpg_name (fun _ _ _ _=>zg_name (i:=0) (show List.Nodup (["_law_size","_law_prime","_law_hand_here"]:List Str) by decide +kernel) rfl (Or.inl rfl)) (fun _ _ _ _=>zif_nil) (fun _ _ _ _=>(ze_op op_mulQ (zn 1) (ze_op op_subP (ze_fn F_law_take hr (by decide) rfl (za_cons (zn 2) (za_cons ze_int za_nil))) ze_int)))) za_nil) rfl rfl) za_nil)))
  (zss_cons (zs_for PassesOwn.never rfl (zi_range2 rfl m_range (za_cons ze_int (za_cons (zn 1) za_nil))) (zg_name (i:=4) nd rfl (Or.inl rfl)) (zss_one (zs_if (zt_not (zt_valP (ze_fn F_law_shown hr (by decide) rfl (za_cons (zn 3) (za_cons (ze_tup (za_cons (zn 1) (za_cons (zn 4) (za_cons (zn 1) za_nil)))) za_nil))))) (zss_one (zs_ret ze_bl)) zss_nil)))
  (zss_one (zs_ret (ze_cmpR (op_eqD hu) (ze_fn F_first_not hr (by decide) rfl (za_cons (zn 3) (za_cons (ze_tup (za_cons (zn 1) (za_cons ze_int (za_cons (zn 1) za_nil)))) za_nil))) ze_int (nomark _))))))),?_⟩
 refine ⟨by show 4≤sizeLine;decide,fun d1 hd1=>?_⟩
 have d1h:=hh.ne hd1
 have yd1:=Same.new hd1 (.lst [V.int 2,.int 3,.int 5,.int 7])
 have g1:upd H d1 (.lst [V.int 2,.int 3,.int 5,.int 7]) d1=some (.lst [V.int 2,.int 3,.int 5,.int 7]):=upd_same
 have st1:=Step.of_same hh yd1
 generalize upd H d1 (.lst [V.int 2,.int 3,.int 5,.int 7])=H1 at g1 st1
 refine ⟨h,4,n,rfl,st1.2,by omega,by decide,by decide,fun k H2 k0 k1 st2=>?_⟩
 obtain ⟨p,ep,hp⟩:=pick4 k0 k1
 refine ⟨_,.inl (SqL.of (st2.1 _ _ d1h g1)),.int (p:Int),ep,?_⟩
 have t2:=st1.trans st2
 refine ⟨by show 2≤sizeLine;decide,fun d2 hd2=>?_⟩
 have d2h:=t2.2.ne hd2
 have yd2:=Same.new hd2 (.lst [V.int 8,.int 60])
 have g2:upd H2 d2 (.lst [V.int 8,.int 60]) d2=some (.lst [V.int 8,.int 60]):=upd_same
 have t3:=t2.same yd2
 generalize upd H2 d2 (.lst [V.int 8,.int 60])=H3 at g2 t3
 refine ⟨h,2,n+1,rfl,t3.2,by omega,by decide,by decide,fun k2 H4 l0 l1 st4=>?_⟩
 obtain ⟨x,ex,x0,x1⟩:∃ x:Int,atI [V.int 8,.int 60] k2=some (.int x)∧1≤x∧x≤60:=by
  have:k2=0∨k2=1:=by omega
  rcases this with rfl | rfl
  · exact ⟨8,rfl,by decide,by decide⟩
  · exact ⟨60,rfl,by decide,by decide⟩
 refine ⟨_,.inl (SqL.of (st4.1 _ _ d2h g2)),.int x,ex,?_⟩
 have t4:=t3.trans st4
 refine ⟨h,x,n+1+1,rfl,t4.2,by omega,by omega,by omega,fun mr H5 m0 m1 st5=>?_⟩
 have t5:=t4.trans st5
 refine ⟨by show 2≤sizeLine;decide,fun d3 hd3=>?_⟩
 have t6:=t5.same (Same.new hd3 (.tup [V.int (p:Int),.int (1+mr)]))
 refine ⟨d3,_,rfl,SqT.of upd_same,rfl,_,_,rfl,_,_,rfl,rfl,?_⟩
 generalize upd H5 d3 (.tup [V.int (p:Int),.int (1+mr)])=H6 at t6
 obtain ⟨L,eL,L1,L2⟩:∃ L:Nat,1+mr=(L:Int)∧1≤L∧L≤60:=⟨(1+mr).toNat,by omega,by omega,by omega⟩
 refine ⟨1+mr,rfl,by omega,by omega,?_⟩
 rw [eL,Int.toNat_natCast]
 refine cmp_range (fun i ys H'=>Step h (n+3+i) H H'∧∃ ps:List Int,ys=ps.map V.int∧ps.length=i∧∀ x∈ps,(p:Int) ∣ x∧x.natAbs≤20) ⟨t6,[],rfl,rfl,fun x hx=>(nomatch hx)⟩ ?_ ?_
 · rintro i ys H' hi ⟨st,ps,rfl,lp,ap⟩
   refine ⟨by rw [List.length_map];exact small1000 (by omega),?_⟩
   refine ⟨h,5,_,rfl,st.2,by omega,by decide,by decide,fun g H7 g0 g1 st7=>?_⟩
   refine ⟨mulL (by omega) (by omega),(st.trans st7).mono (by omega),ps++[(p:Int)*(g - 2)],by rw [List.map_append];rfl,by rw [List.length_append,lp];rfl,fun x hx=>?_⟩
   rcases List.mem_append.mp hx with hx | hx
   · exact ap x hx
   · rw [List.mem_singleton.mp hx]
     refine ⟨Int.dvd_mul_right _ _,?_⟩
     have:g=0∨g=1∨g=2∨g=3∨g=4:=by omega
     rcases hp with rfl | rfl | rfl | rfl <;> rcases this with rfl | rfl | rfl | rfl | rfl <;> decide
 rintro ys H' ⟨st,ps,rfl,lp,ap⟩ D hD
 have yD:=Same.new hD (.lst (ps.map V.int))
 refine ⟨_,.inl (SqL.of upd_same),fun t H8 y8 ht=>?_⟩
 have st8:=(st.same yD).same y8
 refine ⟨t,ps,rfl,ht,by omega,fun x hx=>(ap x hx).2,fun r H9 y9 hr9=>?_⟩
 have st9:=st8.same y9
 have hlen:(tb (M21.prod ps) (ps.length+1)).length≤1000:=by rw [tb_len];omega
 have hdv:∀ x∈ps,(p:Int) ∣ x:=fun x hx=>(ap x hx).1
 have p2:2≤p∧p≤7:=by rcases hp with rfl | rfl | rfl | rfl <;> decide
 refine ⟨1,(p:Int),rfl,⟨by omega,by omega,by omega,by omega⟩,?_⟩
 refine for_range (fun i σ H'=>Same H9 H'∧∃ x4,σ=[some (.ref h),some (.int (p:Int)),some (.int (L:Int)),some (.ref r),x4]) ⟨Same.refl _,_,rfl⟩ ?_ ?_
 · rintro i σ H' hi ⟨y,x4,rfl⟩
   have hi2:i+1<p:=by omega
   refine ⟨by show 3≤sizeLine;decide,fun d hd=>?_⟩
   have yd:=Same.new hd (.tup [V.int (p:Int),.int (1+(i:Int)),.int (p:Int)])
   refine ⟨r,d,_,p,1+i,(p:Int),rfl,yd _ _ (y _ _ hr9),hlen,by rw [upd_same];congr 4,⟨by omega,by omega,by omega,by omega,by omega,by omega⟩,hold_prod hp hdv (by omega) (by omega) _,fun H10 y10=>?_⟩
   exact ⟨(y.trans yd).trans y10,_,rfl⟩
 · rintro σ H' ⟨y,x4,rfl⟩
   refine ⟨by show 3≤sizeLine;decide,fun d hd=>?_⟩
   have yd:=Same.new hd (.tup [V.int (p:Int),.int 0,.int (p:Int)])
   refine ⟨r,d,_,(p:Int),0,(p:Int),rfl,yd _ _ (y _ _ hr9),hlen,upd_same,⟨by omega,by omega,by omega,by omega,by omega,by omega⟩,fun v H10 y10 hf=>?_⟩
   have e0:v=.int ((0:Nat):Int):=hf.one (.inr ⟨0,by rw [tb_len];omega,rfl,⟨1,by rw [tb_get (by omega),(M21.prod_steps 0 ps).1],by simp,by rw [Int.emod_eq_of_lt (by decide) (by omega)];decide⟩,fun j hj=>absurd hj (Nat.not_lt_zero _)⟩)
   rw [e0]
   exact fin _ (((st9.same y).same (yd.trans y10)).mono (by omega))
theorem sc_or:FnScope ["_law_most","_law_row"] ["_law_most"] (defScope (top 40)):=⟨rfl,rfl,rfl,by decide +kernel,rfl,by decide +kernel,by decide +kernel⟩
def sp_or:Sp:=fun vs H Q _=>∃ n:Nat,vs=[.int n]∧n≤600∧∀ H',Same H H'→Q (.bl true) H'
theorem ok_or (F:Fun K "_law_odd_right" "_law_odd_right" (top 40) f fd) (m_range:mg "range" = none) (F_corners:FnA P w K mg base "corners" 1 ["most"] sp_cor) (F_counts:FnA P w K mg base "counts" 4 ["kind","most"] sp_counts):FnOk P w K mg base CX0 5 f fd ["_law_most"] sp_or:=by
 refine F.okz sc_or (fun vs H Q E h=>?_) (fun cdv A outer s H vs Q E hr h=>?_)
 · obtain ⟨n,rfl,_⟩:=h;rfl
 obtain ⟨n,rfl,hn,fin⟩:=h
 have nd:=sc_or.nd
 have hu:=hr.units
 refine ⟨_,(zss_cons (zs_set (i:=1) nd rfl (Or.inr rfl) (ze_fn F_counts hr (by decide) rfl (za_cons (ze_tup (za_cons ze_str (za_cons ze_int za_nil))) (za_cons (zn 0) za_nil))))
  (zss_one (zs_ret (ze_cmpR (op_eqD hu) (ze_comp ["_law_n"] [("_law_row",1)] rfl ⟨rfl,by decide +kernel,by decide +kernel,rfl,rfl⟩ (zi_range1 rfl m_range (za_cons (ze_op op_addP (zn 0) ze_int) za_nil)) kpg_name (fun _ _ _ _=>zg_name (i:=0) (show List.Nodup (["_law_n","_law_row"]:List Str) by decide +kernel) rfl (Or.inl rfl)) (fun _ _ _ _=>(zif_one (zt_cmpP (op_eqD hu) (ze_op op_modP (ze_ix (ix_P' rfl) (zn 1) (zn 0) (fun _ _=>rfl)) ze_int) ze_int (nomark _)))) (fun _ _ _ _=>(zn 0))) (ze_comp ["_law_place","_law_sign"] [] rfl ⟨rfl,by decide +kernel,by decide +kernel,rfl,rfl⟩ (zi_tup (ze_fn F_corners hr (by decide) rfl (za_cons (zn 0) za_nil))) kpg_two (fun _ _ _ _=>zg_tup rfl (zgs_cons (zg_name (i:=0) (show List.Nodup (["_law_place","_law_sign"]:List Str) by decide +kernel) rfl (Or.inl rfl)) (zgs_cons (zg_name (i:=1) (show List.Nodup (["_law_place","_law_sign"]:List Str) by decide +kernel) rfl (Or.inl rfl)) zgs_nil))) (fun _ _ _ _=>zif_nil) (fun _ _ _ _=>(zn 0))) (nomark _))))),?_⟩
 refine ⟨by show 2≤sizeLine;decide,fun d hd=>?_⟩
 have yd:=Same.new hd (.tup [V.str "off",.int 1])
 refine ⟨d,n,.off 1,rfl,hn,upd_same,by show 1≤1∧1≤600;decide,fun r H1 y1 hr1=>?_⟩
 have y01:=yd.trans y1
 have hr1:H1 r=some (.tup ((tb (M17.fow 1) (n+1)).map V.int)):=hr1
 refine ⟨(n:Int)+1,rfl,by omega,by omega,?_⟩
 rw [show ((n:Int)+1).toNat=n+1 by omega]
 refine cmp_range (fun i ys H'=>H'=H1∧ys=(M31.opos 0 (tb (M17.fow 1) i)).map V.int) ⟨rfl,rfl⟩ ?_ ?_
 · rintro i ys H' hi ⟨rfl,rfl⟩
   refine ⟨by rw [List.length_map];exact small1000 (Nat.le_trans (M31.opos_len _ _) (by rw [tb_len];omega)),?_⟩
   refine ⟨_,.inr hr1,.int (M17.fow 1 i),atI_of (j:=i) (by omega) (by rw [List.getElem?_map,tb_get (by omega)];rfl),?_⟩
   refine ⟨show (0:Int)<2 by decide,?_⟩
   rw [tb_succ,M31.opos_snoc,tb_len]
   refine iteD (fun c=>?_) (fun c=>?_)
   · have c':M17.fow 1 i % 2=1:=V.int.inj c
     refine ⟨rfl,?_⟩
     rw [if_pos c',List.map_append,Nat.zero_add,Int.zero_add]
     rfl
   · have c':¬ M17.fow 1 i % 2=1:=fun e=>c (congrArg V.int e)
     refine ⟨rfl,?_⟩
     rw [if_neg c',List.append_nil]
 rintro ys H' ⟨rfl,rfl⟩ D hD
 have yD:=Same.new hD (.lst ((M31.opos 0 (tb (M17.fow 1) (n+1))).map V.int))
 have gD:upd H' D (.lst ((M31.opos 0 (tb (M17.fow 1) (n+1))).map V.int)) D=some (.lst ((M31.opos 0 (tb (M17.fow 1) (n+1))).map V.int)):=upd_same
 generalize upd H' D (.lst ((M31.opos 0 (tb (M17.fow 1) (n+1))).map V.int))=H2 at yD gD
 refine ⟨n,rfl,hn,fun t H3 us y3 ht pr=>?_⟩
 have ec:=M31.odd_row hn
 have lc:=(M15.cor_in hn).2
 rw [ec] at gD
 generalize M15.cor (n:Int)=cs at pr lc gD
 have lu:=pr.length
 refine ⟨t,rfl,⟨_,SqT.of ht⟩,cmp_tup (xs:=us) (fun k zs H''=>Same H3 H''∧zs=((cs.take k).map Prod.fst).map V.int) ⟨Same.refl _,rfl⟩ ?_ ?_ ?_⟩
 · rintro k zs H'' _ ⟨y,_⟩
   exact SqT.of (y _ _ ht)
 · rintro k z zs H'' hz ⟨y,rfl⟩
   obtain ⟨p,hp,b,rfl,hb⟩:=pr.get hz
   refine ⟨by rw [List.length_map,List.length_map,List.length_take];exact small1000 (by omega),?_⟩
   refine ⟨b,_,rfl,SqT.of (y _ _ hb),rfl,_,_,rfl,_,_,rfl,rfl,?_⟩
   refine ⟨y,?_⟩
   rw [List.take_succ,hp,List.map_append,List.map_append]
   rfl
 · rintro zs H'' ⟨y,rfl⟩ D2 hD2
   rw [List.take_of_length_le (by omega)]
   have y4:=Same.new hD2 (.lst ((cs.map Prod.fst).map V.int))
   refine ⟨_,_,.lst (y4 _ _ (y _ _ (y3 _ _ gD))) (DatAll.ints _),.lst upd_same (DatAll.ints _),shaped_list_ints _,shaped_list_ints _,?_⟩
   rw [if_neg (show ¬ (false=true) by decide),eqv_self (shaped_list_ints _)]
   exact fin _ ((((y01.trans yD).trans y3).trans y).trans y4)
end
end K31
namespace K31
open PySem L2 MRow M27 M80 M17 M12 M16 M30
theorem knl_cb:∀ c∈knl,CB (c.1:Int) (c.2.1:Int) (c.2.2:Int):=by
 unfold knl CB
 decide
theorem knl_hold {c:Nat×Nat×Nat} (h:c∈knl) (k:Nat):Hold (M16.dRow.take k) c.1 c.2.1 c.2.2:=fun j=>M31.known (c:=c) h k j
theorem first_is {n:Nat} (n50:50≤n) {m a q:Int} {j:Nat} {x:Int} (hx:M16.dRow[j]? = some x) (hq:x % q≠0) (hj:j≤50) (hn:n≤600) (hm:(j:Int) % m=a) (hl:∀ i,i<j→¬ (i:Int) % m=a) {v:V} (h:IsF (M16.dRow.take (n+1)) m a q v):v=.int (j:Int):=
 h.one (.inr ⟨j,by rw [List.length_take,M31.dRow_len];omega,rfl,⟨x,by rw [List.getElem?_take,if_pos (by omega)];exact hx,hm,hq⟩,fun i hi ⟨_,_,e,_⟩=>hl i hi e⟩)
section
variable {P:Program} {w:World} {K:PySem.W.Frag} {mg:Str→Option Value} {base:Heap} {f:Addr} {fd:FuncData}
theorem sc_law:FnScope ["_law_script","_law_k","_law_hand_here","_law_most","_law_row","_law_claim","_law_told"] ["_law_script"] (defScope (top 41)):=⟨rfl,rfl,rfl,by decide +kernel,rfl,by decide +kernel,by decide +kernel⟩
def sp_law (K:PySem.W.Frag):Sp:=fun vs H Q _=>∃ (a:Addr) (ns:List Int),vs=[.ref a]∧SqL K H a (ns.map V.int)∧ns.length≤63∧∀ H',Q (.bl true) H'
theorem ok_law (F:Fun K "law" "law" (top 41) f fd) (m_len:mg "len" = none) (m_max:mg "max" = none) (m_min:mg "min" = none) (m_range:mg "range" = none) (F_law_comes:FnA P w K mg base "_law_comes" 1 ["_law_told","_law_claim"] sp_cs) (F_law_hand:FnA P w K mg base "_law_hand" 1 ["_law_script","_law_k"] (sp_hand K)) (F_law_known:FnA P w K mg base "_law_known" 1 [] sp_kn) (F_law_odd_right:FnA P w K mg base "_law_odd_right" 5 ["_law_most"] sp_or) (F_law_product_right:FnA P w K mg base "_law_product_right" 5 ["_law_hand_here"] sp_pp) (F_law_shown:FnA P w K mg base "_law_shown" 4 ["_law_row","_law_claim"] sp_sn) (F_law_take:FnA P w K mg base "_law_take" 1 ["_law_hand_here","_law_many"] sp_take) (F_law_told_right:FnA P w K mg base "_law_told_right" 3 ["_law_row","_law_most","_law_q"] sp_tr) (F_counts:FnA P w K mg base "counts" 4 ["kind","most"] sp_counts) (F_first_not:FnA P w K mg base "first_not" 1 ["row","claim"] sp_first):FnOk P w K mg base CX0 6 f fd ["_law_script"] (sp_law K):=by
 refine F.okz sc_law (fun vs H Q E h=>?_) (fun cdv A outer s H vs Q E hr h=>?_)
 · obtain ⟨a,ns,rfl,_⟩:=h;rfl
 obtain ⟨a,ns,rfl,hS,hl,q⟩:=h
 have nd:=sc_law.nd
 have hu:=hr.units
 refine ⟨_,(zss_cons (zs_for PassesOwn.never rfl (zi_range1 rfl m_range (za_cons (zcb_max rfl rfl m_max (za_cons ze_int (za_cons (zcb_min rfl rfl m_min (za_cons (zcb_len rfl m_len (za_cons (zn 0) za_nil) rfl rfl) (za_cons ze_int za_nil)) rfl rfl) za_nil)) rfl rfl) za_nil)) (zg_name (i:=1) nd rfl (Or.inl rfl)) (zss_cons (zs_set (i:=2) nd rfl (Or.inl rfl) (ze_fn F_law_hand hr (by decide) rfl (za_cons (zn 0) (za_cons (zn 1) za_nil))))
  (zss_cons (zs_set (i:=3) nd rfl (Or.inl rfl) (ze_ifExp (zt_cmpP (op_eqD hu) (ze_fn F_law_take hr (by decide) rfl (za_cons (zn 2) (za_cons ze_int za_nil))) ze_int (nomark _)) ze_int (ze_op op_addP ze_int (ze_fn F_law_take hr (by decide) rfl (za_cons (zn 2) (za_cons ze_int za_nil))))))
  (zss_cons (zs_set (i:=4) nd rfl (Or.inl rfl) (ze_fn F_counts hr (by decide) rfl (za_cons (ze_tup (za_cons ze_str za_nil)) (za_cons (zn 3) za_nil))))
  (zss_cons (zs_for PassesOwn.never rfl (zi_list (ze_fn0 F_law_known hr (by decide) rfl)) (zg_name (i:=5) nd rfl (Or.inl rfl)) (zss_one (zs_if (zt_not (zt_valP (ze_fn F_law_shown hr (by decide) rfl (za_cons (zn 4) (za_cons (zn 5) za_nil))))) (zss_one (zs_ret ze_bl)) zss_nil)))
  (zss_cons (zs_set (i:=5) nd rfl (Or.inl rfl) (ze_ix ix_P (ze_fn0 F_law_known hr (by decide) rfl) (ze_fn F_law_take hr (by decide) rfl (za_cons (zn 2) (za_cons ze_int za_nil))) (fun _ _=>rfl)))
  (zss_cons (zs_set (i:=6) nd rfl (Or.inl rfl) (ze_fn F_law_told_right hr (by decide) rfl (za_cons (zn 4) (za_cons ze_int (za_cons (ze_ix ix_P (zn 5) ze_int (fun _ _=>rfl)) za_nil)))))
  (zss_cons (zs_if (ZW.zt (zw_or (zt_cmpP op_isP (zn 6) ze_non (nomark _)) (zw_or1 (ZW.zt (zw_and (zt_cmpP op_ltP (ze_ix ix_P (zn 5) ze_int (fun _ _=>rfl)) ze_int (nomark _)) (zw_and (zt_cmpP op_gtP (zcb_len rfl m_len (za_cons (ze_stp (zn 4) (ze_ix ix_P (zn 5) ze_int (fun _ _=>rfl)) (ze_ix ix_P (zn 5) ze_int (fun _ _=>rfl))) za_nil) rfl rfl) ze_int (nomark _)) (zw_and1 (zt_not (zt_valP (ze_fn F_law_comes hr (by decide) rfl (za_cons (zn 6) (za_cons (zn 5) za_nil)))))))))))) (zss_one (zs_ret ze_bl)) zss_nil)
  (zss_cons (zs_if (ZW.zt (zw_or (zt_cmpP (op_neD hu) (ze_fn F_first_not hr (by decide) rfl (za_cons (zn 4) (za_cons (ze_tup (za_cons ze_int (za_cons ze_int (za_cons ze_int za_nil)))) za_nil))) ze_int (nomark _)) (zw_or (zt_cmpP (op_neD hu) (ze_fn F_first_not hr (by decide) rfl (za_cons (zn 4) (za_cons (ze_tup (za_cons ze_int (za_cons ze_int (za_cons ze_int za_nil)))) za_nil))) ze_int (nomark _)) (zw_or1 (zt_cmpP (op_neD hu) (ze_fn F_first_not hr (by decide) rfl (za_cons (zn 4) (za_cons (ze_tup (za_cons ze_int (za_cons ze_int (za_cons ze_int za_nil)))) za_nil))) ze_int (nomark _)))))) (zss_one (zs_ret ze_bl)) zss_nil)
  (zss_one (zs_if (ZW.zt (zw_or (zt_not (zt_valP (ze_fn F_law_product_right hr (by decide) rfl (za_cons (zn 2) za_nil)))) (zw_or1 (zt_not (zt_valP (ze_fn F_law_odd_right hr (by decide) rfl (za_cons (ze_fn F_law_take hr (by decide) rfl (za_cons (zn 2) (za_cons ze_int za_nil))) za_nil))))))) (zss_one (zs_ret ze_bl)) zss_nil)))))))))))
  (zss_one (zs_ret ze_bl))),?_⟩
 refine ⟨_,.inl hS,?_⟩
 rw [List.length_map]
 obtain ⟨mx,emx,mx0,mx1⟩:∃ mx:Int,(if (1:Int)<(if (2:Int)<(ns.length:Int) then 2 else (ns.length:Int)) then (if (2:Int)<(ns.length:Int) then 2 else (ns.length:Int)) else 1)=mx∧1≤mx∧mx≤2:=⟨_,rfl,by split <;> omega,by split <;> split <;> omega⟩
 refine ⟨mx,congrArg (fun z=>[V.int z]) emx,by omega,by omega,?_⟩
 refine for_range (fun i σ H'=>i≤2∧Same H H'∧∃ x1 x2 x3 x4 x5 x6,σ=[some (.ref a),x1,x2,x3,x4,x5,x6]) ⟨by decide,Same.refl _,_,_,_,_,_,_,rfl⟩ ?_ ?_
 · rintro i σ H' hi ⟨_,y,x1,x2,x3,x4,x5,x6,rfl⟩
   refine ⟨a,0+(i:Int),ns,rfl,SqL.same y hS,by omega,by omega,fun p H1 hp y1 hh=>?_⟩
   have pH:H p=none:=fresh_back y hp
   have done:∀ (H5:Hp) (v3 v4 v5 v6:V),(∀ b o,b≠p→H b=some o→H5 b=some o)→i+1≤2∧Same H H5∧∃ x1 x2 x3 x4 x5 x6,[some (V.ref a),some (.int (0+(i:Int))),some (.ref p),some v3,some v4,some v5,some v6]=[some (.ref a),x1,x2,x3,x4,x5,x6]:=fun H5 v3 v4 v5 v6 kk=>⟨by omega,fun b o e=>kk b o (fun z=>by rw [z,pH] at e;cases e) e,_,_,_,_,_,_,rfl⟩
   have st1:Step p 0 H1 H1:=Step.refl hh
   have kk1:∀ b o,b≠p→H b=some o→H1 b=some o:=fun b o nb e=>y1 _ _ (y _ _ e)
   refine ⟨p,2,0,rfl,hh,by decide,by decide,by decide,fun fr H2 f0 f1 k2=>?_⟩
   refine iteD (fun _=>?ten) (fun _=>?els)
   case' els=>
    refine ⟨p,551,1,rfl,k2.2,by decide,by decide,by decide,fun r H3 r0 r1 k3=>?_⟩
    obtain ⟨n,en⟩:∃ n:Nat,50+r=(n:Int):=⟨(50+r).toNat,by omega⟩
    have hn:n≤600:=by omega
    have n50:50≤n:=by omega
    have k3:=k2.trans k3
   case' ten=>
    obtain ⟨H3,eH⟩:∃ H3,H3=H2:=⟨_,rfl⟩
    have k3:Step p 2 H1 H3:=by rw [eH];exact k2.mono (by decide)
    rw [← eH]
    obtain ⟨n,en⟩:∃ n:Nat,(600:Int)=n:=⟨600,rfl⟩
    have hn:n≤600:=by omega
    have n50:50≤n:=by omega
   all_goals
    refine ⟨by show 1≤sizeLine;decide,fun o1 ho1=>?_⟩
    have k4:=k3.same (Same.new ho1 (.tup [V.str "all"]))
    have ko1:KnAt (upd H3 o1 (.tup [V.str "all"])) o1 .all:=upd_same
    generalize upd H3 o1 (.tup [V.str "all"])=H4 at k4 ko1
    refine ⟨o1,n,.all,congrArg (fun z=>[V.ref o1,V.int z]) en,hn,ko1,trivial,fun W H5 y5 hW=>?_⟩
    have hW:H5 W=some (.tup ((dRow.take (n+1)).map V.int)):=by
     rw [← M31.rowA hn]
     exact hW
    have k5:=k4.same y5
    have hlen:(dRow.take (n+1)).length≤1000:=by rw [List.length_take,M31.dRow_len];omega
    have hk:∀ c∈knl,Hold (dRow.take (n+1)) c.1 c.2.1 c.2.2:=fun c hc=>knl_hold hc _
    have hf1:∀ {v:V},IsF (dRow.take (n+1)) 5 4 6 v→v=.int 4:=fun h=>first_is n50 (x:=5) (by decide +kernel) (by decide) (by decide) hn (by decide) (by decide) h
    have hf2:∀ {v:V},IsF (dRow.take (n+1)) 7 5 8 v→v=.int 5:=fun h=>first_is n50 (x:=7) (by decide +kernel) (by decide) (by decide) hn (by decide) (by decide) h
    have hf3:∀ {v:V},IsF (dRow.take (n+1)) 11 6 12 v→v=.int 6:=fun h=>first_is n50 (x:=11) (by decide +kernel) (by decide) (by decide) hn (by decide) (by decide) h
    generalize dRow.take (n+1)=ws at hW hlen hk hf1 hf2 hf3
    refine ⟨rfl,fun P1 us H6 y6 hP6 cl6=>?_⟩
    have k6:=k5.same y6
    have hW6:=y6 _ _ hW
    refine ⟨P1,rfl,⟨_,SqL.of hP6⟩,for_list (xs:=us) (fun j σ H'=>Same H6 H'∧∃ x3 x5 x6,σ=[some (.ref a),some (.int (0+(i:Int))),some (.ref p),some x3,some (.ref W),x5,x6]) ⟨Same.refl _,_,_,_,rfl⟩ ?_ ?_ ?_⟩
    · rintro j σ H' _ ⟨y,_⟩
      exact SqL.of (y _ _ hP6)
    · rintro j v σ H' hv ⟨y,x3,x5,x6,rfl⟩
      obtain ⟨c,hc⟩:∃ c,knl[j]? = some c:=⟨_,List.getElem?_eq_getElem (by rw [← cl6.1];exact (List.getElem?_eq_some_iff.mp hv).1)⟩
      obtain ⟨b,rfl,hb⟩:=cl6.2 j v c hv hc
      have hm:=List.mem_of_getElem? hc
      refine ⟨W,b,_,c.1,c.2.1,c.2.2,rfl,y _ _ hW6,hlen,y _ _ hb,knl_cb c hm,hk c hm,fun H9 y9=>?_⟩
      exact ⟨y.trans y9,_,_,_,rfl⟩
    rintro σ H' ⟨y,x3,x5,x6,rfl⟩
    have k7:=k6.same y
    have hW7:=y _ _ hW6
    refine ⟨rfl,fun P2 us2 H8 y8 hP8 cl8=>?_⟩
    have k8:=k7.same y8
    have hW8:=y8 _ _ hW7
    have P2p:P2≠p:=fun z=>by
     obtain ⟨g,s,c,e,_⟩:=k8.2
     rw [z,e] at hP8
     have:[V.int g,V.int s,V.int c]=us2:=by cases hP8;rfl
     have:=cl8.1
     rw [← ‹[V.int g,V.int s,V.int c]=us2›] at this
     exact absurd this (by show ¬ 3=13;decide)
    refine ⟨p,13,2,rfl,k8.2,by decide,by decide,by decide,fun ci H9 c0 c1 k9=>?_⟩
    have hl2:ci.toNat<us2.length:=by rw [cl8.1];show ci.toNat<13;omega
    obtain ⟨c,hc⟩:∃ c,knl[ci.toNat]? = some c:=⟨_,List.getElem?_eq_getElem (by rw [← cl8.1];exact hl2)⟩
    obtain ⟨b,eb,hb⟩:=cl8.2 _ _ c (List.getElem?_eq_getElem hl2) hc
    have hm:=List.mem_of_getElem? hc
    have cb:=knl_cb c hm
    have hold:=hk c hm
    refine ⟨_,.inl (SqL.of (k9.1 _ _ P2p hP8)),.ref b,atI_of (j:=ci.toNat) (by omega) (by rw [← eb];exact List.getElem?_eq_getElem hl2),?_⟩
    have hb9:=k9.tup k8.2 hb
    have hW9:=k9.tup k8.2 hW8
    have k9:=k8.trans k9
    refine ⟨_,.inr hb9,.int (c.2.2:Int),rfl,?_⟩
    refine ⟨W,_,c.2.2,rfl,hW9,hlen,cb.2.2.2.2.1,by have:=cb.2.2.2.2.2;omega,fun t ts H10 y10 ht pr=>?_⟩
    have k10:=k9.same y10
    have hb10:=y10 _ _ hb9
    have hW10:=y10 _ _ hW9
    have pos:∀ p∈TL ws (c.2.2:Int) 60,1≤p.1:=fun p hp=>by
     obtain ⟨m,a,rfl,m1,_⟩:=TL_good hp
     show (1:Int)≤(m:Int)
     omega
    have tl:=TL_len ws (c.2.2:Int) 60
    have c1pos:1≤c.1:=by have:=cb.1;omega
    have ham:c.2.1<c.1:=by have:=cb.2.2.2.1;omega
    refine ⟨_,.inr hb10,.int (c.1:Int),rfl,?_⟩
    refine iteD (fun c61=>?_) (fun _=>?_)
    rotate_left
    focus
     obtain ⟨H13,eH⟩:∃ H13,H13=H10:=⟨_,rfl⟩
     rw [← eH]
     have y13:Same H10 H13:=by rw [eH];exact Same.refl _
    rotate_left
    focus
     refine ⟨_,.inr hb10,.int (c.2.1:Int),rfl,?_⟩
     refine ⟨_,.inr hb10,.int (c.1:Int),rfl,?_⟩
     refine ⟨W,_,c.2.1,c.1,rfl,rfl,rfl,c1pos,hW10,fun e H11 y11 he=>?_⟩
     refine ⟨_,.inr he,?_⟩
     rw [strd_map,List.length_map]
     refine iteD (fun c3=>?_) (fun _=>?_)
     rotate_left
     focus
      obtain ⟨H13,eH⟩:∃ H13,H13=H11:=⟨_,rfl⟩
      rw [← eH]
      have y13:Same H10 H13:=by rw [eH];exact y11
     rotate_left
     focus
      refine ⟨t,b,ts,_,c.1,c.2.1,c.2.2,rfl,y11 _ _ ht,pr.same y11,pos,Nat.le_trans tl (by decide),y11 _ _ hb10,fun H12 y12=>?_⟩
      have cmt:cm (TL ws (c.2.2:Int) 60) (c.1:Int) (c.2.1:Int)=true:=TL_comes c1pos (by omega) ham hold ((strd_len c1pos).mp (by omega))
      rw [cmt]
      obtain ⟨H13,eH⟩:∃ H13,H13=H12:=⟨_,rfl⟩
      rw [← eH]
      have y13:Same H10 H13:=by rw [eH];exact y11.trans y12
    all_goals
     have k13:=k10.same y13
     have hW13:=y13 _ _ hW10
     refine ⟨by show 3≤sizeLine;decide,fun d1 hd1=>?_⟩
     have k14:=k13.same (Same.new hd1 (.tup [V.int 5,.int 4,.int 6]))
     have hW14:=Same.new hd1 (.tup [V.int 5,.int 4,.int 6]) _ _ hW13
     refine ⟨W,d1,ws,5,4,6,rfl,hW14,hlen,upd_same,⟨by decide,by decide,by decide,by decide,by decide,by decide⟩,fun v1 H15 y15 hv1=>?_⟩
     obtain rfl:=hf1 hv1
     have k15:=k14.same y15
     have hW15:=y15 _ _ hW14
     refine ⟨by show 3≤sizeLine;decide,fun d2 hd2=>?_⟩
     have k16:=k15.same (Same.new hd2 (.tup [V.int 7,.int 5,.int 8]))
     have hW16:=Same.new hd2 (.tup [V.int 7,.int 5,.int 8]) _ _ hW15
     refine ⟨W,d2,ws,7,5,8,rfl,hW16,hlen,upd_same,⟨by decide,by decide,by decide,by decide,by decide,by decide⟩,fun v2 H17 y17 hv2=>?_⟩
     obtain rfl:=hf2 hv2
     have k17:=k16.same y17
     have hW17:=y17 _ _ hW16
     refine ⟨by show 3≤sizeLine;decide,fun d3 hd3=>?_⟩
     have k18:=k17.same (Same.new hd3 (.tup [V.int 11,.int 6,.int 12]))
     have hW18:=Same.new hd3 (.tup [V.int 11,.int 6,.int 12]) _ _ hW17
     refine ⟨W,d3,ws,11,6,12,rfl,hW18,hlen,upd_same,⟨by decide,by decide,by decide,by decide,by decide,by decide⟩,fun v3 H19 y19 hv3=>?_⟩
     obtain rfl:=hf3 hv3
     have k19:=k18.same y19
     refine ⟨p,3,rfl,k19.2,by decide,fun H20 k20=>?_⟩
     have k20:=k19.trans k20
     refine ⟨p,601,103,rfl,k20.2,by decide,by decide,by decide,fun o H21 o0 o1 k21=>?_⟩
     have k21:=k20.trans k21
     refine ⟨o.toNat,by rw [Int.toNat_of_nonneg o0],by omega,fun H22 y22=>?_⟩
     have k22:=k21.same y22
     exact done _ _ _ _ _ fun b o nb e=>k22.1 b o nb (kk1 b o nb e)
 · rintro σ H' ⟨_,y,x1,x2,x3,x4,x5,x6,rfl⟩
   exact q _
end
end K31
namespace K31
open PySem L2
theorem fnA {P:Program} {w:World} {K:PySem.W.Frag} {mg:Str→Option Value} {base:Heap} {x:Str} {k:Nat} {ps:List Str} {sp:Sp} {f:Addr} {fd:FuncData} (F:FnOk P w K mg base CX0 k f fd ps sp) (b:Binds K fd ps []) (kp:PySem.W.keepIn K (.ref f)=true) (m:mg x=some (.ref f)):FnA P w K mg base x k ps sp:=⟨⟨f,fd,F,b,kp,m⟩⟩
theorem us0 {α:Type} {p:List α→Prop} (h:p []):∀ us:List α,us.length=0→p us
 | [],_=>h
theorem us1 {α:Type} {p:List α→Prop} (h:∀ a,p [a]):∀ us:List α,us.length=1→p us
 | [a],_=>h a
theorem us2 {α:Type} {p:List α→Prop} (h:∀ a b,p [a,b]):∀ us:List α,us.length=2→p us
 | [a,b],_=>h a b
theorem us3 {α:Type} {p:List α→Prop} (h:∀ a b c,p [a,b,c]):∀ us:List α,us.length=3→p us
 | [a,b,c],_=>h a b c
theorem all_mk {l:PySem.W.OpenLaw} {w:World} {K:PySem.W.Frag} {h:Heap} {mg:Str→Option Value} {fa f1 f2 f3 f4 f5 f6 f7 f8 f9 f10 f11 f12 f13 f14 f15 f16 f17 f18 f19 f20 f21 f22 f23 f24 f25 f26 f27 f28:Addr} {tk1 tk2 tk3:Tok} (X:K.In h) (G:h.Ns mainGlobals mg) (hfa:mg "law" = some (.ref fa))
 {od1 an1 od2 an2 od3 an3 od4 an4 od5 an5 od6 an6 od7 an7 od8 an8 od9 an9 od10 an10 od11 an11 od12 an12 od13 an13 od14 an14 od15 an15 od16 an16 od17 an17 od18 an18 od19 an19 od20 an20 od21 an21 od22 an22 od23 an23 od24 an24 od25 an25 od26 an26 od27 an27 od28 an28:Option Addr} {sl1 sl2 sl3 sl4 sl5 sl6 sl7 sl8 sl9 sl10 sl11 sl12 sl13 sl14 sl15 sl16 sl17 sl18 sl19 sl20 sl21 sl22 sl23 sl24 sl25 sl26 sl27 sl28:Array (Option Value)} {oc1 kV1 dc1 pm1 cd1 ct1 oc2 kV2 dc2 pm2 cd2 ct2 oc3 kV3 dc3 pm3 cd3 ct3 oc4 kV4 dc4 pm4 cd4 ct4 oc5 kV5 dc5 pm5 cd5 ct5 oc6 kV6 dc6 pm6 cd6 ct6 oc7 kV7 dc7 pm7 cd7 ct7 oc8 kV8 dc8 pm8 cd8 ct8 oc9 kV9 dc9 pm9 cd9 ct9 oc10 kV10 dc10 pm10 cd10 ct10 oc11 kV11 dc11 pm11 cd11 ct11 oc12 kV12 dc12 pm12 cd12 ct12 oc13 kV13 dc13 pm13 cd13 ct13 oc14 kV14 dc14 pm14 cd14 ct14 oc15 kV15 dc15 pm15 cd15 ct15 oc16 kV16 dc16 pm16 cd16 ct16 oc17 kV17 dc17 pm17 cd17 ct17 oc18 kV18 dc18 pm18 cd18 ct18 oc19 kV19 dc19 pm19 cd19 ct19 oc20 kV20 dc20 pm20 cd20 ct20 oc21 kV21 dc21 pm21 cd21 ct21 oc22 kV22 dc22 pm22 cd22 ct22 oc23 kV23 dc23 pm23 cd23 ct23 oc24 kV24 dc24 pm24 cd24 ct24 oc25 kV25 dc25 pm25 cd25 ct25 oc26 kV26 dc26 pm26 cd26 ct26 oc27 kV27 dc27 pm27 cd27 ct27 oc28 kV28 dc28 pm28 cd28 ct28:Value}
 (a1:PySem.W.nsIn K mainGlobals "is_whole" = some (some (.ref f1))) (l1:K.lookup f1=some ⟨oc1,od1,.func (PySem.W.fnOf "is_whole" "is_whole" (defArgs (top 4)) (defBody (top 4)) (defScope (top 4)) .none kV1 dc1 pm1 an1 cd1 ct1),sl1⟩) (c1:PySem.W.codeIn K cd1 "is_whole" = true) (k1:PySem.W.keepIn K (.ref f1)=true)
 (a2:PySem.W.nsIn K mainGlobals "is_within" = some (some (.ref f2))) (l2:K.lookup f2=some ⟨oc2,od2,.func (PySem.W.fnOf "is_within" "is_within" (defArgs (top 5)) (defBody (top 5)) (defScope (top 5)) .none kV2 dc2 pm2 an2 cd2 ct2),sl2⟩) (c2:PySem.W.codeIn K cd2 "is_within" = true) (k2:PySem.W.keepIn K (.ref f2)=true)
 (a3:PySem.W.nsIn K mainGlobals "is_claim" = some (some (.ref f3))) (l3:K.lookup f3=some ⟨oc3,od3,.func (PySem.W.fnOf "is_claim" "is_claim" (defArgs (top 10)) (defBody (top 10)) (defScope (top 10)) .none kV3 dc3 pm3 an3 cd3 ct3),sl3⟩) (c3:PySem.W.codeIn K cd3 "is_claim" = true) (k3:PySem.W.keepIn K (.ref f3)=true)
 (a4:PySem.W.nsIn K mainGlobals "first_not" = some (some (.ref f4))) (l4:K.lookup f4=some ⟨oc4,od4,.func (PySem.W.fnOf "first_not" "first_not" (defArgs (top 11)) (defBody (top 11)) (defScope (top 11)) .none kV4 dc4 pm4 an4 cd4 ct4),sl4⟩) (c4:PySem.W.codeIn K cd4 "first_not" = true) (k4:PySem.W.keepIn K (.ref f4)=true)
 (a5:PySem.W.nsIn K mainGlobals "quotients" = some (some (.ref f5))) (l5:K.lookup f5=some ⟨oc5,od5,.func (PySem.W.fnOf "quotients" "quotients" (defArgs (top 12)) (defBody (top 12)) (defScope (top 12)) .none kV5 dc5 pm5 an5 cd5 ct5),sl5⟩) (c5:PySem.W.codeIn K cd5 "quotients" = true) (k5:PySem.W.keepIn K (.ref f5)=true)
 (a6:PySem.W.nsIn K mainGlobals "comes_of_one" = some (some (.ref f6))) (l6:K.lookup f6=some ⟨oc6,od6,.func (PySem.W.fnOf "comes_of_one" "comes_of_one" (defArgs (top 13)) (defBody (top 13)) (defScope (top 13)) .none kV6 dc6 pm6 an6 cd6 ct6),sl6⟩) (c6:PySem.W.codeIn K cd6 "comes_of_one" = true) (k6:PySem.W.keepIn K (.ref f6)=true)
 (a7:PySem.W.nsIn K mainGlobals "claims" = some (some (.ref f7))) (l7:K.lookup f7=some ⟨oc7,od7,.func (PySem.W.fnOf "claims" "claims" (defArgs (top 14)) (defBody (top 14)) (defScope (top 14)) .none kV7 dc7 pm7 an7 cd7 ct7),sl7⟩) (c7:PySem.W.codeIn K cd7 "claims" = true) (k7:PySem.W.keepIn K (.ref f7)=true)
 (a8:PySem.W.nsIn K mainGlobals "shows_claim" = some (some (.ref f8))) (l8:K.lookup f8=some ⟨oc8,od8,.func (PySem.W.fnOf "shows_claim" "shows_claim" (defArgs (top 16)) (defBody (top 16)) (defScope (top 16)) .none kV8 dc8 pm8 an8 cd8 ct8),sl8⟩) (c8:PySem.W.codeIn K cd8 "shows_claim" = true) (k8:PySem.W.keepIn K (.ref f8)=true)
 (a9:PySem.W.nsIn K mainGlobals "begun" = some (some (.ref f9))) (l9:K.lookup f9=some ⟨oc9,od9,.func (PySem.W.fnOf "begun" "begun" (defArgs (top 18)) (defBody (top 18)) (defScope (top 18)) .none kV9 dc9 pm9 an9 cd9 ct9),sl9⟩) (c9:PySem.W.codeIn K cd9 "begun" = true) (k9:PySem.W.keepIn K (.ref f9)=true)
 (a10:PySem.W.nsIn K mainGlobals "put_on" = some (some (.ref f10))) (l10:K.lookup f10=some ⟨oc10,od10,.func (PySem.W.fnOf "put_on" "put_on" (defArgs (top 19)) (defBody (top 19)) (defScope (top 19)) .none kV10 dc10 pm10 an10 cd10 ct10),sl10⟩) (c10:PySem.W.codeIn K cd10 "put_on" = true) (k10:PySem.W.keepIn K (.ref f10)=true)
 (a11:PySem.W.nsIn K mainGlobals "taken_off" = some (some (.ref f11))) (l11:K.lookup f11=some ⟨oc11,od11,.func (PySem.W.fnOf "taken_off" "taken_off" (defArgs (top 20)) (defBody (top 20)) (defScope (top 20)) .none kV11 dc11 pm11 an11 cd11 ct11),sl11⟩) (c11:PySem.W.codeIn K cd11 "taken_off" = true) (k11:PySem.W.keepIn K (.ref f11)=true)
 (a12:PySem.W.nsIn K mainGlobals "of_sizes" = some (some (.ref f12))) (l12:K.lookup f12=some ⟨oc12,od12,.func (PySem.W.fnOf "of_sizes" "of_sizes" (defArgs (top 22)) (defBody (top 22)) (defScope (top 22)) .none kV12 dc12 pm12 an12 cd12 ct12),sl12⟩) (c12:PySem.W.codeIn K cd12 "of_sizes" = true) (k12:PySem.W.keepIn K (.ref f12)=true)
 (a13:PySem.W.nsIn K mainGlobals "of_sizes_below" = some (some (.ref f13))) (l13:K.lookup f13=some ⟨oc13,od13,.func (PySem.W.fnOf "of_sizes_below" "of_sizes_below" (defArgs (top 23)) (defBody (top 23)) (defScope (top 23)) .none kV13 dc13 pm13 an13 cd13 ct13),sl13⟩) (c13:PySem.W.codeIn K cd13 "of_sizes_below" = true) (k13:PySem.W.keepIn K (.ref f13)=true)
 (a14:PySem.W.nsIn K mainGlobals "in_box" = some (some (.ref f14))) (l14:K.lookup f14=some ⟨oc14,od14,.func (PySem.W.fnOf "in_box" "in_box" (defArgs (top 24)) (defBody (top 24)) (defScope (top 24)) .none kV14 dc14 pm14 an14 cd14 ct14),sl14⟩) (c14:PySem.W.codeIn K cd14 "in_box" = true) (k14:PySem.W.keepIn K (.ref f14)=true)
 (a15:PySem.W.nsIn K mainGlobals "falling_by" = some (some (.ref f15))) (l15:K.lookup f15=some ⟨oc15,od15,.func (PySem.W.fnOf "falling_by" "falling_by" (defArgs (top 25)) (defBody (top 25)) (defScope (top 25)) .none kV15 dc15 pm15 an15 cd15 ct15),sl15⟩) (c15:PySem.W.codeIn K cd15 "falling_by" = true) (k15:PySem.W.keepIn K (.ref f15)=true)
 (a16:PySem.W.nsIn K mainGlobals "counted" = some (some (.ref f16))) (l16:K.lookup f16=some ⟨oc16,od16,.func (PySem.W.fnOf "counted" "counted" (defArgs (top 26)) (defBody (top 26)) (defScope (top 26)) .none kV16 dc16 pm16 an16 cd16 ct16),sl16⟩) (c16:PySem.W.codeIn K cd16 "counted" = true) (k16:PySem.W.keepIn K (.ref f16)=true)
 (a17:PySem.W.nsIn K mainGlobals "counts" = some (some (.ref f17))) (l17:K.lookup f17=some ⟨oc17,od17,.func (PySem.W.fnOf "counts" "counts" (defArgs (top 27)) (defBody (top 27)) (defScope (top 27)) .none kV17 dc17 pm17 an17 cd17 ct17),sl17⟩) (c17:PySem.W.codeIn K cd17 "counts" = true) (k17:PySem.W.keepIn K (.ref f17)=true)
 (a18:PySem.W.nsIn K mainGlobals "product" = some (some (.ref f18))) (l18:K.lookup f18=some ⟨oc18,od18,.func (PySem.W.fnOf "product" "product" (defArgs (top 29)) (defBody (top 29)) (defScope (top 29)) .none kV18 dc18 pm18 an18 cd18 ct18),sl18⟩) (c18:PySem.W.codeIn K cd18 "product" = true) (k18:PySem.W.keepIn K (.ref f18)=true)
 (a19:PySem.W.nsIn K mainGlobals "corners" = some (some (.ref f19))) (l19:K.lookup f19=some ⟨oc19,od19,.func (PySem.W.fnOf "corners" "corners" (defArgs (top 31)) (defBody (top 31)) (defScope (top 31)) .none kV19 dc19 pm19 an19 cd19 ct19),sl19⟩) (c19:PySem.W.codeIn K cd19 "corners" = true) (k19:PySem.W.keepIn K (.ref f19)=true)
 (a20:PySem.W.nsIn K mainGlobals "_law_hand" = some (some (.ref f20))) (l20:K.lookup f20=some ⟨oc20,od20,.func (PySem.W.fnOf "_law_hand" "_law_hand" (defArgs (top 33)) (defBody (top 33)) (defScope (top 33)) .none kV20 dc20 pm20 an20 cd20 ct20),sl20⟩) (c20:PySem.W.codeIn K cd20 "_law_hand" = true) (k20:PySem.W.keepIn K (.ref f20)=true)
 (a21:PySem.W.nsIn K mainGlobals "_law_take" = some (some (.ref f21))) (l21:K.lookup f21=some ⟨oc21,od21,.func (PySem.W.fnOf "_law_take" "_law_take" (defArgs (top 34)) (defBody (top 34)) (defScope (top 34)) .none kV21 dc21 pm21 an21 cd21 ct21),sl21⟩) (c21:PySem.W.codeIn K cd21 "_law_take" = true) (k21:PySem.W.keepIn K (.ref f21)=true)
 (a22:PySem.W.nsIn K mainGlobals "_law_known" = some (some (.ref f22))) (l22:K.lookup f22=some ⟨oc22,od22,.func (PySem.W.fnOf "_law_known" "_law_known" (defArgs (top 35)) (defBody (top 35)) (defScope (top 35)) .none kV22 dc22 pm22 an22 cd22 ct22),sl22⟩) (c22:PySem.W.codeIn K cd22 "_law_known" = true) (k22:PySem.W.keepIn K (.ref f22)=true)
 (a23:PySem.W.nsIn K mainGlobals "_law_shown" = some (some (.ref f23))) (l23:K.lookup f23=some ⟨oc23,od23,.func (PySem.W.fnOf "_law_shown" "_law_shown" (defArgs (top 36)) (defBody (top 36)) (defScope (top 36)) .none kV23 dc23 pm23 an23 cd23 ct23),sl23⟩) (c23:PySem.W.codeIn K cd23 "_law_shown" = true) (k23:PySem.W.keepIn K (.ref f23)=true)
 (a24:PySem.W.nsIn K mainGlobals "_law_told_right" = some (some (.ref f24))) (l24:K.lookup f24=some ⟨oc24,od24,.func (PySem.W.fnOf "_law_told_right" "_law_told_right" (defArgs (top 37)) (defBody (top 37)) (defScope (top 37)) .none kV24 dc24 pm24 an24 cd24 ct24),sl24⟩) (c24:PySem.W.codeIn K cd24 "_law_told_right" = true) (k24:PySem.W.keepIn K (.ref f24)=true)
 (a25:PySem.W.nsIn K mainGlobals "_law_comes" = some (some (.ref f25))) (l25:K.lookup f25=some ⟨oc25,od25,.func (PySem.W.fnOf "_law_comes" "_law_comes" (defArgs (top 38)) (defBody (top 38)) (defScope (top 38)) .none kV25 dc25 pm25 an25 cd25 ct25),sl25⟩) (c25:PySem.W.codeIn K cd25 "_law_comes" = true) (k25:PySem.W.keepIn K (.ref f25)=true)
 (a26:PySem.W.nsIn K mainGlobals "_law_product_right" = some (some (.ref f26))) (l26:K.lookup f26=some ⟨oc26,od26,.func (PySem.W.fnOf "_law_product_right" "_law_product_right" (defArgs (top 39)) (defBody (top 39)) (defScope (top 39)) .none kV26 dc26 pm26 an26 cd26 ct26),sl26⟩) (c26:PySem.W.codeIn K cd26 "_law_product_right" = true) (k26:PySem.W.keepIn K (.ref f26)=true)
 (a27:PySem.W.nsIn K mainGlobals "_law_odd_right" = some (some (.ref f27))) (l27:K.lookup f27=some ⟨oc27,od27,.func (PySem.W.fnOf "_law_odd_right" "_law_odd_right" (defArgs (top 40)) (defBody (top 40)) (defScope (top 40)) .none kV27 dc27 pm27 an27 cd27 ct27),sl27⟩) (c27:PySem.W.codeIn K cd27 "_law_odd_right" = true) (k27:PySem.W.keepIn K (.ref f27)=true)
 (a28:PySem.W.nsIn K mainGlobals "law" = some (some (.ref f28))) (l28:K.lookup f28=some ⟨oc28,od28,.func (PySem.W.fnOf "law" "law" (defArgs (top 41)) (defBody (top 41)) (defScope (top 41)) .none kV28 dc28 pm28 an28 cd28 ct28),sl28⟩) (c28:PySem.W.codeIn K cd28 "law" = true) (k28:PySem.W.keepIn K (.ref f28)=true)
 (y1:PySem.W.nsIn K mainGlobals "MOST_STEP" = some (some (.int 600 tk1))) (y2:PySem.W.nsIn K mainGlobals "LEAST_PARTER" = some (some (.int 2 tk2))) (y3:PySem.W.nsIn K mainGlobals "MOST_PARTER" = some (some (.int 1000000 tk3)))
 (z1:PySem.W.nsIn K mainGlobals "bool" = some none) (z2:PySem.W.nsIn K mainGlobals "int" = some none) (z3:PySem.W.nsIn K mainGlobals "isinstance" = some none) (z4:PySem.W.nsIn K mainGlobals "len" = some none) (z5:PySem.W.nsIn K mainGlobals "tuple" = some none) (z6:PySem.W.nsIn K mainGlobals "range" = some none) (z7:PySem.W.nsIn K mainGlobals "any" = some none) (z8:PySem.W.nsIn K mainGlobals "min" = some none) (z9:PySem.W.nsIn K mainGlobals "all" = some none) (z10:PySem.W.nsIn K mainGlobals "zip" = some none) (z11:PySem.W.nsIn K mainGlobals "list" = some none) (z12:PySem.W.nsIn K mainGlobals "enumerate" = some none) (z13:PySem.W.nsIn K mainGlobals "abs" = some none) (z14:PySem.W.nsIn K mainGlobals "set" = some none) (z15:PySem.W.nsIn K mainGlobals "sorted" = some none) (z16:PySem.W.nsIn K mainGlobals "max" = some none) :
 ∃ fd:FuncData,(∀ (s:Shared) (v:Value),BindsTo s fd ⟨[v],[]⟩ [("_law_script",v)])∧∀ base:Heap,K.In base→base.Ns mainGlobals mg→FnOk l.prog w K mg base CX0 6 fa fd ["_law_script"] (sp_law K):=by
 have e:=hfa.symm.trans (PySem.W.mg_of X G a28)
 cases e
 have F1:=fun_mk (st:=top 4) l1 c1 k1
 have b1:=F1.binds (ps:=["thing"]) fun _ _ _ _ _ _=>us1 fun _=>rfl
 have F2:=fun_mk (st:=top 5) l2 c2 k2
 have b2:=F2.binds (ps:=["thing","least","most"]) fun _ _ _ _ _ _=>us3 fun _ _ _=>rfl
 have F3:=fun_mk (st:=top 10) l3 c3 k3
 have b3:=F3.binds (ps:=["thing"]) fun _ _ _ _ _ _=>us1 fun _=>rfl
 have F4:=fun_mk (st:=top 11) l4 c4 k4
 have b4:=F4.binds (ps:=["row","claim"]) fun _ _ _ _ _ _=>us2 fun _ _=>rfl
 have F5:=fun_mk (st:=top 12) l5 c5 k5
 have b5:=F5.binds (ps:=["row","claim"]) fun _ _ _ _ _ _=>us2 fun _ _=>rfl
 have F6:=fun_mk (st:=top 13) l6 c6 k6
 have b6:=F6.binds (ps:=["told","m","a"]) fun _ _ _ _ _ _=>us3 fun _ _ _=>rfl
 have F7:=fun_mk (st:=top 14) l7 c7 k7
 have b7:=F7.binds (ps:=["row","most","q"]) fun _ _ _ _ _ _=>us3 fun _ _ _=>rfl
 have F8:=fun_mk (st:=top 16) l8 c8 k8
 have b8:=F8.binds (ps:=["row","claim","thing"]) fun _ _ _ _ _ _=>us3 fun _ _ _=>rfl
 have F9:=fun_mk (st:=top 18) l9 c9 k9
 have b9:=F9.binds (ps:=["most"]) fun _ _ _ _ _ _=>us1 fun _=>rfl
 have F10:=fun_mk (st:=top 19) l10 c10 k10
 have b10:=F10.binds (ps:=["row","size"]) fun _ _ _ _ _ _=>us2 fun _ _=>rfl
 have F11:=fun_mk (st:=top 20) l11 c11 k11
 have b11:=F11.binds (ps:=["row","size"]) fun _ _ _ _ _ _=>us2 fun _ _=>rfl
 have F12:=fun_mk (st:=top 22) l12 c12 k12
 have b12:=F12.binds (ps:=["some","most"]) fun _ _ _ _ _ _=>us2 fun _ _=>rfl
 have F13:=fun_mk (st:=top 23) l13 c13 k13
 have b13:=F13.binds (ps:=["some","m","most"]) fun _ _ _ _ _ _=>us3 fun _ _ _=>rfl
 have F14:=fun_mk (st:=top 24) l14 c14 k14
 have b14:=F14.binds (ps:=["k","l","most"]) fun _ _ _ _ _ _=>us3 fun _ _ _=>rfl
 have F15:=fun_mk (st:=top 25) l15 c15 k15
 have b15:=F15.binds (ps:=["d","most"]) fun _ _ _ _ _ _=>us2 fun _ _=>rfl
 have F16:=fun_mk (st:=top 26) l16 c16 k16
 have b16:=F16.binds (ps:=["kind","most"]) fun _ _ _ _ _ _=>us2 fun _ _=>rfl
 have F17:=fun_mk (st:=top 27) l17 c17 k17
 have b17:=F17.binds (ps:=["kind","most"]) fun _ _ _ _ _ _=>us2 fun _ _=>rfl
 have F18:=fun_mk (st:=top 29) l18 c18 k18
 have b18:=F18.binds (ps:=["powers"]) fun _ _ _ _ _ _=>us1 fun _=>rfl
 have F19:=fun_mk (st:=top 31) l19 c19 k19
 have b19:=F19.binds (ps:=["most"]) fun _ _ _ _ _ _=>us1 fun _=>rfl
 have F20:=fun_mk (st:=top 33) l20 c20 k20
 have b20:=F20.binds (ps:=["_law_script","_law_k"]) fun _ _ _ _ _ _=>us2 fun _ _=>rfl
 have F21:=fun_mk (st:=top 34) l21 c21 k21
 have b21:=F21.binds (ps:=["_law_hand_here","_law_many"]) fun _ _ _ _ _ _=>us2 fun _ _=>rfl
 have F22:=fun_mk (st:=top 35) l22 c22 k22
 have b22:=F22.binds (ps:=[]) fun _ _ _ _ _ _=>us0 rfl
 have F23:=fun_mk (st:=top 36) l23 c23 k23
 have b23:=F23.binds (ps:=["_law_row","_law_claim"]) fun _ _ _ _ _ _=>us2 fun _ _=>rfl
 have F24:=fun_mk (st:=top 37) l24 c24 k24
 have b24:=F24.binds (ps:=["_law_row","_law_most","_law_q"]) fun _ _ _ _ _ _=>us3 fun _ _ _=>rfl
 have F25:=fun_mk (st:=top 38) l25 c25 k25
 have b25:=F25.binds (ps:=["_law_told","_law_claim"]) fun _ _ _ _ _ _=>us2 fun _ _=>rfl
 have F26:=fun_mk (st:=top 39) l26 c26 k26
 have b26:=F26.binds (ps:=["_law_hand_here"]) fun _ _ _ _ _ _=>us1 fun _=>rfl
 have F27:=fun_mk (st:=top 40) l27 c27 k27
 have b27:=F27.binds (ps:=["_law_most"]) fun _ _ _ _ _ _=>us1 fun _=>rfl
 have F28:=fun_mk (st:=top 41) l28 c28 k28
 have m_bool:=PySem.W.mg_none_of X G z1
 have m_int:=PySem.W.mg_none_of X G z2
 have m_isinstance:=PySem.W.mg_none_of X G z3
 have m_len:=PySem.W.mg_none_of X G z4
 have m_tuple:=PySem.W.mg_none_of X G z5
 have m_range:=PySem.W.mg_none_of X G z6
 have m_any:=PySem.W.mg_none_of X G z7
 have m_min:=PySem.W.mg_none_of X G z8
 have m_all:=PySem.W.mg_none_of X G z9
 have m_zip:=PySem.W.mg_none_of X G z10
 have m_list:=PySem.W.mg_none_of X G z11
 have m_enumerate:=PySem.W.mg_none_of X G z12
 have m_abs:=PySem.W.mg_none_of X G z13
 have m_set:=PySem.W.mg_none_of X G z14
 have m_sorted:=PySem.W.mg_none_of X G z15
 have m_max:=PySem.W.mg_none_of X G z16
 have g_MOST_STEP:IntG mg "MOST_STEP" 600:=⟨_,PySem.W.mg_of X G y1⟩
 have g_LEAST_PARTER:IntG mg "LEAST_PARTER" 2:=⟨_,PySem.W.mg_of X G y2⟩
 have g_MOST_PARTER:IntG mg "MOST_PARTER" 1000000:=⟨_,PySem.W.mg_of X G y3⟩
 refine ⟨PySem.W.fnOf "law" "law" (defArgs (top 41)) (defBody (top 41)) (defScope (top 41)) .none kV28 dc28 pm28 an28 cd28 ct28,fun s v=>.of_eq rfl,fun base _ _=>?_⟩
 have A1:FnA l.prog w K mg base "is_whole" 1 ["thing"] sp_whole:=fnA (ok_whole F1 m_bool m_int m_isinstance) b1 k1 (PySem.W.mg_of X G a1)
 have A2:FnA l.prog w K mg base "is_within" 2 ["thing","least","most"] sp_within:=fnA (ok_within F2 A1) b2 k2 (PySem.W.mg_of X G a2)
 have A3:FnA l.prog w K mg base "is_claim" 3 ["thing"] sp_isc:=fnA (ok_isc F3 m_isinstance m_len m_tuple g_MOST_STEP g_LEAST_PARTER g_MOST_PARTER A2) b3 k3 (PySem.W.mg_of X G a3)
 have A4:FnA l.prog w K mg base "first_not" 1 ["row","claim"] sp_first:=fnA (ok_first_not F4 m_len m_range) b4 k4 (PySem.W.mg_of X G a4)
 have A5:FnA l.prog w K mg base "quotients" 2 ["row","claim"] sp_qu:=fnA (ok_qu F5 m_tuple A4) b5 k5 (PySem.W.mg_of X G a5)
 have A6:FnA l.prog w K mg base "comes_of_one" 1 ["told","m","a"] sp_co:=fnA (ok_co F6 m_any) b6 k6 (PySem.W.mg_of X G a6)
 have A7:FnA l.prog w K mg base "claims" 2 ["row","most","q"] sp_cl:=fnA (ok_cl F7 m_len m_min m_range m_tuple A6 A4) b7 k7 (PySem.W.mg_of X G a7)
 have A8:FnA l.prog w K mg base "shows_claim" 3 ["row","claim","thing"] sp_sc:=fnA (ok_sc F8 m_all m_isinstance m_len m_tuple m_zip A4 A1 A5) b8 k8 (PySem.W.mg_of X G a8)
 have A9:FnA l.prog w K mg base "begun" 1 ["most"] sp_begun:=fnA (ok_begun F9) b9 k9 (PySem.W.mg_of X G a9)
 have A10:FnA l.prog w K mg base "put_on" 1 ["row","size"] sp_put_on:=fnA (ok_put_on F10 m_len m_list m_range) b10 k10 (PySem.W.mg_of X G a10)
 have A11:FnA l.prog w K mg base "taken_off" 1 ["row","size"] sp_to:=fnA (ok_to F11 m_len m_list m_range) b11 k11 (PySem.W.mg_of X G a11)
 have A12:FnA l.prog w K mg base "of_sizes" 2 ["some","most"] sp_of_sizes:=fnA (ok_of_sizes F12 A9 A10) b12 k12 (PySem.W.mg_of X G a12)
 have A13:FnA l.prog w K mg base "of_sizes_below" 2 ["some","m","most"] sp_osb:=fnA (ok_osb F13 A9 A10 A11) b13 k13 (PySem.W.mg_of X G a13)
 have A14:FnA l.prog w K mg base "in_box" 2 ["k","l","most"] sp_ib:=fnA (ok_ib F14 m_min m_range A9 A10 A11) b14 k14 (PySem.W.mg_of X G a14)
 have A15:FnA l.prog w K mg base "falling_by" 2 ["d","most"] sp_fb:=fnA (ok_fb F15 m_range A9 A10) b15 k15 (PySem.W.mg_of X G a15)
 have A16:FnA l.prog w K mg base "counted" 3 ["kind","most"] sp_counted:=fnA (ok_counted F16 m_list m_min m_range A15 A14 A12 A13) b16 k16 (PySem.W.mg_of X G a16)
 have A17:FnA l.prog w K mg base "counts" 4 ["kind","most"] sp_counts:=fnA (ok_counts F17 m_tuple A16) b17 k17 (PySem.W.mg_of X G a17)
 have A18:FnA l.prog w K mg base "product" 2 ["powers"] sp_pr:=fnA (ok_pr F18 m_enumerate m_len m_range m_tuple A9 A10 A11) b18 k18 (PySem.W.mg_of X G a18)
 have A19:FnA l.prog w K mg base "corners" 1 ["most"] sp_cor:=fnA (ok_corners F19 m_tuple) b19 k19 (PySem.W.mg_of X G a19)
 have A20:FnA l.prog w K mg base "_law_hand" 1 ["_law_script","_law_k"] (sp_hand K):=fnA (ok_hand F20 m_abs m_len) b20 k20 (PySem.W.mg_of X G a20)
 have A21:FnA l.prog w K mg base "_law_take" 1 ["_law_hand_here","_law_many"] sp_take:=fnA (ok_take F21) b21 k21 (PySem.W.mg_of X G a21)
 have A22:FnA l.prog w K mg base "_law_known" 1 [] sp_kn:=fnA (ok_kn F22) b22 k22 (PySem.W.mg_of X G a22)
 have A23:FnA l.prog w K mg base "_law_shown" 4 ["_law_row","_law_claim"] sp_sn:=fnA (ok_sn F23 m_tuple A4 A3 A5 A8) b23 k23 (PySem.W.mg_of X G a23)
 have A24:FnA l.prog w K mg base "_law_told_right" 3 ["_law_row","_law_most","_law_q"] sp_tr:=fnA (ok_tr F24 m_any m_len m_list m_set m_sorted A7 A4) b24 k24 (PySem.W.mg_of X G a24)
 have A25:FnA l.prog w K mg base "_law_comes" 1 ["_law_told","_law_claim"] sp_cs:=fnA (ok_cs F25 m_any) b25 k25 (PySem.W.mg_of X G a25)
 have A26:FnA l.prog w K mg base "_law_product_right" 5 ["_law_hand_here"] sp_pp:=fnA (ok_pp F26 m_range m_tuple A23 A21 A4 A18) b26 k26 (PySem.W.mg_of X G a26)
 have A27:FnA l.prog w K mg base "_law_odd_right" 5 ["_law_most"] sp_or:=fnA (ok_or F27 m_range A19 A17) b27 k27 (PySem.W.mg_of X G a27)
 exact ok_law F28 m_len m_max m_min m_range A25 A20 A22 A27 A26 A23 A21 A24 A17 A4
theorem walk {l:PySem.W.OpenLaw} {q:Program} {loose:List Str} {XP:(Str→Option Value)→Heap→Prop} {YP:World→Heap→Prop} {d:DefRec} {K:Params→PySem.W.Frag} (hn:l.most=some 63) (hdf:d.params.defaults=[])
 (hY:∀ (w:World) (h:Heap),YP w h→(K w.params).In h)
 (F:∀ (w:World) (mg:Str→Option Value) (fa:Addr) (h:Heap),(K w.params).In h→h.Ns mainGlobals mg→mg d.name=some (.ref fa) →
   ∃ fd:FuncData,(∀ (s:Shared) (u:Value),BindsTo s fd ⟨[u],[]⟩ [("_law_script",u)])∧∀ base:Heap,(K w.params).In base→base.Ns mainGlobals mg→FnOk l.prog w (K w.params) mg base CX0 6 fa fd ["_law_script"] (sp_law (K w.params))) :
 PySem.W.WalkO q loose XP YP l.row.toRowW d [] (fun f vs=>PySem.call f vs):=
 L2.walk_of (n:=63) (k:=6) (x:="_law_script") (CX:=fun _=>CX0) (sp:=fun w=>sp_law (K w.params)) hn (by decide) hdf ⟨rfl,by decide,by decide,rfl⟩ hY F (fun _ _ a ns hl _ hS=>⟨a,ns,rfl,hS,hl,fun _=>rfl⟩) fun _ _ _ _ _ z=>z
end K31
namespace PySem.W.Fast
theorem tw15035698184392134943:True:=⟨⟩
theorem tw15494531089061626965:True:=⟨⟩
theorem tw6684869323909677880:True:=⟨⟩
theorem tw17183129538104778310:True:=⟨⟩
theorem tw17880224910261418770:True:=⟨⟩
theorem tw15231901943693958800:True:=⟨⟩
theorem tw12370246508817317247:True:=⟨⟩
theorem tw7110453626590978388:True:=⟨⟩
theorem tw11875144381230874155:True:=⟨⟩
theorem tw14817574212201542127:True:=⟨⟩
theorem tw688963292188959125:True:=⟨⟩
theorem tw18232260960029286658:True:=⟨⟩
theorem tw10678770239323088067:True:=⟨⟩
theorem tw2048668534233567168:True:=⟨⟩
theorem tw584879273613704059:True:=⟨⟩
theorem tw6887654871055805638:True:=⟨⟩
theorem tw18124136858424386160:True:=⟨⟩
theorem tw7928467953190254430:True:=⟨⟩
theorem tw5772542145478796066:True:=⟨⟩
theorem tw12787755719472086473:True:=⟨⟩
theorem tw6895105407258081896:True:=⟨⟩
theorem tw16072599100671943743:True:=⟨⟩
theorem tw10966713397441138497:True:=⟨⟩
theorem tw7606254672872170758:True:=⟨⟩
theorem tw8733984689103613150:True:=⟨⟩
theorem tw16711943064438115200:True:=⟨⟩
theorem tw13612258777894163770:True:=⟨⟩
theorem tw1396460960459394109:True:=⟨⟩
theorem tw445740896373198395:True:=⟨⟩
theorem tw11497936040466564852:True:=⟨⟩
theorem tw2871190087798861214:True:=⟨⟩
theorem tw9442166864909109341:True:=⟨⟩
theorem tw4160619329499987410:True:=⟨⟩
theorem tw14792717751355446635:True:=⟨⟩
theorem tw5413009831716559270:True:=⟨⟩
theorem tw5376123220906083729:True:=⟨⟩
theorem tw12408912482614672884:True:=⟨⟩
theorem tw10815891773852047437:True:=⟨⟩
theorem tw17664866828623066267:True:=⟨⟩
theorem tw13355786175938138160:True:=⟨⟩
theorem tw16207128292927181853:True:=⟨⟩
theorem tw8202092416878425286:True:=⟨⟩
theorem tw15561554824640410091:True:=⟨⟩
theorem tw3275607846934862961:True:=⟨⟩
theorem tw7470532896964617442:True:=⟨⟩
theorem tw13028106756456784961:True:=⟨⟩
theorem tw6424851585617690994:True:=⟨⟩
theorem tw944940665327858208:True:=⟨⟩
theorem tw723691639918644885:True:=⟨⟩
theorem tw3392457820631752874:True:=⟨⟩
theorem tw4088232190467980733:True:=⟨⟩
theorem tw18232787052570723054:True:=⟨⟩
theorem tw14914301780818732721:True:=⟨⟩
theorem tw4409111467419261617:True:=⟨⟩
theorem tw8689665434100822941:True:=⟨⟩
theorem tw7726549951525635806:True:=⟨⟩
theorem tw17014551960666516109:True:=⟨⟩
theorem tw102808839314432005:True:=⟨⟩
theorem tw1060697809342515040:True:=⟨⟩
theorem tw16238518890711810975:True:=⟨⟩
theorem tw6189443905626722461:True:=⟨⟩
theorem tw15409791600397646438:True:=⟨⟩
theorem tw1804865556700651706:True:=⟨⟩
theorem tw5621734671948142472:True:=⟨⟩
theorem tw10191730703484000828:True:=⟨⟩
theorem tw11456797272815213455:True:=⟨⟩
theorem tw9573041340440990212:True:=⟨⟩
theorem tw13723128017298884138:True:=⟨⟩
theorem tw6888496550599990024:True:=⟨⟩
theorem tw17972017514001114961:True:=⟨⟩
theorem tw248729023086610848:True:=⟨⟩
theorem tw13611237158855518472:True:=⟨⟩
theorem tw9594643735607389882:True:=⟨⟩
theorem tw9525436832984433950:True:=⟨⟩
theorem tw9232792390098099454:True:=⟨⟩
theorem tw9025353757475778185:True:=⟨⟩
theorem tw7007683771341945635:True:=⟨⟩
theorem tw2061692910289092932:True:=⟨⟩
theorem tw3394716222610133409:True:=⟨⟩
theorem tw17131446387077827300:True:=⟨⟩
theorem tw7453949571792160911:True:=⟨⟩
theorem tw11636615017425142502:True:=⟨⟩
theorem tw11747056718309723928:True:=⟨⟩
theorem tw7294955350376317144:True:=⟨⟩
theorem tw11765440467590388822:True:=⟨⟩
theorem tw6134776321562049947:True:=⟨⟩
theorem tw13267331657771405658:True:=⟨⟩
theorem tw10022793161806901583:True:=⟨⟩
theorem tw531887196862863274:True:=⟨⟩
theorem tw2663535327362364587:True:=⟨⟩
theorem tw16055549858768186942:True:=⟨⟩
theorem tw10926370521854083101:True:=⟨⟩
theorem tw17884734792158785143:True:=⟨⟩
theorem tw14249671984252652230:True:=⟨⟩
theorem tw11862637861015074351:True:=⟨⟩
theorem tw8338941505211083064:True:=⟨⟩
theorem tw10655514335453121955:True:=⟨⟩
theorem tw17136053472600690936:True:=⟨⟩
theorem tw7778824562833153005:True:=⟨⟩
theorem tw7643713373248458128:True:=⟨⟩
theorem tw13782956336026341676:True:=⟨⟩
theorem tw6531270198302766460:True:=⟨⟩
theorem tw13766583595181841893:True:=⟨⟩
theorem tw1254175376836178621:True:=⟨⟩
theorem tw1942271559205642561:True:=⟨⟩
theorem tw1482105264896301566:True:=⟨⟩
theorem tw18170142961678072125:True:=⟨⟩
theorem tw1267754852549317827:True:=⟨⟩
theorem tw15734965668937290312:True:=⟨⟩
theorem tw10915474530847483016:True:=⟨⟩
theorem tw8264758014696867704:True:=⟨⟩
theorem tw13088315240629030999:True:=⟨⟩
theorem tw3544456326161269300:True:=⟨⟩
theorem tw17718384699582072048:True:=⟨⟩
theorem tw7751747163852531639:True:=⟨⟩
theorem tw12382227823880670021:True:=⟨⟩
theorem tw15536103607621799655:True:=⟨⟩
theorem tw10309121385728125995:True:=⟨⟩
theorem tw8154785023273162237:True:=⟨⟩
theorem tw1466711581116306699:True:=⟨⟩
theorem tw7113928756102090138:True:=⟨⟩
theorem tw7954989866714204693:True:=⟨⟩
theorem tw8875773418352036166:True:=⟨⟩
theorem tw5141145976768111717:True:=⟨⟩
theorem tw4095468559129395597:True:=⟨⟩
theorem tw15933039676339756822:True:=⟨⟩
theorem tw9087148509774600956:True:=⟨⟩
theorem tw7560655584224994118:True:=⟨⟩
theorem tw2725096580907482130:True:=⟨⟩
theorem tw16338720113878989947:True:=⟨⟩
theorem tw6704914647760500748:True:=⟨⟩
theorem tw4087119384011915629:True:=⟨⟩
theorem tw5810023453128102396:True:=⟨⟩
theorem tw2485720394521846835:True:=⟨⟩
theorem tw9287381382001554616:True:=⟨⟩
theorem tw266559537935374095:True:=⟨⟩
theorem tw4968294515440782707:True:=⟨⟩
theorem tw9459469984757058363:True:=⟨⟩
theorem tw8195767529430153871:True:=⟨⟩
theorem tw9691039232197199930:True:=⟨⟩
theorem tw6713322619015382884:True:=⟨⟩
theorem tw11962957110675583167:True:=⟨⟩
theorem tw10700893268423177551:True:=⟨⟩
theorem tw1259521710564214104:True:=⟨⟩
theorem tw3868930042349559165:True:=⟨⟩
theorem tw14635058707711243341:True:=⟨⟩
theorem tw7854000452245059079:True:=⟨⟩
theorem tw7316438840492851334:True:=⟨⟩
theorem tw10883587939683615732:True:=⟨⟩
theorem tw5520076729268745739:True:=⟨⟩
theorem tw11536088159663061980:True:=⟨⟩
theorem tw14376133772888552566:True:=⟨⟩
theorem tw18250077573774238903:True:=⟨⟩
theorem tw12895555182716172740:True:=⟨⟩
theorem tw12950783649077315204:True:=⟨⟩
theorem tw1701439738189066652:True:=⟨⟩
theorem tw17545224444028653977:True:=⟨⟩
theorem tw10376056289226889614:True:=⟨⟩
theorem tw10269729052029683247:True:=⟨⟩
theorem tw6173952534277692725:True:=⟨⟩
theorem tw5286939779003097436:True:=⟨⟩
theorem tw10352383593853509494:True:=⟨⟩
theorem tw17081525973165106651:True:=⟨⟩
theorem tw2720722911298011380:True:=⟨⟩
theorem tw6352869526305337943:True:=⟨⟩
theorem tw8943819934879664005:True:=⟨⟩
theorem tw2993798091614339195:True:=⟨⟩
theorem tw8691596151327168842:True:=⟨⟩
theorem tw9180546462480794426:True:=⟨⟩
theorem tw6689653386521966077:True:=⟨⟩
theorem tw9904545217296409259:True:=⟨⟩
theorem tw14824647815566667712:True:=⟨⟩
theorem tw14489357640320398501:True:=⟨⟩
theorem tw13395600056501652467:True:=⟨⟩
theorem tw1009860905055652200:True:=⟨⟩
theorem tw5666104320492922084:True:=⟨⟩
theorem tw12780585255760779106:True:=⟨⟩
theorem tw11990722629145097062:True:=⟨⟩
theorem tw6871960874841122938:True:=⟨⟩
theorem tw7135903365775849029:True:=⟨⟩
theorem tw14895857482097812369:True:=⟨⟩
theorem tw5240989470664203971:True:=⟨⟩
theorem tw15687721407413221164:True:=⟨⟩
theorem tw4099492506118274982:True:=⟨⟩
theorem tw5335606061905864420:True:=⟨⟩
theorem tw17361231964959818419:True:=⟨⟩
theorem tw244227029690343147:True:=⟨⟩
theorem tw9272282543959855348:True:=⟨⟩
theorem tw13643276400789265147:True:=⟨⟩
theorem tw9122865766767027836:True:=⟨⟩
theorem tw6373430556906550461:True:=⟨⟩
theorem tw1214900828043831114:True:=⟨⟩
theorem tw17447005687859686935:True:=⟨⟩
theorem tw4150754443713808881:True:=⟨⟩
theorem tw11106227508750633817:True:=⟨⟩
theorem tw13661564422216513848:True:=⟨⟩
theorem tw2657501975988713241:True:=⟨⟩
theorem tw1426893014957707631:True:=⟨⟩
theorem tw6920610764771557314:True:=⟨⟩
theorem tw9957931912044579622:True:=⟨⟩
theorem tw17899347210440237057:True:=⟨⟩
theorem tw4558197692833995081:True:=⟨⟩
theorem tw7419296058445679344:True:=⟨⟩
theorem tw12242156892096661523:True:=⟨⟩
theorem tw17431683651827202051:True:=⟨⟩
theorem tw17975554441298625940:True:=⟨⟩
end PySem.W.Fast
open PySem PySem.W PyProof.Rows
set_option maxRecDepth 100000 in
set_option maxHeartbeats 0 in
theorem PySem.Challenge.cw_partrests_k31_whole_known_claims_holds : PySem.Challenge.rw_partrests_k31_whole_known_claims.Holds := by
 w_on;o_law;k_head;(case hw=>w_witness2)
 k_fill
 refine K31.walk (l:=PySem.Challenge.rw_partrests_k31_whole_known_claims) rfl rfl (fun w h Y=>PySem.W.kIn_of Y) ?F
 case F=>
  intro w mg fa h KX G hmg
  refine' K31.all_mk KX G hmg ?a1 ?l1 ?c1 ?k1 ?a2 ?l2 ?c2 ?k2 ?a3 ?l3 ?c3 ?k3 ?a4 ?l4 ?c4 ?k4 ?a5 ?l5 ?c5 ?k5 ?a6 ?l6 ?c6 ?k6 ?a7 ?l7 ?c7 ?k7 ?a8 ?l8 ?c8 ?k8 ?a9 ?l9 ?c9 ?k9 ?a10 ?l10 ?c10 ?k10 ?a11 ?l11 ?c11 ?k11 ?a12 ?l12 ?c12 ?k12 ?a13 ?l13 ?c13 ?k13 ?a14 ?l14 ?c14 ?k14 ?a15 ?l15 ?c15 ?k15 ?a16 ?l16 ?c16 ?k16 ?a17 ?l17 ?c17 ?k17 ?a18 ?l18 ?c18 ?k18 ?a19 ?l19 ?c19 ?k19 ?a20 ?l20 ?c20 ?k20 ?a21 ?l21 ?c21 ?k21 ?a22 ?l22 ?c22 ?k22 ?a23 ?l23 ?c23 ?k23 ?a24 ?l24 ?c24 ?k24 ?a25 ?l25 ?c25 ?k25 ?a26 ?l26 ?c26 ?k26 ?a27 ?l27 ?c27 ?k27 ?a28 ?l28 ?c28 ?k28 ?y1 ?y2 ?y3 ?z1 ?z2 ?z3 ?z4 ?z5 ?z6 ?z7 ?z8 ?z9 ?z10 ?z11 ?z12 ?z13 ?z14 ?z15 ?z16
  (case a1=>k_is);(case l1=>k_is);(case c1=>k_is);(case k1=>k_is)
  (case a2=>k_is);(case l2=>k_is);(case c2=>k_is);(case k2=>k_is)
  (case a3=>k_is);(case l3=>k_is);(case c3=>k_is);(case k3=>k_is)
  (case a4=>k_is);(case l4=>k_is);(case c4=>k_is);(case k4=>k_is)
  (case a5=>k_is);(case l5=>k_is);(case c5=>k_is);(case k5=>k_is)
  (case a6=>k_is);(case l6=>k_is);(case c6=>k_is);(case k6=>k_is)
  (case a7=>k_is);(case l7=>k_is);(case c7=>k_is);(case k7=>k_is)
  (case a8=>k_is);(case l8=>k_is);(case c8=>k_is);(case k8=>k_is)
  (case a9=>k_is);(case l9=>k_is);(case c9=>k_is);(case k9=>k_is)
  (case a10=>k_is);(case l10=>k_is);(case c10=>k_is);(case k10=>k_is)
  (case a11=>k_is);(case l11=>k_is);(case c11=>k_is);(case k11=>k_is)
  (case a12=>k_is);(case l12=>k_is);(case c12=>k_is);(case k12=>k_is)
  (case a13=>k_is);(case l13=>k_is);(case c13=>k_is);(case k13=>k_is)
  (case a14=>k_is);(case l14=>k_is);(case c14=>k_is);(case k14=>k_is)
  (case a15=>k_is);(case l15=>k_is);(case c15=>k_is);(case k15=>k_is)
  (case a16=>k_is);(case l16=>k_is);(case c16=>k_is);(case k16=>k_is)
  (case a17=>k_is);(case l17=>k_is);(case c17=>k_is);(case k17=>k_is)
  (case a18=>k_is);(case l18=>k_is);(case c18=>k_is);(case k18=>k_is)
  (case a19=>k_is);(case l19=>k_is);(case c19=>k_is);(case k19=>k_is)
  (case a20=>k_is);(case l20=>k_is);(case c20=>k_is);(case k20=>k_is)
  (case a21=>k_is);(case l21=>k_is);(case c21=>k_is);(case k21=>k_is)
  (case a22=>k_is);(case l22=>k_is);(case c22=>k_is);(case k22=>k_is)
  (case a23=>k_is);(case l23=>k_is);(case c23=>k_is);(case k23=>k_is)
  (case a24=>k_is);(case l24=>k_is);(case c24=>k_is);(case k24=>k_is)
  (case a25=>k_is);(case l25=>k_is);(case c25=>k_is);(case k25=>k_is)
  (case a26=>k_is);(case l26=>k_is);(case c26=>k_is);(case k26=>k_is)
  (case a27=>k_is);(case l27=>k_is);(case c27=>k_is);(case k27=>k_is)
  (case a28=>k_is);(case l28=>k_is);(case c28=>k_is);(case k28=>k_is)
  (case y1=>k_is)
  (case y2=>k_is)
  (case y3=>k_is)
  (case z1=>k_is)
  (case z2=>k_is)
  (case z3=>k_is)
  (case z4=>k_is)
  (case z5=>k_is)
  (case z6=>k_is)
  (case z7=>k_is)
  (case z8=>k_is)
  (case z9=>k_is)
  (case z10=>k_is)
  (case z11=>k_is)
  (case z12=>k_is)
  (case z13=>k_is)
  (case z14=>k_is)
  (case z15=>k_is)
  (case z16=>k_is)
end
