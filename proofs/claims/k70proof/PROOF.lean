import PyProof.Rows.All
import Wide.All
import OpenK.AllK
import Wide.FinOn
import Lean
import PyProof.EqAt
import PyProof.EqKinds
import PyProof.TupleCall
import PySem.Challenge.RW_partrests_k70_no_texts
set_option Elab.async false
set_option linter.all false
set_option maxRecDepth 100000
noncomputable section
namespace L2
open PySem PySem.Spec PyProof.Rows
abbrev Key:=Sum Int Str
def keyIs:Key→Value→Bool
 | .inl k,v=>Value.isInt k v
 | .inr x,v=>Value.isStrOf x v
def keyH (w:World):Key→Int
 | .inl k=>hashInt k
 | .inr x=>hashStr w x
theorem keyIs_shape:∀ {k:Key} {v:Value},keyIs k v=true→(∃ i t,k=Sum.inl i∧v=Value.int i t)∨(∃ x t,k=Sum.inr x∧v=Value.str x t)
 | .inl i,v,h=>by
   obtain ⟨t,e⟩:=Value.isInt_shape (k:=i) (v:=v) h
   exact .inl ⟨i,t,rfl,e⟩
 | .inr x,v,h=>by
   obtain ⟨t,e⟩:=Value.isStrOf_shape (x:=x) (v:=v) h
   exact .inr ⟨x,t,rfl,e⟩
theorem keyIs_int (i:Int) (t:Tok):keyIs (.inl i) (.int i t)=true:=by simp [keyIs,Value.isInt]
theorem keyIs_str (x:Str) (t:Tok):keyIs (.inr x) (.str x t)=true:=by simp [keyIs,Value.isStrOf]
theorem key_ll (a b:Int):decide ((Sum.inl a:Key)=Sum.inl b)=(a == b):=by
 by_cases e:a=b
 · subst e;simp
 · have h:¬ (Sum.inl a:Key)=Sum.inl b:=fun q=>e (Sum.inl.inj q)
   rw [decide_eq_false h]
   exact (beq_eq_false_iff_ne.mpr e).symm
theorem key_rr (a b:Str):decide ((Sum.inr a:Key)=Sum.inr b)=decide (a=b):=by
 by_cases e:a=b
 · subst e;simp
 · have h:¬ (Sum.inr a:Key)=Sum.inr b:=fun q=>e (Sum.inr.inj q)
   rw [decide_eq_false h,decide_eq_false e]
theorem key_lr (a:Int) (b:Str):decide ((Sum.inl a:Key)=Sum.inr b)=false:=decide_eq_false (fun q=>nomatch q)
theorem key_rl (a:Str) (b:Int):decide ((Sum.inr a:Key)=Sum.inl b)=false:=decide_eq_false (fun q=>nomatch q)
def mixKind (prog:Program) (w:World):PySem.KeyKind prog w Key where
 is:=keyIs
 hash:=keyH w
 inj:=fun v a b ha hb=>by
  rcases keyIs_shape ha with ⟨i,t,rfl,rfl⟩ | ⟨x,t,rfl,rfl⟩
  · rcases keyIs_shape hb with ⟨j,u,rfl,e⟩ | ⟨y,u,rfl,e⟩
    · injection e with e1 _;rw [e1]
    · exact nomatch e
  · rcases keyIs_shape hb with ⟨j,u,rfl,e⟩ | ⟨y,u,rfl,e⟩
    · exact nomatch e
    · injection e with e1 _;rw [e1]
 byValue:=fun k v h=>by
  rcases keyIs_shape h with ⟨i,t,rfl,rfl⟩ | ⟨x,t,rfl,rfl⟩ <;> rfl
 pyHash:=fun hv h=>by
  rcases keyIs_shape hv with ⟨i,t,rfl,rfl⟩ | ⟨x,t,rfl,rfl⟩
  · exact wpAny_pyHash_int h
  · exact wpAny_pyHash_str h
 eqBool:=fun hu hv h=>by
  rcases keyIs_shape hu with ⟨i,t,rfl,rfl⟩ | ⟨x,t,rfl,rfl⟩
  · rcases keyIs_shape hv with ⟨j,u,rfl,rfl⟩ | ⟨y,u,rfl,rfl⟩
    · rw [key_ll] at h;exact wpAny_eqBool_int h
    · rw [key_lr] at h;exact SeqAt.EqAt.int_str i t y u _ _ _ _ h
  · rcases keyIs_shape hv with ⟨j,u,rfl,rfl⟩ | ⟨y,u,rfl,rfl⟩
    · rw [key_rl] at h;exact SeqAt.EqAt.str_int x t j u _ _ _ _ h
    · rw [key_rr] at h;exact wpAny_eqBool_str h
 «strs»:=fun k x t v h=>by
  rcases keyIs_shape h with ⟨i,u,rfl,e⟩ | ⟨y,u,rfl,e⟩
  · exact nomatch e
  · injection e with e1 _
    subst e1
    cases v <;> rfl
theorem mixKind_int (prog:Program) (w:World) (i:Int) (t:Tok):(mixKind prog w).is (.inl i) (.int i t)=true:=keyIs_int i t
theorem mixKind_str (prog:Program) (w:World) (x:Str) (t:Tok):(mixKind prog w).is (.inr x) (.str x t)=true:=keyIs_str x t
inductive V where
 | non | bl (b:Bool) | int (i:Int) | str (x:Str) | byt (b:Array UInt8) | flt (b:UInt64) | ref (a:Addr) | ty (n:String)
 deriving DecidableEq
def RelV:V→Value→Prop
 | .non,u=>u=Value.none
 | .bl b,u=>u=Value.bool b
 | .int i,u=>∃ t,u=Value.int i t
 | .str x,u=>∃ t,u=Value.str x t
 | .byt b,u=>∃ t,u=Value.bytes b t
 | .flt b,u=>∃ t,u=Value.float b t
 | .ref a,u=>u=Value.ref a
 | .ty n,u=>u=Value.type n
abbrev Vals:List V→List Value→Prop:=Paired RelV
theorem Vals.length {xs:List V} {us:List Value} (r:Vals xs us):xs.length=us.length:=Paired.length r
theorem Vals.get:∀ {xs:List V} {us:List Value} {i:Nat} {x:V},Vals xs us→xs[i]? = some x→∃ u,us[i]? = some u∧RelV x u
 | _,_,_,_,.nil,e=>by simp at e
 | _,_,0,_,.cons r _,e=>by simp at e;subst e;exact ⟨_,rfl,r⟩
 | _,_,i+1,x,.cons _ t,e=>by
   obtain ⟨u,h1,h2⟩:=Vals.get (i:=i) (x:=x) t (by simpa using e)
   exact ⟨u,by simpa using h1,h2⟩
theorem Vals.set {x:V} {u:Value} (r:RelV x u):∀ {xs:List V} {us:List Value} (i:Nat),Vals xs us→Vals (xs.set i x) (us.set i u)
 | _,_,_,.nil=>.nil
 | _,_,0,.cons _ t=>.cons r t
 | _,_,i+1,.cons q t=>.cons q (Vals.set r i t)
theorem Vals.append:∀ {xs ys:List V} {us ws:List Value},Vals xs us→Vals ys ws→Vals (xs++ys) (us++ws)
 | _,_,_,_,.nil,s=>s
 | _,_,_,_,.cons r t,s=>.cons r (Vals.append t s)
theorem Vals.take:∀ {xs:List V} {us:List Value} (n:Nat),Vals xs us→Vals (xs.take n) (us.take n)
 | _,_,0,_=>.nil
 | _,_,_+1,.nil=>.nil
 | _,_,n+1,.cons r t=>.cons r (Vals.take n t)
theorem Vals.drop:∀ {xs:List V} {us:List Value} (n:Nat),Vals xs us→Vals (xs.drop n) (us.drop n)
 | _,_,0,r=>r
 | _,_,_+1,.nil=>.nil
 | _,_,n+1,.cons _ t=>Vals.drop n t
def TupD (h:Heap) (a:Addr) (items:Array Value):Prop:=∃ n,h.get? a=some { cls:=.type "tuple",data:=.seq items n }
theorem TupD.tup {h:Heap} {a:Addr} {items:Array Value} (p:TupD h a items):IsTup h a items:=let ⟨n,e⟩:=p;⟨_,e,rfl,n,rfl⟩
theorem TupD.new (h:Heap) (items:Array Value):TupD (h.push { cls:=.type "tuple",data:=.seq items }) h.objs.size items:=⟨_,Heap.get?_push_size _ rfl⟩
def RelO:Option V→Option Value→Prop
 | some v,some u=>RelV v u
 | none,none=>True
 | _,_=>False
def KV {κ:Type}:List (κ×V)→List (κ×Value)→Prop:=Paired fun (p:κ×V) (q:κ×Value)=>p.1=q.1∧RelV p.2 q.2
def kV:Key→V
 | .inl i=>.int i
 | .inr x=>.str x
inductive HO where
 /-- a list -/
 | lst (xs:List V)
 /-- a tuple (never changes) -/
 | tup (xs:List V)
 /-- a dict whose keys are ints and texts;one whose keys are tuples of ints and texts (the empty one is both) -/
 | dK (kvs:List (Key×V)) | dT (kvs:List (List Key×V))
 /-- a set of ints: its members,its size -/
 | set (S:Int→Bool) (n:Nat)
 /-- an instance of the class at C,its dict at dx,its attributes -/
 | ins (C dx:Addr) (fs:List (Str×V))
 /-- the dict of the instance at x -/
 | own (x:Addr)
 /-- the dict of an exception -/
 | xd (fs:List (Str×V))
 /-- a bound method,f of x -/
 | met (f x:Addr)
 /-- a range object lo,lo+1,.. below hi -/
 | rng (lo hi:Int)
 /-- a thing that is known to the object (the script;a dict while a loop walks it): read,never written while it is so -/
 | frz (o:Obj) (u:HO)
 /-- a code object's table -/
 | tbl (ps:Array Value)
 /-- any other thing,by what is true of its one object (a def of one's own: SetO a S n:=HO.ext fun h=>..) -/
 | ext (φ:Heap→Prop)
abbrev Hp:=Addr→Option HO
def upd (H:Hp) (a:Addr) (o:HO):Hp:=fun b=>if b=a then some o else H b
theorem upd_same {H:Hp} {a:Addr} {o:HO}:upd H a o a=some o:=by unfold upd;rw [if_pos rfl]
theorem upd_ne {H:Hp} {a b:Addr} {o:HO} (h:b≠a):upd H a o b=H b:=by unfold upd;rw [if_neg h]
theorem ne_of_none {H:Hp} {a b:Addr} {o:HO} (h:H a=some o) (h':H b=none):a≠b:=by
 intro e;subst e;rw [h] at h';cases h'
section
variable (P:Program) (w:World)
def ObjOk (H:Hp) (h:Heap) (a:Addr):HO→Prop
 | .lst xs=>xs.length≤sizeLine∧∃ (its:List Value) (n:Nat),Vals xs its∧h.get? a=some { cls:=.type "list",data:=.seq its.toArray n }
 | .tup xs=>xs.length≤sizeLine∧∃ its:List Value,Vals xs its∧TupD h a its.toArray
 | .dK kvs=>kvs.length≤sizeLine∧(a == sysModules)=false∧∃ vs,KV kvs vs∧h.DictOf (mixKind P w) a vs
 | .dT kvs=>kvs.length≤sizeLine∧(a == sysModules)=false∧∃ xs:List (List Key×Addr×Value),
  Paired (fun (p:List Key×V) (q:List Key×Addr×Value)=>p.1=q.1∧H q.2.1=some (.tup (p.1.map kV))∧RelV p.2 q.2.2) kvs xs ∧
  ∃ o es ep,h.get? a=some o∧o.ExactDict∧o.data=.dict es ep∧es.toList=xs.map (entryOfKey (tupleKind (mixKind P w)))∧(xs.map (·.1)).Nodup
 | .set S n=>h.SetOf (intKind P w) a S n
 | .ins C dx fs=>H dx=some (.own a)∧fs.length≤1000∧dx≠a∧h.get? a=some (PySem.W.instObj C dx) ∧
  ∃ mA,h.Ns1 dx mA∧(∀ f,RelO (fs.lookup f) (mA f))∧PySem.Within mA (fs.map (·.1))
 | .own _=>∃ o,h.get? a=some o
 | .xd fs=>∃ mA,h.Ns1 a mA∧∀ f,RelO (fs.lookup f) (mA f)
 | .rng lo hi=>∃ t u v,h.get? a=some { cls:=.type "range",data:=.fields #[.int lo t,.int hi u,.int 1 v] }
 | .frz o u=>h.get? a=some o∧ObjOk H h a u
 | .tbl ps=>h.get? a=some { cls:=.none,data:=.fields ps }
 | .met f x=>h.get? a=some (PySem.W.methodObj (.ref f) (.ref x))
 | .ext φ=>φ h∧(∃ o,h.get? a=some o)∧∀ h1 h2:Heap,φ h1→(∀ o,h1.get? a=some o→h2.get? a=some o)→φ h2
def HOk (H:Hp) (h:Heap):Prop:=∀ a o,H a=some o→ObjOk P w H h a o
end
section
variable {P:Program} {w:World} {H H':Hp} {h h':Heap} {a:Addr} {o:HO}
theorem ObjOk.lt (x:ObjOk P w H h a o):a<h.objs.size:=by
 cases o with
 | lst xs=>obtain ⟨_,_,_,_,e⟩:=x;exact Heap.lt_size e
 | tup xs=>obtain ⟨_,_,_,p⟩:=x;exact p.tup.lt
 | dK kvs=>obtain ⟨_,_,_,_,o,_,_,e,_⟩:=x;exact Heap.lt_size e
 | dT kvs=>obtain ⟨_,_,_,_,o,_,_,e,_⟩:=x;exact Heap.lt_size e
 | set S n=>obtain ⟨o,_,_,_,e,_⟩:=x;exact Heap.lt_size e
 | ins C dx fs=>obtain ⟨_,_,_,e,_⟩:=x;exact Heap.lt_size e
 | own y=>obtain ⟨_,e⟩:=x;exact Heap.lt_size e
 | xd fs=>obtain ⟨_,⟨_,_,_,e,_⟩,_⟩:=x;exact Heap.lt_size e
 | rng lo hi=>obtain ⟨_,_,_,e⟩:=x;exact Heap.lt_size e
 | frz ob u=>obtain ⟨e,_⟩:=x;exact Heap.lt_size e
 | tbl ps=>exact Heap.lt_size (show h.get? a=some _ from x)
 | met f y=>exact Heap.lt_size (show h.get? a=some _ from x)
 | ext φ=>obtain ⟨_,⟨_,e⟩,_⟩:=x;exact Heap.lt_size e
theorem Paired.mapP {α β:Type} {F G:α→β→Prop}:∀ {l₁:List α} {l₂:List β},Paired F l₁ l₂→(∀ a b,F a b→G a b)→Paired G l₁ l₂
 | _,_,.nil,_=>.nil
 | _,_,.cons r t,f=>.cons (f _ _ r) (Paired.mapP t f)
theorem ObjOk.stay (x:ObjOk P w H h a o) (k:∀ b u,(b=a∨H b=some (.own a))→h.get? b=some u→h'.get? b=some u)
 (ho:∀ b,H b=some (.own a)→H' b=some (.own a)) (ht:∀ b xs,H b=some (.tup xs)→H' b=some (.tup xs)):ObjOk P w H' h' a o:=by
 induction o with
 | lst xs=>obtain ⟨z,its,n,r,e⟩:=x;exact ⟨z,its,n,r,k _ _ (.inl rfl) e⟩
 | tup xs=>obtain ⟨z,its,r,ob,e⟩:=x;exact ⟨z,its,r,ob,k _ _ (.inl rfl) e⟩
 | dK kvs=>obtain ⟨z,y,vs,r,ob,es,ep,e,c⟩:=x;exact ⟨z,y,vs,r,ob,es,ep,k _ _ (.inl rfl) e,c⟩
 | dT kvs=>
   obtain ⟨z,y,xs,r,ob,es,ep,e,c⟩:=x
   exact ⟨z,y,xs,Paired.mapP r fun p q z=>⟨z.1,ht _ _ z.2.1,z.2.2⟩,ob,es,ep,k _ _ (.inl rfl) e,c⟩
 | set S n=>obtain ⟨ob,es,ep,t,e,c⟩:=x;exact ⟨ob,es,ep,t,k _ _ (.inl rfl) e,c⟩
 | ins C dx fs=>
   obtain ⟨d,z,ne,e,mA,⟨od,es,ep,e2,c⟩,r⟩:=x
   exact ⟨ho _ d,z,ne,k _ _ (.inl rfl) e,mA,⟨od,es,ep,k _ _ (.inr d) e2,c⟩,r⟩
 | own y=>obtain ⟨ob,e⟩:=x;exact ⟨ob,k _ _ (.inl rfl) e⟩
 | xd fs=>obtain ⟨mA,⟨od,es,ep,e,c⟩,r⟩:=x;exact ⟨mA,⟨od,es,ep,k _ _ (.inl rfl) e,c⟩,r⟩
 | rng lo hi=>obtain ⟨t,u,v,e⟩:=x;exact ⟨t,u,v,k _ _ (.inl rfl) e⟩
 | frz ob u ih=>obtain ⟨e,q⟩:=x;exact ⟨k _ _ (.inl rfl) e,ih q⟩
 | tbl ps=>
   have e:h.get? a=some { cls:=.none,data:=.fields ps }:=x
   show h'.get? a=some { cls:=.none,data:=.fields ps }
   exact k a _ (.inl rfl) e
 | met f y=>
   have e:h.get? a=some (PySem.W.methodObj (.ref f) (.ref y)):=x
   show h'.get? a=some (PySem.W.methodObj (.ref f) (.ref y))
   exact k a _ (.inl rfl) e
 | ext φ=>obtain ⟨p,⟨o,e⟩,st⟩:=x;exact ⟨st _ _ p fun o q=>k _ _ (.inl rfl) q,⟨o,k _ _ (.inl rfl) e⟩,st⟩
theorem HOk.lt (x:HOk P w H h) (e:H a=some o):a<h.objs.size:=(x a o e).lt
theorem HOk.fresh (x:HOk P w H h) (e:h.objs.size≤a):H a=none:=by
 cases q:H a with
 | none=>rfl
 | some u=>exact absurd (Nat.lt_of_lt_of_le (x.lt q) e) (Nat.lt_irrefl _)
theorem HOk.kept (x:HOk P w H h) (k:∀ b u,h.get? b=some u→h'.get? b=some u):HOk P w H h':=fun a o e=>
 (x a o e).stay (fun b u _ q=>k b u q) (fun _ q=>q) fun _ _ q=>q
theorem HOk.laid (x:HOk P w H h) (k:∀ b u,h.get? b=some u→h'.get? b=some u) (hp:h.objs.size≤a) (new:ObjOk P w (upd H a o) h' a o):HOk P w (upd H a o) h':=fun b u e=>by
 have hn:=x.fresh hp
 by_cases hb:b=a
 · subst hb;rw [upd_same] at e;cases e;exact new
 · rw [upd_ne hb] at e
   exact (x b u e).stay (fun c v _ q=>k c v q) (fun c q=>by rw [upd_ne (ne_of_none q hn)];exact q) fun c xs q=>by rw [upd_ne (ne_of_none q hn)];exact q
end
def Rd (H:Hp) (a:Addr) (u:HO):Prop:=H a=some u∨∃ o,H a=some (.frz o u)
theorem Rd.ok {P:Program} {w:World} {H:Hp} {h:Heap} {a:Addr} {u:HO} (r:Rd H a u) (x:HOk P w H h):ObjOk P w H h a u:=by
 rcases r with r | ⟨o,r⟩
 · exact x a u r
 · obtain ⟨_,q⟩:=x a _ r
   exact q
def Mut:Option HO→Prop
 | some (.lst _)=>True
 | some (.dK _)=>True
 | some (.dT _)=>True
 | some (.set _ _)=>True
 | some (.ins _ _ _)=>True
 | some (.ext _)=>True
 | _=>False
section
variable {P:Program} {w:World} {H:Hp} {h h':Heap} {x e:Addr} {o':HO}
theorem HOk.write (ok:HOk P w H h) (mu:Mut (H x)) (he:e=x∨H e=some (.own x)) (k:∀ b u,b≠e→h.get? b=some u→h'.get? b=some u) (heo:∃ u,h'.get? e=some u)
 (new:ObjOk P w (upd H x o') h' x o'):HOk P w (upd H x o') h':=fun b u q=>by
 have nown:∀ c y,H c=some (.own y)→c≠x:=fun c y r z=>by subst z;rw [r] at mu;exact mu
 have ntup:∀ c xs,H c=some (.tup xs)→c≠x:=fun c xs r z=>by subst z;rw [r] at mu;exact mu
 by_cases hb:b=x
 · subst hb;rw [upd_same] at q;cases q;exact new
 · rw [upd_ne hb] at q
   by_cases hbe:b=e
   · have q':H b=some (.own x):=by
      rcases he with z | z
      · exact absurd (hbe.trans z) hb
      · rw [hbe];exact z
     rw [q] at q';cases q'
     obtain ⟨v,hv⟩:=heo
     exact ⟨v,by rw [hbe];exact hv⟩
   · refine (ok b u q).stay (fun c v hc r=>k c v ?_ r) (fun c r=>by rw [upd_ne (nown c b r)];exact r) fun c xs r=>by rw [upd_ne (ntup c xs r)];exact r
     rcases hc with rfl | hc
     · exact hbe
     · rintro rfl
       rcases he with z | z
       · exact nown c b hc z
       · rw [hc] at z;cases z;exact hb rfl
end
structure Un (fs ex:List Addr) (H H':Hp) (h h':Heap):Prop where
 keep:∀ b o,h.get? b=some o→H b=none→b∉fs→b∉ex→h'.get? b=some o
 slot:∀ b o,h.get? b=some o→H b=none→b∈fs→b∉ex→∃ sl,h'.get? b=some { o with slots:=sl }
 free:∀ b o,h.get? b=some o→H b=none→b∉ex→H' b=none
 there:∀ b o,h.get? b=some o→b∉ex→∃ o',h'.get? b=some o'
 tups:∀ b xs,H b=some (.tup xs)→H' b=some (.tup xs)
 frzs:∀ b o u,H b=some (.frz o u)→H' b=some (.frz o u)
 tbls:∀ b ps,H b=some (.tbl ps)→∃ more,H' b=some (.tbl (ps++more))
section
variable {fs fs' ex ex':List Addr} {H H1 H2:Hp} {h h1 h2 h':Heap} {a x e:Addr} {o:HO}
theorem Un.any (u:Un fs ex H H1 h h1) {b:Addr} {ob:Obj} (q:h.get? b=some ob) (n:H b=none) (hx:b∉ex):∃ sl,h1.get? b=some { ob with slots:=sl }:=by
 by_cases hb:b∈fs
 · exact u.slot b ob q n hb hx
 · exact ⟨ob.slots,u.keep b ob q n hb hx⟩
theorem Un.kept (k:∀ b u,h.get? b=some u→h'.get? b=some u):Un fs ex H H h h':=
 ⟨fun b ob q _ _ _=>k b ob q,fun b ob q _ _ _=>⟨ob.slots,k b ob q⟩,fun _ _ _ n _=>n,fun b ob q _=>⟨ob,k b ob q⟩,fun _ _ q=>q,fun _ _ _ q=>q,fun _ ps q=>⟨#[],by rw [q];simp⟩⟩
theorem Un.refl:Un fs ex H H h h:=Un.kept fun _ _ q=>q
theorem Un.laid (k:∀ b u,h.get? b=some u→h'.get? b=some u) (hp:h.objs.size≤a) (hn:H a=none):Un fs ex H (upd H a o) h h' where
 keep:=fun b u q _ _ _=>k b u q
 slot:=fun b u q _ _ _=>⟨u.slots,k b u q⟩
 free:=fun b u q n _=>by rw [upd_ne (Nat.ne_of_lt (Nat.lt_of_lt_of_le (Heap.lt_size q) hp))];exact n
 there:=fun b u q _=>⟨u,k b u q⟩
 tups:=fun b xs q=>by rw [upd_ne (ne_of_none q hn)];exact q
 frzs:=fun b u xs q=>by rw [upd_ne (ne_of_none q hn)];exact q
 tbls:=fun b ps q=>⟨#[],by rw [upd_ne (ne_of_none q hn),q];simp⟩
theorem Un.write (mu:Mut (H x)) (he:e=x∨H e=some (.own x)) (k:∀ b u,b≠e→h.get? b=some u→h'.get? b=some u) (heo:∃ u,h'.get? e=some u):Un fs ex H (upd H x o) h h':=by
 have hx:∀ b,H b=none→b≠x:=fun b n z=>by subst z;rw [n] at mu;exact mu
 have hb:∀ b,H b=none→b≠e:=fun b n z=>by
  subst z
  rcases he with r | r
  · exact hx b n r
  · rw [n] at r;cases r
 have hm:∀ b u,H b=some u→¬ Mut (some u)→b≠x:=fun b u q nm z=>by subst z;rw [q] at mu;exact nm mu
 refine ⟨fun b u q n _ _=>k b u (hb b n) q,fun b u q n _ _=>⟨u.slots,k b u (hb b n) q⟩,fun b u q n _=>by rw [upd_ne (hx b n)];exact n,fun b u q _=>?_,
  fun b xs q=>by rw [upd_ne (hm b _ q fun z=>z)];exact q,fun b u xs q=>by rw [upd_ne (hm b _ q fun z=>z)];exact q,fun b ps q=>⟨#[],by rw [upd_ne (hm b _ q fun z=>z),q];simp⟩⟩
 by_cases hbe:b=e
 · subst hbe;exact heo
 · exact ⟨u,k b u hbe q⟩
end
def trk (h:Heap) (H:Hp):List Addr:=(List.range h.objs.size).filter fun a=>(H a).isSome
def hidT (h:Heap) (H:Hp):Heap:=PySem.W.hideAll h (trk h H)
theorem hidT_size (h:Heap) (H:Hp):(hidT h H).objs.size=h.objs.size:=PySem.W.hideAll_size _ _
theorem hidT_get {h:Heap} {H:Hp} {b:Addr} {o:Obj} (e:h.get? b=some o) (n:H b=none):(hidT h H).get? b=some o:=
 PySem.W.hideAll_get _ e fun hm=>by
  have q:(H b).isSome=true:=(List.mem_filter.mp hm).2
  rw [n] at q;simp at q
theorem of_hidT {h:Heap} {H:Hp} {b:Addr} {o:Obj} (e:(hidT h H).get? b=some o):h.get? b=some o∧H b=none:=by
 have e':h.get? b=some o:=PySem.W.of_hideAll (trk h H) e
 refine ⟨e',?_⟩
 cases q:H b with
 | none=>rfl
 | some x=>
   have hm:b∈trk h H:=List.mem_filter.mpr ⟨List.mem_range.mpr (Heap.lt_size e'),by simp [q]⟩
   have z:(hidT h H).get? b=none:=PySem.W.hideAll_none (trk h H) hm
   rw [z] at e;cases e
structure Mod (K:PySem.W.Frag) (mg:Str→Option Value) (base:Heap):Prop where
 kin:K.In base
 glob:base.Ns mainGlobals mg
 blt:∃ mb,base.Ns builtinsNs mb∧∀ x:Str,x≠"__name__"→mb x=bootBuiltins x
 nolimit:base.NoLimit
structure Cx where
 prog:Program
 w:World
 K:PySem.W.Frag
 mg:Str→Option Value
 base:Heap
 A:Around
 N:List Str
 s₀:Shared
 H₀:Hp
 env:Env
 outer:List Env
 stack:List Env
 ex:List Addr
 fn:Str→Bool
 calm:Bool
 pn:List (Addr×Obj)
 xe:Value→Shared→Prop
def frs (l:List Env):List Addr:=l.filterMap (·.frame)
abbrev Cx.fs (X:Cx):List Addr:=frs X.outer
def Vis (sc:Scope) (x:Str):Prop:=sc.names.lookup x=some .local∨sc.names.lookup x=some .cell∨sc.names.lookup x=some .free
def Loc (sc:Scope) (x:Str):Prop:=sc.names.lookup x=some .local∨sc.names.lookup x=some .cell
def Look (env:Env) (h:Heap) (m:Str→Option Value) (x:Str) (u:Value):Prop:=
 (env.kindOf x=some .local∧m x=some u)∨((env.kindOf x=some .cell∨env.kindOf x=some .free)∧∃ c,env.cells.lookup x=some c∧h.IsCell c (some u))
structure Cx.Ok (X:Cx):Prop where
 mod:Mod X.K X.mg X.base
 kind:X.env.scope.kind=.function
 glob:X.env.globals=mainGlobals
 blt:X.env.builtins=builtinsNs
 above:X.s₀.heap.objs.size≤X.env.locals
 inj:∀ x y c,X.env.cells.lookup x=some c→X.env.cells.lookup y=some c→x=y
 has:∀ x,(X.env.kindOf x=some .cell∨X.env.kindOf x=some .free)→∃ c,X.env.cells.lookup x=some c
 cab:∀ x c,X.fn x=true→X.env.cells.lookup x=some c→X.s₀.heap.objs.size≤c
 hd:X.calm=true→X.A.handled=none
 frames:X.A.frames=some X.stack
 stk:X.stack=X.outer∨(X.stack=X.env::X.outer∧X.env.frame=some X.env.locals)
 exf:∀ b∈X.ex,b≠X.env.locals∧∀ x c,X.env.cells.lookup x=some c→c≠b
 bs:∀ b o,X.base.get? b=some o→X.s₀.heap.get? b=some o∧X.H₀ b=none
 bsz:X.base.objs.size≤X.s₀.heap.objs.size
 noex:∀ b o,X.base.get? b=some o→b∉X.ex
 exfs:∀ b∈X.ex,b∉X.fs
 funs:X.s₀.heap.FunFrames X.base X.outer
 frf:∀ b∈X.fs,X.H₀ b=none
structure Inv (X:Cx) (pins:List (Addr×Obj)) (σ:List (Option V)) (H:Hp) (s:Shared):Prop where
 ok:X.Ok
 os:s.os=X.s₀.os
 bare:AllBare s.gens
 base:Un X.fs X.ex X.H₀ H X.s₀.heap s.heap
 loc:∃ m,s.heap.Ns X.env.locals m∧∀ (i:Nat) (x:Str) (v:V),X.N[i]? = some x→σ[i]? = some (some v)→Vis X.env.scope x→∃ u,RelV v u∧Look X.env s.heap m x u
 cell:∀ x c,X.env.cells.lookup x=some c→∃ v,s.heap.IsCell c v
 free:H X.env.locals=none
 freeC:∀ x c,X.env.cells.lookup x=some c→H c=none
 pin:∀ p∈X.pn++pins,s.heap.get? p.1=some p.2∧H p.1=none∧p.1≠X.env.locals∧p.1∉X.fs∧∀ v,p.2.data≠.cell v
 hok:HOk X.prog X.w H s.heap
 len:σ.length=X.N.length
section
variable {X:Cx} {pins:List (Addr×Obj)} {σ:List (Option V)} {H H':Hp} {s:Shared} {h':Heap}
theorem Cx.Ok.nofr (ok:X.Ok) {b:Addr} {o:Obj} (e:X.base.get? b=some o):b∉X.fs:=fun hb=>by
 have:=(ok.funs.mem hb).1
 rw [e] at this;cases this
theorem Inv.bs (I:Inv X pins σ H s):∀ b o,X.base.get? b=some o→s.heap.get? b=some o∧H b=none:=fun b o e=>
 ⟨I.base.keep b o (I.ok.bs b o e).1 (I.ok.bs b o e).2 (I.ok.nofr e) (I.ok.noex b o e),I.base.free b o (I.ok.bs b o e).1 (I.ok.bs b o e).2 (I.ok.noex b o e)⟩
theorem Inv.bk (I:Inv X pins σ H s):∀ b o,X.base.get? b=some o→s.heap.get? b=some o:=fun b o e=>(I.bs b o e).1
theorem Inv.mod (I:Inv X pins σ H s):Mod X.K X.mg X.base:=I.ok.mod
theorem Inv.kIn (I:Inv X pins σ H s):X.K.In s.heap:=I.ok.mod.kin.keeps I.bk
theorem Inv.lt (I:Inv X pins σ H s):X.env.locals<s.heap.objs.size:=let ⟨_,hn,_⟩:=I.loc;hn.lt
theorem Inv.sz (I:Inv X pins σ H s):X.s₀.heap.objs.size≤s.heap.objs.size:=Nat.le_trans I.ok.above (Nat.le_of_lt I.lt)
theorem Inv.nofs (I:Inv X pins σ H s) {a:Addr} (h:s.heap.objs.size≤a):a∉X.fs:=fun hb=>by
 obtain ⟨_,o,ho,_⟩:=I.ok.funs.mem hb
 exact absurd (Nat.lt_of_lt_of_le (Heap.lt_size ho) (Nat.le_trans I.sz h)) (Nat.lt_irrefl _)
theorem Inv.cne (I:Inv X pins σ H s):∀ x c,X.env.cells.lookup x=some c→c≠X.env.locals:=fun x c e z=>by
 obtain ⟨v,o,ho,hd⟩:=I.cell x c e
 obtain ⟨m,⟨o',es,ep,ho',hd',_⟩,_⟩:=I.loc
 rw [z,ho'] at ho;cases ho;rw [hd'] at hd;cases hd
theorem Inv.funs (I:Inv X pins σ H s):s.heap.FunFrames X.base X.outer:=by
 have all:∀ (l:List Env),(∀ b∈frs l,b∈X.fs)→X.s₀.heap.FunFrames X.base l→s.heap.FunFrames X.base l:=by
  intro l
  induction l with
  | nil=>intro _ _;trivial
  | cons env r ih=>
    intro hs hl
    obtain ⟨hk,⟨L,o,hf,hn,ho,hd⟩,hr⟩:=hl
    have hL:L∈X.fs:=hs L (by unfold frs;rw [List.filterMap_cons,hf];exact List.mem_cons_self)
    obtain ⟨sl,e⟩:=I.base.slot L o ho (I.ok.frf L hL) hL fun z=>I.ok.exfs L z hL
    exact ⟨hk,⟨L,_,hf,hn,e,hd⟩,ih (fun b hb=>hs b (by unfold frs;rw [List.filterMap_cons,hf];exact List.mem_cons_of_mem _ hb)) hr⟩
 exact all X.outer (fun _ hb=>hb) I.ok.funs
theorem Inv.stack (I:Inv X pins σ H s):s.heap.FunFrames X.base X.stack:=by
 rcases I.ok.stk with e | ⟨e,hf⟩
 · rw [e];exact I.funs
 · rw [e]
   obtain ⟨m,hn,_⟩:=I.loc
   refine .cons (by rw [I.ok.kind];decide) hf hn ?_ I.funs
   exact Heap.get?_none_of_le (Nat.le_trans I.ok.bsz I.ok.above)
theorem Inv.stkSub (I:Inv X pins σ H s):∀ b∈frs X.stack,b∈X.env.locals::X.fs:=fun b hb=>by
 rcases I.ok.stk with e | ⟨e,hf⟩
 · rw [e] at hb;exact List.mem_cons_of_mem _ hb
 · rw [e] at hb
   unfold frs at hb
   rw [List.filterMap_cons,hf] at hb
   exact hb
theorem Inv.stkFree (I:Inv X pins σ H s):∀ b∈frs X.stack,H b=none:=fun b hb=>by
 rcases List.mem_cons.mp (I.stkSub b hb) with e | hb
 · rw [e];exact I.free
 · obtain ⟨_,o,ho,_⟩:=I.ok.funs.mem hb
   exact I.base.free b o ho (I.ok.frf b hb) fun z=>I.ok.exfs b z hb
theorem Inv.step {g':Array GenState} {t':Nat} {d':Drawn} {ch:List Addr} (I:Inv X pins σ H s)
 (hch:∀ b∈ch,(b∈X.ex∨X.s₀.heap.objs.size≤b)∧b≠X.env.locals∧(∀ x c,X.env.cells.lookup x=some c→c≠b)∧∀ p∈X.pn++pins,p.1≠b)
 (keep:∀ b o,b≠X.env.locals→b∉X.fs→b∉ch→s.heap.get? b=some o→H b=none→h'.get? b=some o)
 (slot:∀ b o,b≠X.env.locals→b∈X.fs→b∉ch→s.heap.get? b=some o→H b=none→∃ sl,h'.get? b=some { o with slots:=sl }) (free:∀ b o,b∉ch→s.heap.get? b=some o→H b=none→H' b=none)
 (there:∀ b o,b∉ch→s.heap.get? b=some o→∃ o',h'.get? b=some o')
 (tups:∀ b xs,H b=some (.tup xs)→H' b=some (.tup xs)) (frzs:∀ b o u,H b=some (.frz o u)→H' b=some (.frz o u)) (tbls:∀ b ps,H b=some (.tbl ps)→∃ more,H' b=some (.tbl (ps++more)))
 (ns:∀ m,s.heap.Ns X.env.locals m→h'.Ns X.env.locals m) (hok:HOk X.prog X.w H' h') (hg:AllBare g') :
 Inv X pins σ H' { s with heap:=h',gens:=g',drawn:=d',toks:=t' }:=by
 have neL:∀ b o,X.s₀.heap.get? b=some o→b≠X.env.locals:=fun b o e=>Nat.ne_of_lt (Nat.lt_of_lt_of_le (Heap.lt_size e) I.ok.above)
 have neC:∀ b o,X.s₀.heap.get? b=some o→b∉X.ex→b∉ch:=fun b o e hx hb=>by
  rcases (hch b hb).1 with z | z
  · exact hx z
  · exact absurd (Nat.lt_of_lt_of_le (Heap.lt_size e) z) (Nat.lt_irrefl _)
 have cellK:∀ x c,X.env.cells.lookup x=some c→∀ v,s.heap.IsCell c v→h'.IsCell c v:=fun x c e v ⟨o,ho,hd⟩=>by
  have nch:c∉ch:=fun z=>(hch c z).2.2.1 x c e rfl
  by_cases hc:c∈X.fs
  · obtain ⟨sl,q⟩:=slot c o (I.cne x c e) hc nch ho (I.freeC x c e)
    exact ⟨_,q,hd⟩
  · exact ⟨o,keep c o (I.cne x c e) hc nch ho (I.freeC x c e),hd⟩
 refine ⟨I.ok,I.os,hg,⟨fun b o e n hb hx=>?_,fun b o e n hb hx=>?_,fun b o e n hx=>?_,fun b o e hx=>?_,fun b xs e=>tups b xs (I.base.tups b xs e),fun b o xs e=>frzs b o xs (I.base.frzs b o xs e),fun b ps e=>?_⟩,?_,fun x c e=>?_,?_,fun x c e=>?_,fun p hp=>?_,hok,I.len⟩
 · exact keep b o (neL b o e) hb (neC b o e hx) (I.base.keep b o e n hb hx) (I.base.free b o e n hx)
 · obtain ⟨sl,e1⟩:=I.base.slot b o e n hb hx
   obtain ⟨sl',e2⟩:=slot b _ (neL b o e) hb (neC b o e hx) e1 (I.base.free b o e n hx)
   exact ⟨sl',e2⟩
 · obtain ⟨o',e1⟩:=I.base.there b o e hx
   exact free b o' (neC b o e hx) e1 (I.base.free b o e n hx)
 · obtain ⟨o',e1⟩:=I.base.there b o e hx
   exact there b o' (neC b o e hx) e1
 · obtain ⟨m1,e1⟩:=I.base.tbls b ps e
   obtain ⟨m2,e2⟩:=tbls b _ e1
   exact ⟨m1++m2,by rw [e2,Array.append_assoc]⟩
 · obtain ⟨m,hn,hl⟩:=I.loc
   refine ⟨m,ns m hn,fun i x v e1 e2 e3=>?_⟩
   obtain ⟨u,r,l⟩:=hl i x v e1 e2 e3
   refine ⟨u,r,?_⟩
   rcases l with l | ⟨k,c,e,z⟩
   · exact .inl l
   · exact .inr ⟨k,c,e,cellK x c e _ z⟩
 · obtain ⟨v,z⟩:=I.cell x c e
   exact ⟨v,cellK x c e v z⟩
 · obtain ⟨m,⟨o,_,_,ho,_⟩,_⟩:=I.loc
   exact free _ o (fun z=>(hch _ z).2.1 rfl) ho I.free
 · obtain ⟨v,o,ho,hd⟩:=I.cell x c e
   exact free c o (fun z=>(hch c z).2.2.1 x c e rfl) ho (I.freeC x c e)
 · obtain ⟨e,n,ne,nf,d⟩:=I.pin p hp
   have nch:p.1∉ch:=fun z=>(hch p.1 z).2.2.2 p hp rfl
   exact ⟨keep p.1 p.2 ne nf nch e n,free p.1 p.2 nch e n,ne,nf,d⟩
theorem Inv.un {t':Nat} (I:Inv X pins σ H s) (u:Un X.fs [] H H' s.heap h') (hok:HOk X.prog X.w H' h'):Inv X pins σ H' { s with heap:=h',toks:=t' }:=by
 obtain ⟨m,⟨o,es,ep,ho,r⟩,_⟩:=id I.loc
 obtain ⟨sl,hL⟩:=u.any ho I.free (by simp)
 exact I.step (g':=s.gens) (d':=s.drawn) (ch:=[]) (fun _ z=>nomatch z) (fun b o _ hb _ e n=>u.keep b o e n hb (by simp)) (fun b o _ hb _ e n=>u.slot b o e n hb (by simp)) (fun b o _ e n=>u.free b o e n (by simp)) (fun b o _ e=>u.there b o e (by simp)) u.tups u.frzs u.tbls (fun m' hm=>by
  obtain ⟨o',es',ep',ho',r'⟩:=hm
  rw [ho] at ho';cases ho'
  exact ⟨_,es',ep',hL,r'⟩) hok I.bare
theorem Inv.call {g':Array GenState} {t':Nat} {d':Drawn} {ch:List Addr} (I:Inv X pins σ H s) (u:Un (frs X.stack) ch H H' s.heap h') (hok:HOk X.prog X.w H' h') (hg:AllBare g')
 (hch:∀ b∈ch,(b∈X.ex∨X.s₀.heap.objs.size≤b)∧b≠X.env.locals∧(∀ x c,X.env.cells.lookup x=some c→c≠b)∧∀ p∈X.pn++pins,p.1≠b) :
 Inv X pins σ H' { s with heap:=h',gens:=g',drawn:=d',toks:=t' }:=by
 obtain ⟨m,⟨o,es,ep,ho,r⟩,_⟩:=id I.loc
 obtain ⟨sl,hL⟩:=u.any ho I.free fun z=>(hch _ z).2.1 rfl
 exact I.step (ch:=ch) hch (fun b o hL hb hc e n=>u.keep b o e n (fun z=>(List.mem_cons.mp (I.stkSub b z)).elim hL hb) hc) (fun b o _ _ hc e n=>u.any e n hc) (fun b o hc e n=>u.free b o e n hc) (fun b o hc e=>u.there b o e hc) u.tups u.frzs u.tbls (fun m' hm=>by
  obtain ⟨o',es',ep',ho',r'⟩:=hm
  rw [ho] at ho';cases ho'
  exact ⟨_,es',ep',hL,r'⟩) hok hg
theorem Inv.turned {t':Nat} {it:Addr} (I:Inv X pins σ H s) (k:∀ b o,b≠it→s.heap.get? b=some o→h'.get? b=some o) (hn:H it=none) (hL:it≠X.env.locals)
 (h1:it∈X.ex∨X.s₀.heap.objs.size≤it) (h2:∀ x c,X.env.cells.lookup x=some c→c≠it) (h3:∀ p∈X.pn++pins,p.1≠it):Inv X pins σ H { s with heap:=h',toks:=t' }:=by
 have nit:∀ b u,H b=some u→b≠it:=fun b u e z=>by rw [z,hn] at e;cases e
 refine I.step (g':=s.gens) (d':=s.drawn) (ch:=[it]) (fun b hb=>?_) (fun b o _ _ hc e _=>k b o (fun z=>hc (by simp [z])) e) (fun b o _ _ hc e _=>⟨o.slots,k b o (fun z=>hc (by simp [z])) e⟩) (fun _ _ _ _ n=>n)
  (fun b o hc e=>⟨o,k b o (fun z=>hc (by simp [z])) e⟩) (fun _ _ e=>e) (fun _ _ _ e=>e) (fun b ps e=>⟨#[],by rw [e];simp⟩) (fun m hm=>?_) (fun b u e=>?_) I.bare
 · have e:b=it:=by simpa using hb
   subst e
   exact ⟨h1,hL,h2,h3⟩
 · obtain ⟨o,es,ep,ho,r⟩:=hm
   exact ⟨o,es,ep,k _ o (Ne.symm hL) ho,r⟩
 · refine (I.hok b u e).stay (fun c v hc q=>k c v ?_ q) (fun _ q=>q) fun _ _ q=>q
   rcases hc with z | z
   · rw [z];exact nit b u e
   · exact nit c _ z
theorem Inv.tok (I:Inv X pins σ H s) (t:Nat):Inv X pins σ H { s with toks:=t }:=I.un (h':=s.heap) (t':=t) Un.refl I.hok
theorem Inv.kept {t':Nat} (I:Inv X pins σ H s) (k:∀ b u,s.heap.get? b=some u→h'.get? b=some u):Inv X pins σ H { s with heap:=h',toks:=t' }:=I.un (Un.kept k) (I.hok.kept k)
theorem Inv.laid {a:Addr} {o:HO} {t':Nat} (I:Inv X pins σ H s) (k:∀ b u,s.heap.get? b=some u→h'.get? b=some u) (hp:s.heap.objs.size≤a) (new:ObjOk X.prog X.w (upd H a o) h' a o) :
 Inv X pins σ (upd H a o) { s with heap:=h',toks:=t' }:=I.un (Un.laid k hp (I.hok.fresh hp)) (I.hok.laid k hp new)
theorem Inv.write {x e:Addr} {o:HO} {t':Nat} (I:Inv X pins σ H s) (mu:Mut (H x)) (he:e=x∨H e=some (.own x)) (k:∀ b u,b≠e→s.heap.get? b=some u→h'.get? b=some u) (heo:∃ u,h'.get? e=some u)
 (new:ObjOk X.prog X.w (upd H x o) h' x o):Inv X pins σ (upd H x o) { s with heap:=h',toks:=t' }:=I.un (Un.write mu he k heo) (I.hok.write mu he k heo new)
theorem Inv.weak {σ':List (Option V)} (I:Inv X pins σ H s) (hl:σ'.length=σ.length) (w:∀ (i:Nat) v,σ'[i]? = some (some v)→σ[i]? = some (some v)):Inv X pins σ' H s:=
 ⟨I.ok,I.os,I.bare,I.base,let ⟨m,hn,hl'⟩:=I.loc;⟨m,hn,fun i x v e1 e2 e3=>hl' i x v e1 (w i v e2) e3⟩,I.cell,I.free,I.freeC,I.pin,I.hok,hl.trans I.len⟩
theorem Inv.pins_of {pins':List (Addr×Obj)} (I:Inv X pins σ H s) (h:∀ p∈pins',s.heap.get? p.1=some p.2∧H p.1=none∧p.1≠X.env.locals∧p.1∉X.fs∧∀ v,p.2.data≠.cell v):Inv X pins' σ H s:=
 ⟨I.ok,I.os,I.bare,I.base,I.loc,I.cell,I.free,I.freeC,fun p hp=>(List.mem_append.mp hp).elim (fun z=>I.pin p (List.mem_append_left _ z)) (h p),I.hok,I.len⟩
theorem nodup_ix {N:List Str} (hN:N.Nodup) {i j:Nat} {x:Str} (a:N[i]? = some x) (b:N[j]? = some x):i=j:=by
 obtain ⟨h1,e1⟩:=List.getElem?_eq_some_iff.mp a
 obtain ⟨h2,e2⟩:=List.getElem?_eq_some_iff.mp b
 exact (List.getElem_inj hN).mp (e1.trans e2.symm)
theorem store_ok2 {M:Model} {A:Around} {E:Value→Shared→Prop} {i:Nat} {x:Str} {v:V} {u:Value} {Q:Unit→Shared→Prop} (I:Inv X pins σ H s) (hN:X.N.Nodup) (hi:X.N[i]? = some x) (hx:Loc X.env.scope x) (r:RelV v u)
 (h:∀ s',Inv X pins (σ.set i (some v)) H s'→(∃ a,Heap.SameBut a s.heap s'.heap∧(a=X.env.locals∨X.env.cells.lookup x=some a))→Q () s') (hf:X.fn x=true∨X.env.scope.names.lookup x=some .local:=by first | exact .inl rfl | exact .inr rfl | assumption):wpAny M A (storeName X.env x u) Q E s:=by
 obtain ⟨m,hn,hl⟩:=id I.loc
 have hcls:(X.env.scope.kind == .class||(X.env.scope.kind == .module&&X.env.locals != X.env.globals))=false:=by rw [I.ok.kind];rfl
 have hiσ:i<σ.length:=by rw [I.len];exact (List.getElem?_eq_some_iff.mp hi).1
 have cne:=I.cne
 have tracked:∀ {a:Addr} {h':Heap},(∃ o,s.heap.get? a=some o∧H a=none)→Heap.SameBut a s.heap h'→HOk X.prog X.w H h':=fun {a h'} ha hs b ob e=>by
  obtain ⟨_,_,hfree⟩:=ha
  refine (I.hok b ob e).stay (fun c w' hc q=>(hs.2 c ?_).trans q) (fun _ q=>q) fun _ _ q=>q
  rintro rfl
  rcases hc with rfl | hc
  · rw [hfree] at e;cases e
  · rw [hfree] at hc;cases hc
 rcases hx with hk | hk
 · refine wpAny_storeName_local hk hn (fun h' hn' hs=>?_) hcls
   obtain ⟨oL,_,_,hoL,_⟩:=id hn
   refine h _ ⟨I.ok,I.os,I.bare,⟨fun b o e n hb hx=>?_,fun b o e n hb hx=>?_,I.base.free,fun b o e hx=>?_,I.base.tups,I.base.frzs,I.base.tbls⟩,⟨_,hn',fun j y v' e1 e2 e3=>?_⟩,fun y c e=>?_,I.free,I.freeC,fun p hp=>?_,tracked ⟨oL,hoL,I.free⟩ hs,by simpa using I.len⟩ ⟨_,hs,.inl rfl⟩
   · exact (hs.2 b (Nat.ne_of_lt (Nat.lt_of_lt_of_le (Heap.lt_size e) I.ok.above))).trans (I.base.keep b o e n hb hx)
   · obtain ⟨sl,e1⟩:=I.base.slot b o e n hb hx
     exact ⟨sl,(hs.2 b (Nat.ne_of_lt (Nat.lt_of_lt_of_le (Heap.lt_size e) I.ok.above))).trans e1⟩
   · obtain ⟨o',e1⟩:=I.base.there b o e hx
     exact ⟨o',(hs.2 b (Nat.ne_of_lt (Nat.lt_of_lt_of_le (Heap.lt_size e) I.ok.above))).trans e1⟩
   · by_cases hj:j=i
     · subst hj
       rw [hi] at e1;cases e1
       rw [List.getElem?_set_self hiσ] at e2
       cases e2
       exact ⟨u,r,.inl ⟨hk,by simp⟩⟩
     · rw [List.getElem?_set_ne (Ne.symm hj)] at e2
       obtain ⟨u',r',q⟩:=hl j y v' e1 e2 e3
       refine ⟨u',r',?_⟩
       rcases q with ⟨k,e⟩ | ⟨k,c,e,z⟩
       · refine .inl ⟨k,?_⟩
         have:y≠x:=fun e=>hj (nodup_ix hN e1 (e▸hi))
         simp [this,e]
       · exact .inr ⟨k,c,e,z.sameBut hs (cne y c e)⟩
   · obtain ⟨w',z⟩:=I.cell y c e
     exact ⟨w',z.sameBut hs (cne y c e)⟩
   · obtain ⟨e,n,ne,nf,d⟩:=I.pin p hp
     exact ⟨(hs.2 p.1 ne).trans e,n,ne,nf,d⟩
 · have hfn:X.fn x=true:=by
    rcases hf with z | z
    · exact z
    · rw [z] at hk;cases hk
   obtain ⟨c,hc⟩:=I.ok.has x (.inl hk)
   obtain ⟨w',z⟩:=I.cell x c hc
   refine wpAny_storeName_cell I.ok.kind hk hc z (fun h' hc' hs=>?_)
   obtain ⟨oc,hoc,hocd⟩:=id z
   refine h { s with heap:=h' } ⟨I.ok,I.os,I.bare,⟨fun b o e n hb hx=>?_,fun b o e n hb hx=>?_,I.base.free,fun b o e hx=>?_,I.base.tups,I.base.frzs,I.base.tbls⟩,⟨m,hn.sameBut hs (Ne.symm (cne x c hc)),fun j y v' e1 e2 e3=>?_⟩,fun y c' e=>?_,I.free,I.freeC,fun p hp=>?_,tracked ⟨oc,hoc,I.freeC x c hc⟩ hs,by simpa using I.len⟩ ⟨c,hs,.inr hc⟩
   · exact (hs.2 b (Nat.ne_of_lt (Nat.lt_of_lt_of_le (Heap.lt_size e) (I.ok.cab x c hfn hc)))).trans (I.base.keep b o e n hb hx)
   · obtain ⟨sl,e1⟩:=I.base.slot b o e n hb hx
     exact ⟨sl,(hs.2 b (Nat.ne_of_lt (Nat.lt_of_lt_of_le (Heap.lt_size e) (I.ok.cab x c hfn hc)))).trans e1⟩
   · obtain ⟨o',e1⟩:=I.base.there b o e hx
     exact ⟨o',(hs.2 b (Nat.ne_of_lt (Nat.lt_of_lt_of_le (Heap.lt_size e) (I.ok.cab x c hfn hc)))).trans e1⟩
   · by_cases hj:j=i
     · subst hj
       rw [hi] at e1;cases e1
       rw [List.getElem?_set_self hiσ] at e2
       cases e2
       exact ⟨u,r,.inr ⟨.inl hk,c,hc,hc'⟩⟩
     · rw [List.getElem?_set_ne (Ne.symm hj)] at e2
       obtain ⟨u',r',q⟩:=hl j y v' e1 e2 e3
       refine ⟨u',r',?_⟩
       rcases q with q | ⟨k,c',e,z'⟩
       · exact .inl q
       · refine .inr ⟨k,c',e,z'.sameBut hs ?_⟩
         rintro rfl
         exact hj (nodup_ix hN e1 (I.ok.inj _ _ _ e hc▸hi))
   · by_cases hcc:c'=c
     · subst hcc;exact ⟨_,hc'⟩
     · obtain ⟨w2,z2⟩:=I.cell y c' e
       exact ⟨w2,z2.sameBut hs hcc⟩
   · obtain ⟨e,n,ne,nf,d⟩:=I.pin p hp
     refine ⟨(hs.2 p.1 ?_).trans e,n,ne,nf,d⟩
     intro q
     rw [q,hoc] at e
     have q':oc=p.2:=Option.some.inj e
     exact d w' (by rw [← q'];exact hocd)
theorem store_ok {M:Model} {A:Around} {E:Value→Shared→Prop} {i:Nat} {x:Str} {v:V} {u:Value} {Q:Unit→Shared→Prop} (I:Inv X pins σ H s) (hN:X.N.Nodup) (hi:X.N[i]? = some x) (hx:Loc X.env.scope x) (r:RelV v u)
 (h:∀ s',Inv X pins (σ.set i (some v)) H s'→Q () s') (hf:X.fn x=true∨X.env.scope.names.lookup x=some .local:=by first | exact .inl rfl | exact .inr rfl | assumption):wpAny M A (storeName X.env x u) Q E s:=
 store_ok2 I hN hi hx r (fun s' I' _=>h s' I') hf
theorem Inv.call' {s':Shared} {ch:List Addr} (I:Inv X pins σ H s) (ho:s'.os=s.os) (u:Un (frs X.stack) ch H H' s.heap s'.heap) (hok:HOk X.prog X.w H' s'.heap) (hg:AllBare s'.gens)
 (hch:∀ b∈ch,(b∈X.ex∨X.s₀.heap.objs.size≤b)∧b≠X.env.locals∧(∀ x c,X.env.cells.lookup x=some c→c≠b)∧∀ p∈X.pn++pins,p.1≠b):Inv X pins σ H' s':=by
 obtain ⟨h',g',d',t',o'⟩:=s'
 have e:o'=s.os:=ho
 subst e
 exact I.call (g':=g') (t':=t') (d':=d') u hok hg hch
end
abbrev XK:=Value→Option Addr→Hp→Prop
abbrev St:=List (Option V)
abbrev VK:=V→Hp→Prop
abbrev TE:=St→Hp→VK→Prop
abbrev TT:=St→Hp→(Bool→Hp→Prop)→Prop
abbrev TA:=St→Hp→(List V→Hp→Prop)→Prop
structure Ends where
 nx:St→Hp→Prop
 rt:VK
 bk:St→Hp→Prop:=fun _ _=>False
 ct:St→Hp→Prop:=fun _ _=>False
abbrev TS:=Ends→St→Hp→Prop
def EP (X:Cx) (pins:List (Addr×Obj)) (σ:St) (Q:VK) (u:Value) (s':Shared):Prop:=∃ v H',Inv X pins σ H' s'∧RelV v u∧Q v H'
def TP (X:Cx) (pins:List (Addr×Obj)) (σ:St) (Q:Bool→Hp→Prop) (b:Bool) (s':Shared):Prop:=∃ H',Inv X pins σ H' s'∧Q b H'
def AP (X:Cx) (pins:List (Addr×Obj)) (σ:St) (Q:List V→Hp→Prop) (us:List Value) (s':Shared):Prop:=∃ vs H',Inv X pins σ H' s'∧Vals vs us∧Q vs H'
def SP (X:Cx) (pins:List (Addr×Obj)) (D:Ends) (f:Flow) (s':Shared):Prop:=
 match f with
 | .next=>∃ σ' H',Inv X pins σ' H' s'∧D.nx σ' H'
 | .brk=>∃ σ' H',Inv X pins σ' H' s'∧D.bk σ' H'
 | .cont=>∃ σ' H',Inv X pins σ' H' s'∧D.ct σ' H'
 | .ret u=>∃ v σ' H',Inv X pins σ' H' s'∧RelV v u∧D.rt v H'
def PE (X:Cx) (e:Expr) (t:TE):Prop:=
 ∀ (pins:List (Addr×Obj)) (s:Shared) (σ:St) (H:Hp) (Q:VK),Inv X pins σ H s→t σ H Q→wpAny (model X.prog X.w) X.A (eval e X.env) (EP X pins σ Q) X.xe s
@[irreducible] def ZE (X:Cx) (e:Expr) (t:TE):Prop:=PE X e t
def PT (X:Cx) (e:Expr) (t:TT):Prop:=
 ∀ (pins:List (Addr×Obj)) (s:Shared) (σ:St) (H:Hp) (Q:Bool→Hp→Prop),Inv X pins σ H s→t σ H Q→wpAny (model X.prog X.w) X.A (isTrue e X.env (eval e X.env)) (TP X pins σ Q) X.xe s
@[irreducible] def ZT (X:Cx) (e:Expr) (t:TT):Prop:=PT X e t
theorem ZT.p {X:Cx} {e:Expr} {t:TT}  (h:ZT X e t):PT X e t:=by unfold ZT at h;exact h
def PW (X:Cx) (e:Expr) (t:TT):Prop:=
 ∀ (whole:Sem Value) (pins:List (Addr×Obj)) (s:Shared) (σ:St) (H:Hp) (Q:Bool→Hp→Prop),Inv X pins σ H s→t σ H Q→wpAny (model X.prog X.w) X.A (isTrue e X.env whole) (TP X pins σ Q) X.xe s
@[irreducible] def ZW (X:Cx) (e:Expr) (t:TT):Prop:=PW X e t
theorem PW.pt {X:Cx} {e:Expr} {t:TT} (h:PW X e t):PT X e t:=h _
theorem ZW.zt {X:Cx} {e:Expr} {t:TT} (h:ZW X e t):ZT X e t:=by with_unfolding_all exact PW.pt h
def PA (X:Cx) (es:List Expr) (t:TA):Prop:=
 ∀ (pos:Pos) (pins:List (Addr×Obj)) (s:Shared) (σ:St) (H:Hp) (Q:List V→Hp→Prop),Inv X pins σ H s→t σ H Q→wpAny (model X.prog X.w) X.A (spliced (backTo pos (starEach es X.env))) (AP X pins σ Q) X.xe s
@[irreducible] def ZA (X:Cx) (es:List Expr) (t:TA):Prop:=PA X es t
def PS (X:Cx) (st:Stmt) (t:TS):Prop:=
 ∀ (pins:List (Addr×Obj)) (s:Shared) (σ:St) (H:Hp) (D:Ends),Inv X pins σ H s→t D σ H→wpAny (model X.prog X.w) X.A (exec st X.env) (SP X pins D) X.xe s
@[irreducible] def ZS (X:Cx) (st:Stmt) (t:TS):Prop:=PS X st t
def PSs (X:Cx) (st:List Stmt) (t:TS):Prop:=
 ∀ (pins:List (Addr×Obj)) (s:Shared) (σ:St) (H:Hp) (D:Ends),Inv X pins σ H s→t D σ H→wpAny (model X.prog X.w) X.A (execs st X.env) (SP X pins D) X.xe s
@[irreducible] def ZSs (X:Cx) (st:List Stmt) (t:TS):Prop:=PSs X st t
theorem ZSs.p {X:Cx} {st:List Stmt} {t:TS}  (h:ZSs X st t):PSs X st t:=by unfold ZSs at h;exact h
theorem thn {α:Type} {t:Sem α} {Q Q':α→Shared→Prop} {M:Model} {A:Around} {E:Value→Shared→Prop} {s:Shared} (h:wpAny M A t Q E s) (hQ:∀ a s,Q a s→Q' a s):wpAny M A t Q' E s:=wpAny_mono h hQ fun _ _ x=>x
section
variable {X:Cx}
def tVar (i:Nat):TE:=fun σ H Q=>∃ v,σ[i]? = some (some v)∧Q v H
def tC (v:V):TE:=fun _ H Q=>Q v H
theorem pe_var {i:Nat} {x:Str} {pos:Pos} (hN:X.N[i]? = some x) (hv:Vis X.env.scope x) (hd:(x == ("__debug__" : Str))=false:=by decide) (hcd:(x == ("__classdict__" : Str))=false:=by decide):PE X (.Name x pos) (tVar i):=by
 intro pins s σ H Q I h
 obtain ⟨v,e,h⟩:=h
 obtain ⟨m,hn,hl⟩:=I.loc
 obtain ⟨u,r,l⟩:=hl i x v hN e hv
 have fin:EP X pins σ Q u s:=⟨v,H,I,r,h⟩
 rcases l with ⟨hk,hm⟩ | ⟨hk,c,hc,hcell⟩
 · exact wpAny_Name (wpAny_loadName_local I.ok.kind hk hn hm fin) hd
 · rcases hk with hk | hk
   · exact wpAny_Name (wpAny_loadName_cell I.ok.kind hk hc hcell fin) hd
   · exact wpAny_Name (wpAny_loadName_free I.ok.kind hk hc hcell fin hcd) hd
theorem pe_int {i j pos}:PE X (.Constant (.int i) j pos) (tC (.int i)):=fun _ _ _ H _ I h=>wpAny_Constant_int ⟨.int i,H,I.tok _,⟨_,rfl⟩,h⟩
theorem ze_int {i j pos}:ZE X (.Constant (.int i) j pos) (tC (.int i)):=by with_unfolding_all exact pe_int
theorem pe_bl {b j pos}:PE X (.Constant (.bool b) j pos) (tC (.bl b)):=fun _ _ _ H _ I h=>Constant_bool ⟨.bl b,H,I,rfl,h⟩
theorem ze_bl {b j pos}:ZE X (.Constant (.bool b) j pos) (tC (.bl b)):=by with_unfolding_all exact pe_bl
theorem pe_non {j pos}:PE X (.Constant .none j pos) (tC .non):=fun _ _ _ H _ I h=>Constant_none ⟨.non,H,I,rfl,h⟩
theorem ze_non {j pos}:ZE X (.Constant .none j pos) (tC .non):=by with_unfolding_all exact pe_non
theorem pe_str {x j pos}:PE X (.Constant (.str x) j pos) (tC (.str x)):=fun _ _ _ H _ I h=>Calls.Constant_str ⟨.str x,H,I.tok _,⟨_,rfl⟩,h⟩
theorem ze_str {x j pos}:ZE X (.Constant (.str x) j pos) (tC (.str x)):=by with_unfolding_all exact pe_str
def Gl (X:Cx) (x:Str):Prop:=X.env.kindOf x=some .globalImplicit
theorem ld_glob {E:Value→Shared→Prop} {pins:List (Addr×Obj)} {s:Shared} {σ:St} {H:Hp} {x:Str} {u:Value} {pos:Pos} {Q:Value→Shared→Prop} (I:Inv X pins σ H s) (hg:Gl X x) (hm:X.mg x=some u) (h:Q u s)
 (hd:(x == ("__debug__" : Str))=false:=by decide):wpAny (model X.prog X.w) X.A (eval (.Name x pos) X.env) Q E s:=
 Calls.Name_function_global I.ok.kind hg (Calls.loadGlobal_global (by rw [I.ok.glob];exact I.mod.glob.keeps I.bk) hm h) hd
theorem ld_blt {E:Value→Shared→Prop} {pins:List (Addr×Obj)} {s:Shared} {σ:St} {H:Hp} {x:Str} {u:Value} {pos:Pos} {Q:Value→Shared→Prop} (I:Inv X pins σ H s) (hg:Gl X x) (hm:X.mg x=none) (hv:bootBuiltins x=some u) (h:Q u s)
 (hn:x≠"__name__":=by decide) (hd:(x == ("__debug__" : Str))=false:=by decide):wpAny (model X.prog X.w) X.A (eval (.Name x pos) X.env) Q E s:=by
 obtain ⟨mb,h1,h2⟩:=I.mod.blt
 exact Calls.Name_function_global I.ok.kind hg (Calls.loadGlobal_builtin (by rw [I.ok.glob];exact I.mod.glob.keeps I.bk) hm (by rw [I.ok.blt];exact h1.keeps I.bk) ((h2 x hn).trans hv) h) hd
theorem pe_glob {x:Str} {v:V} {u:Value} {pos:Pos} (hg:Gl X x) (hm:X.mg x=some u) (r:RelV v u) (hd:(x == ("__debug__" : Str))=false:=by decide):PE X (.Name x pos) (tC v):=
 fun _ _ _ H _ I h=>ld_glob I hg hm ⟨v,H,I,r,h⟩ hd
theorem pe_bltn {x:Str} {v:V} {u:Value} {pos:Pos} (hg:Gl X x) (hm:X.mg x=none) (hv:bootBuiltins x=some u) (r:RelV v u) (hn:x≠"__name__":=by decide) (hd:(x == ("__debug__" : Str))=false:=by decide):PE X (.Name x pos) (tC v):=
 fun _ _ _ H _ I h=>ld_blt I hg hm hv ⟨v,H,I,r,h⟩ hn hd
variable {a b:Expr} {ta tb:TE} {pos:Pos}
def PC (X:Cx) (op:CmpOp) (a b:Expr) (t:TE):Prop:=
 ∀ (pins:List (Addr×Obj)) (s:Shared) (σ:St) (H:Hp) (Q:VK),Inv X pins σ H s→t σ H Q →
   wpAny (model X.prog X.w) X.A (eval a X.env) (fun v s₁=>wpAny (model X.prog X.w) X.A (eval b X.env) (fun u s₂=>wpAny (model X.prog X.w) X.A (compareOp op v u) (EP X pins σ Q) X.xe s₂) X.xe s₁) X.xe s
@[irreducible] def ZC (X:Cx) (op:CmpOp) (a b:Expr) (t:TE):Prop:=PC X op a b t
def tB (t:TE):TT:=fun σ H Q=>t σ H fun x H1=>∃ c,x=.bl c∧Q c H1
theorem pt_cmp {op:CmpOp} {t:TE} (h:PC X op a b t) (h1:behindInMarks op b=false:=by first | exact nobehind _ (by decide) (by decide) | rfl):PT X (.Compare a [op] [b] pos) (tB t):=by
 intro pins s σ H Q I hw
 refine wpAny_isTrue_Compare1 (thn (h pins s σ H _ I hw) fun v s1 h1=>thn h1 fun u s2 h2=>thn h2 fun c s3 ⟨x,H1,I1,r1,q1⟩=>?_) h1
 obtain ⟨d,rfl,q⟩:=q1
 cases r1
 exact wpAny_truthy_bool ⟨H1,I1,q⟩
theorem zt_cmp {op:CmpOp} {t:TE} (h:ZC X op a b t) (h1:behindInMarks op b=false:=by first | exact nobehind _ (by decide) (by decide) | rfl):ZT X (.Compare a [op] [b] pos) (tB t):=by with_unfolding_all exact pt_cmp h h1
variable {tA tB':TT} {rest:List Expr}
def tAnd (t u:TT):TT:=fun σ H Q=>t σ H fun c H1=>if c=true then u σ H1 Q else Q false H1
def tOr (t u:TT):TT:=fun σ H Q=>t σ H fun c H1=>if c=true then Q true H1 else u σ H1 Q
def tNot (t:TT):TT:=fun σ H Q=>t σ H fun c H1=>Q (!c) H1
theorem pw_and1 (ha:PT X a tA):PW X (.BoolOp .And [a] pos) tA:=by
 intro wh pins s σ H Q I h
 refine isTrue_and (thn (ha pins s σ H Q I h) fun c s1 e=>?_)
 cases c with
 | true=>exact isTrue_and_nil e
 | false=>exact e
theorem zw_and1 (ha:ZT X a tA):ZW X (.BoolOp .And [a] pos) tA:=by with_unfolding_all exact pw_and1 ha
theorem pw_or1 (ha:PT X a tA):PW X (.BoolOp .Or [a] pos) tA:=by
 intro wh pins s σ H Q I h
 refine isTrue_or (thn (ha pins s σ H Q I h) fun c s1 e=>?_)
 cases c with
 | false=>exact isTrue_or_nil e
 | true=>exact e
theorem zw_or1 (ha:ZT X a tA):ZW X (.BoolOp .Or [a] pos) tA:=by with_unfolding_all exact pw_or1 ha
theorem pw_and (ha:PT X a tA) (hb:PW X (.BoolOp .And (b::rest) pos) tB'):PW X (.BoolOp .And (a::b::rest) pos) (tAnd tA tB'):=by
 intro wh pins s σ H Q I h
 refine isTrue_and (thn (ha pins s σ H _ I h) fun c s1 ⟨H1,I1,q1⟩=>?_)
 cases c with
 | true=>exact hb wh pins s1 σ H1 Q I1 q1
 | false=>exact ⟨H1,I1,q1⟩
theorem zw_and (ha:ZT X a tA) (hb:ZW X (.BoolOp .And (b::rest) pos) tB'):ZW X (.BoolOp .And (a::b::rest) pos) (tAnd tA tB'):=by with_unfolding_all exact pw_and ha hb
theorem pw_or (ha:PT X a tA) (hb:PW X (.BoolOp .Or (b::rest) pos) tB'):PW X (.BoolOp .Or (a::b::rest) pos) (tOr tA tB'):=by
 intro wh pins s σ H Q I h
 refine isTrue_or (thn (ha pins s σ H _ I h) fun c s1 ⟨H1,I1,q1⟩=>?_)
 cases c with
 | true=>exact ⟨H1,I1,q1⟩
 | false=>exact hb wh pins s1 σ H1 Q I1 q1
theorem zw_or (ha:ZT X a tA) (hb:ZW X (.BoolOp .Or (b::rest) pos) tB'):ZW X (.BoolOp .Or (a::b::rest) pos) (tOr tA tB'):=by with_unfolding_all exact pw_or ha hb
theorem pt_not (ha:PT X a tA):PT X (.UnaryOp .Not a pos) (tNot tA):=by
 intro pins s σ H Q I h
 exact isTrue_not (ha pins s σ H (fun c H1=>Q (!c) H1) I h)
theorem zt_not (ha:ZT X a tA):ZT X (.UnaryOp .Not a pos) (tNot tA):=by with_unfolding_all exact pt_not ha
theorem pe_one {op} {t:TE} (h:PE X a t):PE X (.BoolOp op [a] pos) t:=fun pins s σ H Q I hw=>BoolOp_one (h pins s σ H Q I hw)
theorem ze_one {op} {t:TE} (h:ZE X a t):ZE X (.BoolOp op [a] pos) t:=by with_unfolding_all exact pe_one h
def tIf (t:TT) (ta tb:TE):TE:=fun σ H Q=>t σ H fun c H1=>if c=true then ta σ H1 Q else tb σ H1 Q
theorem pe_ifExp {c:Expr} (hc:PT X c tA) (ha:PE X a ta) (hb:PE X b tb):PE X (.IfExp c a b pos) (tIf tA ta tb):=by
 intro pins s σ H Q I h
 refine wpAny_IfExp (thn (hc pins s σ H _ I h) fun d s1 ⟨H1,I1,q1⟩=>?_)
 cases d with
 | true=>exact ha pins s1 σ H1 Q I1 q1
 | false=>exact hb pins s1 σ H1 Q I1 q1
theorem ze_ifExp {c:Expr} (hc:ZT X c tA) (ha:ZE X a ta) (hb:ZE X b tb):ZE X (.IfExp c a b pos) (tIf tA ta tb):=by with_unfolding_all exact pe_ifExp hc ha hb
end
def SqL (K:PySem.W.Frag) (H:Hp) (a:Addr) (xs:List V):Prop:=
 Rd H a (.lst xs) ∨
  ∃ (o:Obj) (its:Array Value) (n:Nat),K.lookup a=some o∧o.cls=.type "list"∧o.dict=none∧o.data=.seq its n∧its.size≤sizeLine∧Vals xs its.toList
def SqT (K:PySem.W.Frag) (H:Hp) (a:Addr) (xs:List V):Prop:=
 Rd H a (.tup xs) ∨
  ∃ (o:Obj) (its:Array Value) (n:Nat),K.lookup a=some o∧o.cls=.type "tuple"∧o.data=.seq its n∧its.size≤sizeLine∧Vals xs its.toList
def absV:Value→Option V
 | .none=>some .non
 | .bool b=>some (.bl b)
 | .int i _=>some (.int i)
 | .str x _=>some (.str x)
 | .bytes b _=>some (.byt b)
 | .float b _=>some (.flt b)
 | .ref a=>some (.ref a)
 | .type n=>some (.ty n)
 | _=>none
theorem RelV.abs {x:V} {u:Value} (r:RelV x u):absV u=some x:=by
 cases x with
 | non=>cases r;rfl
 | bl _=>cases r;rfl
 | int _=>obtain ⟨t,rfl⟩:=r;rfl
 | str _=>obtain ⟨t,rfl⟩:=r;rfl
 | byt _=>obtain ⟨t,rfl⟩:=r;rfl
 | flt _=>obtain ⟨t,rfl⟩:=r;rfl
 | ref _=>cases r;rfl
 | ty _=>cases r;rfl
theorem RelV.inj {x y:V} {u:Value} (r:RelV x u) (q:RelV y u):x=y:=Option.some.inj (r.abs.symm.trans q.abs)
theorem Vals.inj:∀ {xs ys:List V} {us:List Value},Vals xs us→Vals ys us→xs=ys
 | _,_,_,.nil,.nil=>rfl
 | _,_,_,.cons r t,.cons r' t'=>by rw [r.inj r',Vals.inj t t']
section
variable {X:Cx} {pins:List (Addr×Obj)} {σ:St} {H:Hp} {s:Shared} {a:Addr} {xs ys:List V}
theorem SqL.of {K:PySem.W.Frag} (h:H a=some (.lst xs)):SqL K H a xs:=.inl (.inl h)
theorem SqT.of {K:PySem.W.Frag} (h:H a=some (.tup xs)):SqT K H a xs:=.inl (.inl h)
theorem Inv.list (I:Inv X pins σ H s) (h:SqL X.K H a xs):∃ its:List Value,Vals xs its∧PlainL s.heap a its.toArray∧xs.length≤sizeLine:=by
 rcases h with h | ⟨o,its,n,hk,hc,hd,hs,hz,r⟩
 · obtain ⟨z,its,n,r,e⟩:=h.ok I.hok
   exact ⟨its,r,⟨_,n,e,rfl,rfl,rfl⟩,z⟩
 · refine ⟨its.toList,r,⟨o,n,I.kIn a o hk,hc,hd,by simpa using hs⟩,?_⟩
   have e:=r.length
   simp only [Array.length_toList] at e
   omega
theorem Inv.tuple (I:Inv X pins σ H s) (h:SqT X.K H a xs):∃ its:List Value,Vals xs its∧IsTup s.heap a its.toArray∧xs.length≤sizeLine:=by
 rcases h with h | ⟨o,its,n,hk,hc,hs,hz,r⟩
 · obtain ⟨z,its,r,p⟩:=h.ok I.hok
   exact ⟨its,r,p.tup,z⟩
 · refine ⟨its.toList,r,⟨o,I.kIn a o hk,hc,n,by simpa using hs⟩,?_⟩
   have e:=r.length
   simp only [Array.length_toList] at e
   omega
theorem Inv.list_inj (I:Inv X pins σ H s) (h:SqL X.K H a xs) (h':SqL X.K H a ys):xs=ys:=by
 obtain ⟨its,r,⟨o,n,e,_,_,d⟩,_⟩:=I.list h
 obtain ⟨its',r',⟨o',n',e',_,_,d'⟩,_⟩:=I.list h'
 rw [e] at e';cases e'
 rw [d] at d'
 injection d' with d1 _
 have:its=its':=by simpa using congrArg Array.toList d1
 subst this
 exact r.inj r'
theorem Inv.tuple_inj (I:Inv X pins σ H s) (h:SqT X.K H a xs) (h':SqT X.K H a ys):xs=ys:=by
 obtain ⟨its,r,⟨o,e,_,n,d⟩,_⟩:=I.tuple h
 obtain ⟨its',r',⟨o',e',_,n',d'⟩,_⟩:=I.tuple h'
 rw [e] at e';cases e'
 rw [d] at d'
 injection d' with d1 _
 have:its=its':=by simpa using congrArg Array.toList d1
 subst this
 exact r.inj r'
end
abbrev Cx.wish (X:Cx) (E:Value→Shared→Prop):Cx:={ X with xe:=E }
abbrev Cx.nox (X:Cx):Cx:=X.wish fun _ _=>False
theorem Cx.Ok.wish {X:Cx} (ok:X.Ok) (E:Value→Shared→Prop):(X.wish E).Ok:=
 ⟨ok.mod,ok.kind,ok.glob,ok.blt,ok.above,ok.inj,ok.has,ok.cab,ok.hd,ok.frames,ok.stk,ok.exf,ok.bs,ok.bsz,ok.noex,ok.exfs,ok.funs,ok.frf⟩
theorem Cx.Ok.unwish {X:Cx} {E:Value→Shared→Prop} (ok:(X.wish E).Ok):X.Ok:=
 ⟨ok.mod,ok.kind,ok.glob,ok.blt,ok.above,ok.inj,ok.has,ok.cab,ok.hd,ok.frames,ok.stk,ok.exf,ok.bs,ok.bsz,ok.noex,ok.exfs,ok.funs,ok.frf⟩
section
variable {X:Cx} {pins:List (Addr×Obj)} {σ:St} {H:Hp} {s:Shared} {E:Value→Shared→Prop}
theorem Inv.wish (I:Inv X pins σ H s) (E:Value→Shared→Prop):Inv (X.wish E) pins σ H s:=⟨I.ok.wish E,I.os,I.bare,I.base,I.loc,I.cell,I.free,I.freeC,I.pin,I.hok,I.len⟩
theorem Inv.unwish (I:Inv (X.wish E) pins σ H s):Inv X pins σ H s:=⟨I.ok.unwish,I.os,I.bare,I.base,I.loc,I.cell,I.free,I.freeC,I.pin,I.hok,I.len⟩
theorem SP.unwish {D:Ends} {f:Flow} {s':Shared} (h:SP (X.wish E) pins D f s'):SP X pins D f s':=by
 cases f with
 | next=>obtain ⟨σ',H',I,q⟩:=h;exact ⟨σ',H',I.unwish,q⟩
 | brk=>obtain ⟨σ',H',I,q⟩:=h;exact ⟨σ',H',I.unwish,q⟩
 | cont=>obtain ⟨σ',H',I,q⟩:=h;exact ⟨σ',H',I.unwish,q⟩
 | ret u=>obtain ⟨v,σ',H',I,r,q⟩:=h;exact ⟨v,σ',H',I.unwish,r,q⟩
theorem PSs.nox {st:List Stmt} {t:TS} (h:PSs X.nox st t):PSs X st t:=fun pins s σ H D I hw=>
 wpAny_mono (h pins s σ H D (I.wish _) hw) (fun _ _ q=>q.unwish) fun _ _ z=>False.elim z
end
section
variable {X:Cx} {st:Stmt} {rest:List Stmt} {t u:TS} {e:Expr} {te:TE} {pos:Pos}
def tNext:TS:=fun D σ H=>D.nx σ H
def tSeq (t u:TS):TS:=fun D σ H=>t { D with nx:=u D } σ H
theorem pss_nil:PSs X [] tNext:=fun _ _ σ H _ I h=>wpAny_execs_nil ⟨σ,H,I,h⟩
theorem zss_nil:ZSs X [] tNext:=by with_unfolding_all exact pss_nil
theorem pss_cons (h1:PS X st t) (h2:PSs X rest u):PSs X (st::rest) (tSeq t u):=by
 intro pins s σ H D I h
 refine wpAny_execs_cons (thn (h1 pins s σ H { D with nx:=u D } I h) fun f s1 q=>?_)
 cases f with
 | next=>
   obtain ⟨σ',H',I',q⟩:=q
   exact h2 pins s1 σ' H' D I' q
 | ret v=>exact q
 | brk=>exact q
 | cont=>exact q
theorem zss_cons (h1:ZS X st t) (h2:ZSs X rest u):ZSs X (st::rest) (tSeq t u):=by with_unfolding_all exact pss_cons h1 h2
theorem pss_one (h1:PS X st t):PSs X [st] t:=by
 intro pins s σ H D I h
 refine wpAny_execs_cons (thn (h1 pins s σ H D I h) fun f s1 q=>?_)
 cases f with
 | next=>exact wpAny_execs_nil q
 | ret v=>exact q
 | brk=>exact q
 | cont=>exact q
theorem zss_one (h1:ZS X st t):ZSs X [st] t:=by with_unfolding_all exact pss_one h1
theorem Inv.quiet {pins:List (Addr×Obj)} {σ:St} {H:Hp} {s:Shared} (I:Inv X pins σ H s):interactive X.env=false:=by simp [interactive,I.ok.kind]
def tDrop (te:TE):TS:=fun D σ H=>te σ H fun _ H1=>D.nx σ H1
theorem ps_expr (he:PE X e te) (hs:swapsWith e none pos.line X.env=pure false:=by rfl):PS X (.Expr e pos) (tDrop te):=by
 intro pins s σ H D I h
 exact wpAny_Expr_any (thn (he pins s σ H _ I h) fun v s1 ⟨x,H1,I1,r1,q1⟩=>⟨σ,H1,I1,q1⟩) I.quiet hs
theorem zs_expr (he:ZE X e te) (hs:swapsWith e none pos.line X.env=pure false:=by rfl):ZS X (.Expr e pos) (tDrop te):=by with_unfolding_all exact ps_expr he hs
def tRet (te:TE):TS:=fun D σ H=>te σ H D.rt
theorem ps_ret (he:PE X e te):PS X (.Return (some e) pos) (tRet te):=by
 intro pins s σ H D I h
 exact wpAny_Return_some (thn (he pins s σ H _ I h) fun v s1 ⟨x,H1,I1,r1,q1⟩=>⟨x,σ,H1,I1,r1,q1⟩)
theorem zs_ret (he:ZE X e te):ZS X (.Return (some e) pos) (tRet te):=by with_unfolding_all exact ps_ret he
def tIfS (c:TT) (t u:TS):TS:=fun D σ H=>c σ H fun b H1=>if b=true then t D σ H1 else u D σ H1
theorem ps_if {c:Expr} {a b:List Stmt} {tc:TT} (hc:PT X c tc) (ha:PSs X a t) (hb:PSs X b u):PS X (.If c a b pos) (tIfS tc t u):=by
 intro pins s σ H D I h
 refine wpAny_If (thn (hc pins s σ H _ I h) fun d s1 ⟨H1,I1,q1⟩=>?_)
 cases d with
 | true=>exact ha pins s1 σ H1 D I1 q1
 | false=>exact hb pins s1 σ H1 D I1 q1
theorem zs_if {c:Expr} {a b:List Stmt} {tc:TT} (hc:ZT X c tc) (ha:ZSs X a t) (hb:ZSs X b u):ZS X (.If c a b pos) (tIfS tc t u):=by with_unfolding_all exact ps_if hc ha hb
end
abbrev TG:=V→St→Hp→(St→Hp→Prop)→Prop
def PG (X:Cx) (target:Expr) (t:TG):Prop:=
 ∀ (pins:List (Addr×Obj)) (s:Shared) (σ:St) (H:Hp) (v:V) (u:Value) (Q:St→Hp→Prop),Inv X pins σ H s→RelV v u→t v σ H Q →
   wpAny (model X.prog X.w) X.A (assign target X.env u) (fun _ s'=>∃ σ' H',Inv X pins σ' H' s'∧Q σ' H') X.xe s
@[irreducible] def ZG (X:Cx) (target:Expr) (t:TG):Prop:=PG X target t
abbrev TSet:=V→V→V→Hp→(Hp→Prop)→Prop
def PSet (X:Cx) (t:TSet):Prop:=
 ∀ (pins:List (Addr×Obj)) (s:Shared) (σ:St) (H:Hp) (o i v:V) (ov iv u:Value) (Q:Hp→Prop),Inv X pins σ H s→RelV o ov→RelV i iv→RelV v u→t o i v H Q →
   wpAny (model X.prog X.w) X.A (setItem ov iv u) (fun _ s'=>∃ H',Inv X pins σ H' s'∧Q H') X.xe s
section
variable {X:Cx} {pos:Pos}
def gName (i:Nat):TG:=fun v σ H Q=>Q (σ.set i (some v)) H
theorem pg_name {i:Nat} {x:Str} (hN:X.N.Nodup) (hi:X.N[i]? = some x) (hx:Loc X.env.scope x) (hf:X.fn x=true∨X.env.scope.names.lookup x=some .local:=by first | exact .inl rfl | exact .inr rfl | assumption):PG X (.Name x pos) (gName i):=by
 intro pins s σ H v u Q I r h
 exact wpAny_assign_Name (store_ok I hN hi hx r (fun s' I'=>⟨_,H,I',h⟩) hf)
theorem zg_name {i:Nat} {x:Str} (hN:X.N.Nodup) (hi:X.N[i]? = some x) (hx:Loc X.env.scope x) (hf:X.fn x=true∨X.env.scope.names.lookup x=some .local:=by first | exact .inl rfl | exact .inr rfl | assumption):ZG X (.Name x pos) (gName i):=by with_unfolding_all exact pg_name hN hi hx hf
def gSub (to ti:TE) (t:TSet):TG:=fun v σ H Q=>to σ H fun o H1=>ti σ H1 fun i H2=>t o i v H2 fun H3=>Q σ H3
theorem pg_sub {o i:Expr} {to ti:TE} {t:TSet} (ho:PE X o to) (hi:PE X i ti) (hs:PSet X t)
 (ha:∀ v,assign (.Subscript o i pos) X.env v=(do
   let ov ← holding [v] (eval o X.env)
   let iv ← holding [v,ov] (eval i X.env)
   standAt pos
   holding [v,ov,iv] (setItem ov iv v)
   release [v,ov,iv] []):=by intro _;rfl):PG X (.Subscript o i pos) (gSub to ti t):=by
 intro pins s σ H v u Q I r h
 rw [ha]
 refine wpAny_bind (wpAny_holding (thn (ho pins s σ H _ I h) fun ov s1 ⟨x,H1,I1,r1,q1⟩=>?_))
 refine wpAny_bind (wpAny_holding (thn (hi pins s1 σ H1 _ I1 q1) fun iv s2 ⟨y,H2,I2,r2,q2⟩=>?_))
 refine wpAny_bind (wpAny_standAt (wpAny_bind (wpAny_holding (thn (hs pins s2 σ H2 x y v ov iv u _ I2 r1 r2 r q2) fun _ s3 ⟨H3,I3,q3⟩=>?_))))
 exact wpAny_release ⟨σ,H3,I3,q3⟩
theorem zg_sub {o i:Expr} {to ti:TE} {t:TSet} (ho:ZE X o to) (hi:ZE X i ti) (hs:PSet X t)
 (ha:∀ v,assign (.Subscript o i pos) X.env v=(do
   let ov ← holding [v] (eval o X.env)
   let iv ← holding [v,ov] (eval i X.env)
   standAt pos
   holding [v,ov,iv] (setItem ov iv v)
   release [v,ov,iv] []):=by intro _;rfl):ZG X (.Subscript o i pos) (gSub to ti t):=by with_unfolding_all exact pg_sub ho hi hs ha
def tAsg (te:TE) (g:TG):TS:=fun D σ H=>te σ H fun x H1=>g x σ H1 D.nx
theorem ps_asg {tg e:Expr} {te:TE} {g:TG} (he:PE X e te) (hg:PG X tg g) (hs:swapsWithSole [tg] e pos.line X.env=pure false:=by rfl) (hw:swappedStores [tg] e X.env=pure none:=by rfl)
 (h1:(assignEach [tg] X.env).map (·.2)=[assign tg X.env]:=by rfl):PS X (.Assign [tg] e pos) (tAsg te g):=by
 intro pins s σ H D I h
 refine wpAny_Assign_stores (thn (he pins s σ H _ I h) fun v s1 ⟨x,H1,I1,r1,q1⟩=>?_) hs hw
 rw [h1]
 exact thn (hg pins s1 σ H1 x v _ I1 r1 q1) fun _ s2 q=>q
theorem zs_asg {tg e:Expr} {te:TE} {g:TG} (he:ZE X e te) (hg:ZG X tg g) (hs:swapsWithSole [tg] e pos.line X.env=pure false:=by rfl) (hw:swappedStores [tg] e X.env=pure none:=by rfl)
 (h1:(assignEach [tg] X.env).map (·.2)=[assign tg X.env]:=by rfl):ZS X (.Assign [tg] e pos) (tAsg te g):=by with_unfolding_all exact ps_asg he hg hs hw h1
theorem ps_set {i:Nat} {x:Str} {e:Expr} {te:TE} {pos':Pos} (hN:X.N.Nodup) (hi:X.N[i]? = some x) (hx:Loc X.env.scope x) (he:PE X e te) (hs:swapsWith e (some (.Name x pos')) pos.line X.env=pure false:=by rfl) (hf:X.fn x=true∨X.env.scope.names.lookup x=some .local:=by first | exact .inl rfl | exact .inr rfl | assumption) :
 PS X (.Assign [.Name x pos'] e pos) (tAsg te (gName i)):=by
 intro pins s σ H D I h
 refine wpAny_Assign_Name (thn (he pins s σ H _ I h) fun v s1 ⟨y,H1,I1,r1,q1⟩=>?_) hs
 exact store_ok I1 hN hi hx r1 (fun s2 I2=>⟨_,H1,I2,q1⟩) hf
theorem zs_set {i:Nat} {x:Str} {e:Expr} {te:TE} {pos':Pos} (hN:X.N.Nodup) (hi:X.N[i]? = some x) (hx:Loc X.env.scope x) (he:ZE X e te) (hs:swapsWith e (some (.Name x pos')) pos.line X.env=pure false:=by rfl) (hf:X.fn x=true∨X.env.scope.names.lookup x=some .local:=by first | exact .inl rfl | exact .inr rfl | assumption) :
 ZS X (.Assign [.Name x pos'] e pos) (tAsg te (gName i)):=by with_unfolding_all exact ps_set hN hi hx he hs hf
def tPar (i j:Nat) (ta:TA):TS:=fun D σ H=>ta σ H fun vs H1=>∃ v w,vs=[v,w]∧D.nx ((σ.set i (some v)).set j (some w)) H1
theorem ps_par {i j:Nat} {x y:Str} {a b:Expr} {ta:TA} {px py pt:Pos} {kt k2 pt2} (hc:X.calm=true) (hN:X.N.Nodup) (hi:X.N[i]? = some x) (hj:X.N[j]? = some y) (hij:i≠j)
 (hx:X.env.scope.names.lookup x=some .local) (hy:X.env.scope.names.lookup y=some .local) (ha:PA X [a,b] ta)
 (hw:swappedStores [.Tuple [.Name x px,.Name y py] kt pt] (.Tuple [a,b] k2 pt2) X.env=pure (some [x,y]))
 (hs:swapsWithSole [.Tuple [.Name x px,.Name y py] kt pt] (.Tuple [a,b] k2 pt2) pos.line X.env=pure false:=by rfl) :
 PS X (.Assign [.Tuple [.Name x px,.Name y py] kt pt] (.Tuple [a,b] k2 pt2) pos) (tPar i j ta):=by
 intro pins s σ H D I h
 rw [exec_Assign_arm]
 refine wpAny_bind (wpAny_standAt ?_)
 rw [hs]
 refine wpAny_bind (wpAny_pure ?_)
 rw [if_neg (by decide)]
 refine wpAny_bind (Tuple_ (thn (ha _ pins s σ H _ I h) fun us s1 ⟨vs,H1,I1,r1,q1⟩=>?_))
 obtain ⟨v,w,e1,q1⟩:=q1
 subst e1
 obtain ⟨u1,u2,rfl,rv,rw'⟩:∃ u1 u2,us=[u1,u2]∧RelV v u1∧RelV w u2:=by
  cases r1 with
  | cons p q=>
    cases q with
    | cons p' q'=>
      cases q'
      exact ⟨_,_,rfl,p,p'⟩
 refine wpAny_newObj_type ?_ (by show 2≤sizeLine;decide)
 have I2:Inv X pins σ H1 { s1 with heap:=s1.heap.push { cls:=.type "tuple",data:=.seq [u1,u2].toArray } }:=I1.kept (t':=s1.toks) fun b o e=>Heap.get?_push_of_some _ e
 rw [hw]
 refine wpAny_bind (wpAny_pure ?_)
 show wpAny (model X.prog X.w) X.A (do rule "assign.swapped-stores";let items ← unpackItems (.ref s1.heap.objs.size) 2 none;assignInOrder [fun v=>bindName X.env y v,fun v=>bindName X.env x v] items.reverse;pure Flow.next) _ _ _
 refine wpAny_bind (wpAny_rule (wpAny_bind (unpackItems_tuple (items:=#[u1,u2]) (I.ok.hd hc) (IsTup.new s1.heap _) fun h' hx'=>?_)))
 have I3:=I2.kept (h':=h') (t':=s1.toks) fun b o e=>hx' b o (Nat.ne_of_lt (Heap.lt_size e)) e
 show wpAny _ _ (assignInOrder [fun v=>bindName X.env y v,fun v=>bindName X.env x v] [u2,u1] >>= fun _=>pure Flow.next) _ _ _
 refine wpAny_bind (assignInOrder_cons (wpAny_bindName (store_ok I3 hN hj (.inl hy) rw' (fun s2 I4=>?_) (.inr hy))))
 refine assignInOrder_cons (wpAny_bindName (store_ok I4 hN hi (.inl hx) rv (fun s3 I5=>assignInOrder_nil (wpAny_pure ?_)) (.inr hx)))
 rw [List.set_comm _ _ (Ne.symm hij)] at I5
 exact ⟨_,H1,I5,q1⟩
theorem zs_par {i j:Nat} {x y:Str} {a b:Expr} {ta:TA} {px py pt:Pos} {kt k2 pt2} (hc:X.calm=true) (hN:X.N.Nodup) (hi:X.N[i]? = some x) (hj:X.N[j]? = some y) (hij:i≠j)
 (hx:X.env.scope.names.lookup x=some .local) (hy:X.env.scope.names.lookup y=some .local) (ha:ZA X [a,b] ta)
 (hw:swappedStores [.Tuple [.Name x px,.Name y py] kt pt] (.Tuple [a,b] k2 pt2) X.env=pure (some [x,y]))
 (hs:swapsWithSole [.Tuple [.Name x px,.Name y py] kt pt] (.Tuple [a,b] k2 pt2) pos.line X.env=pure false:=by rfl) :
 ZS X (.Assign [.Tuple [.Name x px,.Name y py] kt pt] (.Tuple [a,b] k2 pt2) pos) (tPar i j ta):=by with_unfolding_all exact ps_par hc hN hi hj hij hx hy ha hw hs
end
section
variable {X:Cx} {pos:Pos}
def tWhile (c:TT) (tb:TS):TS:=fun D σ H=>∃ W:Nat→St→Hp→Prop,(∃ m,W m σ H)∧∀ m σ H,W m σ H →
 c σ H fun b H1=>if b=true then ∃ N:St→Hp→Prop,(∀ σ' H',N σ' H'→∃ m',m' < m∧W m' σ' H')∧tb { D with nx:=N,ct:=N,bk:=D.nx } σ H1 else D.nx σ H1
theorem ps_while {c:Expr} {body:List Stmt} {tc:TT} {tb:TS} (hp:PassesOwn (model X.prog X.w) X.A X.env X.xe) (hc:PT X c tc) (hb:PSs X body tb):PS X (.While c body [] pos) (tWhile tc tb):=by
 intro pins s σ H D I h
 obtain ⟨W,⟨m0,w0⟩,turn⟩:=h
 refine wpAny_While (codeAny_whileLoop (fun n s'=>∃ σ' H',Inv X pins σ' H' s'∧W n σ' H') ?_ m0 ⟨σ,H,I,w0⟩)
 rintro n s1 ⟨σ1,H1,I1,w1⟩
 refine wpAny_passesOwn hp (thn (hc pins s1 σ1 H1 _ I1 (turn n σ1 H1 w1)) fun b s2 ⟨H2,I2,q2⟩=>?_)
 cases b with
 | true=>
   obtain ⟨N,hN,q2⟩:=q2
   rw [if_pos rfl]
   refine wpAny_passesOwn hp (thn (hb pins s2 σ1 H2 _ I2 q2) fun f s3 q3=>?_)
   cases f with
   | next=>
     obtain ⟨σ3,H3,I3,n3⟩:=q3
     obtain ⟨m',hm,w3⟩:=hN σ3 H3 n3
     exact ⟨m',hm,σ3,H3,I3,w3⟩
   | cont=>
     obtain ⟨σ3,H3,I3,n3⟩:=q3
     obtain ⟨m',hm,w3⟩:=hN σ3 H3 n3
     exact ⟨m',hm,σ3,H3,I3,w3⟩
   | brk=>exact q3
   | ret v=>exact q3
 | false=>
   rw [if_neg Bool.false_ne_true]
   exact wpAny_execs_nil ⟨σ1,H2,I2,q2⟩
theorem zs_while {c:Expr} {body:List Stmt} {tc:TT} {tb:TS} (hp:PassesOwn (model X.prog X.w) X.A X.env X.xe) (hc:ZT X c tc) (hb:ZSs X body tb):ZS X (.While c body [] pos) (tWhile tc tb):=by with_unfolding_all exact ps_while hp hc hb
end
structure It where
 go:Nat→Hp→Prop
 yld:Nat→Hp→V→Hp→Prop
 stop:Nat→Hp→Prop
def FpOk (X:Cx) (pins:List (Addr×Obj)) (H:Hp) (b:Addr):Prop:=
 H b=none∧b≠X.env.locals∧b∉X.fs∧(b∈X.ex∨X.s₀.heap.objs.size≤b)∧(∀ x c,X.env.cells.lookup x=some c→c≠b)∧∀ p∈X.pn++pins,p.1≠b
theorem Inv.fpOk {X:Cx} {pins:List (Addr×Obj)} {σ:St} {H H':Hp} {s:Shared} {b:Addr} (I:Inv X pins σ H s) (hb:s.heap.objs.size≤b) (hn:H' b=none):FpOk X pins H' b:=by
 refine ⟨hn,Nat.ne_of_gt (Nat.lt_of_lt_of_le I.lt hb),I.nofs hb,.inr (Nat.le_trans I.sz hb),fun x c e z=>?_,fun p hp z=>?_⟩
 · obtain ⟨v,q⟩:=I.cell x c e
   exact absurd (Nat.lt_of_lt_of_le q.lt (by rw [z];exact hb)) (Nat.lt_irrefl _)
 · exact absurd (Nat.lt_of_lt_of_le (Heap.lt_size (I.pin p hp).1) (by rw [z];exact hb)) (Nat.lt_irrefl _)
structure Turn (P:Program) (w:World) (K:PySem.W.Frag) (tg:Expr) (J:It) (fp:List Addr) (it:Addr) (tn:Nat→Heap→Prop):Prop where
 mem:it∈fp
 obj:∀ i h,tn i h→∀ b∈fp,∃ o,h.get? b=some o∧∀ v,o.data≠.cell v
 keep:∀ i h h',tn i h→(∀ b∈fp,∀ o,h.get? b=some o→h'.get? b=some o)→tn i h'
 item:∀ (X:Cx),X.prog=P→X.w=w→X.K=K→X.calm=true→∀ (i:Nat) (pins:List (Addr×Obj)) (s:Shared) (σ:St) (H:Hp) (E:Value→Shared→Prop),Inv X pins σ H s→(∀ b∈fp,FpOk X pins H b)→tn i s.heap→J.go i H →
  wpAny (model P w) X.A (pyNext (.ref it)) (fun r s1=>∃ u,r=some u ∧
   wpAny (model P w) X.A (letOwnedTupleGo tg (.ref it) u) (fun _ s2=>∃ x H',Inv X pins σ H' s2∧RelV x u∧J.yld i H x H'∧tn (i+1) s2.heap∧∀ b∈fp,H' b=none) E s1) E s
 done:∀ (X:Cx),X.prog=P→X.w=w→X.K=K→X.calm=true→∀ (i:Nat) (pins:List (Addr×Obj)) (s:Shared) (σ:St) (H:Hp) (E:Value→Shared→Prop),Inv X pins σ H s→(∀ b∈fp,FpOk X pins H b)→tn i s.heap→J.stop i H →
  wpAny (model P w) X.A (pyNext (.ref it)) (fun r s1=>r=none∧Inv X pins σ H s1) E s
 self:∀ (A:Around) (i:Nat) (s:Shared) (Q:Value→Shared→Prop) (E:Value→Shared→Prop),tn i s.heap→Q (.ref it) s→wpAny (model P w) A (pyIter (.ref it)) Q E s
abbrev TI:=St→Hp→(It→Hp→Prop)→Prop
def PIE (X:Cx) (pins:List (Addr×Obj)) (σ:St) (tg:Expr) (R:It→Hp→Prop) (itv:Value) (s2:Shared):Prop:=
 ∃ (it:Addr) (fp:List Addr) (tn:Nat→Heap→Prop) (J:It) (H':Hp),itv=.ref it∧Inv X pins σ H' s2∧Turn X.prog X.w X.K tg J fp it tn∧tn 0 s2.heap∧(∀ b∈fp,FpOk X pins H' b)∧R J H'
def PI (X:Cx) (tg iter:Expr) (wi:TI):Prop:=
 ∀ (pins:List (Addr×Obj)) (s:Shared) (σ:St) (H:Hp) (R:It→Hp→Prop),Inv X pins σ H s→wi σ H R →
   wpAny (model X.prog X.w) X.A (eval iter X.env) (fun v s1=>wpAny (model X.prog X.w) X.A (pyIter v) (PIE X pins σ tg R) X.xe s1) X.xe s
@[irreducible] def ZI (X:Cx) (tg iter:Expr) (wi:TI):Prop:=PI X tg iter wi
theorem go_of {M:Model} {A:Around} {E:Value→Shared→Prop} {s:Shared} {tg:Expr} {it:Addr} {u:Value} {o:Obj} {n:String} {vs:Array Value} {Q:Unit→Shared→Prop} (ho:s.heap.get? it=some o) (hc:o.cls=.type n) (hd:o.data=.fields vs)
 (hn:["enumerate","zip","dict_itemiterator","dict_reverseitemiterator","odict_iterator","itertools.zip_longest","itertools.pairwise"].contains n=false) (hQ:Q () s):wpAny M A (letOwnedTupleGo tg (.ref it) u) Q E s:=by
 unfold letOwnedTupleGo
 cases tg <;> first
  | exact wpAny_pure hQ
  | (cases u <;> first
      | exact wpAny_pure hQ
      | (refine wpAny_bind (wpAny_load ho ?_)
         rw [hc,hd]
         show wpAny M A (if (["enumerate","zip","dict_itemiterator","dict_reverseitemiterator","odict_iterator","itertools.zip_longest","itertools.pairwise"].contains n&&vs[0]? == some (rawInt _))=true then _ else _) Q E s
         rw [if_neg (by intro h;rw [hn,Bool.false_and] at h;cases h)]
         exact wpAny_pure hQ))
def Itl (K:PySem.W.Frag) (a:Addr):It:=
 ⟨fun i H=>∃ xs x,SqL K H a xs∧xs[i]? = some x,fun i H x H'=>H'=H∧∀ xs,SqL K H a xs→xs[i]? = some x,fun i H=>∃ xs,SqL K H a xs∧xs.length≤i⟩
def Itt (K:PySem.W.Frag) (a:Addr):It:=
 ⟨fun i H=>∃ xs x,SqT K H a xs∧xs[i]? = some x,fun i H x H'=>H'=H∧∀ xs,SqT K H a xs→xs[i]? = some x,fun i H=>∃ xs,SqT K H a xs∧xs.length≤i⟩
def Itr (lo:Int) (n:Nat):It:=⟨fun i _=>i<n,fun i H x H'=>H'=H∧x=.int (lo+i),fun i _=>n≤i⟩
theorem turn_list {P:Program} {w:World} {K:PySem.W.Frag} {tg:Expr} (a it:Addr):Turn P w K tg (Itl K a) [it] it (fun i h=>h.IsListIter it a i) where
 mem:=by simp
 obj:=fun i h st b hb=>by
  have e:b=it:=by simpa using hb
  subst e
  obtain ⟨o,e,c,d⟩:=st
  exact ⟨o,e,fun v z=>by rw [d] at z;cases z⟩
 keep:=fun i h h' st k=>st.at fun o e=>k it (by simp) o e
 item:=by
  intro X hP hw hK hc i pins s σ H E I hf st hg
  subst hP hw hK
  obtain ⟨xs,x,hq,hx⟩:=hg
  obtain ⟨its,rv,p,hz⟩:=I.list hq
  obtain ⟨u,hu,ru⟩:=rv.get hx
  obtain ⟨f0,f1,f2,f3,f4,f5⟩:=hf it (by simp)
  refine wpAny_pyNext_list_item st p.isList (x:=u) (by simpa using hu) fun h' st' sb=>?_
  have I1:Inv X pins σ H { s with heap:=h' }:=I.turned (t':=s.toks) (fun b o hb e=>(sb.2 b hb).trans e) f0 f1 f3 f4 f5
  obtain ⟨o,e,c,d⟩:=id st'
  exact ⟨u,rfl,go_of (s:={ s with heap:=h' }) e c d (by decide) ⟨x,H,I1,ru,⟨rfl,fun ys hy=>by rw [I.list_inj hy hq];exact hx⟩,st',fun b hb=>(hf b hb).1⟩⟩
 done:=by
  intro X hP hw hK hc i pins s σ H E I hf st hg
  subst hP hw hK
  obtain ⟨xs,hq,hx⟩:=hg
  obtain ⟨its,rv,p,hz⟩:=I.list hq
  obtain ⟨f0,f1,f2,f3,f4,f5⟩:=hf it (by simp)
  have hl:=rv.length
  exact wpAny_pyNext_list_end (I.ok.hd hc) st p.isList (by simp;omega) fun h' eb=>⟨rfl,I.turned (t':=s.toks) (fun b o hb e=>eb b o hb e) f0 f1 f3 f4 f5⟩
 self:=fun _ _ _ _ _ st h=>wpAny_pyIter_listiter st h
theorem turn_tuple {P:Program} {w:World} {K:PySem.W.Frag} {tg:Expr} (a it:Addr):Turn P w K tg (Itt K a) [it] it (fun i h=>h.IsTupleIter it a i) where
 mem:=by simp
 obj:=fun i h st b hb=>by
  have e:b=it:=by simpa using hb
  subst e
  obtain ⟨o,e,c,d⟩:=st
  exact ⟨o,e,fun v z=>by rw [d] at z;cases z⟩
 keep:=fun i h h' st k=>st.at fun o e=>k it (by simp) o e
 item:=by
  intro X hP hw hK hc i pins s σ H E I hf st hg
  subst hP hw hK
  obtain ⟨xs,x,hq,hx⟩:=hg
  obtain ⟨its,rv,p,hz⟩:=I.tuple hq
  obtain ⟨u,hu,ru⟩:=rv.get hx
  obtain ⟨f0,f1,f2,f3,f4,f5⟩:=hf it (by simp)
  refine wpAny_pyNext_tuple_item st (show s.heap.IsTuple a its.toArray from p) (x:=u) (by simpa using hu) fun h' st' sb=>?_
  have I1:Inv X pins σ H { s with heap:=h' }:=I.turned (t':=s.toks) (fun b o hb e=>(sb.2 b hb).trans e) f0 f1 f3 f4 f5
  obtain ⟨o,e,c,d⟩:=id st'
  exact ⟨u,rfl,go_of (s:={ s with heap:=h' }) e c d (by decide) ⟨x,H,I1,ru,⟨rfl,fun ys hy=>by rw [I.tuple_inj hy hq];exact hx⟩,st',fun b hb=>(hf b hb).1⟩⟩
 done:=by
  intro X hP hw hK hc i pins s σ H E I hf st hg
  subst hP hw hK
  obtain ⟨xs,hq,hx⟩:=hg
  obtain ⟨its,rv,p,hz⟩:=I.tuple hq
  obtain ⟨f0,f1,f2,f3,f4,f5⟩:=hf it (by simp)
  have hl:=rv.length
  exact wpAny_pyNext_tuple_end (I.ok.hd hc) st (show s.heap.IsTuple a its.toArray from p) (by simp;omega) fun h' eb=>⟨rfl,I.turned (t':=s.toks) (fun b o hb e=>eb b o hb e) f0 f1 f3 f4 f5⟩
 self:=fun _ _ _ _ _ st h=>wpAny_pyIter_tupleiter st h
theorem turn_range {P:Program} {w:World} {K:PySem.W.Frag} {tg:Expr} (it:Addr) (lo:Int) (n:Nat):Turn P w K tg (Itr lo n) [it] it (fun i h=>IsRangeIter h it (lo+(i:Nat)*1) ((n:Int) - (i:Nat)) 1) where
 mem:=by simp
 obj:=fun i h st b hb=>by
  have e:b=it:=by simpa using hb
  subst e
  exact ⟨_,st,fun v z=>by
   have z':Data.fields _=Data.cell v:=z
   cases z'⟩
 keep:=fun i h h' st k=>k it (by simp) _ st
 item:=by
  intro X hP hw hK hc i pins s σ H E I hf st hg
  subst hP hw hK
  obtain ⟨f0,f1,f2,f3,f4,f5⟩:=hf it (by simp)
  have W:=Walks.range (prog:=X.prog) (w:=X.w) (I.ok.hd hc) it lo 1 n
  refine W.item i s _ _ hg st fun v h' tk hv st' kk=>?_
  obtain ⟨t,rfl⟩:=hv
  have I1:Inv X pins σ H { s with heap:=h',toks:=tk }:=I.turned (fun b o hb e=>kk b o (by simpa using hb) e) f0 f1 f3 f4 f5
  refine ⟨_,rfl,go_of (s:={ s with heap:=h',toks:=tk }) (n:="range_iterator") st' rfl rfl (by decide) ⟨.int (lo+i),H,I1,⟨t,?_⟩,⟨rfl,rfl⟩,st',fun b hb=>(hf b hb).1⟩⟩
  rw [Int.mul_one]
 done:=by
  intro X hP hw hK hc i pins s σ H E I hf st hg
  subst hP hw hK
  obtain ⟨f0,f1,f2,f3,f4,f5⟩:=hf it (by simp)
  exact wpAny_pyNext_range_end (I.ok.hd hc) st (by have:n≤i:=hg;omega) fun h' eb=>⟨rfl,I.turned (t':=s.toks) (fun b o hb e=>eb b o hb e) f0 f1 f3 f4 f5⟩
 self:=fun _ _ _ _ _ st h=>wpAny_pyIter_rangeiter st h
section
variable {X:Cx} {tg:Expr}
def iList (K:PySem.W.Frag) (tl:TE):TI:=fun σ H R=>tl σ H fun x H1=>∃ a,x=.ref a∧(∃ xs,SqL K H1 a xs)∧R (Itl K a) H1
def iTup (K:PySem.W.Frag) (tl:TE):TI:=fun σ H R=>tl σ H fun x H1=>∃ a,x=.ref a∧(∃ xs,SqT K H1 a xs)∧R (Itt K a) H1
theorem pi_list {l:Expr} {tl:TE} (hl:PE X l tl):PI X tg l (iList X.K tl):=by
 intro pins s σ H R I h
 refine thn (hl pins s σ H _ I h) fun v s1 ⟨x,H1,I1,r1,q1⟩=>?_
 obtain ⟨a,e,⟨xs,hq⟩,q⟩:=q1
 subst e
 cases r1
 obtain ⟨its,rv,p,hz⟩:=I1.list hq
 refine wpAny_pyIter_list p.isList ?_
 refine ⟨s1.heap.objs.size,[s1.heap.objs.size],_,_,H1,rfl,I1.kept (t':=s1.toks) fun b o e=>Heap.get?_push_of_some _ e,turn_list a _,⟨_,Heap.get?_push_size _ rfl,rfl,rfl⟩,fun b hb=>?_,q⟩
 have e:b=s1.heap.objs.size:=by simpa using hb
 subst e
 exact I1.fpOk (Nat.le_refl _) (I1.hok.fresh (Nat.le_refl _))
theorem zi_list {l:Expr} {tl:TE} (hl:ZE X l tl):ZI X tg l (iList X.K tl):=by with_unfolding_all exact pi_list hl
theorem pi_tup {l:Expr} {tl:TE} (hl:PE X l tl):PI X tg l (iTup X.K tl):=by
 intro pins s σ H R I h
 refine thn (hl pins s σ H _ I h) fun v s1 ⟨x,H1,I1,r1,q1⟩=>?_
 obtain ⟨a,e,⟨xs,hq⟩,q⟩:=q1
 subst e
 cases r1
 obtain ⟨its,rv,p,hz⟩:=I1.tuple hq
 refine wpAny_pyIter_tuple (show s1.heap.IsTuple a its.toArray from p) ?_
 refine ⟨s1.heap.objs.size,[s1.heap.objs.size],_,_,H1,rfl,I1.kept (t':=s1.toks) fun b o e=>Heap.get?_push_of_some _ e,turn_tuple a _,⟨_,Heap.get?_push_size _ rfl,rfl,rfl⟩,fun b hb=>?_,q⟩
 have e:b=s1.heap.objs.size:=by simpa using hb
 subst e
 exact I1.fpOk (Nat.le_refl _) (I1.hok.fresh (Nat.le_refl _))
theorem zi_tup {l:Expr} {tl:TE} (hl:ZE X l tl):ZI X tg l (iTup X.K tl):=by with_unfolding_all exact pi_tup hl
theorem range_it {pins:List (Addr×Obj)} {σ:St} {H:Hp} {s:Shared} {R:It→Hp→Prop} {E:Value→Shared→Prop} {lo hi:Int} {t u v:Tok} {tk:Nat} (I:Inv X pins σ H s) (h1:-(2 ^ 62)≤lo) (h2:lo<2 ^ 62) (h3:-(2 ^ 62)≤hi) (h4:hi<2 ^ 62)
 (q:R (Itr lo (hi - lo).toNat) H):wpAny (model X.prog X.w) X.A (pyIter (.ref s.heap.objs.size)) (PIE X pins σ tg R) E { s with heap:=s.heap.push { cls:=.type "range",data:=.fields #[.int lo t,.int hi u,.int 1 v] },toks:=tk }:=by
 refine wpAny_pyIter_range (IsRange.new ..) (small_one h1 h2 h3 h4) ?_
 have I1:Inv X pins σ H { s with heap:=s.heap.push { cls:=.type "range",data:=.fields #[.int lo t,.int hi u,.int 1 v] },toks:=tk }:=I.kept fun b o e=>Heap.get?_push_of_some _ e
 refine ⟨(s.heap.push { cls:=.type "range",data:=.fields #[.int lo t,.int hi u,.int 1 v] }).objs.size,[(s.heap.push { cls:=.type "range",data:=.fields #[.int lo t,.int hi u,.int 1 v] }).objs.size],_,_,H,rfl,
  I1.kept (t':=tk) fun b o e=>Heap.get?_push_of_some _ e,turn_range _ lo (hi - lo).toNat,?_,fun b hb=>?_,q⟩
 · have e1:lo+((0:Nat):Int)*1=lo:=by simp
   have e2:(((hi - lo).toNat:Nat):Int) - ((0:Nat):Int)=Builtin.Range.rangeSize lo hi 1:=by rw [rangeSize_one];split <;> omega
   show IsRangeIter _ _ (lo+((0:Nat):Int)*1) ((((hi - lo).toNat:Nat):Int) - ((0:Nat):Int)) 1
   rw [e1,e2]
   exact Heap.get?_push_size _ rfl
 · have e:b=(s.heap.push { cls:=.type "range",data:=.fields #[.int lo t,.int hi u,.int 1 v] }).objs.size:=by simpa using hb
   subst e
   exact I1.fpOk (Nat.le_refl _) (I1.hok.fresh (Nat.le_refl _))
def iRng1 (ta:TA):TI:=fun σ H R=>ta σ H fun vs H1=>∃ j:Int,vs=[.int j]∧-(2 ^ 62)≤j∧j<2 ^ 62∧R (Itr 0 j.toNat) H1
def iRng2 (ta:TA):TI:=fun σ H R=>ta σ H fun vs H1=>∃ i j:Int,vs=[.int i,.int j]∧(-(2 ^ 62)≤i∧i<2 ^ 62∧-(2 ^ 62)≤j∧j<2 ^ 62)∧R (Itr i (j - i).toNat) H1
theorem pi_range1 {a:Expr} {ta:TA} {p pos:Pos} (hg:Gl X "range") (hm:X.mg "range" = none) (ha:PA X [a] ta) (hs:starEach [a] X.env=[(false,eval a X.env)]:=by rfl):PI X tg (.Call (.Name "range" p) [a] [] pos) (iRng1 ta):=by
 intro pins s σ H R I h
 refine Call_ (ld_blt I hg hm boot_range (PyProof.Rows.callWith_type1 (thn (ha pos pins s σ H _ I h) fun us s1 ⟨vs,H1,I1,r1,q1⟩=>?_) hs rfl))
 obtain ⟨j,e,q1,q2,q⟩:=q1
 subst e
 cases r1 with
 | cons r rr=>
   cases rr
   obtain ⟨t,rfl⟩:=r
   exact call_range_1 (range_it I1 (by omega) (by omega) q1 q2 (by simpa using q))
theorem zi_range1 {a:Expr} {ta:TA} {p pos:Pos} (hg:Gl X "range") (hm:X.mg "range" = none) (ha:ZA X [a] ta) (hs:starEach [a] X.env=[(false,eval a X.env)]:=by rfl):ZI X tg (.Call (.Name "range" p) [a] [] pos) (iRng1 ta):=by with_unfolding_all exact pi_range1 hg hm ha hs
theorem pi_range2 {a b:Expr} {ta:TA} {p pos:Pos} (hg:Gl X "range") (hm:X.mg "range" = none) (ha:PA X [a,b] ta) (hs:starEach [a,b] X.env=[(false,eval a X.env),(false,eval b X.env)]:=by rfl) (hs2:starEach [b] X.env=[(false,eval b X.env)]:=by rfl) :
 PI X tg (.Call (.Name "range" p) [a,b] [] pos) (iRng2 ta):=by
 intro pins s σ H R I h
 refine Call_ (ld_blt I hg hm boot_range (PyProof.Rows.callWith_type1 (thn (ha pos pins s σ H _ I h) fun us s1 ⟨vs,H1,I1,r1,q1⟩=>?_) (by rw [hs,hs2]) (by rw [hs2];rfl)))
 obtain ⟨i,j,e,⟨q1,q2,q3,q4⟩,q⟩:=q1
 subst e
 cases r1 with
 | cons r rr=>
   cases rr with
   | cons r' rr=>
     cases rr
     obtain ⟨t,rfl⟩:=r
     obtain ⟨t',rfl⟩:=r'
     exact call_range_2 (range_it I1 q1 q2 q3 q4 q)
theorem zi_range2 {a b:Expr} {ta:TA} {p pos:Pos} (hg:Gl X "range") (hm:X.mg "range" = none) (ha:ZA X [a,b] ta) (hs:starEach [a,b] X.env=[(false,eval a X.env),(false,eval b X.env)]:=by rfl) (hs2:starEach [b] X.env=[(false,eval b X.env)]:=by rfl) :
 ZI X tg (.Call (.Name "range" p) [a,b] [] pos) (iRng2 ta):=by with_unfolding_all exact pi_range2 hg hm ha hs hs2
def tFor (wi:TI) (g:TG) (tb:TS):TS:=fun D σ H=>wi σ H fun J H1=>∃ W:Nat→Nat→St→Hp→Prop,(∃ m,W 0 m σ H1)∧∀ i m σ H,W i m σ H →
 (J.stop i H∧D.nx σ H)∨(J.go i H∧∃ N:St→Hp→Prop,(∀ σ' H',N σ' H'→∃ m',m' < m∧W (i+1) m' σ' H')∧∀ x H',J.yld i H x H'→g x σ H' fun σ2 H2=>tb { D with nx:=N,ct:=N,bk:=D.nx } σ2 H2)
def pinsAt (fp:List Addr) (h:Heap):List (Addr×Obj):=fp.filterMap fun b=>(h.get? b).map fun o=>(b,o)
theorem mem_pinsAt {fp:List Addr} {h:Heap} {b:Addr} {o:Obj} (hb:b∈fp) (e:h.get? b=some o):(b,o)∈pinsAt fp h:=List.mem_filterMap.mpr ⟨b,hb,by rw [e];rfl⟩
theorem of_pinsAt {fp:List Addr} {h:Heap} {p:Addr×Obj} (hp:p∈pinsAt fp h):p.1∈fp∧h.get? p.1=some p.2:=by
 obtain ⟨b,hb,e⟩:=List.mem_filterMap.mp hp
 cases q:h.get? b with
 | none=>rw [q] at e;cases e
 | some o=>
   rw [q] at e
   have e':(b,o)=p:=Option.some.inj e
   subst e'
   exact ⟨hb,q⟩
theorem Inv.pinned {pins:List (Addr×Obj)} {σ:St} {H:Hp} {s:Shared} {fp:List Addr} (I:Inv X pins σ H s) (hf:∀ b∈fp,FpOk X pins H b) (ho:∀ b∈fp,∃ o,s.heap.get? b=some o∧∀ v,o.data≠.cell v):Inv X (pins++pinsAt fp s.heap) σ H s:=
 I.pins_of fun p hp=>(List.mem_append.mp hp).elim (fun z=>I.pin p (List.mem_append_right _ z)) fun z=>by
  obtain ⟨hb,e⟩:=of_pinsAt z
  obtain ⟨f0,f1,f2,_⟩:=hf p.1 hb
  obtain ⟨o,e',d⟩:=ho p.1 hb
  rw [e] at e';cases e'
  exact ⟨e,f0,f1,f2,d⟩
theorem Inv.unpinned {pins pl:List (Addr×Obj)} {σ:St} {H:Hp} {s:Shared} (I:Inv X (pins++pl) σ H s):Inv X pins σ H s:=I.pins_of fun p hp=>I.pin p (List.mem_append_right _ (List.mem_append_left _ hp))
theorem ps_for {iter:Expr} {body:List Stmt} {wi:TI} {g:TG} {tb:TS} {pos:Pos} (hp:PassesOwn (model X.prog X.w) X.A X.env X.xe) (hc:X.calm=true) (hi:PI X tg iter wi) (hg:PG X tg g) (hb:PSs X body tb)
 (hs:∀ x,foldedSetIterable iter X.env x=pure x:=by intro _;rfl):PS X (.For tg iter body [] pos) (tFor wi g tb):=by
 intro pins s σ H D I h
 refine wpAny_For (thn (hi pins s σ H _ I h) fun v s1 h1=>thn h1 fun itv s2 h2=>?_) hs
 obtain ⟨it,fp,tn,J,H2,e,I2,T,st2,f2,W,⟨m0,w0⟩,turn⟩:=h2
 subst e
 -- what stays true of the iterator's objects through the loop
 have stat:∀ {H':Hp},(∀ b∈fp,H' b=none)→∀ b∈fp,FpOk X pins H' b:=fun hn b hb=>⟨hn b hb,(f2 b hb).2⟩
 refine codeAny_forLoop_any (fun n s'=>∃ i σ' H',Inv X pins σ' H' s'∧tn i s'.heap∧(∀ b∈fp,H' b=none)∧W i n σ' H') ?_ m0 ⟨0,σ,H2,I2,st2,fun b hb=>(f2 b hb).1,w0⟩
 rintro n s3 ⟨i,σ3,H3,I3,st3,fr3,w3⟩
 rcases turn i n σ3 H3 w3 with ⟨stop,qn⟩ | ⟨go,N,hN,step⟩
 · refine wpAny_passesOwn hp (thn (T.done X rfl rfl rfl hc i pins s3 σ3 H3 X.xe I3 (stat fr3) st3 stop) fun r s4 ⟨hr,I4⟩=>?_)
   subst hr
   exact wpAny_execs_nil ⟨σ3,H3,I4,qn⟩
 · refine wpAny_passesOwn hp (thn (T.item X rfl rfl rfl hc i pins s3 σ3 H3 X.xe I3 (stat fr3) st3 go) fun r s4 ⟨u,hr,h4⟩=>?_)
   subst hr
   refine wpAny_passesOwn hp (thn h4 fun _ s5 ⟨x,H5,I5,r5,y5,st5,fr5⟩=>?_)
   have I5':=I5.pinned (stat fr5) (T.obj _ _ st5)
   refine wpAny_passesOwn hp (thn (hg _ s5 σ3 H5 x u _ I5' r5 (step x H5 y5)) fun _ s6 ⟨σ6,H6,I6,q6⟩=>?_)
   refine wpAny_passesOwn hp (thn (hb _ s6 σ6 H6 _ I6 q6) fun f s7 q7=>?_)
   have again:∀ {σ7:St} {H7:Hp},Inv X (pins++pinsAt fp s5.heap) σ7 H7 s7→N σ7 H7→∃ m,m<n∧∃ i σ' H',Inv X pins σ' H' s7∧tn i s7.heap∧(∀ b∈fp,H' b=none)∧W i m σ' H':=fun {σ7 H7} I7 n7=>by
    obtain ⟨m',hm,w7⟩:=hN σ7 H7 n7
    refine ⟨m',hm,i+1,σ7,H7,I7.unpinned,T.keep _ _ _ st5 fun b hb o e=>(I7.pin (b,o) (List.mem_append_right _ (List.mem_append_right _ (mem_pinsAt hb e)))).1,fun b hb=>?_,w7⟩
    obtain ⟨o,e,d⟩:=T.obj _ _ st5 b hb
    exact (I7.pin (b,o) (List.mem_append_right _ (List.mem_append_right _ (mem_pinsAt hb e)))).2.1
   cases f with
   | next=>obtain ⟨σ7,H7,I7,n7⟩:=q7;exact again I7 n7
   | cont=>obtain ⟨σ7,H7,I7,n7⟩:=q7;exact again I7 n7
   | brk=>obtain ⟨σ7,H7,I7,q7⟩:=q7;exact ⟨σ7,H7,I7.unpinned,q7⟩
   | ret v=>obtain ⟨x7,σ7,H7,I7,r7,q7⟩:=q7;exact ⟨x7,σ7,H7,I7.unpinned,r7,q7⟩
theorem zs_for {iter:Expr} {body:List Stmt} {wi:TI} {g:TG} {tb:TS} {pos:Pos} (hp:PassesOwn (model X.prog X.w) X.A X.env X.xe) (hc:X.calm=true) (hi:ZI X tg iter wi) (hg:ZG X tg g) (hb:ZSs X body tb)
 (hs:∀ x,foldedSetIterable iter X.env x=pure x:=by intro _;rfl):ZS X (.For tg iter body [] pos) (tFor wi g tb):=by with_unfolding_all exact ps_for hp hc hi hg hb hs
end
theorem for_list {K:PySem.W.Frag} {a:Addr} {xs:List V} {g:TG} {tb:TS} {D:Ends} {σ:St} {H:Hp} (Pv:Nat→St→Hp→Prop) (h0:Pv 0 σ H) (hl:∀ i σ H,i≤xs.length→Pv i σ H→SqL K H a xs)
 (hs:∀ i x σ H,xs[i]? = some x→Pv i σ H→g x σ H fun σ2 H2=>tb { D with nx:=Pv (i+1),ct:=Pv (i+1),bk:=D.nx } σ2 H2) (hd:∀ σ H,Pv xs.length σ H→D.nx σ H) :
 ∃ W:Nat→Nat→St→Hp→Prop,(∃ m,W 0 m σ H)∧∀ i m σ H,W i m σ H →
   ((Itl K a).stop i H∧D.nx σ H)∨((Itl K a).go i H∧∃ N:St→Hp→Prop,(∀ σ' H',N σ' H'→∃ m',m' < m∧W (i+1) m' σ' H')∧∀ x H',(Itl K a).yld i H x H'→g x σ H' fun σ2 H2=>tb { D with nx:=N,ct:=N,bk:=D.nx } σ2 H2):=by
 refine ⟨fun i m σ H=>m=xs.length - i∧i≤xs.length∧Pv i σ H,⟨xs.length,by simp,Nat.zero_le _,h0⟩,?_⟩
 rintro i m σ H ⟨rfl,hi,p⟩
 have q:=hl i σ H hi p
 by_cases hlt:i<xs.length
 · refine .inr ⟨⟨xs,xs[i],q,by simp [hlt]⟩,Pv (i+1),fun σ' H' p'=>⟨xs.length - (i+1),by omega,rfl,hlt,p'⟩,fun x H' y=>?_⟩
   obtain ⟨e,y⟩:=y
   subst e
   exact hs i x σ _ (y xs q) p
 · have e:i=xs.length:=by omega
   subst e
   exact .inl ⟨⟨xs,q,Nat.le_refl _⟩,hd σ H p⟩
theorem for_tup {K:PySem.W.Frag} {a:Addr} {xs:List V} {g:TG} {tb:TS} {D:Ends} {σ:St} {H:Hp} (Pv:Nat→St→Hp→Prop) (h0:Pv 0 σ H) (hl:∀ i σ H,i≤xs.length→Pv i σ H→SqT K H a xs)
 (hs:∀ i x σ H,xs[i]? = some x→Pv i σ H→g x σ H fun σ2 H2=>tb { D with nx:=Pv (i+1),ct:=Pv (i+1),bk:=D.nx } σ2 H2) (hd:∀ σ H,Pv xs.length σ H→D.nx σ H) :
 ∃ W:Nat→Nat→St→Hp→Prop,(∃ m,W 0 m σ H)∧∀ i m σ H,W i m σ H →
   ((Itt K a).stop i H∧D.nx σ H)∨((Itt K a).go i H∧∃ N:St→Hp→Prop,(∀ σ' H',N σ' H'→∃ m',m' < m∧W (i+1) m' σ' H')∧∀ x H',(Itt K a).yld i H x H'→g x σ H' fun σ2 H2=>tb { D with nx:=N,ct:=N,bk:=D.nx } σ2 H2):=by
 refine ⟨fun i m σ H=>m=xs.length - i∧i≤xs.length∧Pv i σ H,⟨xs.length,by simp,Nat.zero_le _,h0⟩,?_⟩
 rintro i m σ H ⟨rfl,hi,p⟩
 have q:=hl i σ H hi p
 by_cases hlt:i<xs.length
 · refine .inr ⟨⟨xs,xs[i],q,by simp [hlt]⟩,Pv (i+1),fun σ' H' p'=>⟨xs.length - (i+1),by omega,rfl,hlt,p'⟩,fun x H' y=>?_⟩
   obtain ⟨e,y⟩:=y
   subst e
   exact hs i x σ _ (y xs q) p
 · have e:i=xs.length:=by omega
   subst e
   exact .inl ⟨⟨xs,q,Nat.le_refl _⟩,hd σ H p⟩
theorem for_range {lo:Int} {n:Nat} {g:TG} {tb:TS} {D:Ends} {σ:St} {H:Hp} (Pv:Nat→St→Hp→Prop) (h0:Pv 0 σ H)
 (hs:∀ i σ H,i<n→Pv i σ H→g (.int (lo+i)) σ H fun σ2 H2=>tb { D with nx:=Pv (i+1),ct:=Pv (i+1),bk:=D.nx } σ2 H2) (hd:∀ σ H,Pv n σ H→D.nx σ H) :
 ∃ W:Nat→Nat→St→Hp→Prop,(∃ m,W 0 m σ H)∧∀ i m σ H,W i m σ H →
   ((Itr lo n).stop i H∧D.nx σ H)∨((Itr lo n).go i H∧∃ N:St→Hp→Prop,(∀ σ' H',N σ' H'→∃ m',m' < m∧W (i+1) m' σ' H')∧∀ x H',(Itr lo n).yld i H x H'→g x σ H' fun σ2 H2=>tb { D with nx:=N,ct:=N,bk:=D.nx } σ2 H2):=by
 refine ⟨fun i m σ H=>m=n - i∧i≤n∧Pv i σ H,⟨n,by simp,Nat.zero_le _,h0⟩,?_⟩
 rintro i m σ H ⟨rfl,hi,p⟩
 by_cases hlt:i<n
 · refine .inr ⟨hlt,Pv (i+1),fun σ' H' p'=>⟨n - (i+1),by omega,rfl,hlt,p'⟩,fun x H' y=>?_⟩
   obtain ⟨e,y⟩:=y
   subst e y
   exact hs i σ _ hlt p
 · have e:i=n:=by omega
   subst e
   exact .inl ⟨Nat.le_refl _,hd σ H p⟩
abbrev R2:=V→V→Hp→VK→Prop
def OpR (X:Cx) (f:Value→Value→Sem Value) (r:R2):Prop:=
 ∀ (pins:List (Addr×Obj)) (s:Shared) (σ:St) (H:Hp) (x y:V) (v u:Value) (Q:VK),Inv X pins σ H s→RelV x v→RelV y u→r x y H Q →
   wpAny (model X.prog X.w) X.A (f v u) (EP X pins σ Q) X.xe s
def CallR (X:Cx) (f:Value) (r:List V→Hp→VK→Prop):Prop:=
 ∀ (pins:List (Addr×Obj)) (s:Shared) (σ:St) (H:Hp) (xs:List V) (us:List Value) (Q:VK),Inv X pins σ H s→Vals xs us→r xs H Q →
   wpAny (model X.prog X.w) X.A (call f us) (EP X pins σ Q) X.xe s
def tOp (r:R2) (ta tb:TE):TE:=fun σ H Q=>ta σ H fun x H1=>tb σ H1 fun y H2=>r x y H2 Q
def rI (C:Int→Int→Prop) (g:Int→Int→V):R2:=fun x y H Q=>∃ i j,x=.int i∧y=.int j∧C i j∧Q (g i j) H
def rI0 (g:Int→Int→V):R2:=fun x y H Q=>∃ i j,x=.int i∧y=.int j∧Q (g i j) H
section
variable {X:Cx} {a b c:Expr} {ta tb tc:TE} {pos:Pos}
theorem binT (ha:PE X a ta) (hb:PE X b tb) {pins:List (Addr×Obj)} {s:Shared} {σ:St} {H:Hp} {R:V→V→Hp→Prop} (I:Inv X pins σ H s)
 (h:ta σ H fun x H1=>tb σ H1 fun y H2=>R x y H2) {Q:Value→Shared→Prop} {f:Value→Value→Sem Value}
 (hf:∀ v u s2 x y H2,Inv X pins σ H2 s2→RelV x v→RelV y u→R x y H2→wpAny (model X.prog X.w) X.A (f v u) Q X.xe s2) :
 wpAny (model X.prog X.w) X.A (eval a X.env) (fun v s₁=>wpAny (model X.prog X.w) X.A (eval b X.env) (fun u s₂=>wpAny (model X.prog X.w) X.A (f v u) Q X.xe s₂) X.xe s₁) X.xe s:=by
 refine thn (ha pins s σ H _ I h) fun v s1 ⟨x,H1,I1,r1,q1⟩=>?_
 refine thn (hb pins s1 σ H1 _ I1 q1) fun u s2 ⟨y,H2,I2,r2,q2⟩=>?_
 exact hf v u s2 x y H2 I2 r1 r2 q2
theorem pe_op {op:Operator} {r:R2} (ho:OpR X (binaryOp op) r) (ha:PE X a ta) (hb:PE X b tb):PE X (.BinOp a op b pos) (tOp r ta tb):=by
 intro pins s σ H Q I h
 exact wpAny_BinOp (binT ha hb I h fun v u s2 x y H2 I2 rx ry q=>ho pins s2 σ H2 x y v u Q I2 rx ry q)
theorem ze_op {op:Operator} {r:R2} (ho:OpR X (binaryOp op) r) (ha:ZE X a ta) (hb:ZE X b tb):ZE X (.BinOp a op b pos) (tOp r ta tb):=by with_unfolding_all exact pe_op ho ha hb
theorem opI {f:Value→Value→Sem Value} {C:Int→Int→Prop} {g:Int→Int→Int}
 (rule:∀ (i j:Int) (t u:Tok) (s:Shared) (Q:Value→Shared→Prop) (E:Value→Shared→Prop),C i j→Q (.int (g i j) s.toks) { s with toks:=s.toks+1 }→wpAny (model X.prog X.w) X.A (f (.int i t) (.int j u)) Q E s) :
 OpR X f (rI C fun i j=>.int (g i j)):=by
 intro pins s σ H x y v u Q I rx ry h
 obtain ⟨i,j,rfl,rfl,hc,q⟩:=h
 obtain ⟨t,rfl⟩:=rx
 obtain ⟨t',rfl⟩:=ry
 exact rule i j t t' s _ _ hc ⟨.int (g i j),H,I.tok _,⟨_,rfl⟩,q⟩
theorem opI0 {f:Value→Value→Sem Value} {g:Int→Int→Int}
 (rule:∀ (i j:Int) (t u:Tok) (s:Shared) (Q:Value→Shared→Prop) (E:Value→Shared→Prop),Q (.int (g i j) s.toks) { s with toks:=s.toks+1 }→wpAny (model X.prog X.w) X.A (f (.int i t) (.int j u)) Q E s) :
 OpR X f (rI0 fun i j=>.int (g i j)):=by
 intro pins s σ H x y v u Q I rx ry h
 obtain ⟨i,j,rfl,rfl,q⟩:=h
 obtain ⟨t,rfl⟩:=rx
 obtain ⟨t',rfl⟩:=ry
 exact rule i j t t' s _ _ ⟨.int (g i j),H,I.tok _,⟨_,rfl⟩,q⟩
theorem opB0 {f:Value→Value→Sem Value} {g:Int→Int→Bool}
 (rule:∀ (i j:Int) (t u:Tok) (s:Shared) (Q:Value→Shared→Prop) (E:Value→Shared→Prop),Q (.bool (g i j)) s→wpAny (model X.prog X.w) X.A (f (.int i t) (.int j u)) Q E s) :
 OpR X f (rI0 fun i j=>.bl (g i j)):=by
 intro pins s σ H x y v u Q I rx ry h
 obtain ⟨i,j,rfl,rfl,q⟩:=h
 obtain ⟨t,rfl⟩:=rx
 obtain ⟨t',rfl⟩:=ry
 exact rule i j t t' s _ _ ⟨.bl (g i j),H,I,rfl,q⟩
def CDiv (i j:Int):Prop:=0<j∧j<1073741824
def CPow (i j:Int):Prop:=0≤j∧j≤1000000∧i.natAbs<2 ^ 64
theorem op_add:OpR X (binaryOp .Add) (rI0 fun i j=>.int (i+j)):=opI0 fun _ _ _ _ _ _ _ q=>add_int q
theorem op_sub:OpR X (binaryOp .Sub) (rI0 fun i j=>.int (i - j)):=opI0 fun _ _ _ _ _ _ _ q=>sub_int q
theorem op_fdiv:OpR X (binaryOp .FloorDiv) (rI CDiv fun i j=>.int (i / j)):=opI fun i j _ _ _ _ _ hc q=>by
 have h1:(0:Int)<j:=hc.1
 have h2:j<1073741824:=hc.2
 exact floordiv_int (by omega) (by rw [Int.fdiv_eq_ediv_of_nonneg i (by omega)];exact q) (.inl (PyProof.noPylong_small (by omega)))
theorem op_mod:OpR X (binaryOp .Mod) (rI (fun _ j=>0<j) fun i j=>.int (i % j)):=opI fun i j _ _ _ _ _ hc q=>by
 have h1:(0:Int)<j:=hc
 exact mod_int' (by omega) (by rw [Int.fmod_eq_emod_of_nonneg i (by omega)];exact q)
theorem op_pow:OpR X (binaryOp .Pow) (rI CPow fun i j=>.int (i ^ j.toNat)):=opI fun _ _ _ _ _ _ _ hc q=>pow_int_small hc.1 hc.2.1 hc.2.2 q
end
def scal:V→V→Bool
 | .non,.non=>true | .non,.int _=>true | .int _,.non=>true | .non,.bl _=>true | .bl _,.non=>true | .non,.str _=>true | .str _,.non=>true
 | .int _,.int _=>true | .bl _,.bl _=>true | .str _,.str _=>true | .byt _,.byt _=>true
 | .int _,.str _=>true | .str _,.int _=>true | .bl _,.str _=>true | .str _,.bl _=>true
 | _,_=>false
def rEq:R2:=fun x y H Q=>scal x y=true∧Q (.bl (decide (x=y))) H
def rNe:R2:=fun x y H Q=>scal x y=true∧Q (.bl (!decide (x=y))) H
theorem dec_int {i j:Int}:decide (V.int i=V.int j)=(i == j):=by
 rw [Bool.eq_iff_iff]
 simp
theorem dec_bl {i j:Bool}:decide (V.bl i=V.bl j)=(i == j):=by
 rw [Bool.eq_iff_iff]
 simp
theorem dec_str {i j:Str}:decide (V.str i=V.str j)=(i == j):=by
 rw [Bool.eq_iff_iff]
 simp
theorem dec_byt {i j:Array UInt8}:decide (V.byt i=V.byt j)=(i.toList == j.toList):=by
 rw [Bool.eq_iff_iff]
 cases i
 cases j
 simp
section
variable {X:Cx} {a b c:Expr} {ta tb tc:TE} {pos:Pos}
theorem fin_bl {pins:List (Addr×Obj)} {σ:St} {H:Hp} {s:Shared} {Q:VK} {k k':Bool} (I:Inv X pins σ H s) (q:Q (.bl k) H) (e:k=k'):EP X pins σ Q (.bool k') s:=by
 subst e
 exact ⟨.bl k,H,I,rfl,q⟩
theorem op_eq:OpR X (compareOp .Eq) rEq:=by
 intro pins s σ H x y v u Q I rx ry h
 obtain ⟨hs,q⟩:=h
 cases x with
 | non=>
   cases rx
   cases y with
   | non=>cases ry;exact PySem.EqNone.eq_none_none (fin_bl I q (by simp))
   | bl j=>cases ry;exact PySem.EqNone.eq_none_bool (fin_bl I q (by simp))
   | int j=>obtain ⟨t',rfl⟩:=ry;exact PySem.EqNone.eq_none_int (fin_bl I q (by simp))
   | str j=>obtain ⟨t',rfl⟩:=ry;exact PySem.EqNone.eq_none_str (fin_bl I q (by simp))
   | _=>exact absurd (show false=true from hs) Bool.false_ne_true
 | bl i=>
   cases rx
   cases y with
   | non=>cases ry;exact PySem.EqNone.eq_bool_none (fin_bl I q (by simp))
   | bl j=>cases ry;exact eq_bool (fin_bl I q dec_bl)
   | str j=>obtain ⟨t',rfl⟩:=ry;exact PySem.EqMixed.eq_bool_str (fin_bl I q (by simp))
   | _=>exact absurd (show false=true from hs) Bool.false_ne_true
 | int i=>
   obtain ⟨t,rfl⟩:=rx
   cases y with
   | non=>cases ry;exact PySem.EqNone.eq_int_none (fin_bl I q (by simp))
   | int j=>obtain ⟨t',rfl⟩:=ry;exact eq_int (fin_bl I q dec_int)
   | str j=>obtain ⟨t',rfl⟩:=ry;exact PySem.EqMixed.eq_int_str (fin_bl I q (by simp))
   | _=>exact absurd (show false=true from hs) Bool.false_ne_true
 | str i=>
   obtain ⟨t,rfl⟩:=rx
   cases y with
   | non=>cases ry;exact PySem.EqNone.eq_str_none (fin_bl I q (by simp))
   | bl j=>cases ry;exact PySem.EqMixed.eq_str_bool (fin_bl I q (by simp))
   | int j=>obtain ⟨t',rfl⟩:=ry;exact PySem.EqMixed.eq_str_int (fin_bl I q (by simp))
   | str j=>obtain ⟨t',rfl⟩:=ry;exact eq_str (fin_bl I q dec_str)
   | _=>exact absurd (show false=true from hs) Bool.false_ne_true
 | byt i=>
   obtain ⟨t,rfl⟩:=rx
   cases y with
   | byt j=>obtain ⟨t',rfl⟩:=ry;exact PySem.W.eq_bytes (fin_bl I q dec_byt)
   | _=>exact absurd (show false=true from hs) Bool.false_ne_true
 | _=>cases y <;> exact absurd (show false=true from hs) Bool.false_ne_true
theorem op_ne:OpR X (compareOp .NotEq) rNe:=by
 intro pins s σ H x y v u Q I rx ry h
 obtain ⟨hs,q⟩:=h
 cases x with
 | non=>
   cases rx
   cases y with
   | non=>cases ry;exact PySem.EqNone.ne_none_none (fin_bl I q (by simp))
   | bl j=>cases ry;exact PySem.EqNone.ne_none_bool (fin_bl I q (by simp))
   | int j=>obtain ⟨t',rfl⟩:=ry;exact PySem.EqNone.ne_none_int (fin_bl I q (by simp))
   | str j=>obtain ⟨t',rfl⟩:=ry;exact PySem.EqNone.ne_none_str (fin_bl I q (by simp))
   | _=>exact absurd (show false=true from hs) Bool.false_ne_true
 | bl i=>
   cases rx
   cases y with
   | non=>cases ry;exact PySem.EqNone.ne_bool_none (fin_bl I q (by simp))
   | bl j=>cases ry;exact ne_bool (fin_bl I q (congrArg not dec_bl))
   | str j=>obtain ⟨t',rfl⟩:=ry;exact PySem.EqMixed.ne_bool_str (fin_bl I q (by simp))
   | _=>exact absurd (show false=true from hs) Bool.false_ne_true
 | int i=>
   obtain ⟨t,rfl⟩:=rx
   cases y with
   | non=>cases ry;exact PySem.EqNone.ne_int_none (fin_bl I q (by simp))
   | int j=>obtain ⟨t',rfl⟩:=ry;exact ne_int (fin_bl I q (congrArg not dec_int))
   | str j=>obtain ⟨t',rfl⟩:=ry;exact PySem.EqMixed.ne_int_str (fin_bl I q (by simp))
   | _=>exact absurd (show false=true from hs) Bool.false_ne_true
 | str i=>
   obtain ⟨t,rfl⟩:=rx
   cases y with
   | non=>cases ry;exact PySem.EqNone.ne_str_none (fin_bl I q (by simp))
   | bl j=>cases ry;exact PySem.EqMixed.ne_str_bool (fin_bl I q (by simp))
   | int j=>obtain ⟨t',rfl⟩:=ry;exact PySem.EqMixed.ne_str_int (fin_bl I q (by simp))
   | str j=>obtain ⟨t',rfl⟩:=ry;exact ne_str (fin_bl I q (congrArg not dec_str))
   | _=>exact absurd (show false=true from hs) Bool.false_ne_true
 | byt i=>
   obtain ⟨t,rfl⟩:=rx
   cases y with
   | byt j=>obtain ⟨t',rfl⟩:=ry;exact PySem.W.ne_bytes (fin_bl I q (congrArg not dec_byt))
   | _=>exact absurd (show false=true from hs) Bool.false_ne_true
 | _=>cases y <;> exact absurd (show false=true from hs) Bool.false_ne_true
theorem op_lt:OpR X (compareOp .Lt) (rI0 fun i j=>.bl (decide (i<j))):=opB0 fun _ _ _ _ _ _ _ q=>lt_int q
theorem op_le:OpR X (compareOp .LtE) (rI0 fun i j=>.bl (decide (i≤j))):=opB0 fun _ _ _ _ _ _ _ q=>le_int q
theorem op_gt:OpR X (compareOp .Gt) (rI0 fun i j=>.bl (decide (j<i))):=opB0 fun _ _ _ _ _ _ _ q=>gt_int q
theorem op_ge:OpR X (compareOp .GtE) (rI0 fun i j=>.bl (decide (j≤i))):=opB0 fun _ _ _ _ _ _ _ q=>ge_int q
theorem op_in_str:OpR X (compareOp .In) (fun x y H Q=>∃ i j,x=.str i∧y=.str j∧Q (.bl (!(Builtin.Str.occurrences j i 0 j.length 1).isEmpty)) H):=by
 intro pins s σ H x y v u Q I rx ry h
 obtain ⟨i,j,rfl,rfl,q⟩:=h
 obtain ⟨t,rfl⟩:=rx
 obtain ⟨t',rfl⟩:=ry
 exact in_str (fin_bl I q rfl)
theorem op_isN:OpR X (compareOp .Is) (fun x y H Q=>y=.non∧Q (.bl (decide (x=.non))) H):=by
 intro pins s σ H x y v u Q I rx ry h
 obtain ⟨rfl,q⟩:=h
 cases ry
 refine is_none_gen (fin_bl I q ?_)
 cases x <;> first
  | (cases rx;rfl)
  | (obtain ⟨t,rfl⟩:=rx;rfl)
theorem nomark (b:Expr) {op:CmpOp} (h:op≠.In:=by decide) (h2:op≠.NotIn:=by decide):behindInMarks op b=false:=by
 have e1:(op == CmpOp.In)=false:=by cases op <;> first | rfl | exact absurd rfl h
 have e2:(op == CmpOp.NotIn)=false:=by cases op <;> first | rfl | exact absurd rfl h2
 cases b <;> simp [behindInMarks,e1,e2]
theorem pe_cmpR {op:CmpOp} {r:R2} (ho:OpR X (compareOp op) r) (ha:PE X a ta) (hb:PE X b tb) (hm:behindInMarks op b=false):PE X (.Compare a [op] [b] pos) (tOp r ta tb):=by
 intro pins s σ H Q I h
 exact wpAny_Compare1 (binT ha hb I h fun v u s2 x y H2 I2 rx ry q=>ho pins s2 σ H2 x y v u Q I2 rx ry q) hm
theorem ze_cmpR {op:CmpOp} {r:R2} (ho:OpR X (compareOp op) r) (ha:ZE X a ta) (hb:ZE X b tb) (hm:behindInMarks op b=false):ZE X (.Compare a [op] [b] pos) (tOp r ta tb):=by with_unfolding_all exact pe_cmpR ho ha hb hm
def tTest (t:TE):TT:=fun σ H Q=>t σ H fun x H'=>∃ k,x=.bl k∧Q k H'
def tChain (r r':R2) (ta tb tc:TE):TE:=fun σ H Q=>ta σ H fun x H1=>tb σ H1 fun y H2=>r x y H2 fun z H3=>∃ k,z=.bl k ∧
 (if k=true then tc σ H3 fun w' H4=>r' y w' H4 Q else Q (.bl false) H3)
theorem pe_chain {op op':CmpOp} {r r':R2} (ho:OpR X (compareOp op) r) (ho':OpR X (compareOp op') r') (ha:PE X a ta) (hb:PE X b tb) (hc:PE X c tc)
 (hm:lastMarks [op,op'] [b,c]=false:=by with_unfolding_all rfl):PE X (.Compare a [op,op'] [b,c] pos) (tChain r r' ta tb tc):=by
 intro pins s σ H Q I h
 refine Compare_chain (thn (ha pins s σ H _ I h) fun v s1 ⟨x,H1,I1,r1,q1⟩=>chain_link (thn (hb pins s1 σ H1 _ I1 q1) fun u s2 ⟨y,H2,I2,r2,q2⟩=>
  thn (ho pins s2 σ H2 x y v u _ I2 r1 r2 q2) fun d s3 ⟨z,H3,I3,r3,k,e,q3⟩=>?_)) hm
 subst e
 cases r3
 refine wpAny_truthy_bool ?_
 cases k with
 | false=>exact ite_ff ⟨.bl false,H3,I3,rfl,q3⟩
 | true=>exact ite_tt (chain_last (thn (hc pins s3 σ H3 _ I3 q3) fun w' s4 ⟨z',H4,I4,r4,q4⟩=>ho' pins s4 σ H4 y z' u w' Q I4 r2 r4 q4))
theorem ze_chain {op op':CmpOp} {r r':R2} (ho:OpR X (compareOp op) r) (ho':OpR X (compareOp op') r') (ha:ZE X a ta) (hb:ZE X b tb) (hc:ZE X c tc)
 (hm:lastMarks [op,op'] [b,c]=false:=by with_unfolding_all rfl):ZE X (.Compare a [op,op'] [b,c] pos) (tChain r r' ta tb tc):=by with_unfolding_all exact pe_chain ho ho' ha hb hc hm
theorem pt_chain {op op':CmpOp} {r r':R2} (ho:OpR X (compareOp op) r) (ho':OpR X (compareOp op') r') (ha:PE X a ta) (hb:PE X b tb) (hc:PE X c tc)
 (hm:lastMarks [op,op'] [b,c]=false:=by with_unfolding_all rfl):PT X (.Compare a [op,op'] [b,c] pos) (tTest (tChain r r' ta tb tc)):=by
 intro pins s σ H Q I h
 refine isTrue_chain (thn (ha pins s σ H _ I h) fun v s1 ⟨x,H1,I1,r1,q1⟩=>test_link (thn (hb pins s1 σ H1 _ I1 q1) fun u s2 ⟨y,H2,I2,r2,q2⟩=>
  thn (ho pins s2 σ H2 x y v u _ I2 r1 r2 q2) fun d s3 ⟨z,H3,I3,r3,k,e,q3⟩=>?_)) hm
 subst e
 cases r3
 refine wpAny_truthy_bool ?_
 cases k with
 | false=>
   obtain ⟨k',e',q'⟩:=q3
   cases e'
   exact ite_ff ⟨H3,I3,q'⟩
 | true=>
   refine ite_tt (test_last (thn (hc pins s3 σ H3 _ I3 q3) fun w' s4 ⟨z',H4,I4,r4,q4⟩=>thn (ho' pins s4 σ H4 y z' u w' _ I4 r2 r4 q4) fun d' s5 ⟨z2,H5,I5,r5,k2,e2,q5⟩=>?_))
   subst e2
   cases r5
   exact wpAny_truthy_bool ⟨H5,I5,q5⟩
theorem line63:(sizeLine:Nat)<2 ^ 63:=by rw [sizeLine_eq];decide
theorem op_add_str:OpR X (binaryOp .Add) (fun x y H Q=>∃ i j,x=.str i∧y=.str j∧i.length+j.length≤sizeLine∧Q (.str (i++j)) H):=by
 intro pins s σ H x y v u Q I rx ry h
 obtain ⟨i,j,rfl,rfl,hz,q⟩:=h
 obtain ⟨t,rfl⟩:=rx
 obtain ⟨t',rfl⟩:=ry
 exact add_str (fun t' tk=>⟨.str (i++j),H,I.tok _,⟨_,rfl⟩,q⟩) hz
theorem vals1 {x:V} {us:List Value} (r:Vals [x] us):∃ u,us=[u]∧RelV x u:=by
 cases r with
 | cons r1 r2=>cases r2;exact ⟨_,rfl,r1⟩
theorem vals2 {x y:V} {us:List Value} (r:Vals [x,y] us):∃ u w',us=[u,w']∧RelV x u∧RelV y w':=by
 cases r with
 | cons r1 r2=>
   cases r2 with
   | cons r3 r4=>cases r4;exact ⟨_,_,rfl,r1,r3⟩
theorem call_abs:CallR X (.builtin "abs") (fun xs H Q=>∃ i,xs=[.int i]∧Q (.int (if i<0 then -i else i)) H):=by
 intro pins s σ H xs us Q I r h
 obtain ⟨i,rfl,q⟩:=h
 obtain ⟨u,rfl,t,rfl⟩:=vals1 r
 exact call_abs_int fun u tk=>⟨.int (if i<0 then -i else i),H,I.tok _,⟨_,rfl⟩,q⟩
theorem call_max2 (hc:X.calm=true):CallR X (.builtin "max") (fun xs H Q=>∃ i j,xs=[.int i,.int j]∧Q (.int (if j > i then j else i)) H):=by
 intro pins s σ H xs us Q I r h
 obtain ⟨i,j,rfl,q⟩:=h
 obtain ⟨u,w',rfl,⟨t,rfl⟩,⟨t',rfl⟩⟩:=vals2 r
 refine max_two_ints (I.ok.hd hc) fun h' tk k=>⟨_,H,I.kept k,?_,q⟩
 by_cases hj:j > i
 · rw [if_pos hj,if_pos hj];exact ⟨_,rfl⟩
 · rw [if_neg hj,if_neg hj];exact ⟨_,rfl⟩
theorem call_min2 (hc:X.calm=true):CallR X (.builtin "min") (fun xs H Q=>∃ i j,xs=[.int i,.int j]∧Q (.int (if j<i then j else i)) H):=by
 intro pins s σ H xs us Q I r h
 obtain ⟨i,j,rfl,q⟩:=h
 obtain ⟨u,w',rfl,⟨t,rfl⟩,⟨t',rfl⟩⟩:=vals2 r
 refine min_two_ints (I.ok.hd hc) fun h' tk k=>⟨_,H,I.kept k,?_,q⟩
 by_cases hj:j<i
 · rw [if_pos hj,if_pos hj];exact ⟨_,rfl⟩
 · rw [if_neg hj,if_neg hj];exact ⟨_,rfl⟩
theorem call_str_int:CallR X (.type "str") (fun xs H Q=>∃ i,xs=[.int i]∧i.natAbs.log2<1920∧Q (.str (toString i)) H):=by
 intro pins s σ H xs us Q I r h
 obtain ⟨i,rfl,hz,q⟩:=h
 obtain ⟨u,rfl,t,rfl⟩:=vals1 r
 exact PySem.P.str_of_int hz ⟨.str _,H,I.tok _,⟨_,rfl⟩,q⟩
end
structure ObjM (h:Heap) (x dx C:Addr) (mA:Str→Option Value):Prop where
 obj:h.get? x=some (PySem.W.instObj C dx)
 ns:h.Ns1 dx mA
 ne:dx≠x
theorem lookIn_ns {h:Heap} {dx:Addr} {mA:Str→Option Value} (n:h.Ns1 dx mA):∃ od,h.get? dx=some od∧∀ name,PySem.W.lookIn name od=some (mA name):=by
 obtain ⟨o,es,ep,ho,hd,hk,_,hm⟩:=n
 refine ⟨o,ho,fun name=>?_⟩
 have e:=hm name
 unfold nsFind findBy at e
 rw [← Array.find?_toList] at e
 unfold PySem.W.lookIn
 rw [hd]
 dsimp only
 split
 · rename_i y q
   rw [q] at e
   exact congrArg some e
 · rename_i q
   rw [q] at e
   have a:es.toList.any (·.refKey)=false:=by
    rw [List.any_eq_false]
    intro y hy
    obtain ⟨z,t,hkey⟩:=hk y (Array.mem_toList_iff.mp hy)
    simp [DictEntry.refKey,hkey]
   have a':¬ es.toList.any (·.refKey)=true:=by rw [a];exact Bool.false_ne_true
   rw [if_neg a']
   exact congrArg some e
theorem ObjM.look {h:Heap} {x dx C:Addr} {mA:Str→Option Value} (I:ObjM h x dx C mA):∃ od,PySem.W.InstAt h x (PySem.W.instObj C dx) C (some od)∧∀ name,PySem.W.lookIn name od=some (mA name):=
 let ⟨od,ho,hl⟩:=lookIn_ns I.ns
 ⟨od,⟨I.obj,rfl,rfl,ho⟩,hl⟩
theorem RelO.some_of {v:V} {o:Option Value} (r:RelO (some v) o):∃ u,o=some u∧RelV v u:=by
 cases o with
 | none=>exact (show False from r).elim
 | some u=>exact ⟨u,rfl,r⟩
section
variable {P:Program} {w:World} {H H':Hp} {h h':Heap} {a C dx:Addr} {fs fs':List (Str×V)}
theorem ins_get (hok:HOk P w H h) (e:H a=some (.ins C dx fs)):∃ mA,ObjM h a dx C mA∧(∀ f,RelO (fs.lookup f) (mA f))∧PySem.Within mA (fs.map (·.1))∧fs.length≤1000∧H dx=some (.own a):=by
 obtain ⟨d,z,ne,ob,mA,n,r,q⟩:=(show ObjOk P w H h a (.ins C dx fs) from hok a _ e)
 exact ⟨mA,⟨ob,n,ne⟩,r,q,z,d⟩
end
structure Cls (K:PySem.W.Frag) (C:Addr):Prop where
 pg:PySem.W.plainGet K C Str.empty=true
 hd:PySem.W.hasDictIn K C=true
 po:PySem.W.plainOver K C=true
 sa:PySem.W.findIn K (.ref C) "__setattr__" = some (some (.builtin "object.__setattr__"))
theorem Cls.get {K:PySem.W.Frag} {C:Addr} (c:Cls K C) (f:Str):PySem.W.plainGet K C f=true:=c.pg
section
variable {X:Cx} {pins:List (Addr×Obj)} {σ:St} {H:Hp} {s:Shared} {A:Around} {E:Value→Shared→Prop} {Q:Value→Shared→Prop} {c:Value} {b:Bool}
inductive TyOf (K:PySem.W.Frag) (H:Hp):V→Value→Prop where
 | non:TyOf K H .non (.type "NoneType")
 | bl (x:Bool):TyOf K H (.bl x) (.type "bool")
 | int (i:Int):TyOf K H (.int i) (.type "int")
 | str (x:Str):TyOf K H (.str x) (.type "str")
 | flt (x:UInt64):TyOf K H (.flt x) (.type "float")
 | lst {a:Addr} {xs:List V} (e:H a=some (.lst xs)):TyOf K H (.ref a) (.type "list")
 | frz {a:Addr} {o:Obj} {xs:List V} (e:H a=some (.frz o (.lst xs))):TyOf K H (.ref a) (.type "list")
 | tup {a:Addr} {xs:List V} (e:H a=some (.tup xs)):TyOf K H (.ref a) (.type "tuple")
 | dK {a:Addr} {kvs:List (Key×V)} (e:H a=some (.dK kvs)):TyOf K H (.ref a) (.type "dict")
 | dT {a:Addr} {kvs:List (List Key×V)} (e:H a=some (.dT kvs)):TyOf K H (.ref a) (.type "dict")
 | ins {a C dx:Addr} {fs:List (Str×V)} (e:H a=some (.ins C dx fs)) (cl:Cls K C) (ha:PySem.W.findIn K (.ref C) "__class__" = some (some (.builtin "object.__class__")))
  (hn:PySem.W.specialIn K (.builtin "object.__class__") "__get__" = some (some (.builtin "getset_descriptor.__get__"))) (htk:PySem.W.takesIn K (.builtin "object.__class__")=some true)
  (hm:PySem.W.mroIn K C (.type "object")=some true):TyOf K H (.ref a) (.ref C)
theorem isinst_ok {x:V} {u t:Value} (I:Inv X pins σ H s) (rx:RelV x u) (ty:TyOf X.K H x t) (e:PySem.W.kitOne X.K t c=some b) (h:∀ tk,Q (.bool b) { s with toks:=tk }) :
 wpAny (model X.prog X.w) A (call (.builtin "isinstance") [u,c]) Q E s:=by
 cases ty with
 | non=>cases (show u=Value.none from rx);exact PySem.W.kia_one PySem.W.kitx_none I.kIn True.intro e (fun z=>nomatch z) h
 | bl y=>cases (show u=Value.bool y from rx);exact PySem.W.kia_one PySem.W.kitx_bool I.kIn True.intro e (fun z=>nomatch z) h
 | int i=>obtain ⟨t,q⟩:=(show ∃ t,u=Value.int i t from rx);cases q;exact PySem.W.kia_one PySem.W.kitx_int I.kIn True.intro e (fun z=>nomatch z) h
 | str y=>obtain ⟨t,q⟩:=(show ∃ t,u=Value.str y t from rx);cases q;exact PySem.W.kia_one PySem.W.kitx_str I.kIn True.intro e (fun z=>nomatch z) h
 | flt y=>obtain ⟨t,q⟩:=(show ∃ t,u=Value.float y t from rx);cases q;exact PySem.W.kia_one PySem.W.kitx_float I.kIn True.intro e (fun z=>nomatch z) h
 | @lst a xs ea=>
   cases (show u=Value.ref a from rx)
   obtain ⟨_,_,n,_,h1⟩:=(show ObjOk X.prog X.w H s.heap a (.lst xs) from I.hok a _ ea)
   exact PySem.W.kia_one PySem.W.kitx_list I.kIn ⟨_,h1,rfl⟩ e (fun z=>nomatch z) h
 | @frz a ob xs ea=>
   cases (show u=Value.ref a from rx)
   obtain ⟨_,_,_,n,_,h1⟩:=(show ObjOk X.prog X.w H s.heap a (.frz ob (.lst xs)) from I.hok a _ ea)
   exact PySem.W.kia_one PySem.W.kitx_list I.kIn ⟨_,h1,rfl⟩ e (fun z=>nomatch z) h
 | @tup a xs ea=>
   cases (show u=Value.ref a from rx)
   obtain ⟨_,_,_,p⟩:=(show ObjOk X.prog X.w H s.heap a (.tup xs) from I.hok a _ ea)
   obtain ⟨o,h1,h2,_⟩:=p.tup
   exact PySem.W.kia_one PySem.W.kitx_tuple I.kIn ⟨o,h1,h2⟩ e (fun z=>nomatch z) h
 | @dK a kvs ea=>
   cases (show u=Value.ref a from rx)
   obtain ⟨_,_,vs,_,p⟩:=(show ObjOk X.prog X.w H s.heap a (.dK kvs) from I.hok a _ ea)
   obtain ⟨o,es,ep,h1,h2,_⟩:=p
   exact PySem.W.kia_one PySem.W.kitx_dict I.kIn ⟨o,h1,h2.1⟩ e (fun z=>nomatch z) h
 | @dT a kvs ea=>
   cases (show u=Value.ref a from rx)
   obtain ⟨_,_,xs,_,o,es,ep,h1,h2,_⟩:=(show ObjOk X.prog X.w H s.heap a (.dT kvs) from I.hok a _ ea)
   exact PySem.W.kia_one PySem.W.kitx_dict I.kIn ⟨o,h1,h2.1⟩ e (fun z=>nomatch z) h
 | @ins a C dx fs ea cl ha hn htk hm=>
   cases (show u=Value.ref a from rx)
   obtain ⟨mA,O,_⟩:=ins_get I.hok ea
   obtain ⟨od,J,_⟩:=O.look
   exact PySem.W.kia_one (PySem.W.kitx_own (cl.get _) cl.hd ha hn htk hm) I.kIn J e (fun z=>nomatch z) h
end
structure Room (k:Nat) (A:Around):Prop where
 hd:A.handled=none
 dp:A.depth+3*k+5<recursionLimit
 un:A.units+16*k+200<cLine
 gd:A.guards=some []
theorem Room.mono {j k:Nat} {A:Around} (r:Room k A) (h:j≤k):Room j A:=⟨r.hd,by have:=r.dp;omega,by have:=r.un;omega,r.gd⟩
theorem Room.deeper {k:Nat} {A:Around} (r:Room (k+1) A) (env:Env):Room k (A.deeper env):=
 ⟨r.hd,by have:=r.dp;show A.depth+1+3*k+5<_;omega,by have:=r.un;show A.units+3+16*k+200<_;omega,r.gd⟩
theorem Room.depth {k:Nat} {A:Around} (r:Room k A):A.depth<recursionLimit:=by have:=r.dp;omega
theorem Room.units {k:Nat} {A:Around} (r:Room k A):A.units+64<cLine:=by have:=r.un;omega
def tNil:TA:=fun _ H Q=>Q [] H
def tCons (ta:TE) (tr:TA):TA:=fun σ H Q=>ta σ H fun x H1=>tr σ H1 fun xs H2=>Q (x::xs) H2
section
variable {X:Cx} {e:Expr} {es:List Expr} {te:TE} {t:TA} {pos:Pos}
theorem pa_nil:PA X [] tNil:=fun _ _ _ _ H Q I h=>Calls.spliced_nil ⟨[],H,I,.nil,h⟩
theorem za_nil:ZA X [] tNil:=by with_unfolding_all exact pa_nil
theorem pa_cons (ha:PE X e te) (hr:PA X es t) (hs:starEach (e::es) X.env=(false,eval e X.env)::starEach es X.env:=by rfl):PA X (e::es) (tCons te t):=by
 intro pos pins s σ H Q I h
 rw [hs]
 show wpAny _ _ (spliced ((false,eval e X.env)::backTo pos (starEach es X.env))) _ _ s
 refine Calls.spliced_cons (thn (ha pins s σ H _ I h) fun u s1 ⟨x,H1,I1,r1,q1⟩=>?_)
 exact thn (hr pos pins s1 σ H1 _ I1 q1) fun us s2 ⟨xs,H2,I2,r2,q2⟩=>⟨x::xs,H2,I2,.cons r1 r2,q2⟩
theorem za_cons (ha:ZE X e te) (hr:ZA X es t) (hs:starEach (e::es) X.env=(false,eval e X.env)::starEach es X.env:=by rfl):ZA X (e::es) (tCons te t):=by with_unfolding_all exact pa_cons ha hr hs
def tTup (t:TA):TE:=fun σ H Q=>t σ H fun xs H1=>xs.length≤sizeLine∧∀ p,H1 p=none→Q (.ref p) (upd H1 p (.tup xs))
def tLst (t:TA):TE:=fun σ H Q=>t σ H fun xs H1=>xs.length≤sizeLine∧∀ p,H1 p=none→Q (.ref p) (upd H1 p (.lst xs))
theorem pe_tup {x1} (h:PA X es t):PE X (.Tuple es x1 pos) (tTup t):=by
 intro pins s σ H Q I hq
 refine wpAny_Tuple_spliced (thn (h pos pins s σ H _ I hq) fun us s1 ⟨xs,H1,I1,r,z,q⟩=>⟨by rw [← r.length];exact z,?_⟩)
 have hf:H1 s1.heap.objs.size=none:=I1.hok.fresh (Nat.le_refl _)
 refine ⟨.ref s1.heap.objs.size,upd H1 s1.heap.objs.size (.tup xs),I1.laid (t':=s1.toks) (fun b u e=>Heap.get?_push_of_some _ e) (Nat.le_refl _) ?_,rfl,q _ hf⟩
 exact ⟨z,us,r,⟨_,Heap.get?_push_size _ rfl⟩⟩
theorem ze_tup {x1} (h:ZA X es t):ZE X (.Tuple es x1 pos) (tTup t):=by with_unfolding_all exact pe_tup h
theorem pe_lst (h:PA X es t):PE X (.List es pos) (tLst t):=by
 intro pins s σ H Q I hq
 refine wpAny_List_spliced (thn (h pos pins s σ H _ I hq) fun us s1 ⟨xs,H1,I1,r,z,q⟩=>⟨by rw [← r.length];exact z,?_⟩)
 have hf:H1 s1.heap.objs.size=none:=I1.hok.fresh (Nat.le_refl _)
 refine ⟨.ref s1.heap.objs.size,upd H1 s1.heap.objs.size (.lst xs),I1.laid (t':=s1.toks) (fun b u e=>Heap.get?_push_of_some _ e) (Nat.le_refl _) ?_,rfl,q _ hf⟩
 exact ⟨z,us,0,r,Heap.get?_push_size _ rfl⟩
theorem ze_lst (h:ZA X es t):ZE X (.List es pos) (tLst t):=by with_unfolding_all exact pe_lst h
end
abbrev Sp:=List V→Hp→VK→XK→Prop
abbrev CXT:=List Env→Hp→Shared→XK→Value→Shared→Prop
structure Env0 (P:Program) (w:World) (K:PySem.W.Frag) (mg:Str→Option Value) (base:Heap) (A:Around) (outer:List Env) (s:Shared) (H:Hp):Prop where
 frames:A.frames=some outer
 mod:Mod K mg base
 bs:∀ b o,base.get? b=some o→s.heap.get? b=some o∧H b=none
 bsz:base.objs.size≤s.heap.objs.size
 funs:s.heap.FunFrames base outer
 frf:∀ b∈frs outer,H b=none
 hok:HOk P w H s.heap
 bare:AllBare s.gens
def CE (outer:List Env) (P:Program) (w:World) (H:Hp) (s:Shared) (Q:VK) (u:Value) (s':Shared):Prop:=
 ∃ v H',s'.os=s.os∧AllBare s'.gens∧Un (frs outer) [] H H' s.heap s'.heap∧HOk P w H' s'.heap∧RelV v u∧Q v H'
def CR (CX:CXT) (outer:List Env) (P:Program) (w:World) (H:Hp) (s:Shared) (Q:VK) (E:XK) (r:Result) (s':Shared):Prop:=
 match r with
 | .ok (.ret u)=>CE outer P w H s Q u s'
 | .ok _=>False
 | .error e=>CX outer H s E e s'
structure FnOk (P:Program) (w:World) (K:PySem.W.Frag) (mg:Str→Option Value) (base:Heap) (CX:CXT) (k:Nat) (f:Addr) (fd:FuncData) (ps:List Str) (sp:Sp):Prop where
 len:∀ vs H Q E,sp vs H Q E→vs.length=ps.length
 run:∀ (A:Around) (outer:List Env) (s:Shared) (H:Hp) (args:Args) (us:List Value) (vs:List V) (Q:VK) (E:XK),Room k A→Env0 P w K mg base A outer s H→BindsTo s fd args (ps.zip us)→Vals vs us→sp vs H Q E →
  codeAny (model P w) A (.call (.ref f) args) (CR CX outer P w H s Q E) s
theorem FnOk.mono {P:Program} {w:World} {K:PySem.W.Frag} {mg:Str→Option Value} {base:Heap} {CX:CXT} {j k:Nat} {f:Addr} {fd:FuncData} {ps:List Str} {sp:Sp} (F:FnOk P w K mg base CX j f fd ps sp) (h:j≤k) :
 FnOk P w K mg base CX k f fd ps sp:=⟨F.len,fun A outer s H args us vs Q E hr=>F.run A outer s H args us vs Q E (hr.mono h)⟩
section
variable {X:Cx} {pins:List (Addr×Obj)} {σ:St} {H:Hp} {s s':Shared}
theorem Inv.env0 (I:Inv X pins σ H s):Env0 X.prog X.w X.K X.mg X.base X.A X.stack s H:=
 ⟨I.ok.frames,I.ok.mod,I.bs,Nat.le_trans I.ok.bsz I.sz,I.stack,I.stkFree,I.hok,I.bare⟩
theorem Inv.after {Q:VK} {u:Value} (I:Inv X pins σ H s) (h:CE X.stack X.prog X.w H s Q u s'):EP X pins σ Q u s':=by
 obtain ⟨v,H',os,bare,un,hok,r,q⟩:=h
 obtain ⟨hh,g,d,t,os'⟩:=s'
 obtain rfl:os'=s.os:=os
 exact ⟨v,H',I.call (h':=hh) (g':=g) (d':=d) (t':=t) (ch:=[]) un hok bare (fun b z=>absurd z (by simp)),r,q⟩
end
def tCall (sp:Sp) (dvs:List V) (E:XK) (t:TA):TE:=fun σ H Q=>t σ H fun vs H1=>sp (vs++dvs) H1 Q E
def Binds (K:PySem.W.Frag) (fd:FuncData) (ps:List Str) (ds:List Value):Prop:=
 ∀ (s:Shared) (us:List Value),K.In s.heap→(us++ds).length=ps.length→BindsTo s fd ⟨us,[]⟩ (ps.zip (us++ds))
theorem Binds.all {K:PySem.W.Frag} {fd:FuncData} {ps:List Str} (h:∀ us:List Value,us.length=ps.length→bindArgs fd ⟨us,[]⟩=pure (ps.zip us)):Binds K fd ps []:=fun s us _ hl=>by
 rw [List.append_nil] at hl ⊢
 exact .of_eq (h us hl)
def Passes (CX:CXT) (X:Cx) (E:XK):Prop:=∀ (pins:List (Addr×Obj)) (σ:St) (H:Hp) (s:Shared) (e:Value) (s':Shared),Inv X pins σ H s→CX X.stack H s E e s'→X.xe e s'
section
variable {X:Cx} {CX:CXT} {k:Nat} {f C:Addr} {fd:FuncData} {ps:List Str} {sp:Sp} {dvs:List V} {ds:List Value} {E:XK} {x m:Str} {p pos apos:Pos} {e o:Expr} {es:List Expr} {ta:TE} {t:TA}
theorem run_fn {pins:List (Addr×Obj)} {σ:St} {H:Hp} {s:Shared} {Q:VK} {us:List Value} {vs:List V} (F:FnOk X.prog X.w X.K X.mg X.base CX k f fd ps sp) (hr:Room k X.A) (hb:Binds X.K fd ps ds) (hd:Vals dvs ds) (hx:Passes CX X E)
 (I:Inv X pins σ H s) (r:Vals vs us) (h:sp (vs++dvs) H Q E):wpAny (model X.prog X.w) X.A (call (.ref f) us) (EP X pins σ Q) X.xe s:=by
 have r2:Vals (vs++dvs) (us++ds):=r.append hd
 have hl:(us++ds).length=ps.length:=by rw [← r2.length];exact F.len _ _ _ _ h
 refine wpAny_call (codeAny_mono (F.run X.A X.stack s H ⟨us,[]⟩ (us++ds) (vs++dvs) Q E hr I.env0 (hb s us I.kIn hl) r2 h) fun r s' hq=>?_)
 cases r with
 | error e=>exact hx pins σ H s e s' I hq
 | ok fl=>
   cases fl with
   | ret u=>exact I.after hq
   | next=>exact False.elim hq
   | brk=>exact False.elim hq
   | cont=>exact False.elim hq
theorem pe_call (F:FnOk X.prog X.w X.K X.mg X.base CX k f fd ps sp) (hr:Room k X.A) (hg:Gl X x) (hm:X.mg x=some (.ref f)) (hk:PySem.W.keepIn X.K (.ref f)=true) (hb:Binds X.K fd ps ds) (hd:Vals dvs ds) (hx:Passes CX X E)
 (ha:PA X (e::es) t) (hdb:(x == ("__debug__" : Str))=false:=by decide) (he:starEach (e::es) X.env=(false,eval e X.env)::starEach es X.env:=by rfl) (hpl:(backTo pos (starEach es X.env)).any (·.1)=false:=by rfl) :
 PE X (.Call (.Name x p) (e::es) [] pos) (tCall sp dvs E t):=by
 intro pins s σ H Q I h
 refine wpAny_Call_Name_kw (ld_glob I hg hm ?_ hdb)
 refine PySem.W.callWith_K (h₀:=X.base) I.ok.mod.kin hk (thn (ha pos pins s σ H _ I h) fun us s1 ⟨vs,H1,I1,r,q⟩=>⟨I1.kIn,?_⟩) he hpl
 exact run_fn F hr hb hd hx I1 r q
end
structure FnScope (N P:List Str) (sc:Scope):Prop where
 kind:sc.kind=.function
 co:sc.isCoroutine=false
 gen:sc.isGenerator=false
 nd:N.Nodup
 pre:N.take P.length=P
 par:∀ x∈P,sc.names.lookup x=some .local∨sc.names.lookup x=some .cell
 nofree:∀ y∈sc.names,y.2≠.free
theorem bindL_out {kindOf:Str→Option NameKind} {x:Str}:∀ {binds:List (Str×Value)} {m:Str→Option Value},(∀ v,(x,v)∉binds)→bindL kindOf binds m x=m x
 | [],_,_=>rfl
 | (n,v)::r,m,h=>by
   unfold bindL
   rw [bindL_out fun w hw=>h w (List.mem_cons_of_mem _ hw)]
   split
   · have:x≠n:=by rintro rfl;exact h v List.mem_cons_self
     simp [this]
   · rfl
theorem bindC_out {kindOf:Str→Option NameKind} {x:Str}:∀ {binds:List (Str×Value)} {m:Str→Option Value},(∀ v,(x,v)∉binds)→bindC kindOf binds m x=m x
 | [],_,_=>rfl
 | (n,v)::r,m,h=>by
   unfold bindC
   rw [bindC_out fun w hw=>h w (List.mem_cons_of_mem _ hw)]
   split
   · rfl
   · have:x≠n:=by rintro rfl;exact h v List.mem_cons_self
     simp [this]
theorem bindL_get {kindOf:Str→Option NameKind} {x:Str} {v:Value}:∀ {P:List Str} {vs:List Value} {i:Nat} {m:Str→Option Value},P.Nodup→P[i]? = some x→vs[i]? = some v→kindOf x=some .local →
 bindL kindOf (P.zip vs) m x=some v
 | [],_,_,_,_,h,_,_=>by simp at h
 | _::_,[],_,_,_,_,h,_=>by simp at h
 | p::P,w::vs,0,m,nd,h1,h2,hk=>by
   simp at h1 h2;subst h1;subst h2
   show bindL kindOf ((p,w)::P.zip vs) m p=_
   unfold bindL
   rw [bindL_out fun v hv=>(List.nodup_cons.mp nd).1 (List.of_mem_zip hv).1,if_pos hk]
   simp
 | p::P,w::vs,i+1,m,nd,h1,h2,hk=>by
   show bindL kindOf ((p,w)::P.zip vs) m x=_
   unfold bindL
   exact bindL_get (i:=i) (List.nodup_cons.mp nd).2 (by simpa using h1) (by simpa using h2) hk
theorem bindC_get {kindOf:Str→Option NameKind} {x:Str} {v:Value}:∀ {P:List Str} {vs:List Value} {i:Nat} {m:Str→Option Value},P.Nodup→P[i]? = some x→vs[i]? = some v→kindOf x≠some .local →
 bindC kindOf (P.zip vs) m x=some v
 | [],_,_,_,_,h,_,_=>by simp at h
 | _::_,[],_,_,_,_,h,_=>by simp at h
 | p::P,w::vs,0,m,nd,h1,h2,hk=>by
   simp at h1 h2;subst h1;subst h2
   show bindC kindOf ((p,w)::P.zip vs) m p=_
   unfold bindC
   rw [bindC_out fun v hv=>(List.nodup_cons.mp nd).1 (List.of_mem_zip hv).1,if_neg hk]
   simp
 | p::P,w::vs,i+1,m,nd,h1,h2,hk=>by
   show bindC kindOf ((p,w)::P.zip vs) m x=_
   unfold bindC
   exact bindC_get (i:=i) (List.nodup_cons.mp nd).2 (by simpa using h1) (by simpa using h2) hk
def start (N:List Str) (vs:List V):St:=vs.map some++List.replicate (N.length - vs.length) none
def cxOf (CX:CXT) (P:Program) (w:World) (K:PySem.W.Frag) (mg:Str→Option Value) (base:Heap) (N:List Str) (qual:Str) (scope:Scope) (f:Addr) (cd:Value) (A:Around) (outer:List Env) (s:Shared) (H:Hp) (E:XK):Cx where
 prog:=P
 w:=w
 K:=K
 mg:=mg
 base:=base
 A:=A.deeper (envOfC qual scope s.heap.objs.size f cd)
 N:=N
 s₀:=s
 H₀:=H
 env:=envOfC qual scope s.heap.objs.size f cd
 outer:=outer
 stack:=envOfC qual scope s.heap.objs.size f cd::outer
 ex:=[]
 calm:=true
 fn:=fun _=>true
 pn:=[]
 xe:=fun e s'=>wpAny (model P w) (A.deeper (envOfC qual scope s.heap.objs.size f cd)) (leaving (envOfC qual scope s.heap.objs.size f cd) e) (fun _ s''=>CX outer H s E e s'') (fun e' s''=>CX outer H s E e' s'') s'
theorem cell_has {sc:Scope} {n:Nat} {x:Str} (h:sc.names.lookup x=some .cell):∃ c,(cellsFrom n sc.names []).lookup x=some c:=by
 have q:=PySem.W.cellsFrom_some sc.names n [] (.inl h)
 exact Option.isSome_iff_exists.mp q
theorem inv_start {CX:CXT} {P:Program} {w:World} {K:PySem.W.Frag} {mg:Str→Option Value} {base:Heap} {N ps:List Str} {qual:Str} {scope:Scope} {f:Addr} {cd:Value} {A:Around} {outer:List Env} {s s1:Shared} {H:Hp} {E:XK} {us:List Value} {vs:List V}
 (S:FnScope N ps scope) (hd:A.handled=none) (e0:Env0 P w K mg base A outer s H) (hl:vs.length=ps.length) (r:Vals vs us)
 (x:InCallC s s.heap.objs.size (bindL (envOfC qual scope s.heap.objs.size f cd).kindOf (ps.zip us) fun _=>none) (cellsFrom (s.heap.objs.size+1) scope.names []) (bindC (envOfC qual scope s.heap.objs.size f cd).kindOf (ps.zip us) fun _=>none) s1) :
 Inv (cxOf CX P w K mg base N qual scope f cd A outer s H E) [] (start N vs) H s1:=by
 have hpl:ps.length≤N.length:=by have:=congrArg List.length S.pre;rw [List.length_take] at this;omega
 obtain ⟨h1,tk,rfl,hk⟩:=x.done
 have noA:∀ b:Addr,b∉(cxOf CX P w K mg base N qual scope f cd A outer s H E).ex:=fun b z=>absurd (show b∈([]:List Addr) from z) (by simp)
 refine ⟨⟨e0.mod,S.kind,rfl,rfl,Nat.le_refl _,fun y z c h1 h2=>?_,fun y hy=>?_,fun y c _ h=>?_,fun _=>hd,Around.frames_deeper e0.frames,.inr ⟨rfl,rfl⟩,fun b z=>absurd z (noA b),e0.bs,e0.bsz,fun b _ _=>noA b,fun b z=>absurd z (noA b),e0.funs,e0.frf⟩,
  rfl,e0.bare,Un.kept hk,⟨_,x.toInCall.ns,fun i y v h1 h2 h3=>?_⟩,fun y c h=>⟨_,x.cell y c h⟩,e0.hok.fresh (Nat.le_refl _),fun y c h=>?_,fun p hp=>absurd (show p∈([]:List (Addr×Obj)) from hp) (by simp),e0.hok.kept hk,?_⟩
 · exact name_of_addr x.apart (PySem.mem_of_lookup h1) (PySem.mem_of_lookup h2)
 · have hy:scope.names.lookup y=some .cell∨scope.names.lookup y=some .free:=hy
   rcases hy with hy | hy
   · exact cell_has hy
   · exact absurd rfl (S.nofree _ (PySem.mem_of_lookup hy))
 · exact Nat.le_of_lt (x.above y c (PySem.mem_of_lookup h))
 · have hi:i<vs.length:=by
    unfold start at h2
    by_cases hi:i<vs.length
    · exact hi
    · rw [List.getElem?_append_right (by simpa using hi)] at h2
      rw [List.getElem?_replicate] at h2
      split at h2 <;> cases h2
   have ha:vs[i]? = some v:=by
    unfold start at h2
    rw [List.getElem?_append_left (by simpa using hi),List.getElem?_map] at h2
    cases e:vs[i]? with
    | none=>rw [e] at h2;cases h2
    | some a=>rw [e] at h2;cases h2;rfl
   obtain ⟨u,hu,rv⟩:=r.get ha
   have hp:ps[i]? = some y:=by
    rw [← S.pre,List.getElem?_take_of_lt (by omega)];exact h1
   have ndP:ps.Nodup:=by rw [← S.pre];exact S.nd.sublist (List.take_sublist _ _)
   refine ⟨u,rv,?_⟩
   rcases S.par y (List.mem_of_getElem? hp) with k | k
   · exact .inl ⟨k,bindL_get ndP hp hu k⟩
   · obtain ⟨c,e⟩:=cell_has (n:=s.heap.objs.size+1) k
     refine .inr ⟨.inl k,c,e,?_⟩
     have q:=x.cell y c e
     rw [bindC_get ndP hp hu (by show scope.names.lookup y≠_;rw [k];decide)] at q
     exact q
 · exact e0.hok.fresh (Nat.le_of_lt (x.above y c (PySem.mem_of_lookup h)))
 · unfold start
   show _=N.length
   rw [List.length_append,List.length_map,List.length_replicate]
   omega
theorem fn_of {CX:CXT} {P:Program} {w:World} {K:PySem.W.Frag} {mg:Str→Option Value} {base:Heap} {k:Nat} {f:Addr} {name qual:Str} {params:Arguments} {body:List Stmt} {scope:Scope} {dV kV doc pm cdv ct oc:Value} {an od:Option Addr}
 {osl:Array (Option Value)} {N ps:List Str} {sp:Sp} (lk:K.lookup f=some ⟨oc,od,.func (PySem.W.fnOf name qual params body scope dV kV doc pm an cdv ct),osl⟩) (hcd:PySem.W.codeIn K cdv qual=true) (S:FnScope N ps scope)
 (len:∀ vs H Q E,sp vs H Q E→vs.length=ps.length)
 (hbody:∀ (A:Around) (outer:List Env) (s:Shared) (H:Hp) (vs:List V) (Q:VK) (E:XK),Room k (A.deeper (envOfC qual scope s.heap.objs.size f cdv))→sp vs H Q E →
   ∃ t,PSs (cxOf CX P w K mg base N qual scope f cdv A outer s H E) body t∧t { nx:=fun _ H'=>Q .non H',rt:=Q } (start N vs) H) :
 FnOk P w K mg base CX (k+1) f (PySem.W.fnOf name qual params body scope dV kV doc pm an cdv ct) ps sp:=by
 refine ⟨len,fun A outer s H args us vs Q E hr e0 hb r hsp=>?_⟩
 have hl:=len _ _ _ _ hsp
 have KX:K.In s.heap:=e0.mod.kin.keeps fun b o e=>(e0.bs b o e).1
 have lim:s.heap.NoLimit:=e0.mod.nolimit.keeps fun b o e=>(e0.bs b o e).1
 have hkind:∀ y∈ps.zip us,scope.names.lookup y.1=some .local∨(scope.names.lookup y.1=some .cell∧((cellsFrom (s.heap.objs.size+1) scope.names []).lookup y.1).isSome=true):=fun ⟨n,v⟩ hy=>by
  rcases S.par n (List.of_mem_zip hy).1 with q | q
  · exact .inl q
  · exact .inr ⟨q,PySem.W.cellsFrom_some _ _ _ (.inl q)⟩
 refine codeAny_call_function hr.depth (KX _ _ lk) rfl S.co S.gen rfl (PySem.W.codeRec_of KX hcd) (hb _ _ _ _ ?_)
 refine wpAny_newFunctionEnv_cells S.kind hkind fun env he s1 x=>?_
 subst he
 refine ⟨lim.keeps x.toInCall.keep,codeAny_func ?_⟩
 obtain ⟨t,ht,hq⟩:=hbody A outer s H vs Q E (hr.deeper _) hsp
 have I:Inv (cxOf CX P w K mg base N qual scope f cdv A outer s H E) [] (start N vs) H s1:=inv_start S hr.hd e0 hl r x
 refine wpAny_mono (ht [] s1 (start N vs) H _ I hq) (fun fl s' hs=>?_) fun e s' hs=>hs
 have fin:∀ {σ':St} {H':Hp} {v:V} {u:Value},Inv (cxOf CX P w K mg base N qual scope f cdv A outer s H E) [] σ' H' s'→RelV v u→Q v H'→CE outer P w H s Q u s':=
  fun {σ' H' v u} J rv q=>⟨v,H',J.os,J.bare,J.base,J.hok,rv,q⟩
 cases fl with
 | ret u=>
   obtain ⟨v,σ',H',J,rv,q⟩:=hs
   exact fin J rv q
 | next=>
   obtain ⟨σ',H',J,q⟩:=hs
   exact fin (v:=V.non) (u:=Value.none) J rfl q
 | brk=>
   obtain ⟨_,_,_,q⟩:=hs
   exact False.elim q
 | cont=>
   obtain ⟨_,_,_,q⟩:=hs
   exact False.elim q
section
variable {X:Cx} {x:Str} {p pos:Pos} {e:Expr} {es:List Expr} {t:TA} {id T:String} {r:List V→Hp→VK→Prop}
def tCB (r:List V→Hp→VK→Prop) (t:TA):TE:=fun σ H Q=>t σ H fun vs H1=>r vs H1 Q
theorem pe_callB (hc:CallR X (.builtin id) r) (hg:Gl X x) (hm:X.mg x=none) (hv:bootBuiltins x=some (.builtin id)) (ha:PA X (e::es) t) (hn:x≠"__name__":=by decide) (hdb:(x == ("__debug__" : Str))=false:=by decide)
 (he:starEach (e::es) X.env=(false,eval e X.env)::starEach es X.env:=by rfl) (hpl:(backTo pos (starEach es X.env)).any (·.1)=false:=by rfl):PE X (.Call (.Name x p) (e::es) [] pos) (tCB r t):=by
 intro pins s σ H Q I h
 refine wpAny_Call_Name_kw (ld_blt I hg hm hv ?_ hn hdb)
 exact PyProof.Rows.callWith_builtin1 (thn (ha pos pins s σ H _ I h) fun us s1 ⟨vs,H1,I1,r1,q1⟩=>hc pins s1 σ H1 vs us Q I1 r1 q1) he hpl
theorem pe_callTy (hc:CallR X (.type T) r) (hg:Gl X x) (hm:X.mg x=none) (hv:bootBuiltins x=some (.type T)) (ha:PA X (e::es) t) (hn:x≠"__name__":=by decide) (hdb:(x == ("__debug__" : Str))=false:=by decide)
 (he:starEach (e::es) X.env=(false,eval e X.env)::starEach es X.env:=by rfl) (hpl:(backTo pos (starEach es X.env)).any (·.1)=false:=by rfl):PE X (.Call (.Name x p) (e::es) [] pos) (tCB r t):=by
 intro pins s σ H Q I h
 refine wpAny_Call_Name_kw (ld_blt I hg hm hv ?_ hn hdb)
 exact PyProof.Rows.callWith_type1 (thn (ha pos pins s σ H _ I h) fun us s1 ⟨vs,H1,I1,r1,q1⟩=>hc pins s1 σ H1 vs us Q I1 r1 q1) he hpl
end
end L2
namespace HT
open PySem PyProof.Rows
section
variable {prog:Program} {w:World} {A:Around} {E:Value→Shared→Prop} {s:Shared}
theorem cat_tup {t b:Addr} {vs ws:List Value} {Q:Value→Shared→Prop} (ht:IsTup s.heap t vs.toArray) (hb:IsTup s.heap b ws.toArray) (hv:vs≠[])
 (h1:ws=[]→Q (.ref t) s) (h2:ws≠[]→Q (.ref s.heap.objs.size) { s with heap:=s.heap.push { cls:=.type "tuple",data:=.seq (vs++ws).toArray } })
 (hsz:vs.length+ws.length≤sizeLine):wpAny (model prog w) A (binaryOp .Add (.ref t) (.ref b)) Q E s:=by
 obtain ⟨⟨cls,dd,data,sl⟩,ho,hc,n,hd⟩:=id ht
 obtain ⟨⟨cls2,dd2,data2,sl2⟩,ho2,hc2,n2,hd2⟩:=id hb
 simp only at hc hd hc2 hd2
 subst hc hd hc2 hd2
 have e:vs.toArray++ws.toArray=(vs++ws).toArray:=by simp
 by_cases hw:ws=[]
 · exact concat_meets ⟨_,ho,rfl⟩ ⟨_,ho2,rfl⟩ noFill_tuple_add seq_tuple_add PySem.F.slot_tuple_add PySem.F.entry_tuple_add (PySem.F.args_tuple_add_2 _ _)
    (tuple_addW1 t b vs.toArray ws.toArray n n2 dd dd2 sl sl2 (by simpa using hv) (by simp [hw])) ⟨ho,ho2,h1 hw⟩
 · refine concat_meets ⟨_,ho,rfl⟩ ⟨_,ho2,rfl⟩ noFill_tuple_add seq_tuple_add PySem.F.slot_tuple_add PySem.F.entry_tuple_add (PySem.F.args_tuple_add_2 _ _)
    (tuple_addW2 t b vs.toArray ws.toArray n n2 dd dd2 sl sl2 (by simpa using hv) (by simpa using hw) (by rw [List.size_toArray,List.size_toArray];exact hsz)) ⟨ho,ho2,?_⟩
   rw [e]
   exact h2 hw
def sIx (n d:Nat):Option Int→Nat
 | none=>d
 | some v=>if v<0 then (v+(n:Int)).toNat else min v.toNat n
theorem sIx_le (n d:Nat) (hd:d≤n) (o:Option Int):sIx n d o≤n:=by
 cases o with
 | none=>exact hd
 | some v=>
   show (if v<0 then (v+(n:Int)).toNat else min v.toNat n)≤n
   by_cases hv:v<0
   · rw [if_pos hv];omega
   · rw [if_neg hv];exact Nat.min_le_right _ _
theorem clip_eq (v:Int) (n d:Nat):(if v<0 then max (v+(n:Int)) 0 else min v (n:Int))=((sIx n d (some v):Nat):Int):=by
 show (if v<0 then max (v+(n:Int)) 0 else min v (n:Int))=(((if v<0 then (v+(n:Int)).toNat else min v.toNat n):Nat):Int)
 by_cases hv:v<0
 · simp only [if_pos hv];omega
 · simp only [if_neg hv];omega
theorem adjust_gen (lo hi:Option Int) (n:Nat):Builtin.Slice.sliceAdjust lo hi 1 (n:Int)=(((sIx n 0 lo:Nat):Int),((sIx n n hi:Nat):Int)):=by
 have h1:¬ ((1:Int)<0):=by omega
 unfold Builtin.Slice.sliceAdjust
 simp only [h1,if_false]
 refine Prod.ext ?_ ?_
 · cases lo with
   | none=>rfl
   | some v=>exact clip_eq v n 0
 · cases hi with
   | none=>rfl
   | some v=>exact clip_eq v n n
theorem places_gen (i j:Nat):Builtin.Slice.slicePlaces (i:Int) (j:Int) 1=j - i:=by
 unfold Builtin.Slice.slicePlaces
 have h1:(1:Int) > 0:=by omega
 simp only [h1,if_true,Int.ediv_one]
 split <;> omega
theorem slicePart_ {v:Value} {o:Option Int} {Q:Option Int→Shared→Prop} (p:IsPart v o) (h:Q o s):wpAny (model prog w) A (Builtin.Slice.slicePartIndex v) Q E s:=by
 cases p with
 | none=>exact slicePart_none h
 | int i t=>exact slicePart_int h
theorem sliceApplied_gen {sl:Addr} {vl vu:Value} {lo hi:Option Int} {n:Nat} {Q:Int×Int×Nat→Shared→Prop} (hs:s.heap.IsSliceOf sl vl vu .none) (pl:IsPart vl lo) (pu:IsPart vu hi)
 (h:Q (((sIx n 0 lo:Nat):Int),1,sIx n n hi - sIx n 0 lo) s):wpAny (model prog w) A (Builtin.Slice.sliceApplied (.ref sl) (pure (n:Int))) Q E s:=by
 obtain ⟨os,hos,hcs,hds⟩:=id hs
 unfold Builtin.Slice.sliceApplied Builtin.Slice.sliceFields
 refine wpAny_bind (wpAny_bind (wpAny_field hos hds (x:=vl) rfl (wpAny_bind (wpAny_field hos hds (x:=vu) rfl (wpAny_bind (wpAny_field hos hds (x:=.none) rfl (wpAny_pure ?_)))))))
 refine wpAny_bind (slicePart_none ?_)
 show wpAny _ _ (if ((1:Int) == 0)=true then _ else _) _ _ s
 rw [if_neg (by decide)]
 refine wpAny_bind (slicePart_ pl (wpAny_bind (slicePart_ pu (wpAny_bind (wpAny_pure ?_)))))
 show wpAny _ _ (match Builtin.Slice.sliceAdjust lo hi 1 (n:Int) with | (lo,hi)=>pure (lo,(1:Int),Builtin.Slice.slicePlaces lo hi 1)) _ _ s
 rw [adjust_gen lo hi n]
 show wpAny _ _ (pure (((sIx n 0 lo:Nat):Int),(1:Int),Builtin.Slice.slicePlaces ((sIx n 0 lo:Nat):Int) ((sIx n n hi:Nat):Int) 1)) _ _ s
 rw [places_gen]
 exact wpAny_pure h
theorem pick_gen (xs:Array Value) (i k:Nat):((List.range k).filterMap fun (m:Nat)=>xs[((i:Int)+(m:Int)*1).toNat]?).toArray=((xs.toList.drop i).take k).toArray:=by
 have e:(fun (m:Nat)=>xs[((i:Int)+(m:Int)*1).toNat]?)=fun m=>xs[i+m]?:=by
  funext m
  have:((i:Int)+(m:Int)*1).toNat=i+m:=by omega
  rw [this]
 rw [e]
 have:=pick_run xs i k
 rw [List.filterMap_map] at this
 have e2:((fun x=>xs[x]?) ∘ fun x=>i+x)=fun m=>xs[i+m]?:=rfl
 rw [e2] at this
 rw [this]
theorem getItem_tuple_cut {t sl:Addr} {items:Array Value} {vl vu:Value} {lo hi:Option Int} {Q:Value→Shared→Prop} (ht:IsTup s.heap t items) (hs:s.heap.IsSliceOf sl vl vu .none) (pl:IsPart vl lo) (pu:IsPart vu hi)
 (hw:¬ (sIx items.size 0 lo=0∧sIx items.size items.size hi=items.size))
 (h:Q (.ref s.heap.objs.size) { s with heap:=s.heap.push { cls:=.type "tuple",data:=.seq ((items.toList.drop (sIx items.size 0 lo)).take (sIx items.size items.size hi - sIx items.size 0 lo)).toArray } })
 (hsz:items.size≤sizeLine):wpAny (model prog w) A (getItem (.ref t) (.ref sl)) Q E s:=by
 have htake:sizeOk (.seq ((items.toList.drop (sIx items.size 0 lo)).take (sIx items.size items.size hi - sIx items.size 0 lo)).toArray):=by
  show ((items.toList.drop (sIx items.size 0 lo)).take (sIx items.size items.size hi - sIx items.size 0 lo)).toArray.size≤sizeLine
  rw [List.size_toArray,List.length_take,List.length_drop,Array.length_toList]
  omega
 have hj:sIx items.size items.size hi≤items.size:=sIx_le _ _ (Nat.le_refl _) hi
 obtain ⟨os,hos,hcs,hds⟩:=id hs
 have hTs:s.TypeIs (.ref sl) "slice":=⟨os,hos,hcs⟩
 unfold getItem
 try with_reducible refine wpAny_holding ?_
 first | refine wpAny_bind (wpAny_pure ?_) | skip
 refine wpAny_bind (wpAny_sequenceKey ht.typeIs (by decide) ?_)
 refine wpAny_bind (wpAny_callSpecial?_slot (name:=Str.ofString "__getitem__") ht.typeIs PyProof.Rows.slot_tuple_getitem
  (wpAny_call_entry PyProof.Rows.slot_tuple_getitem ht.typeIs entry_tuple_getitem ?_ (args_tuple_getitem _ _)))
 show wpAny _ _ (Builtin.Tuple.tupleItemsOf (.ref t) >>= _) _ _ s
 refine wpAny_bind (tupleItemsOf_ ht ?_)
 refine wpAny_bind (wpAny_typeOf hTs ?_)
 rw [if_pos (by decide)]
 refine wpAny_bind (sliceApplied_gen hs pl pu ?_)
 have hno:¬ ((((sIx items.size 0 lo:Nat):Int) == 0&&(1:Int) == 1&&(sIx items.size items.size hi - sIx items.size 0 lo) == items.size)=true):=by
  intro q
  rw [Bool.and_eq_true,Bool.and_eq_true] at q
  have q1:((sIx items.size 0 lo:Nat):Int)=0:=eq_of_beq q.1.1
  have q2:sIx items.size items.size hi - sIx items.size 0 lo=items.size:=eq_of_beq q.2
  exact hw ⟨by omega,by omega⟩
 show wpAny _ _ (if (((sIx items.size 0 lo:Nat):Int) == 0&&(1:Int) == 1&&(sIx items.size items.size hi - sIx items.size 0 lo) == items.size)=true then _ else _) _ _ s
 rw [if_neg hno,pick_gen]
 first
  | exact wpAny_bind (m:=Builtin.Tuple.tupleExact _) (wpAny_newObj_type (wpAny_pure ⟨_,rfl,wpAny_pure h⟩) htake)
  | exact wpAny_bind (m:=Builtin.Tuple.tupleExact _) (wpAny_newObj_type (wpAny_bind (wpAny_pure (wpAny_pure ⟨_,rfl,wpAny_pure h⟩))) htake)
  | exact wpAny_bind (wpAny_bind (m:=Builtin.Tuple.tupleExact _) (wpAny_newObj_type (wpAny_pure (wpAny_pure ⟨_,rfl,wpAny_pure h⟩)) htake))
  | exact wpAny_bind (wpAny_bind (m:=Builtin.Tuple.tupleExact _) (wpAny_newObj_type (wpAny_pure ⟨_,rfl,wpAny_pure h⟩) htake))
end
end HT
namespace L2
open PySem PySem.Spec PyProof.Rows
abbrev TO:=St→Hp→(Option Int→Hp→Prop)→Prop
def PO (X:Cx) (e:Option Expr) (t:TO):Prop:=
 ∀ (pins:List (Addr×Obj)) (s:Shared) (σ:St) (H:Hp) (Q:Option Int→Hp→Prop),Inv X pins σ H s→t σ H Q →
   wpAny (model X.prog X.w) X.A (evalPart e X.env) (fun u s'=>∃ o H',Inv X pins σ H' s'∧IsPart u o∧Q o H') X.xe s
@[irreducible] def ZO (X:Cx) (e:Option Expr) (t:TO):Prop:=PO X e t
def tNoPart:TO:=fun _ H Q=>Q none H
def tPart (t:TE):TO:=fun σ H Q=>t σ H fun x H1=>∃ i,x=.int i∧Q (some i) H1
theorem intsAre_of {ns:List Int}:∀ {us:List Value},Vals (ns.map V.int) us→IntsAre us ns:=by
 induction ns with
 | nil=>intro us r;rw [List.map_nil] at r;cases r;exact .nil
 | cons n ns ih=>
   intro us r
   rw [List.map_cons] at r
   cases r with
   | cons r1 r2=>
     obtain ⟨t,e⟩:=r1
     subst e
     exact .cons n t (ih r2)
section
variable {X:Cx} {e:Expr} {te:TE} {lo hi:Option Expr} {tl th:TO} {pos p2:Pos}
theorem po_none:PO X none tNoPart:=by
 intro pins s σ H Q I h
 rw [evalPart_none]
 exact wpAny_pure ⟨none,H,I,.none,h⟩
theorem zo_none:ZO X none tNoPart:=by with_unfolding_all exact po_none
theorem po_some (h:PE X e te):PO X (some e) (tPart te):=by
 intro pins s σ H Q I hw
 rw [evalPart_some]
 refine thn (h pins s σ H _ I hw) fun u s1 ⟨x,H1,I1,r1,q1⟩=>?_
 obtain ⟨i,rfl,q⟩:=q1
 obtain ⟨t,rfl⟩:=r1
 exact ⟨some i,H1,I1,.int i t,q⟩
theorem zo_some (h:ZE X e te):ZO X (some e) (tPart te):=by with_unfolding_all exact po_some h
def SlR (X:Cx) (r:V→Option Int→Option Int→Hp→VK→Prop):Prop:=
 ∀ (pins:List (Addr×Obj)) (s:Shared) (σ:St) (H:Hp) (x:V) (v vl vu:Value) (lo hi:Option Int) (sl:Addr) (Q:VK),Inv X pins σ H s→RelV x v→s.heap.IsSliceOf sl vl vu .none→IsPart vl lo→IsPart vu hi→r x lo hi H Q →
   ∃ T id,typeLookup (.type T) "__getitem__" = pure (some (.builtin id))∧s.TypeIs v T∧wpAny (model X.prog X.w) X.A (getItem v (.ref sl)) (EP X pins σ Q) X.xe s
def tSl (r:V→Option Int→Option Int→Hp→VK→Prop) (te:TE) (tl th:TO):TE:=fun σ H Q=>te σ H fun x H1=>tl σ H1 fun l H2=>th σ H2 fun u H3=>r x l u H3 Q
theorem pe_slice {r:V→Option Int→Option Int→Hp→VK→Prop} (hr:SlR X r) (he:PE X e te) (hl:PO X lo tl) (hu:PO X hi th):PE X (.Subscript e (.Slice lo hi none p2) pos) (tSl r te tl th):=by
 intro pins s σ H Q I h
 refine Subscript_ (thn (he pins s σ H _ I h) fun v s1 ⟨x,H1,I1,r1,q1⟩=>?_)
 refine wpAny_Slice (thn (hl pins s1 σ H1 _ I1 q1) fun vl s2 ⟨l,H2,I2,pl,q2⟩=>thn (hu pins s2 σ H2 _ I2 q2) fun vu s3 ⟨u,H3,I3,pu,q3⟩=>?_)
 rw [evalPart_none]
 refine wpAny_pure ?_
 have I4:Inv X pins σ H3 { s3 with heap:=s3.heap.push { cls:=.type "slice",data:=.fields #[vl,vu,.none] } }:=I3.kept (t':=s3.toks) fun b ob q=>Heap.get?_push_of_some _ q
 obtain ⟨T,id,hT,ht,hg⟩:=hr pins { s3 with heap:=s3.heap.push { cls:=.type "slice",data:=.fields #[vl,vu,.none] } } σ H3 x v vl vu l u s3.heap.objs.size Q I4 r1 (Heap.IsSliceOf.new ..) pl pu q3
 show wpAny (model X.prog X.w) X.A (subscriptTail e (.Slice lo hi none p2) v (.ref s3.heap.objs.size)) (EP X pins σ Q) X.xe { s3 with heap:=s3.heap.push { cls:=.type "slice",data:=.fields #[vl,vu,.none] } }
 exact tail_any (ops:=[.ref s3.heap.objs.size,v]) ht hT hg (by with_unfolding_all rfl)
theorem ze_slice {r:V→Option Int→Option Int→Hp→VK→Prop} (hr:SlR X r) (he:ZE X e te) (hl:ZO X lo tl) (hu:ZO X hi th):ZE X (.Subscript e (.Slice lo hi none p2) pos) (tSl r te tl th):=by with_unfolding_all exact pe_slice hr he hl hu
def cutV (xs:List V) (lo hi:Option Int):List V:=(xs.drop (HT.sIx xs.length 0 lo)).take (HT.sIx xs.length xs.length hi - HT.sIx xs.length 0 lo)
theorem cutV_length (xs:List V) (lo hi:Option Int):(cutV xs lo hi).length≤xs.length:=by
 unfold cutV
 rw [List.length_take,List.length_drop]
 omega
def rSlT (K:PySem.W.Frag):V→Option Int→Option Int→Hp→VK→Prop:=fun x lo hi H Q=>∃ a xs,x=.ref a∧SqT K H a xs ∧
 ¬ (HT.sIx xs.length 0 lo=0∧HT.sIx xs.length xs.length hi=xs.length)∧∀ p,H p=none→Q (.ref p) (upd H p (.tup (cutV xs lo hi)))
theorem sl_tup:SlR X (rSlT X.K):=by
 intro pins s σ H x v vl vu lo hi sl Q I rx hs pl pu h
 obtain ⟨a,xs,rfl,hx,hw,q⟩:=h
 cases rx
 obtain ⟨its,r,ht,hz⟩:=I.tuple hx
 have hlen:its.toArray.size=xs.length:=by rw [List.size_toArray];exact r.length.symm
 refine ⟨"tuple",_,PyProof.Rows.slot_tuple_getitem.lookup,ht.typeIs,?_⟩
 refine HT.getItem_tuple_cut ht hs pl pu (by rw [hlen];exact hw) ?_ (by rw [hlen];exact hz)
 rw [hlen]
 refine ⟨.ref s.heap.objs.size,_,I.laid (t':=s.toks) (o:=.tup (cutV xs lo hi)) (fun b ob q=>Heap.get?_push_of_some _ q) (Nat.le_refl _) ?_,rfl,q _ (I.hok.fresh (Nat.le_refl _))⟩
 exact ⟨Nat.le_trans (cutV_length xs lo hi) hz,_,(r.drop (HT.sIx xs.length 0 lo)).take (HT.sIx xs.length xs.length hi - HT.sIx xs.length 0 lo),TupD.new _ _⟩
def rCatT (K:PySem.W.Frag):R2:=fun x y H Q=>∃ a b xs ys,x=.ref a∧y=.ref b∧SqT K H a xs∧SqT K H b ys∧xs≠[]∧xs.length+ys.length≤sizeLine ∧
 (ys=[]→Q (.ref a) H)∧(ys≠[]→∀ p,H p=none→Q (.ref p) (upd H p (.tup (xs++ys))))
theorem Vals.nil_iff {xs:List V} {us:List Value} (r:Vals xs us):us=[]↔xs=[]:=by
 cases r with
 | nil=>simp
 | cons _ _=>simp
theorem op_catT:OpR X (binaryOp .Add) (rCatT X.K):=by
 intro pins s σ H x y v u Q I rx ry h
 obtain ⟨a,b,xs,ys,rfl,rfl,ha,hb,hx,hz,q1,q2⟩:=h
 cases rx
 cases ry
 obtain ⟨its,r1,p1,_⟩:=I.tuple ha
 obtain ⟨its2,r2,p2,_⟩:=I.tuple hb
 refine HT.cat_tup p1 p2 (fun z=>hx (r1.nil_iff.mp z)) (fun z=>⟨.ref a,H,I,rfl,q1 (r2.nil_iff.mp z)⟩) (fun z=>?_) (by rw [← r1.length,← r2.length];exact hz)
 refine ⟨.ref s.heap.objs.size,_,I.laid (t':=s.toks) (o:=.tup (xs++ys)) (fun b ob q=>Heap.get?_push_of_some _ q) (Nat.le_refl _) ?_,rfl,q2 (fun w=>z (r2.nil_iff.mpr w)) _ (I.hok.fresh (Nat.le_refl _))⟩
 exact ⟨by rw [List.length_append];exact hz,_,r1.append r2,TupD.new _ _⟩
end
def ixN (n:Nat) (i:Int):Option Nat:=if 0≤i then (if i<n then some i.toNat else none) else if -(n:Int)≤i then some (i+n).toNat else none
def atI {α:Type} (xs:List α) (i:Int):Option α:=(ixN xs.length i).bind fun j=>xs[j]?
theorem ixN_seq {n:Nat} {i:Int} {j:Nat} (h:ixN n i=some j):seqIndex? i n=some j∧j<n∧-(n:Int)≤i∧i<n:=by
 unfold ixN at h
 by_cases h0:0≤i
 · rw [if_pos h0] at h
   by_cases h1:i<n
   · rw [if_pos h1] at h
     have e:i.toNat=j:=Option.some.inj h
     exact ⟨by rw [seqIndex_of h0 h1,e],by omega,by omega,h1⟩
   · rw [if_neg h1] at h;cases h
 · rw [if_neg h0] at h
   by_cases h1:-(n:Int)≤i
   · rw [if_pos h1] at h
     have e:(i+n).toNat=j:=Option.some.inj h
     exact ⟨by rw [seqIndex_neg (by omega) h1,e],by omega,h1,by omega⟩
   · rw [if_neg h1] at h;cases h
theorem atI_get {α:Type} {xs:List α} {i:Int} {v:α} (h:atI xs i=some v):∃ j,seqIndex? i xs.length=some j∧xs[j]? = some v∧j<xs.length∧-(xs.length:Int)≤i∧i<xs.length:=by
 unfold atI at h
 cases e:ixN xs.length i with
 | none=>rw [e] at h;cases h
 | some j=>
   rw [e] at h
   obtain ⟨h1,h2,h3,h4⟩:=ixN_seq e
   exact ⟨j,h1,h,h2,h3,h4⟩
theorem atI_nat {α:Type} {xs:List α} {j:Nat} {v:α} (h:xs[j]? = some v):atI xs (j:Int)=some v:=by
 have hj:j<xs.length:=(List.getElem?_eq_some_iff.mp h).1
 have e:ixN xs.length (j:Int)=some j:=by
  unfold ixN
  rw [if_pos (by omega),if_pos (by omega)];simp
 unfold atI;rw [e];exact h
def PlainIx (b:Expr):Prop:=∀ o i,subscripted b false o i=operate [o,i] (getItem o i)
def IxR (X:Cx) (r:R2):Prop:=
 ∀ (value slice:Expr) (pins:List (Addr×Obj)) (s:Shared) (σ:St) (H:Hp) (x y:V) (v u:Value) (Q:VK),Inv X pins σ H s→RelV x v→RelV y u→r x y H Q →
   subscripted slice false v u=operate [v,u] (getItem v u)→wpAny (model X.prog X.w) X.A (subscriptTail value slice v u) (EP X pins σ Q) X.xe s
def MtR (X:Cx) (id:String) (r:V→List V→Hp→VK→Prop):Prop:=
 ∀ (pins:List (Addr×Obj)) (s:Shared) (σ:St) (H:Hp) (x:V) (xs:List V) (v:Value) (us:List Value) (Q:VK),Inv X pins σ H s→RelV x v→Vals xs us→r x xs H Q →
   wpAny (model X.prog X.w) X.A (call (.builtin id) (v::us)) (EP X pins σ Q) X.xe s
section
variable {X:Cx} {a b:Expr} {ta tb:TE} {pos:Pos}
theorem pe_ix {r:R2} (hr:IxR X r) (ha:PE X a ta) (hb:PE X b tb) (hs:PlainIx b):PE X (.Subscript a b pos) (tOp r ta tb):=by
 intro pins s σ H Q I h
 exact Subscript_ (binT ha hb I h fun v u s2 x y H2 I2 rx ry q=>hr a b pins s2 σ H2 x y v u Q I2 rx ry q (hs _ _))
theorem ze_ix {r:R2} (hr:IxR X r) (ha:ZE X a ta) (hb:ZE X b tb) (hs:PlainIx b):ZE X (.Subscript a b pos) (tOp r ta tb):=by with_unfolding_all exact pe_ix hr ha hb hs
def rIxL (K:PySem.W.Frag):R2:=fun x y H Q=>∃ p xs i v,x=.ref p∧y=.int i∧SqL K H p xs∧atI xs i=some v∧Q v H
def rIxT (K:PySem.W.Frag):R2:=fun x y H Q=>∃ p xs i v,x=.ref p∧y=.int i∧SqT K H p xs∧atI xs i=some v∧Q v H
def rIxS:R2:=fun x y H Q=>∃ z i c,x=.str z∧y=.int i∧z.length≤sizeLine∧atI z.cps.toList i=some c∧Q (.str ⟨#[c]⟩) H
theorem ix_list:IxR X (rIxL X.K):=by
 intro value slice pins s σ H x y v u Q I rx ry h hs
 obtain ⟨p,xs,i,z,rfl,rfl,hq,he,q⟩:=h
 cases rx
 obtain ⟨t,rfl⟩:=ry
 obtain ⟨its,r,pl,hz⟩:=I.list hq
 obtain ⟨j,h1,h2,h3,h4,h5⟩:=atI_get he
 obtain ⟨w,ew,rw'⟩:=r.get h2
 have hl:=r.length
 have hn:=line63
 have fin:EP X pins σ Q w s:=⟨z,H,I,rw',q⟩
 by_cases h0:0≤i
 · have hj:i.toNat=j:=by
    rw [seqIndex_of h0 h5] at h1
    exact Option.some.inj h1
   exact item_listR pl.isList h0 (by omega) (by rw [hj];simpa using ew) fin hs
 · have hj:(i+(its.toArray.size:Int)).toNat=j:=by
    rw [seqIndex_neg (by omega) h4] at h1
    rw [List.size_toArray,← hl]
    exact Option.some.inj h1
   exact subscriptTail_builtinR (x:=w) pl.isList.typeIs slot_list_getitem.lookup
    (wpAny_getItem_list_neg (Q:=fun r s'=>r=w∧EP X pins σ Q r s') pl.isList (by omega) (by rw [List.size_toArray] <;> omega) (by omega) (by rw [hj];simpa using ew) ⟨rfl,fin⟩) hs
theorem ix_tup:IxR X (rIxT X.K):=by
 intro value slice pins s σ H x y v u Q I rx ry h hs
 obtain ⟨p,xs,i,z,rfl,rfl,hq,he,q⟩:=h
 cases rx
 obtain ⟨t,rfl⟩:=ry
 obtain ⟨its,r,pl,hz⟩:=I.tuple hq
 obtain ⟨j,h1,h2,h3,h4,h5⟩:=atI_get he
 obtain ⟨w,ew,rw'⟩:=r.get h2
 have hl:=r.length
 have hn:=line63
 have fin:EP X pins σ Q w s:=⟨z,H,I,rw',q⟩
 exact subscriptTail_builtinR (x:=w) pl.typeIs slot_tuple_getitem.lookup
  (getItem_tuple (j:=j) (Q:=fun r s'=>r=w∧EP X pins σ Q r s') pl (by omega) (by omega) (by rw [List.size_toArray,← hl];exact h1) (by simpa using ew) ⟨rfl,fin⟩) hs
theorem ix_str:IxR X rIxS:=by
 intro value slice pins s σ H x y v u Q I rx ry h hs
 obtain ⟨z,i,c,rfl,rfl,hz,he,q⟩:=h
 obtain ⟨t,rfl⟩:=rx
 obtain ⟨t',rfl⟩:=ry
 obtain ⟨j,h1,h2,h3,h4,h5⟩:=atI_get he
 have hl:z.cps.toList.length=z.length:=by simp [Str.length]
 rw [hl] at h1 h4 h5
 have hn:=line63
 exact tail_any (typeIs_str s z t) slot_str_getitem.lookup (getItem_str (c:=c) (by
  have e1:decide (i < -(2 ^ 63:Int))=false:=decide_eq_false (by omega)
  have e2:decide (i≥2 ^ 63)=false:=decide_eq_false (by omega)
  rw [e1,e2,Bool.or_false]) (by rw [h1];simpa using h2) ⟨.str ⟨#[c]⟩,H,I.tok _,⟨_,rfl⟩,q⟩) hs
theorem mapSeq_set (its:List Value) (n j:Nat) (u:Value):Obj.mapSeq (·.setIfInBounds j u) { cls:=.type "list",data:=.seq its.toArray n }={ cls:=.type "list",data:=.seq (its.set j u).toArray n }:=by
 simp [Obj.mapSeq]
theorem Inv.lst {pins:List (Addr×Obj)} {σ:St} {H:Hp} {s:Shared} {p:Addr} {xs:List V} (I:Inv X pins σ H s) (h:H p=some (.lst xs)) :
 ∃ (its:List Value) (n:Nat),Vals xs its∧s.heap.get? p=some { cls:=.type "list",data:=.seq its.toArray n }∧xs.length≤sizeLine:=by
 obtain ⟨z,its,n,r,e⟩:=I.hok p _ h
 exact ⟨its,n,r,e,z⟩
theorem Inv.lstUpd {pins:List (Addr×Obj)} {σ:St} {H:Hp} {s:Shared} {p:Addr} {xs ys:List V} {its its':List Value} {n n':Nat} {f:Obj→Obj} (I:Inv X pins σ H s) (h:H p=some (.lst xs))
 (ho:s.heap.get? p=some { cls:=.type "list",data:=.seq its.toArray n }) (hf:f { cls:=.type "list",data:=.seq its.toArray n }={ cls:=.type "list",data:=.seq its'.toArray n' }) (r:Vals ys its') (hz:ys.length≤sizeLine) (t:Nat) :
 Inv X pins σ (upd H p (.lst ys)) { s with heap:=s.heap.update p f,toks:=t }:=by
 have e:(s.heap.update p f).get? p=some { cls:=.type "list",data:=.seq its'.toArray n' }:=by
  rw [Heap.get?_update_self f ho (by rw [hf] <;> rfl),hf]
 refine I.write (x:=p) (e:=p) (by rw [h];trivial) (.inl rfl) (fun b u hb q=>(Heap.get?_update_other _ _ (Ne.symm hb)).trans q) ⟨_,e⟩ ?_
 exact ⟨hz,its',n',r,e⟩
def rSetL:V→V→V→Hp→(Hp→Prop)→Prop:=fun o i v H Q=>∃ p xs k j,o=.ref p∧i=.int k∧H p=some (.lst xs)∧ixN xs.length k=some j∧Q (upd H p (.lst (xs.set j v)))
theorem set_list:PSet X rSetL:=by
 intro pins s σ H o i v ov iv u Q I ro ri rv h
 obtain ⟨p,xs,k,j,rfl,rfl,hp,hj,q⟩:=h
 cases ro
 obtain ⟨t,rfl⟩:=ri
 obtain ⟨its,n,r,ho,hz⟩:=I.lst hp
 obtain ⟨h1,h2,h3,h4⟩:=ixN_seq hj
 have hl:=r.length
 have hn:=line63
 have I':Inv X pins σ (upd H p (.lst (xs.set j v))) { s with heap:=s.heap.update p (Obj.mapSeq (·.setIfInBounds j u)) }:=
  I.lstUpd hp ho (mapSeq_set its n j u) (r.set rv j) (by rw [List.length_set];exact hz) s.toks
 by_cases h0:0≤k
 · have hk:k.toNat=j:=by
    rw [seqIndex_of h0 h4] at h1
    exact Option.some.inj h1
   exact PySem.W.ki_setAt ho h0 (by omega) (by rw [List.size_toArray,← hl];exact h4) (by rw [hk];exact ⟨_,I',q⟩)
 · have hk:(k+(its.toArray.size:Int)).toNat=j:=by
    rw [seqIndex_neg (by omega) h3] at h1
    rw [List.size_toArray,← hl]
    exact Option.some.inj h1
   exact PySem.W.ki_setBack ho (by omega) (by rw [List.size_toArray,← hl];exact h3) (by omega) (by rw [hk];exact ⟨_,I',q⟩)
theorem slice_bounds (lo hi:Option Int) (n:Nat):(sliceBounds lo hi none n).1=((HT.sIx n 0 lo:Nat):Int)∧(sliceBounds lo hi none n).2.1=((HT.sIx n n hi:Nat):Int)∧(sliceBounds lo hi none n).2.2=1:=by
 refine ⟨?_,?_,rfl⟩
 · cases lo with
   | none=>simp [sliceBounds,HT.sIx]
   | some i=>
     simp only [sliceBounds,HT.sIx,Option.getD_none,show (1:Int) > 0 by decide,if_true]
     by_cases h:i<0
     · simp only [h,if_true] <;> omega
     · simp only [h,if_false] <;> omega
 · cases hi with
   | none=>simp [sliceBounds,HT.sIx]
   | some i=>
     simp only [sliceBounds,HT.sIx,Option.getD_none,show (1:Int) > 0 by decide,if_true]
     by_cases h:i<0
     · simp only [h,if_true] <;> omega
     · simp only [h,if_false] <;> omega
theorem slicePick_cut (its:List Value) (lo hi:Option Int):slicePick its.toArray lo hi none=((its.drop (HT.sIx its.length 0 lo)).take (HT.sIx its.length its.length hi - HT.sIx its.length 0 lo)).toArray:=by
 obtain ⟨h1,h2,h3⟩:=slice_bounds lo hi its.toArray.size
 unfold slicePick
 rw [h1,h2,h3]
 simp only [sliceRange_one,pick_run,List.size_toArray] <;> rfl
def rSlL (K:PySem.W.Frag):V→Option Int→Option Int→Hp→VK→Prop:=fun x lo hi H Q=>∃ a xs,x=.ref a∧SqL K H a xs∧∀ p,H p=none→Q (.ref p) (upd H p (.lst (cutV xs lo hi)))
theorem sl_list:SlR X (rSlL X.K):=by
 intro pins s σ H x v vl vu lo hi sl Q I rx hs pl pu h
 obtain ⟨a,xs,rfl,hx,q⟩:=h
 cases rx
 obtain ⟨its,r,ht,hz⟩:=I.list hx
 have hlen:=r.length
 refine ⟨"list",_,slot_list_getitem.lookup,ht.isList.typeIs,?_⟩
 refine wpAny_getItem_list_slice ht.isList hs pl pu .none (by simp) ?_ (by rw [List.size_toArray] <;> omega)
 rw [slicePick_cut,← hlen]
 refine ⟨.ref s.heap.objs.size,_,I.laid (t':=s.toks) (o:=.lst (cutV xs lo hi)) (fun b ob q=>Heap.get?_push_of_some _ q) (Nat.le_refl _) ?_,rfl,q _ (I.hok.fresh (Nat.le_refl _))⟩
 exact ⟨Nat.le_trans (cutV_length xs lo hi) hz,_,0,(r.drop (HT.sIx xs.length 0 lo)).take (HT.sIx xs.length xs.length hi - HT.sIx xs.length 0 lo),Heap.get?_push_size _ rfl⟩
def flatV:V→Bool
 | .non=>true
 | .bl _=>true
 | .int _=>true
 | .str _=>true
 | _=>false
def eqV:V→V→Bool
 | .non,.non=>true
 | .bl a,.bl b=>a == b
 | .bl a,.int b=>(if a then 1 else 0) == b
 | .int a,.bl b=>a == (if b then 1 else 0)
 | .int a,.int b=>a == b
 | .str a,.str b=>a == b
 | _,_=>false
theorem eqAt_V {A:Around} {s:Shared} {y x:V} {u v:Value} (ry:RelV y u) (rx:RelV x v) (fy:flatV y=true) (fx:flatV x=true):SeqAt.EqAt A s u v (eqV y x):=by
 cases y with
 | non=>
   cases ry
   cases x with
   | non=>cases rx;exact SeqAt.EqAt.same _
   | bl b=>cases rx;exact SeqAt.EqAt.none_bool b
   | int b=>obtain ⟨t,rfl⟩:=rx;exact SeqAt.EqAt.none_int b t
   | str b=>obtain ⟨t,rfl⟩:=rx;exact SeqAt.EqAt.none_str b t
   | _=>exact absurd (show false=true from fx) Bool.false_ne_true
 | bl a=>
   cases ry
   cases x with
   | non=>cases rx;exact SeqAt.EqAt.bool_none a
   | bl b=>cases rx;exact SeqAt.EqAt.bool_bool a b
   | int b=>obtain ⟨t,rfl⟩:=rx;exact SeqAt.EqAt.bool_int a b t
   | str b=>obtain ⟨t,rfl⟩:=rx;exact SeqAt.EqAt.bool_str a b t
   | _=>exact absurd (show false=true from fx) Bool.false_ne_true
 | int a=>
   obtain ⟨t',rfl⟩:=ry
   cases x with
   | non=>cases rx;exact SeqAt.EqAt.int_none a t'
   | bl b=>cases rx;exact SeqAt.EqAt.int_bool a t' b
   | int b=>obtain ⟨t,rfl⟩:=rx;exact SeqAt.EqAt.int_int a t' b t
   | str b=>obtain ⟨t,rfl⟩:=rx;exact SeqAt.EqAt.int_str a t' b t
   | _=>exact absurd (show false=true from fx) Bool.false_ne_true
 | str a=>
   obtain ⟨t',rfl⟩:=ry
   cases x with
   | non=>cases rx;exact SeqAt.EqAt.str_none a t'
   | bl b=>cases rx;exact SeqAt.EqAt.str_bool a t' b
   | int b=>obtain ⟨t,rfl⟩:=rx;exact SeqAt.EqAt.str_int a t' b t
   | str b=>obtain ⟨t,rfl⟩:=rx;exact SeqAt.EqAt.str_str a t' b t
   | _=>exact absurd (show false=true from fx) Bool.false_ne_true
 | _=>exact absurd (show false=true from fy) Bool.false_ne_true
def eqU (x:V) (u:Value):Bool:=match u with
 | .none=>eqV .non x
 | .bool b=>eqV (.bl b) x
 | .int i _=>eqV (.int i) x
 | .str z _=>eqV (.str z) x
 | _=>false
theorem eqU_of {x y:V} {u:Value} (r:RelV y u) (f:flatV y=true):eqU x u=eqV y x:=by
 cases y with
 | non=>cases r;rfl
 | bl b=>cases r;rfl
 | int i=>obtain ⟨t,rfl⟩:=r;rfl
 | str z=>obtain ⟨t,rfl⟩:=r;rfl
 | _=>exact absurd (show false=true from f) Bool.false_ne_true
theorem any_eqU {x:V}:∀ {xs:List V} {us:List Value},Vals xs us→xs.all flatV=true→us.any (eqU x)=xs.any fun y=>eqV y x
 | _,_,.nil,_=>rfl
 | y::xs,u::us,.cons r t,f=>by
   rw [List.all_cons,Bool.and_eq_true] at f
   rw [List.any_cons,List.any_cons,eqU_of r f.1,any_eqU t f.2]
theorem mem_eqAt {A:Around} {s:Shared} {x:V} {v:Value} (rx:RelV x v) (fx:flatV x=true):∀ {xs:List V} {us:List Value},Vals xs us→xs.all flatV=true→∀ u∈us,SeqAt.EqAt A s u v (eqU x u)
 | _,_,.nil,_=>fun u hu=>by cases hu
 | y::xs,u::us,.cons r t,f=>fun u' hu=>by
   rw [List.all_cons,Bool.and_eq_true] at f
   rcases List.mem_cons.mp hu with rfl | hu
   · rw [eqU_of r f.1];exact eqAt_V r rx f.1 fx
   · exact mem_eqAt rx fx t f.2 u' hu
def inV (x:V) (xs:List V):Bool:=xs.any fun y=>eqV y x
def rIn (K:PySem.W.Frag) (neg:Bool):R2:=fun x y H Q=>∃ p xs,y=.ref p∧(SqL K H p xs∨SqT K H p xs)∧flatV x=true∧xs.all flatV=true∧Q (.bl (if neg then !inV x xs else inV x xs)) H
theorem op_in_seq:OpR X (compareOp .In) (rIn X.K false):=by
 intro pins s σ H x y v u Q I rx ry h
 obtain ⟨p,xs,rfl,hq,fx,fs,q⟩:=h
 cases ry
 rcases hq with hq | hq
 · obtain ⟨its,r,pl,hz⟩:=I.list hq
   refine SeqAt.in_listAt (eqU x) pl.isList (fun w hw=>mem_eqAt rx fx r fs w (by simpa using hw)) ⟨.bl _,H,I,rfl,?_⟩
   rw [show its.toArray.any (eqU x)=its.any (eqU x) by simp,any_eqU r fs]
   exact q
 · obtain ⟨its,r,pl,hz⟩:=I.tuple hq
   refine SeqAt.in_tupleAt (eqU x) pl (fun w hw=>mem_eqAt rx fx r fs w (by simpa using hw)) ⟨.bl _,H,I,rfl,?_⟩
   rw [show its.toArray.any (eqU x)=its.any (eqU x) by simp,any_eqU r fs]
   exact q
theorem op_notIn_seq:OpR X (compareOp .NotIn) (rIn X.K true):=by
 intro pins s σ H x y v u Q I rx ry h
 obtain ⟨p,xs,rfl,hq,fx,fs,q⟩:=h
 cases ry
 rcases hq with hq | hq
 · obtain ⟨its,r,pl,hz⟩:=I.list hq
   refine SeqAt.notIn_listAt (eqU x) pl.isList (fun w hw=>mem_eqAt rx fx r fs w (by simpa using hw)) ⟨.bl _,H,I,rfl,?_⟩
   rw [show its.toArray.any (eqU x)=its.any (eqU x) by simp,any_eqU r fs]
   exact q
 · obtain ⟨its,r,pl,hz⟩:=I.tuple hq
   refine SeqAt.notIn_tupleAt (eqU x) pl (fun w hw=>mem_eqAt rx fx r fs w (by simpa using hw)) ⟨.bl _,H,I,rfl,?_⟩
   rw [show its.toArray.any (eqU x)=its.any (eqU x) by simp,any_eqU r fs]
   exact q
theorem op_notIn_str:OpR X (compareOp .NotIn) (fun x y H Q=>∃ i j,x=.str i∧y=.str j∧Q (.bl (!(!(Builtin.Str.occurrences j i 0 j.length 1).isEmpty))) H):=by
 intro pins s σ H x y v u Q I rx ry h
 obtain ⟨i,j,rfl,rfl,q⟩:=h
 obtain ⟨t,rfl⟩:=rx
 obtain ⟨t',rfl⟩:=ry
 exact notIn_str ⟨.bl _,H,I,rfl,q⟩
theorem call_len_seq:CallR X (.builtin "len") (fun xs H Q=>∃ p ys,xs=[.ref p]∧(SqL X.K H p ys∨SqT X.K H p ys)∧Q (.int ys.length) H):=by
 intro pins s σ H xs us Q I r h
 obtain ⟨p,ys,rfl,hq,q⟩:=h
 obtain ⟨u,rfl,rx⟩:=vals1 r
 cases rx
 have hn:=line63
 rcases hq with hq | hq
 · obtain ⟨its,r',pl,hz⟩:=I.list hq
   have hlen:=r'.length
   exact Calls.call_len_list pl.isList (by simp only [List.size_toArray] <;> omega) ⟨.int ys.length,H,I.tok _,⟨s.toks+1,by rw [List.size_toArray,hlen]⟩,q⟩
 · obtain ⟨its,r',pl,hz⟩:=I.tuple hq
   have hlen:=r'.length
   exact len_tuple pl (by simp only [List.size_toArray] <;> omega) ⟨.int ys.length,H,I.tok _,⟨s.toks+1,by rw [List.size_toArray,hlen]⟩,q⟩
theorem call_len_str:CallR X (.builtin "len") (fun xs H Q=>∃ z,xs=[.str z]∧z.length≤sizeLine∧Q (.int z.length) H):=by
 intro pins s σ H xs us Q I r h
 obtain ⟨z,rfl,hz,q⟩:=h
 obtain ⟨u,rfl,t,rfl⟩:=vals1 r
 have hn:=line63
 exact len_str (by omega) ⟨.int z.length,H,I.tok _,⟨_,rfl⟩,q⟩
theorem call_tuple_of:CallR X (.type "tuple") (fun xs H Q=>∃ p ys,xs=[.ref p]∧((SqL X.K H p ys∧∀ l,H l=none→Q (.ref l) (upd H l (.tup ys)))∨(SqT X.K H p ys∧Q (.ref p) H))):=by
 intro pins s σ H xs us Q I r h
 obtain ⟨p,ys,rfl,h⟩:=h
 obtain ⟨u,rfl,rx⟩:=vals1 r
 cases rx
 rcases h with ⟨hq,q⟩ | ⟨hq,q⟩
 · obtain ⟨its,r',pl,hz⟩:=I.list hq
   have hlen:=r'.length
   refine call_tuple_list pl.isList (fun h' kp=>?_) (by simp only [List.size_toArray] <;> omega)
   have I1:Inv X pins σ H { s with heap:=h' }:=I.kept (t':=s.toks) kp
   have I2:Inv X pins σ (upd H h'.objs.size (.tup ys)) { s with heap:=h'.push { cls:=.type "tuple",data:=.seq its.toArray } }:=
    I1.laid (t':=s.toks) (fun b o e=>Heap.get?_push_of_some _ e) (Nat.le_refl _) (show ObjOk X.prog X.w _ _ _ (.tup ys) from ⟨hz,its,r',TupD.new _ _⟩)
   exact ⟨.ref h'.objs.size,_,I2,rfl,q _ (I1.hok.fresh (Nat.le_refl _))⟩
 · obtain ⟨its,r',pl,hz⟩:=I.tuple hq
   exact call_tuple_same pl ⟨.ref p,H,I,rfl,q⟩
def tyV (K:PySem.W.Frag) (T:String) (x:V) (H:Hp):Prop:=match x with
 | .str _=>T="str"
 | .int _=>T="int"
 | .ref p=>(T="list"∧∃ xs,SqL K H p xs)∨(T="tuple"∧∃ o,K.lookup p=some o∧o.cls=.type "tuple"∧o.dict=none) ∨
  (T="dict"∧((∃ kvs,H p=some (.dK kvs))∨∃ kvs,H p=some (.dT kvs)))∨(T="set"∧∃ S n,H p=some (.set S n))∨(T="tuple"∧∃ xs,H p=some (.tup xs))
 | _=>False
theorem tyV_is {pins:List (Addr×Obj)} {σ:St} {H:Hp} {s:Shared} {T:String} {x:V} {v:Value} (I:Inv X pins σ H s) (r:RelV x v) (ty:tyV X.K T x H) :
 s.TypeIs v T∧∀ a,v=.ref a→∃ ob,s.heap.get? a=some ob∧ob.dict=none:=by
 cases x with
 | str z=>
   obtain ⟨t,rfl⟩:=r
   cases (show T="str" from ty)
   exact ⟨typeIs_str s z t,fun _ e=>nomatch e⟩
 | int i=>
   obtain ⟨t,rfl⟩:=r
   cases (show T="int" from ty)
   exact ⟨typeIs_int s i t,fun _ e=>nomatch e⟩
 | ref p=>
   cases r
   rcases ty with ⟨rfl,xs,hq⟩ | ⟨rfl,o,hk,hc,hd⟩ | ⟨rfl,hk⟩ | ⟨rfl,S,n,hk⟩ | ⟨rfl,xs,hk⟩
   · obtain ⟨its,_,pl,_⟩:=I.list hq
     refine ⟨pl.isList.typeIs,fun a e=>?_⟩
     cases e
     obtain ⟨o,n,e,c,hd,_⟩:=pl
     exact ⟨o,e,hd⟩
   · refine ⟨⟨o,I.kIn p o hk,hc⟩,fun a e=>?_⟩
     cases e
     exact ⟨o,I.kIn _ o hk,hd⟩
   · have z:∃ o,s.heap.get? p=some o∧o.ExactDict:=by
      rcases hk with ⟨kvs,hk⟩ | ⟨kvs,hk⟩
      · obtain ⟨_,_,_,_,o,_,_,e,ex,_⟩:=I.hok p _ hk
        exact ⟨o,e,ex⟩
      · obtain ⟨_,_,_,_,o,_,_,e,ex,_⟩:=I.hok p _ hk
        exact ⟨o,e,ex⟩
     obtain ⟨o,e,ex⟩:=z
     refine ⟨⟨o,e,ex.1⟩,fun a e2=>?_⟩
     cases e2
     exact ⟨o,e,ex.2.1⟩
   · obtain ⟨o,_,_,_,e,ex,_⟩:=I.hok p _ hk
     refine ⟨⟨o,e,ex.1⟩,fun a e2=>?_⟩
     cases e2
     exact ⟨o,e,ex.2.1⟩
   · obtain ⟨_,_,_,n,e⟩:=I.hok p _ hk
     refine ⟨⟨_,e,rfl⟩,fun a e2=>?_⟩
     cases e2
     exact ⟨_,e,rfl⟩
 | _=>exact False.elim ty
def tBM (K:PySem.W.Frag) (T:String) (r:V→List V→Hp→VK→Prop) (to:TE) (t:TA):TE:=fun σ H Q=>to σ H fun x H1=>tyV K T x H1∧t σ H1 fun xs H2=>r x xs H2 Q
variable {o e:Expr} {es:List Expr} {to:TE} {t:TA} {name:Str} {apos cpos:Pos} {T id:String} {r:V→List V→Hp→VK→Prop}
theorem pe_bm (pa:PlainAttrs T) (slot:Slot T name id) (hty:typeOf (.builtin id)=pure (.type "method_descriptor")) (hm:MtR X id r) (ho:PE X o to) (ha:PA X (e::es) t)
 (hbase:attributeBase o name X.env (eval o X.env)=eval o X.env:=by rfl)
 (hfew:((backTo cpos (starEach (e::es) X.env)).all (fun x=>!x.1)&&(backToKw cpos (keywordEach [] X.env)).all (fun x=>x.1.isSome)
   && decide ((e::es).length+([]:List Keyword).length+(if ([]:List Keyword).isEmpty then 0 else 1)<30))=true:=by rfl)
 (hline:(apos.endLine == cpos.line)=true:=by rfl) (hs:starEach (e::es) X.env=(false,eval e X.env)::starEach es X.env:=by rfl) (hplain:(backTo cpos (starEach es X.env)).any (·.1)=false:=by rfl) :
 PE X (.Call (.Attribute o name apos) (e::es) [] cpos) (tBM X.K T r to t):=by
 intro pins s σ H Q I h
 refine wpAny_Call_method_late hbase hfew hline rfl (thn (ho pins s σ H _ I h) fun v s1 ⟨x,H1,I1,r1,ty,q1⟩=>?_)
 obtain ⟨h1,h2⟩:=tyV_is I1 r1 ty
 refine ⟨T,id,pa,slot,hty,h1,h2,?_⟩
 have hA:=ha cpos pins s1 σ H1 _ I1 q1
 rw [hs] at hA ⊢
 refine Calls.callWith_builtin (by show (false||(backTo cpos (starEach es X.env)).any (·.1))=false;rw [hplain] <;> rfl) (Calls.evalArgs_plain ?_)
 exact thn hA fun us s2 ⟨vs,H2,I2,r2,q2⟩=>hm pins s2 σ H2 x vs v us Q I2 r1 r2 q2
/- xs.append(e),list.index on a module's tuple .. are MtR facts of 06m -/
end
def MtM (X:Cx) (id:String) (r:V→List V→Hp→VK→Prop):Prop:=
 ∀ (pins:List (Addr×Obj)) (s:Shared) (σ:St) (H:Hp) (x:V) (xs:List V) (v:Value) (us:List Value) (Q:VK),Inv X pins σ H s→RelV x v→Vals xs us→r x xs H Q →
   wpAny (model X.prog X.w) X.A (call (.builtin id) (v::us)) (EP X pins σ Q) X.xe s
theorem Vals.one:∀ {x:V} {us:List Value},Vals [x] us→∃ u,us=[u]∧RelV x u
 | _,_,.cons r .nil=>⟨_,rfl,r⟩
theorem Vals.eraseIdx:∀ {xs:List V} {us:List Value} (i:Nat),Vals xs us→Vals (xs.eraseIdx i) (us.eraseIdx i)
 | _,_,_,.nil=>.nil
 | _,_,0,.cons _ t=>t
 | _,_,i+1,.cons r t=>.cons r (Vals.eraseIdx i t)
theorem Vals.rep {xs:List V} {us:List Value} (h:Vals xs us):∀ k:Nat,Vals (List.replicate k xs).flatten (List.replicate k us).flatten
 | 0=>.nil
 | k+1=>by
   rw [List.replicate_succ,List.replicate_succ,List.flatten_cons,List.flatten_cons]
   exact Vals.append h (Vals.rep h k)
theorem len_erase {α:Type}:∀ (l:List α) (i:Nat),(l.eraseIdx i).length≤l.length
 | [],_=>Nat.le_refl _
 | _::_,0=>Nat.le_succ _
 | _::r,i+1=>Nat.succ_le_succ (len_erase r i)
theorem foldl_rep (its:List Value):∀ (k:Nat) (acc:List Value),
 List.foldl (fun x1 x2=>x1++x2) acc.toArray (List.replicate k its.toArray)=(acc++(List.replicate k its).flatten).toArray
 | 0,acc=>by simp
 | k+1,acc=>by
   have e:acc.toArray++its.toArray=(acc++its).toArray:=by simp
   have e2:(acc++its)++(List.replicate k its).flatten=acc++(List.replicate (k+1) its).flatten:=by
    rw [List.replicate_succ,List.flatten_cons,List.append_assoc]
   rw [← e2,← foldl_rep its k (acc++its),← e,List.replicate_succ,List.foldl_cons]
section
variable {X:Cx} {pins:List (Addr×Obj)} {σ:St} {H:Hp} {s:Shared} {l b:Addr} {xs ys zs:List V}
theorem Inv.lset {its its':List Value} {n:Nat} {f:Array Value→Array Value} {t':Nat} (I:Inv X pins σ H s) (hH:H l=some (.lst xs))
 (e:s.heap.get? l=some { cls:=.type "list",data:=.seq its.toArray n }) (hf:f its.toArray=its'.toArray) (hv:Vals ys its') (hz:ys.length≤sizeLine) :
 Inv X pins σ (upd H l (.lst ys)) { s with heap:=s.heap.update l (Obj.mapSeq f),toks:=t' }:=by
 have q:=PySem.IsL.update e f
 rw [hf] at q
 refine I.write (x:=l) (e:=l) (by rw [hH];exact trivial) (.inl rfl) (fun b' u hb hu=>(Heap.get?_update_other s.heap (Obj.mapSeq f) (Ne.symm hb)).trans hu) ⟨_,q⟩ ?_
 exact ⟨hz,its',_,hv,q⟩
theorem Inv.lnew {its:List Value} {t':Nat} (I:Inv X pins σ H s) (hv:Vals ys its) (hz:ys.length≤sizeLine) :
 Inv X pins σ (upd H s.heap.objs.size (.lst ys)) { s with heap:=s.heap.push { cls:=.type "list",data:=.seq its.toArray },toks:=t' }:=
 I.laid (fun _ _ q=>Heap.get?_push_of_some _ q) (Nat.le_refl _) ⟨hz,its,0,hv,Heap.get?_push_size _ rfl⟩
theorem Inv.fresh (I:Inv X pins σ H s):H s.heap.objs.size=none:=I.hok.fresh (Nat.le_refl _)
theorem Inv.lstM (I:Inv X pins σ H s) (hH:H l=some (.lst xs)):xs.length≤sizeLine∧∃ (its:List Value) (n:Nat),Vals xs its∧xs.length=its.length∧s.heap.get? l=some { cls:=.type "list",data:=.seq its.toArray n }:=by
 obtain ⟨z,its,n,r,e⟩:=I.hok l _ hH
 exact ⟨z,its,n,r,r.length,e⟩
theorem notLongL {n:Nat} (h:n≤sizeLine):Builtin.List.listTooLong n=false:=by
 unfold Builtin.List.listTooLong
 exact decide_eq_false (by omega)
end
section
variable {X:Cx}
def rAppend:V→List V→Hp→VK→Prop:=fun x vs H Q=>∃ l xs y,x=.ref l∧vs=[y]∧H l=some (.lst xs)∧xs.length<sizeLine∧Q .non (upd H l (.lst (xs++[y])))
theorem mt_append:MtM X "list.append" rAppend:=by
 intro pins s σ H x vs v us Q I rx rv h
 obtain ⟨l,xs,y,rfl,rfl,hH,hz,q⟩:=h
 cases rx
 obtain ⟨u,rfl,ru⟩:=rv.one
 obtain ⟨z,its,n,r,hl,e⟩:=I.lstM hH
 refine call_meets F.slot_list_append ⟨_,e,rfl⟩ F.entry_list_append (F.args_list_append_2 _ _) (PySem.list_append l its.toArray n u (by rw [List.size_toArray];omega)) ⟨e,?_⟩
 refine ⟨.non,_,I.lset (its':=its++[u]) hH e (by simp) (r.append (.cons ru .nil)) ?_,rfl,q⟩
 rw [List.length_append,List.length_singleton]
 omega
def rExtend:V→List V→Hp→VK→Prop:=fun x vs H Q=>∃ l b xs zs,x=.ref l∧vs=[.ref b]∧H l=some (.lst xs)∧H b=some (.lst zs)∧xs.length+zs.length≤sizeLine∧Q .non (upd H l (.lst (xs++zs)))
theorem mt_extend:MtM X "list.extend" rExtend:=by
 intro pins s σ H x vs v us Q I rx rv h
 obtain ⟨l,b,xs,zs,rfl,rfl,hH,hB,hz,q⟩:=h
 cases rx
 obtain ⟨u,rfl,ru⟩:=rv.one
 cases ru
 obtain ⟨z,its,n,r,hl,e⟩:=I.lstM hH
 obtain ⟨z2,its2,n2,r2,hl2,e2⟩:=I.lstM hB
 have hsz:its.toArray.size+its2.toArray.size≤sizeLine:=by rw [List.size_toArray,List.size_toArray];omega
 have hlong:¬ (!its.toArray.isEmpty&&Builtin.List.listTooLong (its.toArray.size+its2.toArray.size))=true:=by
  rw [notLongL hsz,Bool.and_false]
  exact Bool.false_ne_true
 refine call_meets F.slot_list_extend ⟨_,e,rfl⟩ F.entry_list_extend (F.args_list_extend_2 _ _)
  (AutoSeq1.list_extend_list_list_0 l its.toArray n b its2.toArray n2 hlong (by rw [List.size_toArray];omega) (by omega)) ⟨e,e2,?_⟩
 refine ⟨.non,_,I.lset (its':=its++its2) hH e (by simp) (r.append r2) ?_,rfl,q⟩
 rw [List.length_append]
 omega
def rPopAt:V→List V→Hp→VK→Prop:=fun x vs H Q=>∃ l xs i k y,x=.ref l∧vs=[.int i]∧H l=some (.lst xs)∧-(2 ^ 63)≤i∧i<2 ^ 63∧seqIndex? i xs.length=some k∧xs[k]? = some y∧Q y (upd H l (.lst (xs.eraseIdx k)))
theorem mt_popAt:MtM X "list.pop" rPopAt:=by
 intro pins s σ H x vs v us Q I rx rv h
 obtain ⟨l,xs,i,k,y,rfl,rfl,hH,h1,h2,hk,hy,q⟩:=h
 cases rx
 obtain ⟨u,rfl,ru⟩:=rv.one
 obtain ⟨t,rfl⟩:=ru
 obtain ⟨z,its,n,r,hl,e⟩:=I.lstM hH
 obtain ⟨w,hw,rw'⟩:=r.get hy
 refine call_meets F.slot_list_pop ⟨_,e,rfl⟩ F.entry_list_pop (F.args_list_pop_2 _ _)
  (MeetsSeq.list_pop_at l its.toArray n i t k w (fitsIndex_both h1 h2) (by rw [List.size_toArray,← hl];exact hk) (by rw [← Array.getElem?_toList];exact hw) (by rw [List.size_toArray];omega)) ⟨e,?_⟩
 refine ⟨y,_,I.lset (its':=its.eraseIdx k) hH e ?_ (r.eraseIdx k) ?_,rw',q⟩
 · show its.toArray.eraseIdxIfInBounds k=(its.eraseIdx k).toArray
   rw [List.eraseIdxIfInBounds_toArray]
 · have:=len_erase xs k
   omega
def rCat:R2:=fun x y H Q=>∃ l b xs zs,x=.ref l∧y=.ref b∧H l=some (.lst xs)∧H b=some (.lst zs)∧xs.length+zs.length≤sizeLine∧∀ p,H p=none→Q (.ref p) (upd H p (.lst (xs++zs)))
theorem op_cat:OpR X (binaryOp .Add) rCat:=by
 intro pins s σ H x y v u Q I rx ry h
 obtain ⟨l,b,xs,zs,rfl,rfl,hH,hB,hz,q⟩:=h
 cases rx
 cases ry
 obtain ⟨z,its,n,r,hl,e⟩:=I.lstM hH
 obtain ⟨z2,its2,n2,r2,hl2,e2⟩:=I.lstM hB
 refine PySem.P.add_list e e2 ?_ (by rw [List.size_toArray,List.size_toArray];omega)
 have ea:its.toArray++its2.toArray=(its++its2).toArray:=by simp
 rw [ea]
 exact ⟨.ref _,_,I.lnew (t':=s.toks) (r.append r2) (by rw [List.length_append];omega),rfl,q _ I.fresh⟩
def rRep:R2:=fun x y H Q=>∃ l k xs,x=.ref l∧y=.int k∧H l=some (.lst xs)∧-(2 ^ 63)≤k∧k<2 ^ 63∧xs.length*k.toNat≤sizeLine ∧
 ∀ p,H p=none→Q (.ref p) (upd H p (.lst (List.replicate k.toNat xs).flatten))
theorem len_rep {α:Type} (xs:List α) (k:Nat):(List.replicate k xs).flatten.length=k*xs.length:=by
 induction k with
 | zero=>simp
 | succ k ih=>rw [List.replicate_succ,List.flatten_cons,List.length_append,ih,Nat.succ_mul,Nat.add_comm]
theorem op_rep:OpR X (binaryOp .Mult) rRep:=by
 intro pins s σ H x y v u Q I rx ry h
 obtain ⟨l,k,xs,rfl,rfl,hH,h1,h2,hz,q⟩:=h
 cases rx
 obtain ⟨t,rfl⟩:=ry
 obtain ⟨z,its,n,r,hl,e⟩:=I.lstM hH
 have hlen:its.toArray.size*k.toNat≤sizeLine:=by rw [List.size_toArray,← hl];exact hz
 have hcap:¬ its.toArray.size*k.toNat > (2 ^ 63 - 1) / 8:=by
  have:(sizeLine:Nat)≤(2 ^ 63 - 1) / 8:=by decide
  omega
 have hfit:¬ (!Builtin.List.listFitsIndex k)=true:=by
  rw [fitsIndex_both h1 h2]
  exact Bool.false_ne_true
 have hlong:¬ Builtin.List.listTooLong (its.toArray.size*k.toNat)=true:=by
  rw [notLongL hlen]
  exact Bool.false_ne_true
 have hnew:List.foldl (fun x1 x2=>x1++x2) #[] (List.replicate (if its.toArray.isEmpty=true then 0 else k.toNat) its.toArray)=(List.replicate k.toNat its).flatten.toArray:=by
  have f0:∀ m:Nat,List.foldl (fun x1 x2=>x1++x2) #[] (List.replicate m its.toArray)=(List.replicate m its).flatten.toArray:=fun m=>by
   have:=foldl_rep its m []
   rw [List.nil_append] at this
   exact this
  rw [f0]
  cases its with
  | nil=>simp
  | cons a r'=>rw [if_neg (by simp)]
 refine wpAny_binaryOp_repeat_ref (T:="list") (U:="int") (by decide) ⟨_,e,rfl⟩ (fun s'=>typeIs_int s' k t) noFill_list_mul F.fills_int_mul F.slot_int_rmul repeat_list F.slot_int_index.lookup
  (call_meets F.slot_int_rmul (typeIs_int s k t) F.entry_int_rmul (F.args_int_rmul_2 _ _) (int___rmul___int_list k t l its.toArray n)
    ⟨e,rfl,⟨_,e,rfl⟩,call_meets F.slot_list_mul ⟨_,e,rfl⟩ F.entry_list_mul (F.args_list_mul_2 _ _) (AutoListH.list___mul___list_int_3 l its.toArray n k t hfit hcap hlong) ⟨e,?_⟩⟩)
 rw [hnew]
 exact ⟨.ref _,_,I.lnew (t':=s.toks) (r.rep k.toNat) (by rw [len_rep,Nat.mul_comm];exact hz),rfl,q _ I.fresh⟩
end
end L2
namespace Att
open PySem PySem.W PySem.Calls PyProof.Rows
theorem ints_of_wellAll {P:Params} {h:Heap}:∀ (ns:List Int) (vs:List Value),WellAll P h vs (ns.map WData.int)→IntsAre vs ns:=by
 intro ns
 induction ns with
 | nil=>
   intro vs w
   rw [List.map_nil] at w
   cases w
   exact .nil
 | cons n ns ih=>
   intro vs w
   rw [List.map_cons] at w
   cases w with
   | cons a b=>
     cases a
     exact .cons _ _ (ih _ b)
theorem script_of {l:OpenLaw} {n:Nat} (hn:l.most=some n) {P:Params} {h:Heap} {args:List WData} {vals:List Value}
 (hpre:l.row.toRowW.claim.pre args=true) (hwl:WellAll P h vals args) :
 ∃ a vs ns,vals=[Value.ref a]∧args=[WData.list (ns.map WData.int)]∧h.get? a=some { cls:=.type "list",data:=.seq vs.toArray }∧IntsAre vs ns∧ns.length≤n:=by
 have hsh:WShape.hasAll [] args [.list .int]=true:=(pre_splitW hpre).1
 have hc:l.pre.holds [] { args:=args }=true:=(pre_splitW hpre).2
 obtain ⟨d,r,rfl,h1,h2⟩:=hasAllW_cons hsh
 obtain rfl:=hasAllW_nil h2
 obtain ⟨xs,rfl,h3⟩:=hasW_list h1
 obtain ⟨ns,rfl⟩:=items_int h3
 have hlen:ns.length≤n:=by
  unfold OpenLaw.pre at hc
  have h4:(WTm.not (.lt (.lit (.int (n:Int))) (.len (.arg 0)))).holds [] { args:=[.list (ns.map .int)] }=true:=by
   have h4:=(holds_andW hc).1
   rw [hn] at h4
   exact h4
  have h5:=condW_of h4 (w_not (w_lt w_lit (w_len_list (w_arg rfl))))
  rw [List.length_map] at h5
  refine Nat.le_of_not_lt fun q=>?_
  have q':(n:Int)<((ns.length:Nat):Int):=by omega
  first
   | (rw [decide_eq_true q'] at h5;exact absurd h5 (by decide))
   | (simp at h5;omega)
 cases hwl with
 | cons w1 w2=>
   cases w2
   cases w1 with
   | list ho hall=>exact ⟨_,_,ns,rfl,rfl,ho,ints_of_wellAll ns _ hall,hlen⟩
theorem post_true (l:OpenLaw) (args:List WData):l.row.toRowW.claim.post args (.bool true) args=true:=
 postW_of (r:=l.row.toRowW) (X:=(true == true))
  (show WShape.has [] (.bool true) .bool=true by first | rfl | decide | simp [WShape.has,WShape.arms,WShape.armsAll])
  (show (WTm.eq .res (.lit (.bool true))).value [] { args:=args,res:=some (.bool true),after:=args }=some (.bool (true == true)) from w_eq_bool (w_res rfl) w_lit) rfl
theorem attach_call {l:OpenLaw} {n:Nat} {q:Program} {loose:List Str} {XP:(Str→Option Value)→Heap→Prop} {YP:World→Heap→Prop} {d:DefRec}
 (hn:l.most=some n) (hdf:d.params.defaults=[])
 (call:∀ (w:World) (s₀ s₁:Shared) (mg mb:Str→Option Value) (fa:Addr) (o:Obj) (pm cd doc:Value) (a:Addr) (vs:List Value) (ns:List Int),
   Ground q loose [] XP w s₀ mg mb s₁.heap→YP w s₁.heap →
   s₁.heap.get? fa=some o→o.data=.func (docDef d.name d.params d.body d.scope pm cd doc)→s₁.heap.CodeRec cd d.name→mg d.name=some (.ref fa) →
   s₁.heap.get? a=some { cls:=.type "list",data:=.seq vs.toArray }→IntsAre vs ns→ns.length≤n→s₁.gens=#[] →
   codeAny (model l.prog w) callerA (.call (.ref fa) ⟨[.ref a],[]⟩) (fun r s'=>r=.ok (.ret (.bool true))∧OldK s₁.heap s'.heap∧s'.os=s₁.os∧AllBare s'.gens) s₁) :
 WalkO q loose XP YP l.row.toRowW d [] (fun f vs=>PySem.call f vs):=by
 intro w s₀ s₁ mg mb G Y fa o pm cd doc dV kV ho hd hcd hD hmg hg args vals as hpre hlay hrd hwl hlo
 obtain rfl:dV=.none:=Dflts.none hD hdf
 obtain rfl:kV=.none:=Dflts.noKw hD
 obtain ⟨a,vs,ns,rfl,rfl,hobj,hints,hlen⟩:=script_of hn hpre hwl
 refine enter_call (codeAny_mono (call w s₀ s₁ mg mb fa o pm cd doc a vs ns G Y ho (fd_plain hd) hcd hmg hobj hints hlen hg) fun r s' hq=>?_)
 obtain ⟨rfl,h2,h3,h4⟩:=hq
 exact ⟨.inl ⟨.bool true,.bool true,[],rfl,fun _=>rfl,.bool true,post_true l _,fun _=>⟨List.Pairwise.nil,fun _ hm=>(nomatch hm)⟩⟩,h2,h3,h4⟩
end Att
namespace L2
open PySem PySem.Spec PyProof.Rows
theorem vals_ints:∀ {vs:List Value} {ns:List Int},IntsAre vs ns→Vals (ns.map V.int) vs
 | _,_,.nil=>.nil
 | _,_,.cons n t h=>.cons ⟨t,rfl⟩ (vals_ints h)
def Only (H:Hp):Prop:=∀ b,H b=none∨∃ o xs,H b=some (.frz o (.lst xs))
theorem law_call {P:Program} {w:World} {K:PySem.W.Frag} {mg mb:Str→Option Value} {CX:CXT} {k:Nat} {fa a:Addr} {fd:FuncData} {x:Str} {sp:Sp} {s₁:Shared} {vs:List Value} {ns:List Int}
 (KX:K.In s₁.heap) (hns:s₁.heap.Ns mainGlobals mg) (hb:s₁.heap.Ns builtinsNs mb) (hbb:∀ x:Str,x≠"__name__"→mb x=bootBuiltins x) (hlim:s₁.heap.NoLimit) (hg:s₁.gens=#[])
 (ha:s₁.heap.get? a=some { cls:=.type "list",data:=.seq vs.toArray }) (hi:IntsAre vs ns) (hl:ns.length≤sizeLine) (hr:Room k callerA)
 (F:∀ base:Heap,K.In base→base.Ns mainGlobals mg→FnOk P w K mg base CX k fa fd [x] sp) (hbind:∀ (s:Shared) (u:Value),BindsTo s fd ⟨[u],[]⟩ [(x,u)])
 (hsp:∀ H:Hp,Only H→SqL K H a (ns.map V.int)→sp [.ref a] H (fun v _=>v=.bl true) fun _ _ _=>False)
 (hCX:∀ H e s',CX [] H s₁ (fun _ _ _=>False) e s'→False) :
 codeAny (model P w) callerA (.call (.ref fa) ⟨[.ref a],[]⟩) (fun r s'=>r=.ok (.ret (.bool true))∧OldK s₁.heap s'.heap∧s'.os=s₁.os∧AllBare s'.gens) s₁:=by
 have rv:=vals_ints hi
 have lenV:=hi.length
 -- from an abstract heap in which nothing but the script may be tracked
 have core:∀ H:Hp,Only H→SqL K H a (ns.map V.int)→HOk P w H s₁.heap→(∀ b,H b≠none→b=a)→(H a≠none→K.lookup a=none) →
  codeAny (model P w) callerA (.call (.ref fa) ⟨[.ref a],[]⟩) (fun r s'=>r=.ok (.ret (.bool true))∧OldK s₁.heap s'.heap∧s'.os=s₁.os∧AllBare s'.gens) s₁:=by
  intro H hO hS hok hA hK
  have base_of:∀ {b:Addr} {o:Obj},s₁.heap.get? b=some o→H b=none→(hidT s₁.heap H).get? b=some o:=fun e n=>hidT_get e n
  have noA:∀ {b:Addr} {o:Obj} {es:Array DictEntry} {ep:Nat},s₁.heap.get? b=some o→o.data=.dict es ep→H b=none:=fun {b o es ep} e d=>by
   cases q:H b with
   | none=>rfl
   | some u=>
     have e':b=a:=hA b (by rw [q];simp)
     subst e'
     rw [ha] at e;cases e
     have d':Data.seq vs.toArray _=Data.dict es ep:=d
     cases d'
  have nsK:∀ {b:Addr} {m:Str→Option Value},s₁.heap.Ns b m→(hidT s₁.heap H).Ns b m:=fun {b m} ⟨o,es,ep,e,d,r⟩=>⟨o,es,ep,base_of e (noA e d),d,r⟩
  have hKb:K.In (hidT s₁.heap H):=fun b o e=>base_of (KX b o e) (by
   cases q:H b with
   | none=>rfl
   | some u=>
     have e':b=a:=hA b (by rw [q];simp)
     subst e'
     rw [hK (by rw [q];simp)] at e;cases e)
  have hM:Mod K mg (hidT s₁.heap H):=⟨hKb,nsK hns,⟨mb,nsK hb,hbb⟩,let ⟨mc,h1,h2⟩:=hlim;⟨mc,nsK h1,h2⟩⟩
  have e0:Env0 P w K mg (hidT s₁.heap H) callerA [] s₁ H:=⟨rfl,hM,fun b o e=>of_hidT e,Nat.le_of_eq (hidT_size _ _),trivial,fun b hb=>absurd (show b∈([]:List Addr) from hb) (by simp),hok,.of_eq hg⟩
  refine codeAny_mono ((F _ hKb (nsK hns)).run callerA [] s₁ H ⟨[.ref a],[]⟩ [.ref a] [.ref a] _ _ hr e0 (hbind s₁ (.ref a)) (.cons rfl .nil) (hsp H hO hS)) fun r s' h=>?_
  cases r with
  | error e=>exact (hCX H e s' h).elim
  | ok fl=>
    cases fl with
    | next=>exact False.elim h
    | brk=>exact False.elim h
    | cont=>exact False.elim h
    | ret u=>
      obtain ⟨v,H',os,bare,un,hok',r',q⟩:=h
      have q':v=.bl true:=q
      subst q'
      obtain rfl:u=Value.bool true:=r'
      refine ⟨rfl,OldK.of_keep fun b o e=>?_,os,bare⟩
      cases q:H b with
      | none=>exact un.keep b o e q (by intro z;exact absurd (show b∈([]:List Addr) from z) (by simp)) (by simp)
      | some u=>
        rcases hO b with z | ⟨ob,xs,z⟩
        · rw [q] at z;cases z
        · have z2:=un.frzs b ob _ z
          obtain ⟨e1,_⟩:=hok b _ z
          obtain ⟨e2,_⟩:=hok' b _ z2
          rw [e] at e1;cases e1
          exact e2
 cases hk:K.lookup a with
 | some o=>
   -- the script is one of the module's own objects
   have e:=KX a o hk
   rw [ha] at e
   cases e
   refine core (fun _=>none) (fun _=>.inl rfl) (.inr ⟨_,vs.toArray,_,hk,rfl,rfl,rfl,by rw [List.size_toArray,lenV];exact hl,by simpa using rv⟩) (fun b u z=>by have z':(none:Option HO)=some u:=z;cases z') (fun b z=>absurd rfl z) fun z=>absurd rfl z
 | none=>
   refine core (fun b=>if b=a then some (.frz { cls:=.type "list",data:=.seq vs.toArray } (.lst (ns.map V.int))) else none) (fun b=>?_) (.inl (.inr ⟨{ cls:=.type "list",data:=.seq vs.toArray },if_pos rfl⟩)) (fun b u z=>?_) (fun b z=>?_) fun _=>hk
   · by_cases hb:b=a
     · exact .inr ⟨_,_,if_pos hb⟩
     · exact .inl (if_neg hb)
   · by_cases hb:b=a
     · have z':=(if_pos hb).symm.trans z
       cases z'
       subst hb
       exact ⟨ha,by rw [List.length_map];exact hl,vs,_,rv,ha⟩
     · have z':=(if_neg hb).symm.trans z
       cases z'
   · by_cases hb:b=a
     · exact hb
     · exact absurd (if_neg hb) z
theorem walk_of {l:PySem.W.OpenLaw} {n k:Nat} {q:Program} {loose:List Str} {XP:(Str→Option Value)→Heap→Prop} {YP:World→Heap→Prop} {d:DefRec} {K:Params→PySem.W.Frag} {CX:World→CXT} {sp:World→Sp} {x:Str}
 (hn:l.most=some n) (hn2:n≤sizeLine) (hdf:d.params.defaults=[]) (hr:Room k callerA)
 (hY:∀ (w:World) (h:Heap),YP w h→(K w.params).In h)
 (F:∀ (w:World) (mg:Str→Option Value) (fa:Addr) (h:Heap),(K w.params).In h→h.Ns mainGlobals mg→mg d.name=some (.ref fa) →
   ∃ fd:FuncData,(∀ (s:Shared) (u:Value),BindsTo s fd ⟨[u],[]⟩ [(x,u)]) ∧
     ∀ base:Heap,(K w.params).In base→base.Ns mainGlobals mg→FnOk l.prog w (K w.params) mg base (CX w) k fa fd [x] (sp w))
 (hsp:∀ (w:World) (H:Hp) (a:Addr) (ns:List Int),ns.length≤n→Only H→SqL (K w.params) H a (ns.map V.int)→sp w [.ref a] H (fun v _=>v=.bl true) fun _ _ _=>False)
 (hCX:∀ (w:World) (H:Hp) (s:Shared) (e:Value) (s':Shared),CX w [] H s (fun _ _ _=>False) e s'→False) :
 PySem.W.WalkO q loose XP YP l.row.toRowW d [] (fun f vs=>PySem.call f vs):=by
 refine Att.attach_call hn hdf fun w s₀ s₁ mg mb fa o pm cd doc a vs ns G Y ho hd hcd hmg hobj hints hlen hg=>?_
 have KX:=hY w _ Y
 obtain ⟨fd,hb,hF⟩:=F w mg fa _ KX G.T.g hmg
 exact law_call KX G.T.g G.T.b G.T.builtins G.T.nolimit hg hobj hints (Nat.le_trans hlen hn2) hr hF hb (fun H hO hS=>hsp w H a ns hlen hO hS) fun H e s'=>hCX w H s₁ e s'
end L2
/- THE LAST THEOREM (shape;LID,My.* are yours):
   My.Adr: a structure of the addresses that your layer names (classes,functions);My.Txt K t: a structure (Prop) of the equations over K;
   My.txt_mk:{K} {implicit addresses ..} (e1:nsIn K mainGlobals "law" = some (some (.ref f))) (e2:K.lookup f=some ⟨oc,od,.func (fnOf "law" "law" params body scope dV kV doc pm an cdv ct),sl⟩) (e3:codeIn K cdv "law" = true) .. : ∃ t,My.Txt K t
(the tactic k_is has no namespace: write k_is) -/
namespace L2
open PySem PySem.Spec PyProof.Rows
def defArgs (s:Stmt):Arguments:=match s with
 | .FunctionDef _ a _ _ _ _ _ _ _ _=>a
 | _=>{ posonlyargs:=[],args:=[],vararg:=none,kwonlyargs:=[],kw_defaults:=[],kwarg:=none,defaults:=[] }
def defBody (s:Stmt):List Stmt:=match s with
 | .FunctionDef _ _ b _ _ _ _ _ _ _=>b
 | _=>[]
def defScope (s:Stmt):Scope:=match s with
 | .FunctionDef _ _ _ _ _ _ sc _ _ _=>sc
 | _=>{ kind:=.function,names:=[],isGenerator:=false,isCoroutine:=false }
abbrev CX0:CXT:=fun _ _ _ _ _ _=>False
abbrev E0:XK:=fun _ _ _=>False
theorem pass0 {X:Cx}:Passes CX0 X E0:=fun _ _ _ _ _ _ _ h=>h.elim
structure Fun (K:PySem.W.Frag) (x qual:Str) (st:Stmt) (f:Addr) (fd:FuncData):Prop where
 ex:∃ (oc:Value) (od:Option Addr) (kV doc pm:Value) (an:Option Addr) (cdv ct:Value) (osl:Array (Option Value)),
  fd=PySem.W.fnOf x qual (defArgs st) (defBody st) (defScope st) .none kV doc pm an cdv ct∧K.lookup f=some ⟨oc,od,.func fd,osl⟩∧PySem.W.codeIn K cdv qual=true
 kp:PySem.W.keepIn K (.ref f)=true
section
variable {P:Program} {w:World} {K:PySem.W.Frag} {mg:Str→Option Value} {base:Heap}
theorem Fun.ok {x qual:Str} {st:Stmt} {f:Addr} {fd:FuncData} {N ps:List Str} {k:Nat} {sp:Sp} (F:Fun K x qual st f fd) (S:FnScope N ps (defScope st)) (len:∀ vs H Q E,sp vs H Q E→vs.length=ps.length)
 (hbody:∀ (cdv:Value) (A:Around) (outer:List Env) (s:Shared) (H:Hp) (vs:List V) (Q:VK) (E:XK),Room k (A.deeper (envOfC qual (defScope st) s.heap.objs.size f cdv))→sp vs H Q E →
   ∃ t,PSs (cxOf CX0 P w K mg base N qual (defScope st) f cdv A outer s H E).nox (defBody st) t∧t { nx:=fun _ H'=>Q .non H',rt:=Q } (start N vs) H):FnOk P w K mg base CX0 (k+1) f fd ps sp:=by
 obtain ⟨oc,od,kV,doc,pm,an,cdv,ct,osl,rfl,lk,hcd⟩:=F.ex
 refine fn_of lk hcd S len fun A outer s H vs Q E hr hsp=>?_
 obtain ⟨t,h,q⟩:=hbody cdv A outer s H vs Q E hr hsp
 exact ⟨t,h.nox,q⟩
theorem Fun.okz {x qual:Str} {st:Stmt} {f:Addr} {fd:FuncData} {N ps:List Str} {k:Nat} {sp:Sp} (F:Fun K x qual st f fd) (S:FnScope N ps (defScope st)) (len:∀ vs H Q E,sp vs H Q E→vs.length=ps.length)
 (hbody:∀ (cdv:Value) (A:Around) (outer:List Env) (s:Shared) (H:Hp) (vs:List V) (Q:VK) (E:XK),Room k (A.deeper (envOfC qual (defScope st) s.heap.objs.size f cdv))→sp vs H Q E →
   ∃ t,ZSs (cxOf CX0 P w K mg base N qual (defScope st) f cdv A outer s H E).nox (defBody st) t∧t { nx:=fun _ H'=>Q .non H',rt:=Q } (start N vs) H):FnOk P w K mg base CX0 (k+1) f fd ps sp:=
 F.ok S len fun cdv A outer s H vs Q E hr h=>let ⟨t,h1,h2⟩:=hbody cdv A outer s H vs Q E hr h;⟨t,h1.p,h2⟩
theorem Fun.binds {x qual:Str} {st:Stmt} {f:Addr} {fd:FuncData} {ps:List Str} (F:Fun K x qual st f fd)
 (h:∀ (kV doc pm:Value) (an:Option Addr) (cdv ct:Value) (us:List Value),us.length=ps.length→bindArgs (PySem.W.fnOf x qual (defArgs st) (defBody st) (defScope st) .none kV doc pm an cdv ct) ⟨us,[]⟩=pure (ps.zip us)):Binds K fd ps []:=by
 obtain ⟨oc,od,kV,doc,pm,an,cdv,ct,osl,rfl,lk,hcd⟩:=F.ex
 exact .all (h kV doc pm an cdv ct)
theorem fun_mk {x qual:Str} {st:Stmt} {f:Addr} {oc:Value} {od an:Option Addr} {osl:Array (Option Value)} {kV doc pm cdv ct:Value} (l:K.lookup f=some ⟨oc,od,.func (PySem.W.fnOf x qual (defArgs st) (defBody st) (defScope st) .none kV doc pm an cdv ct),osl⟩)
 (c:PySem.W.codeIn K cdv qual=true) (k:PySem.W.keepIn K (.ref f)=true):Fun K x qual st f (PySem.W.fnOf x qual (defArgs st) (defBody st) (defScope st) .none kV doc pm an cdv ct):=⟨⟨oc,od,kV,doc,pm,an,cdv,ct,osl,rfl,l,c⟩,k⟩
end
theorem small1000 {n:Nat} (h:n≤1000):n<sizeLine:=Nat.lt_of_le_of_lt h (by decide)
theorem iteF {A B:Prop} (h:B):if false=true then A else B:=by
 rw [if_neg Bool.false_ne_true]
 exact h
theorem iteT {A B:Prop} (h:A):if true=true then A else B:=by
 rw [if_pos rfl]
 exact h
def Same (H H':Hp):Prop:=∀ b o,H b=some o→H' b=some o
theorem Same.refl (H:Hp):Same H H:=fun _ _ h=>h
theorem Same.trans {H H1 H2:Hp} (a:Same H H1) (b:Same H1 H2):Same H H2:=fun c o h=>b c o (a c o h)
end L2
set_option maxHeartbeats 4000000
namespace L2
open PySem PySem.Spec PyProof.Rows
def clsOf (env:Env):List (Str×NameKind)→List (Str×Addr)→List (Str×Addr)
 | [],cs=>cs
 | y::r,cs=>clsOf env r (if (y.2 == .free)=true then (y.1,(env.cells.lookup y.1).getD 0)::cs else cs)
theorem closure_ok {env:Env} {scope:Scope} (h:∀ y∈scope.names,y.2=.free→∃ c,env.cells.lookup y.1=some c):closureFor scope env=pure (clsOf env scope.names []):=by
 simp only [closureFor]
 generalize scope.names=ns at h
 have go:∀ (ns:List (Str×NameKind)) (cs:List (Str×Addr)),(∀ y∈ns,y.2=.free→∃ c,env.cells.lookup y.1=some c) →
  (forIn ns cs fun (x:Str×NameKind) (r:List (Str×Addr))=>(if (x.2 == NameKind.free)=true then do let a ← cellOf env x.1;pure (ForInStep.yield ((x.1,a)::r)) else pure (ForInStep.yield r):Sem (ForInStep (List (Str×Addr)))))=(pure (clsOf env ns cs):Sem (List (Str×Addr))):=by
  intro ns
  induction ns with
  | nil=>intro cs _;rfl
  | cons y r ih=>
    intro cs hy
    rw [List.forIn_cons]
    have hr:=fun z hz=>hy z (List.mem_cons_of_mem _ hz)
    by_cases hf:(y.2 == NameKind.free)=true
    · obtain ⟨c,hc⟩:=hy y List.mem_cons_self (by simpa using hf)
      have e:cellOf env y.1=pure c:=by unfold cellOf;rw [hc]
      rw [if_pos hf,e]
      refine Eq.trans (ih ((y.1,c)::cs) hr) (congrArg pure ?_)
      show _=clsOf env r (if (y.2 == .free)=true then (y.1,(env.cells.lookup y.1).getD 0)::cs else cs)
      rw [if_pos hf,hc]
      rfl
    · rw [if_neg hf]
      refine Eq.trans (ih cs hr) (congrArg pure ?_)
      show _=clsOf env r (if (y.2 == .free)=true then (y.1,(env.cells.lookup y.1).getD 0)::cs else cs)
      rw [if_neg hf]
 have e:=go ns [] h
 exact (congrArg (fun (t:Sem (List (Str×Addr)))=>t >>= fun cs=>pure cs) e).trans rfl
theorem clsOf_look {env:Env}:∀ (ns:List (Str×NameKind)) (cs:List (Str×Addr)),(∀ y∈ns,y.2=.free→∃ c,env.cells.lookup y.1=some c)→(∀ n c,cs.lookup n=some c→env.cells.lookup n=some c) →
 ∀ n c,(clsOf env ns cs).lookup n=some c→env.cells.lookup n=some c
 | [],cs,_,hc=>hc
 | y::r,cs,hy,hc=>by
   refine clsOf_look r _ (fun z hz=>hy z (List.mem_cons_of_mem _ hz)) fun n c e=>?_
   by_cases hf:(y.2 == NameKind.free)=true
   · rw [if_pos hf,List.lookup_cons] at e
     obtain ⟨c',hc'⟩:=hy y List.mem_cons_self (by simpa using hf)
     cases hn:n == y.1 with
     | true=>
       rw [hn] at e
       have en:n=y.1:=by simpa using hn
       rw [hc'] at e
       rw [en,hc']
       exact e
     | false=>rw [hn] at e;exact hc n c e
   · rw [if_neg hf] at e
     exact hc n c e
theorem clsOf_has {env:Env}:∀ (ns:List (Str×NameKind)) (cs:List (Str×Addr)) (n:Str),((n,NameKind.free)∈ns∨∃ c,cs.lookup n=some c)→∃ c,(clsOf env ns cs).lookup n=some c
 | [],cs,n,h=>by
   rcases h with h | h
   · cases h
   · exact h
 | y::r,cs,n,h=>by
   refine clsOf_has r _ n ?_
   rcases h with h | ⟨c,h⟩
   · rcases List.mem_cons.mp h with e | h
     · refine .inr ⟨(env.cells.lookup n).getD 0,?_⟩
       have e2:y.2=.free:=by rw [← e]
       have e1:y.1=n:=by rw [← e]
       rw [if_pos (by rw [e2];rfl),e1,List.lookup_cons]
       simp
     · exact .inl h
   · refine .inr ?_
     by_cases hf:(y.2 == NameKind.free)=true
     · rw [if_pos hf,List.lookup_cons]
       cases hn:n == y.1 with
       | true=>exact ⟨_,rfl⟩
       | false=>exact ⟨c,h⟩
     · rw [if_neg hf];exact ⟨c,h⟩
def rlOf (env:Env) (y:Str×NameKind):Str×NameKind:=if (y.2 == NameKind.free&&env.scope.kind == .function&&env.kindOf y.1 == some .cell)=true then (y.1,NameKind.cell) else (y.1,y.2)
theorem rl_look {env:Env}:∀ {names:List (Str×NameKind)} {x:Str} {k':NameKind},(names.map (rlOf env)).lookup x=some k' →
 ∃ k,(x,k)∈names∧names.lookup x=some k∧(k'=k∨(k=.free∧k'=.cell))
 | [],_,_,h=>by simp at h
 | (n,k)::r,x,k',h=>by
   have ih:=@rl_look env r x k'
   rw [List.map_cons] at h
   unfold rlOf at h
   dsimp only at h
   cases hx:x == n with
   | true=>
     have en:x=n:=by simpa using hx
     refine ⟨k,by rw [en];exact List.mem_cons_self,by simp [List.lookup_cons,hx],?_⟩
     by_cases hc:(k == NameKind.free&&env.scope.kind == .function&&env.kindOf n == some .cell)=true
     · rw [if_pos hc,List.lookup_cons,hx] at h
       have hk:k=.free:=by
        have:=(Bool.and_eq_true_iff.mp (Bool.and_eq_true_iff.mp hc).1).1
        simpa using this
       exact .inr ⟨hk,by cases h;rfl⟩
     · rw [if_neg hc,List.lookup_cons,hx] at h
       exact .inl (by cases h;rfl)
   | false=>
     have h':(r.map (rlOf env)).lookup x=some k':=by
      by_cases hc:(k == NameKind.free&&env.scope.kind == .function&&env.kindOf n == some .cell)=true
      · rw [if_pos hc,List.lookup_cons,hx] at h;exact h
      · rw [if_neg hc,List.lookup_cons,hx] at h;exact h
     obtain ⟨k,h1,h2,h3⟩:=ih h'
     exact ⟨k,List.mem_cons_of_mem _ h1,by rw [List.lookup_cons,hx];exact h2,h3⟩
theorem rl_has {env:Env}:∀ {names:List (Str×NameKind)} {x:Str} {k:NameKind},names.lookup x=some k→∃ k',(names.map (rlOf env)).lookup x=some k'
 | [],_,_,h=>by simp at h
 | (n,k0)::r,x,k,h=>by
   have ih:=@rl_has env r x k
   rw [List.map_cons]
   have e1:(rlOf env (n,k0)).1=n:=by unfold rlOf;split <;> rfl
   have e0:rlOf env (n,k0)=(n,(rlOf env (n,k0)).2):=by rw [Prod.ext_iff];exact ⟨e1,rfl⟩
   rw [e0,List.lookup_cons]
   cases hx:x == n with
   | true=>exact ⟨_,rfl⟩
   | false=>
     rw [List.lookup_cons,hx] at h
     exact ih h
def cmpX (X:Cx) (nv:List Str) (ix:List (Str×Nat)) (scope:Scope) (C:Addr) (s₀:Shared) (H₀:Hp) (fp:List Addr):Cx:=
 { X with N:=nv++ix.map (·.1),s₀:=s₀,H₀:=H₀,env:=compEnvC scope (clsOf X.env scope.names []) C X.env,outer:=X.stack,stack:=X.stack,ex:=fp,fn:=fun _=>false,pn:=[],xe:=fun _ _=>False }
def frV (σ:St) (ix:List (Str×Nat)):St:=ix.map fun p=>(σ[p.2]?).join
def st0 (nv:List Str) (ix:List (Str×Nat)) (σ:St):St:=nv.map (fun _=>none)++frV σ ix
structure CompOk (X:Cx) (nv:List Str) (ix:List (Str×Nat)) (scope:Scope):Prop where
 kind:scope.kind=.function
 nocell:∀ y∈scope.names,y.2≠.cell
 names:∀ y∈scope.names,y.2=.local→scope.names.lookup y.1=some .local
 free:(scope.names.all fun y=>!(y.2 == NameKind.free)||(X.env.kindOf y.1 == some NameKind.cell||X.env.kindOf y.1 == some NameKind.free))=true
 ix:(ix.all fun p=>(scope.names.lookup p.1 == some NameKind.free)&&(X.N[p.2]? == some p.1))=true
section
variable {X:Cx} {nv:List Str} {ix:List (Str×Nat)} {scope:Scope} {pins:List (Addr×Obj)} {σ:St} {H:Hp} {s:Shared}
theorem CompOk.fk (co:CompOk X nv ix scope) {y:Str×NameKind} (hy:y∈scope.names) (hf:y.2=.free):X.env.kindOf y.1=some .cell∨X.env.kindOf y.1=some .free:=by
 have q:=List.all_eq_true.mp co.free y hy
 rw [hf] at q
 simpa using q
theorem CompOk.cells (co:CompOk X nv ix scope) (ok:X.Ok):∀ y∈scope.names,y.2=.free→∃ c,X.env.cells.lookup y.1=some c:=fun y hy hf=>ok.has y.1 (co.fk hy hf)
theorem CompOk.look (co:CompOk X nv ix scope) (ok:X.Ok) {n:Str} {c:Addr} (h:(clsOf X.env scope.names []).lookup n=some c):X.env.cells.lookup n=some c:=
 clsOf_look _ _ (co.cells ok) (fun _ _ e=>by cases e) n c h
theorem CompOk.ixp (co:CompOk X nv ix scope) {p:Str×Nat} (hp:p∈ix):scope.names.lookup p.1=some .free∧X.N[p.2]? = some p.1:=by
 have q:=Bool.and_eq_true_iff.mp (List.all_eq_true.mp co.ix p hp)
 exact ⟨by simpa using q.1,by simpa using q.2⟩
theorem lookup_mem {α:Type}:∀ {l:List (Str×α)} {n:Str} {k:α},l.lookup n=some k→(n,k)∈l
 | [],_,_,h=>by cases h
 | (m,j)::r,n,k,h=>by
   rw [List.lookup_cons] at h
   cases e:n == m with
   | true=>rw [e] at h;cases h;have:n=m:=by simpa using e
           rw [this];exact List.mem_cons_self
   | false=>rw [e] at h;exact List.mem_cons_of_mem _ (lookup_mem h)
theorem cmpX_ok (co:CompOk X nv ix scope) (I:Inv X pins σ H s) {fp:List Addr} {C:Addr} (hC:s.heap.objs.size≤C) (hf:∀ b∈fp,FpOk X pins H b) (hlt:∀ b∈fp,b<s.heap.objs.size):(cmpX X nv ix scope C s H fp).Ok where
 mod:=I.mod
 kind:=co.kind
 glob:=I.ok.glob
 blt:=I.ok.blt
 above:=hC
 inj:=fun x y c a b=>I.ok.inj x y c (co.look I.ok a) (co.look I.ok b)
 has:=fun x hk=>by
  have z:∃ k,(x,k)∈scope.names∧k=.free:=by
   rcases hk with hk | hk
   · obtain ⟨k,h1,_,h3⟩:=rl_look (env:=X.env) (names:=scope.names) hk
     rcases h3 with h3 | ⟨h3,_⟩
     · exact absurd h3.symm (co.nocell _ h1)
     · exact ⟨k,h1,h3⟩
   · obtain ⟨k,h1,_,h3⟩:=rl_look (env:=X.env) (names:=scope.names) hk
     rcases h3 with h3 | ⟨_,h3⟩
     · exact ⟨k,h1,h3.symm⟩
     · cases h3
  obtain ⟨k,h1,rfl⟩:=z
  exact clsOf_has _ _ x (.inl h1)
 cab:=fun x c h _=>by cases h
 hd:=I.ok.hd
 frames:=I.ok.frames
 stk:=.inl rfl
 exf:=fun b hb=>⟨Nat.ne_of_lt (Nat.lt_of_lt_of_le (hlt b hb) hC),fun x c e=>(hf b hb).2.2.2.2.1 x c (co.look I.ok e)⟩
 bs:=fun b o e=>I.bs b o e
 bsz:=Nat.le_trans I.ok.bsz I.sz
 noex:=fun b o e hb=>by
  rcases (hf b hb).2.2.2.1 with z | z
  · exact I.ok.noex b o e z
  · exact absurd (Nat.lt_of_lt_of_le (Heap.lt_size e) (Nat.le_trans I.ok.bsz z)) (Nat.lt_irrefl _)
 exfs:=fun b hb hs=>by
  rcases List.mem_cons.mp (I.stkSub b hs) with e | h
  · exact (hf b hb).2.1 e
  · exact (hf b hb).2.2.1 h
 funs:=I.stack
 frf:=I.stkFree
abbrev lobj (its:List Value) (k:Nat):Obj:={ cls:=.type "list",data:=.seq its.toArray k }
theorem join_some {o:Option (Option V)} {v:V} (h:o.join=some v):o=some (some v):=by
 cases o with
 | none=>cases h
 | some o'=>exact congrArg some h
theorem cmp_start (co:CompOk X nv ix scope) (I:Inv X pins σ H s) {fp:List Addr} {h₁:Heap} {tk:Nat} {m:Str→Option Value} (hf:∀ b∈fp,FpOk X pins H b) (hlt:∀ b∈fp,b<s.heap.objs.size)
 (hn:h₁.Ns (s.heap.objs.size+1) m) (old:∀ b o,s.heap.get? b=some o→h₁.get? b=some o) (hD:h₁.get? s.heap.objs.size=some (lobj [] 0)) :
 Inv (cmpX X nv ix scope (s.heap.objs.size+1) s H fp) [(s.heap.objs.size,lobj [] 0)] (st0 nv ix σ) H { s with heap:=h₁,toks:=tk } where
 ok:=cmpX_ok co I (Nat.le_succ _) hf hlt
 os:=rfl
 bare:=I.bare
 base:=Un.kept old
 loc:=by
  refine ⟨m,hn,fun i x v e1 e2 hv=>?_⟩
  obtain ⟨m₀,_,hl⟩:=I.loc
  have e1':(nv++ix.map (·.1))[i]? = some x:=e1
  unfold st0 at e2
  by_cases hi:i<nv.length
  · rw [List.getElem?_append_left (by rw [List.length_map];exact hi),List.getElem?_map] at e2
    cases q:nv[i]? with
    | none=>rw [q] at e2;cases e2
    | some z=>rw [q] at e2;cases e2
  · have hi':nv.length≤i:=Nat.not_lt.mp hi
    rw [List.getElem?_append_right hi',List.getElem?_map] at e1'
    rw [List.getElem?_append_right (by rw [List.length_map];exact hi'),List.length_map] at e2
    unfold frV at e2
    rw [List.getElem?_map] at e2
    cases q:ix[i - nv.length]? with
    | none=>rw [q] at e1';cases e1'
    | some p=>
      rw [q] at e1' e2
      have hp:p∈ix:=List.mem_of_getElem? q
      have ex:p.1=x:=Option.some.inj e1'
      have ev:σ[p.2]? = some (some v):=join_some (Option.some.inj e2)
      obtain ⟨f1,f2⟩:=co.ixp hp
      have hk:=co.fk (lookup_mem f1) rfl
      obtain ⟨u,r,l⟩:=hl p.2 p.1 v f2 ev (hk.elim (fun z=>.inr (.inl z)) fun z=>.inr (.inr z))
      refine ⟨u,r,.inr ⟨?_,?_⟩⟩
      · obtain ⟨k',hk'⟩:=rl_has (env:=X.env) f1
        obtain ⟨k,h1,h2,h3⟩:=rl_look hk'
        rw [f1] at h2
        cases h2
        rw [← ex]
        rcases h3 with h3 | ⟨_,h3⟩
        · exact .inr (hk'.trans (congrArg some h3))
        · exact .inl (hk'.trans (congrArg some h3))
      · obtain ⟨c,hc⟩:=clsOf_has (env:=X.env) scope.names [] p.1 (.inl (lookup_mem f1))
        refine ⟨c,by rw [← ex];exact hc,?_⟩
        have hc':=co.look I.ok hc
        rcases l with ⟨z,_⟩ | ⟨_,c',z1,o,z2,z3⟩
        · have z':X.env.kindOf p.1=some .local:=z
          rcases hk with hk | hk
          · have hk':X.env.kindOf p.1=some .cell:=hk
            rw [z'] at hk';cases hk'
          · have hk':X.env.kindOf p.1=some .free:=hk
            rw [z'] at hk';cases hk'
        · rw [hc'] at z1
          cases z1
          exact ⟨o,old _ _ z2,z3⟩
 cell:=fun x c e=>by
  obtain ⟨v,o,h1,h2⟩:=I.cell x c (co.look I.ok e)
  exact ⟨v,o,old _ _ h1,h2⟩
 free:=I.hok.fresh (Nat.le_succ _)
 freeC:=fun x c e=>I.freeC x c (co.look I.ok e)
 pin:=fun p hp=>by
  have e:p=(s.heap.objs.size,lobj [] 0):=by simpa [cmpX] using hp
  subst e
  refine ⟨hD,I.hok.fresh (Nat.le_refl _),Nat.ne_of_lt (Nat.lt_succ_self _),fun hb=>?_,fun v z=>by cases z⟩
  rcases List.mem_cons.mp (I.stkSub _ hb) with e | h
  · exact absurd I.lt (by rw [← e];exact Nat.lt_irrefl _)
  · exact I.nofs (Nat.le_refl _) h
 hok:=I.hok.kept old
 len:=by
  show (nv.map (fun _=>none)++frV σ ix).length=(nv++ix.map (·.1)).length
  unfold frV
  simp
theorem Inv.track {D:Addr} {ys its:List _} {k:Nat} (I:Inv X pins σ H s) (rv:Vals ys its) (hz:ys.length≤sizeLine) (e:s.heap.get? D=some (lobj its k)) (hn:H D=none) (hd:FpOk X pins H D):Inv X pins σ (upd H D (.lst ys)) s:=by
 have nD:∀ b u,H b=some u→b≠D:=fun b u q z=>by rw [z,hn] at q;cases q
 obtain ⟨h1,h2,h3,h4,h5,h6⟩:=hd
 refine I.step (s:=s) (h':=s.heap) (g':=s.gens) (t':=s.toks) (d':=s.drawn) (ch:=[D]) (fun b hb=>?_) (fun b o _ _ _ q _=>q) (fun b o _ _ _ q _=>⟨o.slots,q⟩) (fun b o hb _ q=>?_) (fun b o _ q=>⟨o,q⟩)
  (fun b xs q=>by rw [upd_ne (nD b _ q)];exact q) (fun b o u q=>by rw [upd_ne (nD b _ q)];exact q) (fun b ps q=>⟨#[],by rw [upd_ne (nD b _ q),q];simp⟩) (fun m hm=>hm) (fun b u q=>?_) I.bare
 · have e:b=D:=by simpa using hb
   subst e
   exact ⟨h4,h2,h5,h6⟩
 · rw [upd_ne (fun z=>hb (by simp [z]))];exact q
 · by_cases hb:b=D
   · subst hb
     rw [upd_same] at q
     cases q
     exact ⟨hz,its,k,rv,e⟩
   · rw [upd_ne hb] at q
     exact (I.hok b u q).stay (fun c v _ r=>r) (fun c r=>by rw [upd_ne (nD c _ r)];exact r) fun c xs r=>by rw [upd_ne (nD c _ r)];exact r
theorem cmp_end {ps2:List (Addr×Obj)} {σ2:St} {H':Hp} {s':Shared} {fp:List Addr} {C:Addr} (I:Inv X pins σ H s) (hf:∀ b∈fp,FpOk X pins H b) (Ic:Inv (cmpX X nv ix scope C s H fp) ps2 σ2 H' s'):Inv X pins σ H' s':=
 I.call' (ch:=fp) Ic.os Ic.base Ic.hok Ic.bare fun b hb=>⟨(hf b hb).2.2.2.1,(hf b hb).2.1,(hf b hb).2.2.2.2.1,(hf b hb).2.2.2.2.2⟩
def PIf (X:Cx) (ifs:List Expr) (t:TT):Prop:=
 ∀ (pins:List (Addr×Obj)) (s:Shared) (σ:St) (H:Hp) (Q:Bool→Hp→Prop),Inv X pins σ H s→t σ H Q →
   wpAny (model X.prog X.w) X.A (forIn ifs true fun c r=>if r=true then do let ok ← isTrue c X.env (eval c X.env);pure (ForInStep.yield ok) else pure (ForInStep.yield r)) (TP X pins σ Q) X.xe s
@[irreducible] def ZIf (X:Cx) (ifs:List Expr) (t:TT):Prop:=PIf X ifs t
def tYes:TT:=fun _ H Q=>Q true H
theorem pif_nil:PIf X [] tYes:=fun _ _ _ H _ I h=>wpAny_tests_nil ⟨H,I,h⟩
theorem zif_nil:ZIf X [] tYes:=by with_unfolding_all exact pif_nil
theorem pif_one {c:Expr} {t:TT} (h:PT X c t):PIf X [c] t:=fun pins s σ H Q I q=>wpAny_tests_one (h pins s σ H Q I q)
theorem zif_one {c:Expr} {t:TT} (h:ZT X c t):ZIf X [c] t:=by with_unfolding_all exact pif_one h
end
section
variable {prog:Program} {w:World} {A:Around} {E:Value→Shared→Prop} {R:Result→Shared→Prop} {s:Shared}
theorem compLoop_go {elt target iter:Expr} {ifs:List Expr} {scope:Scope} {pos:Pos} {it acc:Value} {env:Env} (I:Nat→Shared→Prop)
 (turn:∀ n s,I n s→wpAny (model prog w) A (pyNext it) (fun r s₁=>match r with
   | none=>R (.ok .next) s₁
   | some v=>wpAny (model prog w) A (letOwnedTupleGo target it v) (fun _ s₁'=>wpAny (model prog w) A (assign target env v) (fun _ s₂=>
    wpAny (model prog w) A (forIn ifs true fun c r=>if r=true then do let ok ← isTrue c env (eval c env);pure (ForInStep.yield ok) else pure (ForInStep.yield r)) (fun ok s₃=>
     if ok=true then wpAny (model prog w) A (eval elt env) (fun x s₄=>
      wpAny (model prog w) A (call (.builtin "list.append") [acc,x]) (fun _ s₅=>∃ m,m<n∧I m s₅) (fun _ _=>False) s₄) (fun _ _=>False) s₃
     else ∃ m,m<n∧I m s₃) (fun _ _=>False) s₂) (fun _ _=>False) s₁') (fun _ _=>False) s₁) (fun _ _=>False) s)
 (n:Nat) (h:I n s) :
 codeAny (model prog w) A (.compLoop (.ListComp elt [⟨target,iter,ifs,0⟩] scope pos) 0 it acc env) R s:=by
 refine codeAny_loop rfl I (fun n s hI=>?_) n h
 show wpAny _ A ((compTurn (.ListComp elt [⟨target,iter,ifs,0⟩] scope pos) 0 it acc env).onRaise (fun x=>do noteFrame x env;theTreesLotGoes x)) _ _ s
 refine wpAny_noted ?_
 rw [compTurn_list]
 refine wpAny_bind (wpAny_standAt (wpAny_bind (wpAny_mono (turn n s hI) (fun r s₁ h₁=>?_) fun _ _ h'=>h'.elim)))
 cases r with
 | none=>exact wpAny_pure h₁
 | some v=>
   refine wpAny_bind (wpAny_mono h₁ (fun _ s₁' h₁'=>?_) fun _ _ h'=>h'.elim)
   refine wpAny_bind (wpAny_mono h₁' (fun _ s₂ h₂=>wpAny_bind (wpAny_mono h₂ (fun ok s₃ h₃=>?_) fun _ _ h'=>h'.elim)) fun _ _ h'=>h'.elim)
   cases ok with
   | false=>exact wpAny_pure ⟨rfl,h₃⟩
   | true=>
     exact wpAny_bind (wpAny_bind (wpAny_mono h₃ (fun x s₄ h₄=>wpAny_bind (wpAny_mono h₄ (fun _ s₅ h₅=>wpAny_pure (wpAny_pure ⟨rfl,h₅⟩)) fun _ _ h'=>h'.elim)) fun _ _ h'=>h'.elim))
end
section
variable {X:Cx} {nv:List Str} {ix:List (Str×Nat)} {scope:Scope} {pins:List (Addr×Obj)} {σ:St} {H:Hp} {s:Shared} {elt tg iter:Expr} {ifs:List Expr} {pos:Pos}
def Kp (σ σ2:St):Prop:=σ.length=σ2.length∧∀ (i:Nat) v,σ[i]? = some (some v)→σ2[i]? = some (some v)
def KpG (nv:List Str) (g:TG):Prop:=∀ (fr:St) (v:V) (H:Hp) (Q:St→Hp→Prop),g v (nv.map (fun _=>none)++fr) H Q→g v (nv.map (fun _=>none)++fr) H fun σ2 H2=>Kp (nv.map (fun _=>none)++fr) σ2∧Q σ2 H2
theorem kpg_name {x:Str}:KpG [x] (gName 0):=fun fr v H Q h=>by
 refine ⟨⟨by simp,fun i w e=>?_⟩,h⟩
 cases i with
 | zero=>cases e
 | succ i=>exact e
def CmpW (nv:List Str) (ix:List (Str×Nat)) (g:TG) (ti:TT) (te:TE) (σ:St) (J:It) (Fin:List V→Hp→Prop) (H1:Hp):Prop:=
 ∃ W:Nat→Nat→List V→Hp→Prop,(∃ m,W 0 m [] H1)∧∀ i m ys H,W i m ys H →
   (J.stop i H∧Fin ys H)∨(J.go i H∧ys.length<sizeLine∧∃ N:List V→Hp→Prop,(∀ ys' H',N ys' H'→∃ m',m' < m∧W (i+1) m' ys' H') ∧
     ∀ x H',J.yld i H x H'→g x (st0 nv ix σ) H' fun σ2 H2=>ti σ2 H2 fun b H3=>if b=true then te σ2 H3 fun y H4=>N (ys++[y]) H4 else N ys H3)
theorem comp_run {J:It} {fp:List Addr} {it:Addr} {tn:Nat→Heap→Prop} {g:TG} {ti:TT} {te:TE} {Fin:List V→Hp→Prop} {E:Value→Shared→Prop} {RR:Value→Addr→Result→Shared→Prop}
 (co:CompOk X nv ix scope) (hc:X.calm=true) (I:Inv X pins σ H s) (T:Turn X.prog X.w X.K tg J fp it tn) (st:tn 0 s.heap) (hf:∀ b∈fp,FpOk X pins H b)
 (kg:KpG nv g) (hg:∀ C s₀ H₀ fp,PG (cmpX X nv ix scope C s₀ H₀ fp) tg g) (hi:∀ C s₀ H₀ fp,PIf (cmpX X nv ix scope C s₀ H₀ fp) ifs ti) (he:∀ C s₀ H₀ fp,PE (cmpX X nv ix scope C s₀ H₀ fp) elt te)
 (q:CmpW nv ix g ti te σ J Fin H)
 (fin:∀ D C s' H' ys,Inv X pins σ (upd H' D (.lst ys)) s'→H' D=none→Fin ys H'→(∃ m,s'.heap.Ns C m)→FpOk X pins (upd H' D (.lst ys)) C→RR (.ref D) C (.ok .next) s') :
 wpAny (model X.prog X.w) X.A (newList []) (fun acc s₃=>wpAny (model X.prog X.w) X.A (newFunctionEnv scope X.env.globals (clsOf X.env scope.names []) [] X.env.qual none .none (some X.env)) (fun cenv s₄=>
  codeAny (model X.prog X.w) X.A (.compStart (.ListComp elt [⟨tg,iter,ifs,0⟩] scope pos) 0 (.ref it) acc { cenv with scope:=relabel scope X.env }) (RR acc cenv.locals) s₄) E s₃) E s:=by
 obtain ⟨W,⟨m0,w0⟩,turn⟩:=q
 refine wpAny_newObj_type (wpAny_newFunctionEnv co.nocell (by intro y hy;simp at hy) (fun h₁ hns₁ hsb₁=>?_) co.kind)
 dsimp only at hns₁ hsb₁ ⊢
 generalize hH2:s.heap.push { cls:=.type "list",dict:=none,data:=.seq ([]:List Value).toArray }=H2 at hns₁ hsb₁ ⊢
 have hC:H2.objs.size=s.heap.objs.size+1:=by rw [← hH2,Heap.size_push]
 rw [hC] at hns₁ hsb₁ ⊢
 have hDC:s.heap.objs.size≠s.heap.objs.size+1:=Nat.ne_of_lt (Nat.lt_succ_self _)
 have below:∀ b,b<s.heap.objs.size→b≠s.heap.objs.size+1∧b≠s.heap.objs.size:=fun b hb=>⟨Nat.ne_of_lt (Nat.lt_succ_of_lt hb),Nat.ne_of_lt hb⟩
 have old:∀ b o,s.heap.get? b=some o→h₁.get? b=some o:=fun b o e=>hsb₁.extBut b o (below b (Heap.lt_size e)).1 (Heap.get?_push_of_some _ (hH2▸Heap.get?_push_of_some _ e))
 have hacc:h₁.get? s.heap.objs.size=some (lobj [] 0):=hsb₁.extBut _ _ hDC (Heap.get?_push_of_some _ (hH2▸Heap.get?_push_size _ rfl))
 have hlt:∀ b∈fp,b<s.heap.objs.size:=fun b hb=>by
  obtain ⟨o,e,_⟩:=T.obj 0 _ st b hb
  exact Heap.lt_size e
 have I₁:=fun tk=>cmp_start (tk:=tk) co I hf hlt hns₁ old hacc
 have st₁:tn 0 h₁:=T.keep 0 _ _ st fun b _ o e=>old b o e
 have fpD:∀ {H':Hp},H' s.heap.objs.size=none→FpOk X pins H' s.heap.objs.size:=fun hn=>I.fpOk (Nat.le_refl _) hn
 have loop:∀ tk:Nat,codeAny (model X.prog X.w) X.A (.compLoop (.ListComp elt [⟨tg,iter,ifs,0⟩] scope pos) 0 (.ref it) (.ref s.heap.objs.size) (compEnvC scope (clsOf X.env scope.names []) (s.heap.objs.size+1) X.env))
  (RR (.ref s.heap.objs.size) (s.heap.objs.size+1)) { s with heap:=h₁,toks:=tk }:=by
  intro tk
  refine compLoop_go (fun n s'=>∃ i H' ys its k,Inv (cmpX X nv ix scope (s.heap.objs.size+1) s H fp) [(s.heap.objs.size,lobj its k)] (st0 nv ix σ) H' s'∧Vals ys its∧ys.length≤sizeLine∧tn i s'.heap∧(∀ b∈fp,H' b=none)∧W i n ys H')
   ?_ m0 ⟨0,H,[],[],0,I₁ tk,.nil,Nat.zero_le _,st₁,fun b hb=>(hf b hb).1,w0⟩
  rintro n s3 ⟨i,H3,ys,its,k,I3,rv,hz,st3,fr3,w3⟩
  have fpc:∀ {H':Hp} {its:List Value} {k:Nat},(∀ b∈fp,H' b=none)→∀ b∈fp,FpOk (cmpX X nv ix scope (s.heap.objs.size+1) s H fp) [(s.heap.objs.size,lobj its k)] H' b:=fun {H' its k} hn b hb=>by
   refine ⟨hn b hb,(below b (hlt b hb)).1,fun hs=>?_,.inl hb,fun x c e=>(hf b hb).2.2.2.2.1 x c (co.look I.ok e),fun p hp z=>?_⟩
   · rcases List.mem_cons.mp (I.stkSub b hs) with e | h
     · exact (hf b hb).2.1 e
     · exact (hf b hb).2.2.1 h
   · have e:p=(s.heap.objs.size,lobj its k):=by simpa [cmpX] using hp
     subst e
     exact (below b (hlt b hb)).2 z.symm
  have pD:=fun {ps:List (Addr×Obj)} {σ':St} {H':Hp} {s':Shared} (I':Inv (cmpX X nv ix scope (s.heap.objs.size+1) s H fp) ((s.heap.objs.size,lobj its k)::ps) σ' H' s')=>
   I'.pin (s.heap.objs.size,lobj its k) (List.mem_append_right _ List.mem_cons_self)
  rcases turn i n ys H3 w3 with ⟨stop,fin0⟩ | ⟨go,hlt',N,hN,step⟩
  · refine thn (T.done (cmpX X nv ix scope (s.heap.objs.size+1) s H fp) rfl rfl rfl hc i _ s3 _ H3 _ I3 (fpc fr3) st3 stop) fun r s4 ⟨hr,I4⟩=>?_
    subst hr
    obtain ⟨p1,p2,_⟩:=pD I4
    have I5:=(cmp_end I hf I4).track rv hz p1 p2 (fpD p2)
    obtain ⟨mC,hmC,_⟩:=I4.loc
    exact fin _ _ s4 H3 ys I5 p2 fin0 ⟨mC,hmC⟩ (I.fpOk (Nat.le_succ _) (by rw [upd_ne (Ne.symm hDC)];exact I4.free))
  · refine thn (T.item (cmpX X nv ix scope (s.heap.objs.size+1) s H fp) rfl rfl rfl hc i _ s3 _ H3 _ I3 (fpc fr3) st3 go) fun r s4 ⟨u,hr,h4⟩=>?_
    subst hr
    refine thn h4 fun _ s5 ⟨x,H5,I5,r5,y5,st5,fr5⟩=>?_
    have I5':=I5.pinned (fpc fr5) (T.obj _ _ st5)
    refine thn (hg _ _ _ _ _ s5 _ H5 x u _ I5' r5 (kg _ _ _ _ (step x H5 y5))) fun _ s6 ⟨σ6,H6,I6,kp,q6⟩=>?_
    refine thn (hi _ _ _ _ _ s6 σ6 H6 _ I6 q6) fun b s7 ⟨H7,I7,q7⟩=>?_
    have again:∀ {s7:Shared} {H7:Hp} {ys' its':List _} {k':Nat},Inv (cmpX X nv ix scope (s.heap.objs.size+1) s H fp) ([(s.heap.objs.size,lobj its' k')]++pinsAt fp s5.heap) σ6 H7 s7→Vals ys' its'→ys'.length≤sizeLine→N ys' H7 →
     ∃ m,m<n∧∃ i H' ys its k,Inv (cmpX X nv ix scope (s.heap.objs.size+1) s H fp) [(s.heap.objs.size,lobj its k)] (st0 nv ix σ) H' s7∧Vals ys its∧ys.length≤sizeLine∧tn i s7.heap∧(∀ b∈fp,H' b=none)∧W i m ys H':=fun {s7 H7 ys' its' k'} I8 rv' hz' n8=>by
     obtain ⟨m',hm,w8⟩:=hN _ _ n8
     have pn:=fun (b:Addr) (o:Obj) (hb:b∈fp) (e:s5.heap.get? b=some o)=>I8.pin (b,o) (List.mem_append_right _ (List.mem_append_right _ (mem_pinsAt hb e)))
     refine ⟨m',hm,i+1,H7,ys',its',k',(I8.unpinned).weak kp.1 kp.2,rv',hz',T.keep _ _ _ st5 fun b hb o e=>(pn b o hb e).1,fun b hb=>?_,w8⟩
     obtain ⟨o,e,d⟩:=T.obj _ _ st5 b hb
     exact (pn b o hb e).2.1
    cases b with
    | false=>
      rw [if_neg Bool.false_ne_true] at q7 ⊢
      exact again I7 rv hz q7
    | true=>
      rw [if_pos rfl] at q7 ⊢
      refine thn (he _ _ _ _ _ s7 σ6 H7 _ I7 q7) fun u8 s8 ⟨y,H8,I8,r8,q8⟩=>?_
      obtain ⟨p1,p2,p3,p4,p5⟩:=pD I8
      refine append_at (hsz:=by rw [List.size_toArray,← rv.length];exact Nat.le_of_lt hlt') p1 fun h9 hs9 hD9=>?_
      have I9:Inv (cmpX X nv ix scope (s.heap.objs.size+1) s H fp) (pinsAt fp s5.heap) σ6 H8 { s8 with heap:=h9 }:=by
       have Iu:Inv (cmpX X nv ix scope (s.heap.objs.size+1) s H fp) (pinsAt fp s5.heap) σ6 H8 s8:=I8.pins_of fun p hp=>I8.pin p (List.mem_append_right _ (List.mem_append_right _ hp))
       refine Iu.turned (t':=s8.toks) (it:=s.heap.objs.size) (fun b o hb e=>(hs9.2 b hb).trans e) p2 p3 (.inr (Nat.le_refl _)) (fun x c e z=>?_) fun p hp z=>?_
       · obtain ⟨v,o,e1,_⟩:=I.cell x c (co.look I.ok e)
         exact absurd (Heap.lt_size e1) (by rw [z];exact Nat.lt_irrefl _)
       · have hp':p∈pinsAt fp s5.heap:=by simpa [cmpX] using hp
         obtain ⟨hb,_⟩:=of_pinsAt hp'
         exact (below _ (hlt _ hb)).2 z
      have I10:Inv (cmpX X nv ix scope (s.heap.objs.size+1) s H fp) ([(s.heap.objs.size,lobj (its++[u8]) (k+1))]++pinsAt fp s5.heap) σ6 H8 { s8 with heap:=h9 }:=
       I9.pins_of fun p hp=>by
        rcases List.mem_append.mp hp with hp | hp
        · have e:p=(s.heap.objs.size,lobj (its++[u8]) (k+1)):=by simpa using hp
          subst e
          refine ⟨?_,p2,p3,p4,fun v z=>by cases z⟩
          rw [List.push_toArray] at hD9
          exact hD9
        · exact I9.pin p (List.mem_append_right _ hp)
      exact again I10 (rv.append (.cons r8 .nil)) (by rw [List.length_append,List.length_singleton];exact hlt') q8
 exact codeAny_compStart_list (loop _) (T.self _ 0 _ _ _ st₁ (loop _))
def tComp (nv:List Str) (ix:List (Str×Nat)) (wi:TI) (g:TG) (ti:TT) (te:TE):TE:=fun σ H Q=>wi σ H fun J H1=>CmpW nv ix g ti te σ J (fun ys H2=>∀ D,H2 D=none→Q (.ref D) (upd H2 D (.lst ys))) H1
theorem pe_comp {wi:TI} {g:TG} {ti:TT} {te:TE} (nv:List Str) (ix:List (Str×Nat)) (hc:X.calm=true) (co:CompOk X nv ix scope) (hit:PI X tg iter wi) (kg:KpG nv g) (hg:∀ C s₀ H₀ fp,PG (cmpX X nv ix scope C s₀ H₀ fp) tg g)
 (hi:∀ C s₀ H₀ fp,PIf (cmpX X nv ix scope C s₀ H₀ fp) ifs ti) (he:∀ C s₀ H₀ fp,PE (cmpX X nv ix scope C s₀ H₀ fp) elt te)
 (hs:∀ x,foldedSetIterable iter X.env x=pure x:=by intro _;rfl):PE X (.ListComp elt [⟨tg,iter,ifs,0⟩] scope pos) (tComp nv ix wi g ti te):=by
 intro pins s σ H Q I h
 rw [eval_ListComp]
 refine wpAny_comprehension_free (use:=none) rfl hs (closure_ok (co.cells I.ok)) co.kind co.names (thn (hit pins s σ H _ I h) fun v s1 h1=>thn h1 fun itv s2 h2=>?_)
 obtain ⟨it,fp,tn,J,H2,e,I2,T,st2,f2,q⟩:=h2
 subst e
 refine comp_run co hc I2 T st2 f2 kg hg hi he q fun D C s' H' ys I' hD fin ⟨m,hm⟩ hC=>?_
 obtain ⟨c0,c1,c2,c3,c4,c5⟩:=hC
 exact ⟨m,hm,fun h' hs'=>⟨.ref D,_,I'.turned (t':=s'.toks) (fun b o hb e=>(hs'.2 b hb).trans e) c0 c1 c3 c4 c5,rfl,fin D hD⟩⟩
theorem ze_comp {wi:TI} {g:TG} {ti:TT} {te:TE} (nv:List Str) (ix:List (Str×Nat)) (hc:X.calm=true) (co:CompOk X nv ix scope) (hit:ZI X tg iter wi) (kg:KpG nv g) (hg:∀ C s₀ H₀ fp,ZG (cmpX X nv ix scope C s₀ H₀ fp) tg g)
 (hi:∀ C s₀ H₀ fp,ZIf (cmpX X nv ix scope C s₀ H₀ fp) ifs ti) (he:∀ C s₀ H₀ fp,ZE (cmpX X nv ix scope C s₀ H₀ fp) elt te)
 (hs:∀ x,foldedSetIterable iter X.env x=pure x:=by intro _;rfl):ZE X (.ListComp elt [⟨tg,iter,ifs,0⟩] scope pos) (tComp nv ix wi g ti te):=by with_unfolding_all exact pe_comp nv ix hc co hit kg hg hi he hs
theorem ps_setcomp {wi:TI} {g:TG} {ti:TT} {te:TE} {i:Nat} {y:Str} {py spos:Pos} (nv:List Str) (ix:List (Str×Nat)) (hc:X.calm=true) (hN:X.N.Nodup) (hi':X.N[i]? = some y) (hy:Loc X.env.scope y) (co:CompOk X nv ix scope) (hit:PI X tg iter wi) (kg:KpG nv g)
 (hg:∀ C s₀ H₀ fp,PG (cmpX X nv ix scope C s₀ H₀ fp) tg g) (hi:∀ C s₀ H₀ fp,PIf (cmpX X nv ix scope C s₀ H₀ fp) ifs ti) (he:∀ C s₀ H₀ fp,PE (cmpX X nv ix scope C s₀ H₀ fp) elt te)
 (hsw:swapsWith (.ListComp elt [⟨tg,iter,ifs,0⟩] scope pos) (some (.Name y py)) spos.line X.env=pure true:=by rfl)
 (hs:∀ x,foldedSetIterable iter X.env x=pure x:=by intro _;rfl) (hfn:X.fn y=true∨X.env.scope.names.lookup y=some .local:=by first | exact .inl rfl | exact .inr rfl | assumption) :
 PS X (.Assign [.Name y py] (.ListComp elt [⟨tg,iter,ifs,0⟩] scope pos) spos) (tAsg (tComp nv ix wi g ti te) (gName i)):=by
 intro pins s σ H D I h
 rw [exec_Assign_Name_used _ _ _ _ hsw]
 refine wpAny_bind (wpAny_standAt (wpAny_bind ?_))
 show wpAny _ X.A (do let _ ← comprehension (.ListComp elt [⟨tg,iter,ifs,0⟩] scope pos) scope X.env _ (newList []) false (eval iter X.env) (some (assign (.Name y py) X.env))) _ _ s
 refine wpAny_bind (wpAny_mono (wpAny_comprehension_free (use:=some (assign (.Name y py) X.env)) (Q:=fun _ s'=>SP X pins D .next s') rfl hs (closure_ok (co.cells I.ok)) co.kind co.names
  (thn (hit pins s σ H _ I h) fun v s1 h1=>thn h1 fun itv s2 h2=>?_)) (fun _ s' hq=>wpAny_pure (wpAny_pure hq)) fun _ _ e=>e)
 obtain ⟨it,fp,tn,J,H2,e,I2,T,st2,f2,q⟩:=h2
 subst e
 refine comp_run co hc I2 T st2 f2 kg hg hi he q fun DD C s' H' ys I' hD fin ⟨m,hm⟩ hC=>?_
 obtain ⟨c0,c1,c2,c3,c4,c5⟩:=hC
 show wpAny _ X.A (assign (.Name y py) X.env (.ref DD)) _ _ s'
 refine wpAny_assign_Name (store_ok2 I' hN hi' hy (show RelV (.ref DD) (.ref DD) from rfl) (fun s'' I'' ⟨a,sb,ha⟩=>?_) hfn)
 have hCa:C≠a:=by
  rcases ha with rfl | ha
  · exact c1
  · exact fun z=>c4 y a ha z.symm
 refine ⟨m,hm.sameBut sb hCa,fun h' hs'=>⟨_,_,I''.turned (t':=s''.toks) (fun b o hb e=>(hs'.2 b hb).trans e) c0 c1 c3 c4 c5,fin DD hD⟩⟩
theorem zs_setcomp {wi:TI} {g:TG} {ti:TT} {te:TE} {i:Nat} {y:Str} {py spos:Pos} (nv:List Str) (ix:List (Str×Nat)) (hc:X.calm=true) (hN:X.N.Nodup) (hi':X.N[i]? = some y) (hy:Loc X.env.scope y) (co:CompOk X nv ix scope) (hit:ZI X tg iter wi) (kg:KpG nv g)
 (hg:∀ C s₀ H₀ fp,ZG (cmpX X nv ix scope C s₀ H₀ fp) tg g) (hi:∀ C s₀ H₀ fp,ZIf (cmpX X nv ix scope C s₀ H₀ fp) ifs ti) (he:∀ C s₀ H₀ fp,ZE (cmpX X nv ix scope C s₀ H₀ fp) elt te)
 (hsw:swapsWith (.ListComp elt [⟨tg,iter,ifs,0⟩] scope pos) (some (.Name y py)) spos.line X.env=pure true:=by rfl)
 (hs:∀ x,foldedSetIterable iter X.env x=pure x:=by intro _;rfl) (hfn:X.fn y=true∨X.env.scope.names.lookup y=some .local:=by first | exact .inl rfl | exact .inr rfl | assumption) :
 ZS X (.Assign [.Name y py] (.ListComp elt [⟨tg,iter,ifs,0⟩] scope pos) spos) (tAsg (tComp nv ix wi g ti te) (gName i)):=by with_unfolding_all exact ps_setcomp nv ix hc hN hi' hy co hit kg hg hi he hsw hs hfn
end
section
variable {nv:List Str} {ix:List (Str×Nat)} {σ:St} {H:Hp} {g:TG} {ti:TT} {te:TE} {Fin:List V→Hp→Prop} {K:PySem.W.Frag} {a:Addr} {xs:List V}
theorem cmp_list (Pv:Nat→List V→Hp→Prop) (h0:Pv 0 [] H) (hl:∀ i ys H,i≤xs.length→Pv i ys H→SqL K H a xs)
 (hs:∀ i x ys H,xs[i]? = some x→Pv i ys H→ys.length<sizeLine∧g x (st0 nv ix σ) H fun σ2 H2=>ti σ2 H2 fun b H3=>if b=true then te σ2 H3 fun y H4=>Pv (i+1) (ys++[y]) H4 else Pv (i+1) ys H3)
 (hd:∀ ys H,Pv xs.length ys H→Fin ys H):CmpW nv ix g ti te σ (Itl K a) Fin H:=by
 refine ⟨fun i m ys H=>m=xs.length - i∧i≤xs.length∧Pv i ys H,⟨xs.length,by simp,Nat.zero_le _,h0⟩,?_⟩
 rintro i m ys H ⟨rfl,hi,p⟩
 have q:=hl i ys H hi p
 by_cases hlt:i<xs.length
 · have e:=hs i xs[i] ys H (by simp [hlt]) p
   refine .inr ⟨⟨xs,xs[i],q,by simp [hlt]⟩,e.1,Pv (i+1),fun σ' H' p'=>⟨xs.length - (i+1),by omega,rfl,hlt,p'⟩,fun x H' y=>?_⟩
   obtain ⟨e',y⟩:=y
   subst e'
   exact (hs i x ys _ (y xs q) p).2
 · have e:i=xs.length:=by omega
   subst e
   exact .inl ⟨⟨xs,q,Nat.le_refl _⟩,hd ys H p⟩
theorem cmp_tup (Pv:Nat→List V→Hp→Prop) (h0:Pv 0 [] H) (hl:∀ i ys H,i≤xs.length→Pv i ys H→SqT K H a xs)
 (hs:∀ i x ys H,xs[i]? = some x→Pv i ys H→ys.length<sizeLine∧g x (st0 nv ix σ) H fun σ2 H2=>ti σ2 H2 fun b H3=>if b=true then te σ2 H3 fun y H4=>Pv (i+1) (ys++[y]) H4 else Pv (i+1) ys H3)
 (hd:∀ ys H,Pv xs.length ys H→Fin ys H):CmpW nv ix g ti te σ (Itt K a) Fin H:=by
 refine ⟨fun i m ys H=>m=xs.length - i∧i≤xs.length∧Pv i ys H,⟨xs.length,by simp,Nat.zero_le _,h0⟩,?_⟩
 rintro i m ys H ⟨rfl,hi,p⟩
 have q:=hl i ys H hi p
 by_cases hlt:i<xs.length
 · have e:=hs i xs[i] ys H (by simp [hlt]) p
   refine .inr ⟨⟨xs,xs[i],q,by simp [hlt]⟩,e.1,Pv (i+1),fun σ' H' p'=>⟨xs.length - (i+1),by omega,rfl,hlt,p'⟩,fun x H' y=>?_⟩
   obtain ⟨e',y⟩:=y
   subst e'
   exact (hs i x ys _ (y xs q) p).2
 · have e:i=xs.length:=by omega
   subst e
   exact .inl ⟨⟨xs,q,Nat.le_refl _⟩,hd ys H p⟩
theorem cmp_range {lo:Int} {n:Nat} (Pv:Nat→List V→Hp→Prop) (h0:Pv 0 [] H)
 (hs:∀ i ys H,i<n→Pv i ys H→ys.length<sizeLine∧g (.int (lo+i)) (st0 nv ix σ) H fun σ2 H2=>ti σ2 H2 fun b H3=>if b=true then te σ2 H3 fun y H4=>Pv (i+1) (ys++[y]) H4 else Pv (i+1) ys H3)
 (hd:∀ ys H,Pv n ys H→Fin ys H):CmpW nv ix g ti te σ (Itr lo n) Fin H:=by
 refine ⟨fun i m ys H=>m=n - i∧i≤n∧Pv i ys H,⟨n,by simp,Nat.zero_le _,h0⟩,?_⟩
 rintro i m ys H ⟨rfl,hi,p⟩
 by_cases hlt:i<n
 · refine .inr ⟨hlt,(hs i ys H hlt p).1,Pv (i+1),fun σ' H' p'=>⟨n - (i+1),by omega,rfl,hlt,p'⟩,fun x H' y=>?_⟩
   obtain ⟨e',y⟩:=y
   subst e' y
   exact (hs i ys _ hlt p).2
 · have e:i=n:=by omega
   subst e
   exact .inl ⟨Nat.le_refl _,hd ys H p⟩
end
theorem Same.new {H:Hp} {p:Addr} (h:H p=none) (o:HO):Same H (upd H p o):=fun b u q=>by rw [upd_ne (ne_of_none q h)];exact q
section
variable {X:Cx} {a b c:Expr} {ta tb tc:TE} {pos:Pos}
theorem op_mulB:OpR X (binaryOp .Mult) (rI (fun i j=>IntMulOk i j) fun i j=>.int (i*j)):=opI fun _ _ _ _ _ _ _ hc q=>mul_int q hc
end
section
variable {prog:Program} {w:World} {A:Around} {E:Value→Shared→Prop} {s:Shared}
theorem getItem_tuple_whole {t sl:Addr} {items:Array Value} {vl vu:Value} {lo hi:Option Int} {Q:Value→Shared→Prop} (ht:IsTup s.heap t items) (hs:s.heap.IsSliceOf sl vl vu .none) (pl:IsPart vl lo) (pu:IsPart vu hi)
 (hw:HT.sIx items.size 0 lo=0∧HT.sIx items.size items.size hi=items.size)
 (h:Q (.ref t) s):wpAny (model prog w) A (getItem (.ref t) (.ref sl)) Q E s:=by
 obtain ⟨os,hos,hcs,hds⟩:=id hs
 have hTs:s.TypeIs (.ref sl) "slice":=⟨os,hos,hcs⟩
 unfold getItem
 try with_reducible refine wpAny_holding ?_
 first | refine wpAny_bind (wpAny_pure ?_) | skip
 refine wpAny_bind (wpAny_sequenceKey ht.typeIs (by decide) ?_)
 refine wpAny_bind (wpAny_callSpecial?_slot (name:=Str.ofString "__getitem__") ht.typeIs PyProof.Rows.slot_tuple_getitem
  (wpAny_call_entry PyProof.Rows.slot_tuple_getitem ht.typeIs entry_tuple_getitem ?_ (args_tuple_getitem _ _)))
 show wpAny _ _ (Builtin.Tuple.tupleItemsOf (.ref t) >>= _) _ _ s
 refine wpAny_bind (tupleItemsOf_ ht ?_)
 refine wpAny_bind (wpAny_typeOf hTs ?_)
 rw [if_pos (by decide)]
 refine wpAny_bind (HT.sliceApplied_gen hs pl pu ?_)
 have hyes:((((HT.sIx items.size 0 lo:Nat):Int) == 0&&(1:Int) == 1&&(HT.sIx items.size items.size hi - HT.sIx items.size 0 lo) == items.size)=true):=by
  rw [hw.1,hw.2]
  simp
 show wpAny _ _ (if (((HT.sIx items.size 0 lo:Nat):Int) == 0&&(1:Int) == 1&&(HT.sIx items.size items.size hi - HT.sIx items.size 0 lo) == items.size)=true then _ else _) _ _ s
 rw [if_pos hyes]
 refine wpAny_bind (m:=Builtin.Tuple.tupleIsExact _) ?_
 unfold Builtin.Tuple.tupleIsExact
 refine wpAny_bind (wpAny_typeOf ht.typeIs (wpAny_pure ?_))
 rw [if_pos (by decide)]
 exact wpAny_bind (wpAny_rule (wpAny_pure ⟨_,rfl,wpAny_pure h⟩))
end
section
variable {X:Cx} {a b c:Expr} {ta tb tc:TE} {pos:Pos}
def rSlP (K:PySem.W.Frag):V→Option Int→Option Int→Hp→VK→Prop:=fun x lo hi H Q=>∃ a,x=.ref a∧((∃ xs,H a=some (.tup xs)∧∀ r H',Same H H'→H' r=some (.tup (cutV xs lo hi))→Q (.ref r) H') ∨
 ∃ xs,SqL K H a xs∧∀ p,H p=none→Q (.ref p) (upd H p (.lst (cutV xs lo hi))))
theorem sl_P:SlR X (rSlP X.K):=by
 intro pins s σ H x v vl vu lo hi sl Q I rx hs pl pu h
 obtain ⟨a,rfl,⟨xs,hx,q⟩ | ⟨xs,hx,q⟩⟩:=h
 · by_cases hw:HT.sIx xs.length 0 lo=0∧HT.sIx xs.length xs.length hi=xs.length
   · cases rx
     obtain ⟨its,r,ht,hz⟩:=I.tuple (SqT.of hx)
     have hlen:its.toArray.size=xs.length:=by rw [List.size_toArray];exact r.length.symm
     refine ⟨"tuple",_,PyProof.Rows.slot_tuple_getitem.lookup,ht.typeIs,?_⟩
     refine getItem_tuple_whole ht hs pl pu (by rw [hlen];exact hw) ⟨.ref a,H,I,rfl,q a H (Same.refl H) ?_⟩
     rw [hx]
     unfold cutV
     rw [hw.1,hw.2,List.drop_zero,Nat.sub_zero,List.take_of_length_le (Nat.le_refl _)]
   · exact sl_tup pins s σ H _ v vl vu lo hi sl Q I rx hs pl pu ⟨a,xs,rfl,SqT.of hx,hw,fun p hp=>q p _ (Same.new hp _) upd_same⟩
 · exact sl_list pins s σ H _ v vl vu lo hi sl Q I rx hs pl pu ⟨a,xs,rfl,hx,q⟩
theorem PE.imp {e:Expr} {t t':TE} (h:PE X e t) (i:∀ σ H Q,t' σ H Q→t σ H Q):PE X e t':=fun pins s σ H Q I q=>h pins s σ H Q I (i σ H Q q)
theorem OpR.imp {f:Value→Value→Sem Value} {r r':R2} (h:OpR X f r) (i:∀ x y H Q,r' x y H Q→r x y H Q):OpR X f r':=fun pins s σ H x y v u Q I rx ry q=>h pins s σ H x y v u Q I rx ry (i x y H Q q)
def tV (i:Nat):TE:=fun σ H Q=>match σ[i]? with | some (some v)=>Q v H | _=>False
theorem tV_var {i:Nat} (σ:St) (H:Hp) (Q:VK) (h:tV i σ H Q):tVar i σ H Q:=by
 unfold tV at h
 split at h
 · exact ⟨_,by assumption,h⟩
 · exact h.elim
theorem pn (i:Nat) {x:Str} {pos:Pos} (hN:X.N[i]? = some x:=by rfl) (hv:Vis X.env.scope x:=by first | exact Or.inl rfl | exact Or.inr (Or.inl rfl) | exact Or.inr (Or.inr rfl)) (hd:(x == ("__debug__" : Str))=false:=by decide)
 (hcd:(x == ("__classdict__" : Str))=false:=by decide):PE X (.Name x pos) (tV i):=(pe_var hN hv hd hcd).imp tV_var
theorem zn (i:Nat) {x:Str} {pos:Pos} (hN:X.N[i]? = some x:=by rfl) (hv:Vis X.env.scope x:=by first | exact Or.inl rfl | exact Or.inr (Or.inl rfl) | exact Or.inr (Or.inr rfl)) (hd:(x == ("__debug__" : Str))=false:=by decide)
 (hcd:(x == ("__classdict__" : Str))=false:=by decide):ZE X (.Name x pos) (tV i):=by with_unfolding_all exact pn i hN hv hd hcd
def rAddP (K:PySem.W.Frag):R2:=fun x y H Q=>match x,y with
 | .int i,.int j=>Q (.int (i+j)) H
 | .str i,.str j=>i.length+j.length≤sizeLine∧Q (.str (i++j)) H
 | .ref a,.ref b=>(∃ xs ys,H a=some (.lst xs)∧H b=some (.lst ys)∧xs.length+ys.length≤sizeLine∧∀ p,H p=none→Q (.ref p) (upd H p (.lst (xs++ys)))) ∨
  ∃ xs ys,H a=some (.tup xs)∧H b=some (.tup ys)∧xs.length+ys.length≤sizeLine∧∀ r H',Same H H'→H' r=some (.tup (xs++ys))→Q (.ref r) H'
 | _,_=>False
theorem op_catA':OpR X (binaryOp .Add) (fun x y H Q=>∃ a b xs ys,x=.ref a∧y=.ref b∧H a=some (.tup xs)∧H b=some (.tup ys)∧xs.length+ys.length≤sizeLine∧∀ r H',Same H H'→H' r=some (.tup (xs++ys))→Q (.ref r) H'):=by
 intro pins s σ H x y v u Q I rx ry h
 obtain ⟨a,b,xs,ys,rfl,rfl,ha,hb,hz,q⟩:=h
 by_cases hx:xs=[]
 · subst hx
   cases rx
   cases ry
   obtain ⟨its,r1,p1,_⟩:=I.tuple (SqT.of ha)
   obtain ⟨its2,r2,p2,_⟩:=I.tuple (SqT.of hb)
   cases r1
   obtain ⟨⟨cls,dd,data,sl⟩,ho,hc,n,hd⟩:=id p1
   obtain ⟨⟨cls2,dd2,data2,sl2⟩,ho2,hc2,n2,hd2⟩:=id p2
   simp only at hc hd hc2 hd2
   subst hc hd hc2 hd2
   exact concat_meets ⟨_,ho,rfl⟩ ⟨_,ho2,rfl⟩ noFill_tuple_add seq_tuple_add PySem.F.slot_tuple_add PySem.F.entry_tuple_add (PySem.F.args_tuple_add_2 _ _)
    (tuple_addW0 a b _ _ n n2 dd dd2 sl sl2 (by rfl)) ⟨ho,ho2,⟨.ref b,H,I,rfl,q b H (Same.refl H) hb⟩⟩
 · refine op_catT pins s σ H _ _ v u Q I rx ry ⟨a,b,xs,ys,rfl,rfl,SqT.of ha,SqT.of hb,hx,hz,fun e=>?_,fun e p hp=>?_⟩
   · subst e
     exact q a H (Same.refl H) (by rw [List.append_nil];exact ha)
   · exact q p _ (Same.new hp _) upd_same
theorem op_addP:OpR X (binaryOp .Add) (rAddP X.K):=by
 intro pins s σ H x y v u Q I rx ry h
 unfold rAddP at h
 split at h
 · exact op_add pins s σ H _ _ v u Q I rx ry ⟨_,_,rfl,rfl,h⟩
 · exact op_add_str pins s σ H _ _ v u Q I rx ry ⟨_,_,rfl,rfl,h⟩
 · rcases h with ⟨xs,ys,h1,h2,h3,q⟩ | ⟨xs,ys,h1,h2,h3,q⟩
   · exact op_cat pins s σ H _ _ v u Q I rx ry ⟨_,_,xs,ys,rfl,rfl,h1,h2,h3,q⟩
   · exact op_catA' pins s σ H _ _ v u Q I rx ry ⟨_,_,xs,ys,rfl,rfl,h1,h2,h3,q⟩
 · exact h.elim
def rP (C:Int→Int→Prop) (g:Int→Int→V):R2:=fun x y H Q=>match x,y with | .int i,.int j=>C i j∧Q (g i j) H | _,_=>False
def rP0 (g:Int→Int→V):R2:=fun x y H Q=>match x,y with | .int i,.int j=>Q (g i j) H | _,_=>False
theorem rP_rI {C:Int→Int→Prop} {g:Int→Int→V} (x y:V) (H:Hp) (Q:VK) (h:rP C g x y H Q):rI C g x y H Q:=by
 unfold rP at h
 split at h
 · exact ⟨_,_,rfl,rfl,h⟩
 · exact h.elim
theorem rP0_rI0 {g:Int→Int→V} (x y:V) (H:Hp) (Q:VK) (h:rP0 g x y H Q):rI0 g x y H Q:=by
 unfold rP0 at h
 split at h
 · exact ⟨_,_,rfl,rfl,h⟩
 · exact h.elim
theorem op_subP:OpR X (binaryOp .Sub) (rP0 fun i j=>.int (i - j)):=op_sub.imp rP0_rI0
theorem op_modP:OpR X (binaryOp .Mod) (rP (fun _ j=>0<j) fun i j=>.int (i % j)):=op_mod.imp rP_rI
theorem op_fdivP:OpR X (binaryOp .FloorDiv) (rP CDiv fun i j=>.int (i / j)):=op_fdiv.imp rP_rI
theorem op_powP:OpR X (binaryOp .Pow) (rP CPow fun i j=>.int (i ^ j.toNat)):=op_pow.imp rP_rI
theorem op_ltP:OpR X (compareOp .Lt) (rP0 fun i j=>.bl (decide (i<j))):=op_lt.imp rP0_rI0
theorem op_leP:OpR X (compareOp .LtE) (rP0 fun i j=>.bl (decide (i≤j))):=op_le.imp rP0_rI0
theorem op_gtP:OpR X (compareOp .Gt) (rP0 fun i j=>.bl (decide (j<i))):=op_gt.imp rP0_rI0
theorem op_geP:OpR X (compareOp .GtE) (rP0 fun i j=>.bl (decide (j≤i))):=op_ge.imp rP0_rI0
def rIsP (neg:Bool):R2:=fun x y H Q=>match y with
 | .non=>Q (.bl (if neg then !decide (x=y) else decide (x=y))) H
 | .bl _=>match x with
   | .flt _=>False
   | .byt _=>False
   | .ty _=>False
   | _=>Q (.bl (if neg then !decide (x=y) else decide (x=y))) H
 | _=>False
end
mutual
inductive DatV (H:Hp):V→PyData→Prop where
 | non:DatV H .non .none
 | bl (b:Bool):DatV H (.bl b) (.bool b)
 | int (i:Int):DatV H (.int i) (.int i)
 | str (x:Str):DatV H (.str x) (.str x)
 | lst {a:Addr} {xs:List V} {ds:List PyData} (e:H a=some (.lst xs)) (r:DatAll H xs ds):DatV H (.ref a) (.list ds)
 | tup {a:Addr} {xs:List V} {ds:List PyData} (e:H a=some (.tup xs)) (r:DatAll H xs ds):DatV H (.ref a) (.tuple ds)
inductive DatAll (H:Hp):List V→List PyData→Prop where
 | nil:DatAll H [] []
 | cons {x:V} {d:PyData} {xs:List V} {ds:List PyData} (h:DatV H x d) (r:DatAll H xs ds):DatAll H (x::xs) (d::ds)
end
theorem DatAll.ints {H:Hp}:∀ ns:List Int,DatAll H (ns.map V.int) (ns.map PyData.int)
 | []=>.nil
 | n::r=>.cons (.int n) (DatAll.ints r)
section
variable {X:Cx} {pins:List (Addr×Obj)} {σ:St} {H:Hp} {s:Shared}
mutual
theorem DatV.reads (I:Inv X pins σ H s):∀ {x:V} {d:PyData} {v:Value},DatV H x d→RelV x v→∃ as,Reads s.heap v d as
 | _,_,_,.non,r=>by cases r;exact ⟨_,.none⟩
 | _,_,_,.bl b,r=>by cases r;exact ⟨_,.bool b⟩
 | _,_,_,.int i,r=>by obtain ⟨t,rfl⟩:=r;exact ⟨_,.int i t⟩
 | _,_,_,.str x,r=>by obtain ⟨t,rfl⟩:=r;exact ⟨_,.str x t⟩
 | _,_,_,.lst e q,r=>by
   cases r
   obtain ⟨_,its,n,rv,h⟩:=I.lstM e
   obtain ⟨_,h⟩:=h
   obtain ⟨as,z⟩:=DatAll.reads I q rv
   exact ⟨_,reads_list_at h rfl rfl z⟩
 | _,_,_,.tup e q,r=>by
   cases r
   obtain ⟨its,rv,⟨o,h1,h2,n,h3⟩,_⟩:=I.tuple (SqT.of e)
   obtain ⟨as,z⟩:=DatAll.reads I q rv
   exact ⟨_,reads_tuple_at h1 h2 h3 z⟩
theorem DatAll.reads (I:Inv X pins σ H s):∀ {xs:List V} {ds:List PyData} {vs:List Value},DatAll H xs ds→Vals xs vs→∃ as,ReadsAll s.heap vs ds as
 | _,_,_,.nil,r=>by cases r;exact ⟨_,.nil⟩
 | _,_,_,.cons h q,r=>by
   cases r with
   | cons r1 r2=>
     obtain ⟨as,z⟩:=DatV.reads I h r1
     obtain ⟨bs,y⟩:=DatAll.reads I q r2
     exact ⟨_,.cons z y⟩
end
end
section
variable {X:Cx} {a b c:Expr} {ta tb tc:TE} {pos:Pos}
def rEqD (neg:Bool):R2:=fun x y H Q=>match scal x y with
 | true=>Q (.bl (if neg then !decide (x=y) else decide (x=y))) H
 | false=>∃ d e,DatV H x d∧DatV H y e∧SeqAt.shaped d=true∧SeqAt.shaped e=true∧Q (.bl (if neg then !PyData.eqv d e else PyData.eqv d e)) H
theorem op_eqD (hu:X.A.units+64<cLine):OpR X (compareOp .Eq) (rEqD false):=by
 intro pins s σ H x y v u Q I rx ry h
 unfold rEqD at h
 split at h
 · exact op_eq pins s σ H x y v u Q I rx ry ⟨by assumption,h⟩
 · obtain ⟨d,e,h1,h2,h3,h4,q⟩:=h
   obtain ⟨as,r1⟩:=h1.reads I rx
   obtain ⟨bs,r2⟩:=h2.reads I ry
   exact eq_dataH r1 r2 h3 h4 hu ⟨.bl _,H,I,rfl,q⟩
theorem op_neD (hu:X.A.units+64<cLine):OpR X (compareOp .NotEq) (rEqD true):=by
 intro pins s σ H x y v u Q I rx ry h
 unfold rEqD at h
 split at h
 · exact op_ne pins s σ H x y v u Q I rx ry ⟨by assumption,h⟩
 · obtain ⟨d,e,h1,h2,h3,h4,q⟩:=h
   obtain ⟨as,r1⟩:=h1.reads I rx
   obtain ⟨bs,r2⟩:=h2.reads I ry
   exact ne_dataH r1 r2 h3 h4 hu ⟨.bl _,H,I,rfl,q⟩
theorem op_isP:OpR X (compareOp .Is) (rIsP false):=by
 intro pins s σ H x y v u Q I rx ry h
 unfold rIsP at h
 split at h
 · exact op_isN pins s σ H x _ v u Q I rx ry ⟨rfl,h⟩
 · rename_i k
   cases ry
   split at h
   · exact h.elim
   · exact h.elim
   · exact h.elim
   · rename_i hf hb ht
     cases x with
     | non=>cases rx;exact wpAny_is_plain rfl (fin_bl I h (by simp))
     | bl j=>cases rx;exact wpAny_is_plain rfl (fin_bl I h (by rw [Bool.eq_iff_iff];simp))
     | int j=>obtain ⟨t,rfl⟩:=rx;exact wpAny_is_plain rfl (fin_bl I h (by simp))
     | str j=>obtain ⟨t,rfl⟩:=rx;exact wpAny_is_plain rfl (fin_bl I h (by simp))
     | byt j=>exact absurd rfl (hb j)
     | flt j=>exact absurd rfl (hf j)
     | ref j=>cases rx;exact wpAny_is_plain rfl (fin_bl I h (by simp))
     | ty j=>exact absurd rfl (ht j)
 · exact h.elim
def tBlP (t:TE):TT:=fun σ H Q=>t σ H fun x H1=>match x with | .bl c=>Q c H1 | _=>False
theorem blP {x:V} {P:Bool→Prop} (h:match x with | .bl c=>P c | _=>False):∃ c,x=.bl c∧P c:=by
 cases x <;> first | exact ⟨_,rfl,h⟩ | exact h.elim
theorem pt_cmpP {op:CmpOp} {r:R2} (ho:OpR X (compareOp op) r) (ha:PE X a ta) (hb:PE X b tb) (hm:behindInMarks op b=false):PT X (.Compare a [op] [b] pos) (tBlP (tOp r ta tb)):=by
 intro pins s σ H Q I h
 refine wpAny_isTrue_Compare1 (binT ha hb I h fun v u s2 x y H2 I2 rx ry q=>?_) hm
 refine thn (ho pins s2 σ H2 x y v u _ I2 rx ry q) fun z s3 ⟨w',H3,I3,r3,q3⟩=>?_
 obtain ⟨k,rfl,q3⟩:=blP q3
 cases r3
 exact wpAny_truthy_bool ⟨H3,I3,q3⟩
theorem zt_cmpP {op:CmpOp} {r:R2} (ho:OpR X (compareOp op) r) (ha:ZE X a ta) (hb:ZE X b tb) (hm:behindInMarks op b=false):ZT X (.Compare a [op] [b] pos) (tBlP (tOp r ta tb)):=by with_unfolding_all exact pt_cmpP ho ha hb hm
theorem pt_valP {e:Expr} {t:TE} (h:PE X e t) (he:∀ whole,isTrue e X.env whole=(do let v ← whole;standAt e.pos;holding [v] (truthy v)):=by intro _;rfl):PT X e (tBlP t):=by
 intro pins s σ H Q I q
 refine isTrue_plain (thn (h pins s σ H _ I q) fun v s1 ⟨x,H1,I1,r1,q1⟩=>?_) (he _)
 obtain ⟨k,rfl,q1⟩:=blP q1
 cases r1
 exact wpAny_truthy_bool ⟨H1,I1,q1⟩
theorem zt_valP {e:Expr} {t:TE} (h:ZE X e t) (he:∀ whole,isTrue e X.env whole=(do let v ← whole;standAt e.pos;holding [v] (truthy v)):=by intro _;rfl):ZT X e (tBlP t):=by with_unfolding_all exact pt_valP h he
def tAndP (ta tb:TE):TE:=fun σ H Q=>ta σ H fun x H1=>match x with | .bl c=>if c=true then tb σ H1 Q else Q (.bl false) H1 | _=>False
def tOrP (ta tb:TE):TE:=fun σ H Q=>ta σ H fun x H1=>match x with | .bl c=>if c=true then Q (.bl true) H1 else tb σ H1 Q | _=>False
def tNotP (ta:TE):TE:=fun σ H Q=>ta σ H fun x H1=>match x with | .bl c=>Q (.bl (!c)) H1 | _=>False
variable {rest:List Expr}
theorem pe_andP (ha:PE X a ta) (hb:PE X (.BoolOp .And (b::rest) pos) tb):PE X (.BoolOp .And (a::b::rest) pos) (tAndP ta tb):=by
 intro pins s σ H Q I h
 refine BoolOp_and (thn (ha pins s σ H _ I h) fun v s1 ⟨x,H1,I1,r1,q1⟩=>?_)
 obtain ⟨c,rfl,q1⟩:=blP q1
 cases r1
 refine wpAny_truthy_bool ?_
 cases c with
 | true=>exact hb pins s1 σ H1 Q I1 q1
 | false=>exact ⟨.bl false,H1,I1,rfl,q1⟩
theorem ze_andP (ha:ZE X a ta) (hb:ZE X (.BoolOp .And (b::rest) pos) tb):ZE X (.BoolOp .And (a::b::rest) pos) (tAndP ta tb):=by with_unfolding_all exact pe_andP ha hb
theorem pe_orP (ha:PE X a ta) (hb:PE X (.BoolOp .Or (b::rest) pos) tb):PE X (.BoolOp .Or (a::b::rest) pos) (tOrP ta tb):=by
 intro pins s σ H Q I h
 refine BoolOp_or (thn (ha pins s σ H _ I h) fun v s1 ⟨x,H1,I1,r1,q1⟩=>?_)
 obtain ⟨c,rfl,q1⟩:=blP q1
 cases r1
 refine wpAny_truthy_bool ?_
 cases c with
 | false=>exact hb pins s1 σ H1 Q I1 q1
 | true=>exact ⟨.bl true,H1,I1,rfl,q1⟩
theorem ze_orP (ha:ZE X a ta) (hb:ZE X (.BoolOp .Or (b::rest) pos) tb):ZE X (.BoolOp .Or (a::b::rest) pos) (tOrP ta tb):=by with_unfolding_all exact pe_orP ha hb
theorem pe_notP (ha:PE X a ta):PE X (.UnaryOp .Not a pos) (tNotP ta):=by
 intro pins s σ H Q I h
 refine UnaryOp_ (thn (ha pins s σ H _ I h) fun v s1 ⟨x,H1,I1,r1,q1⟩=>?_)
 obtain ⟨c,rfl,q1⟩:=blP q1
 cases r1
 exact not_of (wpAny_truthy_bool ⟨.bl (!c),H1,I1,rfl,q1⟩)
theorem ze_notP (ha:ZE X a ta):ZE X (.UnaryOp .Not a pos) (tNotP ta):=by with_unfolding_all exact pe_notP ha
def rIxP (K:PySem.W.Frag):R2:=fun x y H Q=>match x,y with
 | .ref p,.int i=>(∃ xs,(SqL K H p xs∨H p=some (.tup xs))∧∃ v,atI xs i=some v∧Q v H)
 | _,_=>False
theorem ix_P:IxR X (rIxP X.K):=by
 intro value slice pins s σ H x y v u Q I rx ry h hs
 unfold rIxP at h
 split at h
 · obtain ⟨xs,h1 | h1,w,e,q⟩:=h
   · exact ix_list value slice pins s σ H _ _ v u Q I rx ry ⟨_,xs,_,w,rfl,rfl,h1,e,q⟩ hs
   · exact ix_tup value slice pins s σ H _ _ v u Q I rx ry ⟨_,xs,_,w,rfl,rfl,SqT.of h1,e,q⟩ hs
 · exact h.elim
theorem CallR.imp {f:Value} {r r':List V→Hp→VK→Prop} (h:CallR X f r) (i:∀ xs H Q,r' xs H Q→r xs H Q):CallR X f r':=fun pins s σ H xs us Q I rs q=>h pins s σ H xs us Q I rs (i xs H Q q)
def rLenP (K:PySem.W.Frag):List V→Hp→VK→Prop:=fun xs H Q=>match xs with
 | [.ref p]=>∃ ys,(SqL K H p ys∨H p=some (.tup ys))∧Q (.int ys.length) H
 | _=>False
theorem call_lenP:CallR X (.builtin "len") (rLenP X.K):=call_len_seq.imp fun xs H Q h=>by
 unfold rLenP at h
 split at h
 · obtain ⟨ys,h1 | h1,q⟩:=h
   · exact ⟨_,ys,rfl,.inl h1,q⟩
   · exact ⟨_,ys,rfl,.inr (SqT.of h1),q⟩
 · exact h.elim
def tyName (H:Hp):V→Option String
 | .non=>some "NoneType"
 | .bl _=>some "bool"
 | .int _=>some "int"
 | .str _=>some "str"
 | .ref a=>match H a with
   | some (.lst _)=>some "list"
   | some (.tup _)=>some "tuple"
   | some (.dK _)=>some "dict"
   | _=>none
 | _=>none
def subTy (t c:String):Bool:=t == c||(t == "bool"&&c == "int")
theorem tyOf_name {K:PySem.W.Frag} {H:Hp} {x:V} {t:String} (h:tyName H x=some t):TyOf K H x (.type t):=by
 unfold tyName at h
 split at h
 all_goals first | (cases h;constructor) | skip
 · split at h
   all_goals first | (cases h;constructor;assumption) | cases h
 · cases h
def rIsiP:List V→Hp→VK→Prop:=fun xs H Q=>match xs with
 | [x,.ty c]=>∃ t,tyName H x=some t∧(c == "int"||c == "bool"||c == "tuple"||c == "str"||c == "list")=true∧Q (.bl (subTy t c)) H
 | _=>False
theorem kit_of {K:PySem.W.Frag} {H:Hp} {x:V} {t c:String} (h:tyName H x=some t) (hc:(c == "int"||c == "bool"||c == "tuple"||c == "str"||c == "list")=true):PySem.W.kitOne K (.type t) (.type c)=some (subTy t c):=by
 have ht:t∈["NoneType","bool","int","str","list","tuple","dict"]:=by
  unfold tyName at h
  split at h
  all_goals first | (cases h;decide) | skip
  · split at h
    all_goals first | (cases h;decide) | cases h
  · cases h
 have hc':c∈["int","bool","tuple","str","list"]:=by
  simp only [Bool.or_eq_true,beq_iff_eq] at hc
  simp only [List.mem_cons,List.not_mem_nil,or_false]
  rcases hc with (((hc | hc) | hc) | hc) | hc <;> simp [hc]
 have all:(["NoneType","bool","int","str","list","tuple","dict"].all fun t=>["int","bool","tuple","str","list"].all fun c=>decide (PySem.W.kitOne [] (.type t) (.type c)=some (subTy t c)))=true:=by decide +kernel
 have e:PySem.W.kitOne K (.type t) (.type c)=PySem.W.kitOne [] (.type t) (.type c):=rfl
 rw [e]
 exact of_decide_eq_true (List.all_eq_true.mp (List.all_eq_true.mp all t ht) c hc')
theorem call_isiP:CallR X (.builtin "isinstance") rIsiP:=by
 intro pins s σ H xs us Q I r h
 unfold rIsiP at h
 split at h
 · obtain ⟨t,h1,h2,q⟩:=h
   obtain ⟨u,w',rfl,r1,r2⟩:=vals2 r
   cases r2
   exact isinst_ok I r1 (tyOf_name h1) (kit_of h1 h2) fun tk=>⟨.bl _,H,I.tok tk,rfl,q⟩
 · exact h.elim
def rTupP (K:PySem.W.Frag):List V→Hp→VK→Prop:=fun xs H Q=>match xs with
 | [.ref p]=>∃ ys,(SqL K H p ys∨H p=some (.tup ys))∧∀ r H',Same H H'→H' r=some (.tup ys)→Q (.ref r) H'
 | _=>False
theorem call_tupP:CallR X (.type "tuple") (rTupP X.K):=call_tuple_of.imp fun xs H Q h=>by
 unfold rTupP at h
 split at h
 · obtain ⟨ys,h1 | h1,q⟩:=h
   · exact ⟨_,ys,rfl,.inl ⟨h1,fun l hl=>q l _ (Same.new hl _) upd_same⟩⟩
   · exact ⟨_,ys,rfl,.inr ⟨SqT.of h1,q _ H (Same.refl H) h1⟩⟩
 · exact h.elim
def rStrP:List V→Hp→VK→Prop:=fun xs H Q=>match xs with
 | [.int i]=>i.natAbs.log2<1920∧Q (.str (toString i)) H
 | _=>False
theorem call_strP:CallR X (.type "str") rStrP:=call_str_int.imp fun xs H Q h=>by
 unfold rStrP at h
 split at h
 · exact ⟨_,rfl,h⟩
 · exact h.elim
def rMinP:List V→Hp→VK→Prop:=fun xs H Q=>match xs with
 | [.int i,.int j]=>Q (.int (if j<i then j else i)) H
 | _=>False
theorem call_minP (hc:X.calm=true):CallR X (.builtin "min") rMinP:=(call_min2 hc).imp fun xs H Q h=>by
 unfold rMinP at h
 split at h
 · exact ⟨_,_,rfl,h⟩
 · exact h.elim
structure FnA (P:Program) (w:World) (K:PySem.W.Frag) (mg:Str→Option Value) (base:Heap) (x:Str) (k:Nat) (ps:List Str) (sp:Sp):Prop where
 ex:∃ f fd,FnOk P w K mg base CX0 k f fd ps sp∧Binds K fd ps []∧PySem.W.keepIn K (.ref f)=true∧mg x=some (.ref f)
def tFn (sp:Sp) (t:TA):TE:=fun σ H Q=>t σ H fun vs H1=>sp vs H1 Q E0
theorem pe_fn {x:Str} {k k':Nat} {ps:List Str} {sp:Sp} {e:Expr} {es:List Expr} {t:TA} {p:Pos} (F:FnA X.prog X.w X.K X.mg X.base x k ps sp) (hr:Room k' X.A) (hk:k≤k') (hg:Gl X x)
 (ha:PA X (e::es) t) (hdb:(x == ("__debug__" : Str))=false:=by decide) (he:starEach (e::es) X.env=(false,eval e X.env)::starEach es X.env:=by rfl) (hpl:(backTo pos (starEach es X.env)).any (·.1)=false:=by rfl) :
 PE X (.Call (.Name x p) (e::es) [] pos) (tFn sp t):=by
 obtain ⟨f,fd,F1,b1,k1,m1⟩:=F.ex
 refine (pe_call (F1.mono hk) hr hg m1 k1 b1 .nil pass0 ha hdb he hpl).imp fun σ H Q h=>?_
 have e:(fun (vs:List V) (H1:Hp)=>sp (vs++[]) H1 Q E0)=fun vs H1=>sp vs H1 Q E0:=by
  funext vs H1
  rw [List.append_nil]
 show t σ H fun vs H1=>sp (vs++[]) H1 Q E0
 rw [e]
 exact h
theorem ze_fn {x:Str} {k k':Nat} {ps:List Str} {sp:Sp} {e:Expr} {es:List Expr} {t:TA} {p:Pos} (F:FnA X.prog X.w X.K X.mg X.base x k ps sp) (hr:Room k' X.A) (hk:k≤k') (hg:Gl X x)
 (ha:ZA X (e::es) t) (hdb:(x == ("__debug__" : Str))=false:=by decide) (he:starEach (e::es) X.env=(false,eval e X.env)::starEach es X.env:=by rfl) (hpl:(backTo pos (starEach es X.env)).any (·.1)=false:=by rfl) :
 ZE X (.Call (.Name x p) (e::es) [] pos) (tFn sp t):=by with_unfolding_all exact pe_fn F hr hk hg ha hdb he hpl
end
theorem pe_ty {X:Cx} {x:Str} {T:String} {pos:Pos} (hg:Gl X x) (hm:X.mg x=none) (hv:bootBuiltins x=some (.type T)) (hn:x≠"__name__":=by decide) (hd:(x == ("__debug__" : Str))=false:=by decide):PE X (.Name x pos) (tC (.ty T)):=
 pe_bltn hg hm hv (show RelV (.ty T) (.type T) from rfl) hn hd
theorem iteD {p:Prop} [Decidable p] {A B:Prop} (h1:p→A) (h2:¬ p→B):if decide p=true then A else B:=by
 by_cases h:p
 · rw [decide_eq_true h];exact iteT (h1 h)
 · rw [decide_eq_false h];exact iteF (h2 h)
theorem iteB {b:Bool} {A B:Prop} (h1:b=true→A) (h2:b=false→B):if b=true then A else B:=by
 cases b with
 | true=>exact iteT (h1 rfl)
 | false=>exact iteF (h2 rfl)
theorem boot_isinstance:bootBuiltins "isinstance" = some (.builtin "isinstance"):=by decide +kernel
theorem boot_sorted':bootBuiltins "sorted" = some (.builtin "sorted"):=by decide +kernel
theorem boot_min':bootBuiltins "min" = some (.builtin "min"):=by decide +kernel
theorem boot_all':bootBuiltins "all" = some (.builtin "all"):=by decide +kernel
theorem boot_int':bootBuiltins "int" = some (.type "int"):=by decide +kernel
theorem boot_bool':bootBuiltins "bool" = some (.type "bool"):=by decide +kernel
theorem boot_tuple':bootBuiltins "tuple" = some (.type "tuple"):=by decide +kernel
theorem boot_str':bootBuiltins "str" = some (.type "str"):=by decide +kernel
def rAllP (K:PySem.W.Frag):List V→Hp→VK→Prop:=fun xs H Q=>match xs with
 | [.ref p]=>∃ bs:List Bool,SqL K H p (bs.map V.bl)∧Q (.bl (bs.all id)) H
 | _=>False
theorem call_allP {X:Cx} (hc:X.calm=true):CallR X (.builtin "all") (rAllP X.K):=by
 intro pins s σ H xs us Q I r h
 unfold rAllP at h
 split at h
 · rename_i p
   obtain ⟨bs,hq,q⟩:=h
   obtain ⟨u,rfl,rx⟩:=vals1 r
   cases rx
   obtain ⟨its,rv,pl,hz⟩:=I.list hq
   have hlen:its.length=bs.length:=by rw [← rv.length,List.length_map]
   have hlt:p<s.heap.objs.size:=by
    obtain ⟨_,e,_⟩:=pl.isList
    exact Heap.lt_size e
   refine call_all_walk (wpAny_pyIter_list pl.isList ?_)
   have W:Walks X.prog X.w X.A.in1 s.heap.objs.size [s.heap.objs.size,p] [s.heap.objs.size] its.toArray.size _ _:=Walks.list (show X.A.in1.handled=none from I.ok.hd hc) s.heap.objs.size p (Nat.ne_of_lt hlt) its.toArray
   refine ⟨s.heap.objs.size,_,_,_,_,_,fun i=>bs.getD i false,rfl,W,⟨⟨_,Heap.get?_push_size _ rfl,rfl,rfl⟩,pl.isList.push _⟩,?_,fun h' tk hk=>?_⟩
   · intro i v s' Q' E' hP hQ
     have hP':its[i]? = some v:=by simpa using hP
     have hi:i<bs.length:=by rw [← hlen];exact (List.getElem?_eq_some_iff.mp hP').1
     obtain ⟨w',e1,e2⟩:=rv.get (i:=i) (x:=.bl bs[i]) (by rw [List.getElem?_map,List.getElem?_eq_getElem hi];rfl)
     rw [hP'] at e1
     cases e1
     cases e2
     refine wpAny_truthy_bool ?_
     have e:bs.getD i false=bs[i]:=by rw [List.getD_eq_getElem?_getD,List.getElem?_eq_getElem hi];rfl
     have hQ':Q' (bs.getD i false) s':=hQ
     rw [e] at hQ'
     exact hQ'
   · have I1:Inv X pins σ H { s with heap:=h',toks:=tk }:=I.kept fun b o e=>hk b o (by simpa using Nat.ne_of_lt (Heap.lt_size e)) (Heap.get?_push_of_some _ e)
     refine ⟨.bl _,H,I1,rfl,?_⟩
     have e:(List.range its.toArray.size).all (fun i=>bs.getD i false)=bs.all id:=by
      rw [List.size_toArray,hlen]
      have key:∀ l:List Bool,(List.range l.length).all (fun i=>l.getD i false)=l.all id:=by
       intro l
       rw [Bool.eq_iff_iff,List.all_eq_true,List.all_eq_true]
       constructor
       · intro h x hx
         obtain ⟨i,hi,rfl⟩:=List.mem_iff_getElem.mp hx
         have:=h i (List.mem_range.mpr hi)
         rw [List.getD_eq_getElem?_getD,List.getElem?_eq_getElem hi] at this
         exact this
       · intro h i hi
         have hi':=List.mem_range.mp hi
         rw [List.getD_eq_getElem?_getD,List.getElem?_eq_getElem hi']
         exact h _ (List.getElem_mem hi')
      exact key bs
     rw [e]
     exact q
 · exact h.elim
theorem dk_empty {P:Program} {w:World} {H:Hp} (h:Heap) (hb:sysModules<h.objs.size):ObjOk P w H (h.push { cls:=.type "dict",data:=.dict #[] }) h.objs.size (.dK []):=
 ⟨Nat.zero_le _,beq_eq_false_iff_ne.mpr (Ne.symm (Nat.ne_of_lt hb)),[],.nil,Heap.DictOf.new h⟩
def tDNewK:TE:=fun _ H Q=>∀ p,H p=none→Q (.ref p) (upd H p (.dK []))
theorem Inv.big {X:Cx} {pins:List (Addr×Obj)} {σ:St} {H:Hp} {s:Shared} (I:Inv X pins σ H s):sysModules<s.heap.objs.size:=by
 have h:mainGlobals<s.heap.objs.size:=(I.mod.glob.keeps I.bk).lt
 exact Nat.lt_trans (by decide) h
theorem pe_dnewK {X:Cx} {pos:Pos}:PE X (.Dict [] [] pos) tDNewK:=fun pins s σ H Q I h=>
 wpAny_Dict_empty ⟨.ref s.heap.objs.size,_,I.laid (a:=s.heap.objs.size) (o:=.dK []) (t':=s.toks) (fun _ _ q=>Heap.get?_push_of_some _ q) (Nat.le_refl _) (dk_empty s.heap I.big),rfl,h _ (I.hok.fresh (Nat.le_refl _))⟩
theorem ze_dnewK {X:Cx} {pos:Pos}:ZE X (.Dict [] [] pos) tDNewK:=by with_unfolding_all exact pe_dnewK
def tPar3 (i j k:Nat) (ta:TA):TS:=fun D σ H=>ta σ H fun vs H1=>match vs with | [v,w,z]=>D.nx (((σ.set i (some v)).set j (some w)).set k (some z)) H1 | _=>False
theorem ps_par3 {X:Cx} {pos:Pos} {i j k:Nat} {x y z:Str} {a b c:Expr} {ta:TA} {px py pz pt:Pos} {kt k2 pt2} (hc:X.calm=true) (hN:X.N.Nodup) (hi:X.N[i]? = some x) (hj:X.N[j]? = some y) (hk:X.N[k]? = some z) (hij:i≠j) (hik:i≠k) (hjk:j≠k)
 (hx:X.env.scope.names.lookup x=some .local) (hy:X.env.scope.names.lookup y=some .local) (hz:X.env.scope.names.lookup z=some .local) (ha:PA X [a,b,c] ta)
 (hw:swappedStores [.Tuple [.Name x px,.Name y py,.Name z pz] kt pt] (.Tuple [a,b,c] k2 pt2) X.env=pure (some [x,y,z]))
 (hs:swapsWithSole [.Tuple [.Name x px,.Name y py,.Name z pz] kt pt] (.Tuple [a,b,c] k2 pt2) pos.line X.env=pure false:=by rfl) :
 PS X (.Assign [.Tuple [.Name x px,.Name y py,.Name z pz] kt pt] (.Tuple [a,b,c] k2 pt2) pos) (tPar3 i j k ta):=by
 intro pins s σ H D I h
 rw [exec_Assign_arm]
 refine wpAny_bind (wpAny_standAt ?_)
 rw [hs]
 refine wpAny_bind (wpAny_pure ?_)
 rw [if_neg (by decide)]
 refine wpAny_bind (Tuple_ (thn (ha _ pins s σ H _ I h) fun us s1 ⟨vs,H1,I1,r1,q1⟩=>?_))
 obtain ⟨v,w,t,e1,q1⟩:∃ v w t,vs=[v,w,t]∧D.nx (((σ.set i (some v)).set j (some w)).set k (some t)) H1:=by
  match vs,q1 with
  | [v,w,t],q1=>exact ⟨v,w,t,rfl,q1⟩
  | [],q1=>exact q1.elim
  | [_],q1=>exact q1.elim
  | [_,_],q1=>exact q1.elim
  | _::_::_::_::_,q1=>exact q1.elim
 subst e1
 obtain ⟨u1,u2,u3,rfl,rv,rw',rz⟩:∃ u1 u2 u3,us=[u1,u2,u3]∧RelV v u1∧RelV w u2∧RelV t u3:=by
  cases r1 with
  | cons p q=>
    cases q with
    | cons p' q'=>
      cases q' with
      | cons p2 q2=>
        cases q2
        exact ⟨_,_,_,rfl,p,p',p2⟩
 refine wpAny_newObj_type ?_ (by show 3≤sizeLine;decide)
 have I2:Inv X pins σ H1 { s1 with heap:=s1.heap.push { cls:=.type "tuple",data:=.seq [u1,u2,u3].toArray } }:=I1.kept (t':=s1.toks) fun b o e=>Heap.get?_push_of_some _ e
 rw [hw]
 refine wpAny_bind (wpAny_pure ?_)
 show wpAny (model X.prog X.w) X.A (do rule "assign.swapped-stores";let items ← unpackItems (.ref s1.heap.objs.size) 3 none;assignInOrder [fun v=>bindName X.env z v,fun v=>bindName X.env y v,fun v=>bindName X.env x v] items.reverse;pure Flow.next) _ _ _
 refine wpAny_bind (wpAny_rule (wpAny_bind (unpackItems_tuple (items:=#[u1,u2,u3]) (I.ok.hd hc) (IsTup.new s1.heap _) fun h' hx'=>?_)))
 have I3:=I2.kept (h':=h') (t':=s1.toks) fun b o e=>hx' b o (Nat.ne_of_lt (Heap.lt_size e)) e
 show wpAny _ _ (assignInOrder [fun v=>bindName X.env z v,fun v=>bindName X.env y v,fun v=>bindName X.env x v] [u3,u2,u1] >>= fun _=>pure Flow.next) _ _ _
 refine wpAny_bind (assignInOrder_cons (wpAny_bindName (store_ok I3 hN hk (.inl hz) rz (fun s2 I4=>?_) (.inr hz))))
 refine assignInOrder_cons (wpAny_bindName (store_ok I4 hN hj (.inl hy) rw' (fun s3 I5=>?_) (.inr hy)))
 refine assignInOrder_cons (wpAny_bindName (store_ok I5 hN hi (.inl hx) rv (fun s4 I6=>assignInOrder_nil (wpAny_pure ?_)) (.inr hx)))
 have e:((σ.set k (some t)).set j (some w)).set i (some v)=((σ.set i (some v)).set j (some w)).set k (some t):=by
  rw [List.set_comm _ _ (Ne.symm hij),List.set_comm _ _ (Ne.symm hik),List.set_comm _ _ (Ne.symm hjk)]
 rw [e] at I6
 exact ⟨_,H1,I6,q1⟩
theorem zs_par3 {X:Cx} {pos:Pos} {i j k:Nat} {x y z:Str} {a b c:Expr} {ta:TA} {px py pz pt:Pos} {kt k2 pt2} (hc:X.calm=true) (hN:X.N.Nodup) (hi:X.N[i]? = some x) (hj:X.N[j]? = some y) (hk:X.N[k]? = some z) (hij:i≠j) (hik:i≠k) (hjk:j≠k)
 (hx:X.env.scope.names.lookup x=some .local) (hy:X.env.scope.names.lookup y=some .local) (hz:X.env.scope.names.lookup z=some .local) (ha:ZA X [a,b,c] ta)
 (hw:swappedStores [.Tuple [.Name x px,.Name y py,.Name z pz] kt pt] (.Tuple [a,b,c] k2 pt2) X.env=pure (some [x,y,z]))
 (hs:swapsWithSole [.Tuple [.Name x px,.Name y py,.Name z pz] kt pt] (.Tuple [a,b,c] k2 pt2) pos.line X.env=pure false:=by rfl) :
 ZS X (.Assign [.Tuple [.Name x px,.Name y py,.Name z pz] kt pt] (.Tuple [a,b,c] k2 pt2) pos) (tPar3 i j k ta):=by with_unfolding_all exact ps_par3 hc hN hi hj hk hij hik hjk hx hy hz ha hw hs
section
variable {X:Cx} {e:Expr} {es:List Expr} {t:TA} {p pos:Pos}
theorem pcb_len (hg:Gl X "len") (hm:X.mg "len" = none) (ha:PA X (e::es) t) (he:starEach (e::es) X.env=(false,eval e X.env)::starEach es X.env) (hpl:(backTo pos (starEach es X.env)).any (·.1)=false) :
 PE X (.Call (.Name "len" p) (e::es) [] pos) (tCB (rLenP X.K) t):=pe_callB call_lenP hg hm PySem.boot_len ha (by decide) (by decide) he hpl
theorem zcb_len (hg:Gl X "len") (hm:X.mg "len" = none) (ha:ZA X (e::es) t) (he:starEach (e::es) X.env=(false,eval e X.env)::starEach es X.env) (hpl:(backTo pos (starEach es X.env)).any (·.1)=false) :
 ZE X (.Call (.Name "len" p) (e::es) [] pos) (tCB (rLenP X.K) t):=by with_unfolding_all exact pcb_len hg hm ha he hpl
theorem pcb_isinstance (hg:Gl X "isinstance") (hm:X.mg "isinstance" = none) (ha:PA X (e::es) t) (he:starEach (e::es) X.env=(false,eval e X.env)::starEach es X.env) (hpl:(backTo pos (starEach es X.env)).any (·.1)=false) :
 PE X (.Call (.Name "isinstance" p) (e::es) [] pos) (tCB rIsiP t):=pe_callB call_isiP hg hm boot_isinstance ha (by decide) (by decide) he hpl
theorem zcb_isinstance (hg:Gl X "isinstance") (hm:X.mg "isinstance" = none) (ha:ZA X (e::es) t) (he:starEach (e::es) X.env=(false,eval e X.env)::starEach es X.env) (hpl:(backTo pos (starEach es X.env)).any (·.1)=false) :
 ZE X (.Call (.Name "isinstance" p) (e::es) [] pos) (tCB rIsiP t):=by with_unfolding_all exact pcb_isinstance hg hm ha he hpl
theorem pcb_min (hc:X.calm=true) (hg:Gl X "min") (hm:X.mg "min" = none) (ha:PA X (e::es) t) (he:starEach (e::es) X.env=(false,eval e X.env)::starEach es X.env) (hpl:(backTo pos (starEach es X.env)).any (·.1)=false) :
 PE X (.Call (.Name "min" p) (e::es) [] pos) (tCB rMinP t):=pe_callB (call_minP hc) hg hm boot_min' ha (by decide) (by decide) he hpl
theorem zcb_min (hc:X.calm=true) (hg:Gl X "min") (hm:X.mg "min" = none) (ha:ZA X (e::es) t) (he:starEach (e::es) X.env=(false,eval e X.env)::starEach es X.env) (hpl:(backTo pos (starEach es X.env)).any (·.1)=false) :
 ZE X (.Call (.Name "min" p) (e::es) [] pos) (tCB rMinP t):=by with_unfolding_all exact pcb_min hc hg hm ha he hpl
theorem pcb_all (hc:X.calm=true) (hg:Gl X "all") (hm:X.mg "all" = none) (ha:PA X (e::es) t) (he:starEach (e::es) X.env=(false,eval e X.env)::starEach es X.env) (hpl:(backTo pos (starEach es X.env)).any (·.1)=false) :
 PE X (.Call (.Name "all" p) (e::es) [] pos) (tCB (rAllP X.K) t):=pe_callB (call_allP hc) hg hm boot_all' ha (by decide) (by decide) he hpl
theorem zcb_all (hc:X.calm=true) (hg:Gl X "all") (hm:X.mg "all" = none) (ha:ZA X (e::es) t) (he:starEach (e::es) X.env=(false,eval e X.env)::starEach es X.env) (hpl:(backTo pos (starEach es X.env)).any (·.1)=false) :
 ZE X (.Call (.Name "all" p) (e::es) [] pos) (tCB (rAllP X.K) t):=by with_unfolding_all exact pcb_all hc hg hm ha he hpl
theorem pcb_tuple (hg:Gl X "tuple") (hm:X.mg "tuple" = none) (ha:PA X (e::es) t) (he:starEach (e::es) X.env=(false,eval e X.env)::starEach es X.env) (hpl:(backTo pos (starEach es X.env)).any (·.1)=false) :
 PE X (.Call (.Name "tuple" p) (e::es) [] pos) (tCB (rTupP X.K) t):=pe_callTy call_tupP hg hm boot_tuple' ha (by decide) (by decide) he hpl
theorem zcb_tuple (hg:Gl X "tuple") (hm:X.mg "tuple" = none) (ha:ZA X (e::es) t) (he:starEach (e::es) X.env=(false,eval e X.env)::starEach es X.env) (hpl:(backTo pos (starEach es X.env)).any (·.1)=false) :
 ZE X (.Call (.Name "tuple" p) (e::es) [] pos) (tCB (rTupP X.K) t):=by with_unfolding_all exact pcb_tuple hg hm ha he hpl
theorem pcb_str (hg:Gl X "str") (hm:X.mg "str" = none) (ha:PA X (e::es) t) (he:starEach (e::es) X.env=(false,eval e X.env)::starEach es X.env) (hpl:(backTo pos (starEach es X.env)).any (·.1)=false) :
 PE X (.Call (.Name "str" p) (e::es) [] pos) (tCB rStrP t):=pe_callTy call_strP hg hm boot_str' ha (by decide) (by decide) he hpl
theorem zcb_str (hg:Gl X "str") (hm:X.mg "str" = none) (ha:ZA X (e::es) t) (he:starEach (e::es) X.env=(false,eval e X.env)::starEach es X.env) (hpl:(backTo pos (starEach es X.env)).any (·.1)=false) :
 ZE X (.Call (.Name "str" p) (e::es) [] pos) (tCB rStrP t):=by with_unfolding_all exact pcb_str hg hm ha he hpl
theorem pty_int (hg:Gl X "int") (hm:X.mg "int" = none):PE X (.Name "int" pos) (tC (.ty "int")):=pe_ty hg hm boot_int' (by decide) (by decide)
theorem zty_int (hg:Gl X "int") (hm:X.mg "int" = none):ZE X (.Name "int" pos) (tC (.ty "int")):=by with_unfolding_all exact pty_int hg hm
theorem pty_bool (hg:Gl X "bool") (hm:X.mg "bool" = none):PE X (.Name "bool" pos) (tC (.ty "bool")):=pe_ty hg hm boot_bool' (by decide) (by decide)
theorem zty_bool (hg:Gl X "bool") (hm:X.mg "bool" = none):ZE X (.Name "bool" pos) (tC (.ty "bool")):=by with_unfolding_all exact pty_bool hg hm
theorem pty_tuple (hg:Gl X "tuple") (hm:X.mg "tuple" = none):PE X (.Name "tuple" pos) (tC (.ty "tuple")):=pe_ty hg hm boot_tuple' (by decide) (by decide)
theorem zty_tuple (hg:Gl X "tuple") (hm:X.mg "tuple" = none):ZE X (.Name "tuple" pos) (tC (.ty "tuple")):=by with_unfolding_all exact pty_tuple hg hm
end
section
variable {X:Cx}
def rReprP:List V→Hp→VK→Prop:=fun xs H Q=>match xs with
 | [x]=>∃ d,DatV H x d∧(d.showable=true∧d.hasDict=false∧d.depth≤60∧d.shown.length≤sizeLine)∧Q (.str d.shown) H
 | _=>False
theorem call_reprP {k:Nat} (hr:Room k X.A):CallR X (.builtin "repr") rReprP:=by
 intro pins s σ H xs us Q I r h
 unfold rReprP at h
 split at h
 · rename_i x
   obtain ⟨d,hd,⟨h1,h2,h3,h4⟩,q⟩:=h
   obtain ⟨u,rfl,rx⟩:=vals1 r
   obtain ⟨as,z⟩:=hd.reads I rx
   have big:∀ a,u=.ref a→wpAny (model X.prog X.w) X.A (call (.builtin "repr") [u]) (EP X pins σ Q) X.xe s:=fun a e=>by
    subst e
    exact repr_of_reads' z h1 (PyData.noDict_hsm h2) hr.gd (by have:=hr.un;omega) (fun _ _ e=>e) (fun h' u tk hk=>⟨.str _,H,I.kept hk,⟨u,rfl⟩,q⟩) h4
   cases hd with
   | non=>cases rx;simp only [PyData.shown] at q;exact P.repr_of_none ⟨.str _,H,I.tok _,⟨_,rfl⟩,q⟩
   | bl b=>cases rx;simp only [PyData.shown] at q;exact P.repr_of_bool ⟨.str _,H,I.tok _,⟨_,rfl⟩,q⟩
   | int i=>
     obtain ⟨t,rfl⟩:=rx
     simp only [PyData.shown] at q
     exact P.repr_of_int (by simpa [PyData.showable] using h1) ⟨.str _,H,I.tok _,⟨_,rfl⟩,q⟩
   | str y=>
     obtain ⟨t,rfl⟩:=rx
     simp only [PyData.shown] at q h4
     exact P.repr_of_str ⟨.str _,H,I.tok _,⟨_,rfl⟩,q⟩ h4
   | lst e rr=>exact big _ rx
   | tup e rr=>exact big _ rx
 · exact h.elim
theorem ints_at {ns:List Int} {its:List Value} (rv:Vals (ns.map V.int) its) {i:Nat} {v:Value} (h:its.toArray[i]? = some v):∃ t,v=.int (ns.getD i 0) t:=by
 have h':its[i]? = some v:=by simpa using h
 have hl:its.length=ns.length:=by rw [← rv.length,List.length_map]
 have hi:i<ns.length:=by rw [← hl];exact (List.getElem?_eq_some_iff.mp h').1
 obtain ⟨w',e1,t,e2⟩:=rv.get (i:=i) (x:=.int ns[i]) (by rw [List.getElem?_map,List.getElem?_eq_getElem hi];rfl)
 rw [h'] at e1
 cases e1
 refine ⟨t,?_⟩
 rw [e2,List.getD_eq_getElem?_getD,List.getElem?_eq_getElem hi]
 rfl
def rMax1P (K:PySem.W.Frag):List V→Hp→VK→Prop:=fun xs H Q=>match xs with
 | [.int i,.int j]=>Q (.int (if j > i then j else i)) H
 | [.ref p]=>∃ ns:List Int,(SqL K H p (ns.map V.int)∨H p=some (.tup (ns.map V.int)))∧ns≠[]∧∀ M,M∈ns→(∀ n∈ns,n≤M)→Q (.int M) H
 | _=>False
theorem best_is {ns:List Int} (h:ns≠[]):ns.getD (argBest (fun i j=>decide (ns.getD i 0 > ns.getD j 0)) (ns.length - 1)) 0∈ns∧∀ n∈ns,n≤ns.getD (argBest (fun i j=>decide (ns.getD i 0 > ns.getD j 0)) (ns.length - 1)) 0:=by
 have hp:0<ns.length:=List.length_pos_iff.mpr h
 obtain ⟨h1,h2⟩:=argBest_gt (fun i=>ns.getD i 0) (ns.length - 1)
 have hlt:argBest (fun i j=>decide (ns.getD i 0 > ns.getD j 0)) (ns.length - 1)<ns.length:=by omega
 refine ⟨?_,fun n hn=>?_⟩
 · rw [List.getD_eq_getElem?_getD,List.getElem?_eq_getElem hlt]
   exact List.getElem_mem hlt
 · obtain ⟨i,hi,rfl⟩:=List.mem_iff_getElem.mp hn
   have:=h2 i (by omega)
   have e:ns.getD i 0=ns[i]:=by rw [List.getD_eq_getElem?_getD,List.getElem?_eq_getElem hi];rfl
   rw [e] at this
   exact this
theorem call_maxP (hc:X.calm=true):CallR X (.builtin "max") (rMax1P X.K):=by
 intro pins s σ H xs us Q I r h
 unfold rMax1P at h
 split at h
 · exact call_max2 hc pins s σ H _ us Q I r ⟨_,_,rfl,h⟩
 · rename_i p
   obtain ⟨ns,hq,hne,q⟩:=h
   obtain ⟨u,rfl,rx⟩:=vals1 r
   cases rx
   have hh:X.A.in1.handled=none:=I.ok.hd hc
   have hb:=best_is hne
   rcases hq with hq | hq
   · obtain ⟨its,rv,pl,hz⟩:=I.list hq
     have hlen:its.length=ns.length:=by rw [← rv.length,List.length_map]
     have hlt:p<s.heap.objs.size:=by
      obtain ⟨_,e,_⟩:=pl.isList
      exact Heap.lt_size e
     refine call_max_walk (wpAny_pyIter_list pl.isList ?_)
     refine ⟨s.heap.objs.size,_,_,_,_,_,_,rfl,Walks.list hh s.heap.objs.size p (Nat.ne_of_lt hlt) its.toArray,⟨⟨_,Heap.get?_push_size _ rfl,rfl,rfl⟩,pl.isList.push _⟩,?_,?_,CmpOf.ints_gt (fun i=>ns.getD i 0) (fun i v hv=>ints_at rv hv),fun v h' tk hv hk=>?_⟩
     · intro b hb
       rw [Heap.size_push]
       rcases List.mem_cons.mp hb with rfl | hb
       · exact Nat.lt_succ_self _
       · rcases List.mem_cons.mp hb with rfl | hb
         · exact Nat.lt_succ_of_lt hlt
         · cases hb
     · rw [List.size_toArray,hlen];exact List.length_pos_iff.mpr hne
     · obtain ⟨t,rfl⟩:=ints_at rv hv
       refine ⟨.int _,H,I.kept fun b o e=>hk b o (by simpa using Nat.ne_of_lt (Heap.lt_size e)) (Heap.get?_push_of_some _ e),⟨t,rfl⟩,?_⟩
       rw [List.size_toArray,hlen]
       exact q _ hb.1 hb.2
   · obtain ⟨its,rv,pl,hz⟩:=I.tuple (SqT.of hq)
     have hlen:its.length=ns.length:=by rw [← rv.length,List.length_map]
     have hlt:p<s.heap.objs.size:=pl.lt
     refine call_max_walk (wpAny_pyIter_tuple (show s.heap.IsTuple p its.toArray from pl) ?_)
     refine ⟨s.heap.objs.size,_,_,_,_,_,_,rfl,Walks.tuple hh s.heap.objs.size p (Nat.ne_of_lt hlt) its.toArray,⟨⟨_,Heap.get?_push_size _ rfl,rfl,rfl⟩,IsTup.keeps pl fun b o e=>Heap.get?_push_of_some _ e⟩,?_,?_,CmpOf.ints_gt (fun i=>ns.getD i 0) (fun i v hv=>ints_at rv hv),fun v h' tk hv hk=>?_⟩
     · intro b hb
       rw [Heap.size_push]
       rcases List.mem_cons.mp hb with rfl | hb
       · exact Nat.lt_succ_self _
       · rcases List.mem_cons.mp hb with rfl | hb
         · exact Nat.lt_succ_of_lt hlt
         · cases hb
     · rw [List.size_toArray,hlen];exact List.length_pos_iff.mpr hne
     · obtain ⟨t,rfl⟩:=ints_at rv hv
       refine ⟨.int _,H,I.kept fun b o e=>hk b o (by simpa using Nat.ne_of_lt (Heap.lt_size e)) (Heap.get?_push_of_some _ e),⟨t,rfl⟩,?_⟩
       rw [List.size_toArray,hlen]
       exact q _ hb.1 hb.2
 · exact h.elim
theorem noFill_tuple_mul:fillsNumberSlot (.type "tuple") "mul" = pure false:=
 PySem.fillsNumberSlot_seq (id:="tuple.__mul__") (r:=some (.builtin "tuple.__rmul__")) F.slot_tuple_mul.lookup (by decide +kernel) F.slot_tuple_rmul.lookup (by decide +kernel)
theorem repeat_tuple:seqRepeat? (.type "tuple")=pure (some (.builtin "tuple.__mul__")):=by
 unfold seqRepeat?
 rw [PySem.seqSlot_of (T:="tuple") (name:="__mul__") (id:="tuple.__mul__") F.slot_tuple_mul.lookup (by decide +kernel),PySem.seqSlot_of (T:="tuple") (name:="__rmul__") (id:="tuple.__rmul__") F.slot_tuple_rmul.lookup (by decide +kernel)]
 rfl
theorem int_rmul_tuple (a:Int) (t:Tok) (l:Addr) (items:Array Value) (n:Nat) :
 Meets (Builtin.«int.__rmul__» ⟨[.int a t,.ref l],[]⟩) (fun _ R s=>s.heap.get? l=some { cls:=.type "tuple",dict:=none,data:=.seq items n,slots:=#[] }∧R (.ok (.ret Value.notImplemented)) s):=
 .of_wp fun prog w A R s h=>by obtain ⟨hp,g,d,tk,os⟩:=s;obtain ⟨hl,h⟩:=h;wp_walk;exact ⟨_,rfl,h⟩
theorem tuple_mul_same (l:Addr) (items:Array Value) (n:Nat) (x:Int) (u:Tok) (h1:(decide (x < -(2 ^ 63))||decide (x≥2 ^ 63))=false) (h2:(items.isEmpty||x == 1)=true) :
 Meets (Builtin.«tuple.__mul__» ⟨[.ref l,.int x u],[]⟩) (fun _ R s=>s.heap.get? l=some { cls:=.type "tuple",dict:=none,data:=.seq items n,slots:=#[] }∧R (.ok (.ret (.ref l))) s):=
 .of_wp fun prog w A R s h=>by
  obtain ⟨hp,g,d,tk,os⟩:=s;obtain ⟨hl,h⟩:=h
  wp_walk;refine wpAny_ite_false (by rw [h1];rfl) ?_;wp_walk;exact ⟨_,rfl,h⟩
theorem tuple_mul_none (l:Addr) (items:Array Value) (n:Nat) (x:Int) (u:Tok) (h1:(decide (x < -(2 ^ 63))||decide (x≥2 ^ 63))=false) (h2:(items.isEmpty||x == 1)=false) (h3:(decide (x≤0)||items.isEmpty)=true) :
 Meets (Builtin.«tuple.__mul__» ⟨[.ref l,.int x u],[]⟩) (fun _ R s=>s.heap.get? l=some { cls:=.type "tuple",dict:=none,data:=.seq items n,slots:=#[] }∧R (.ok (.ret (.ref s.heap.objs.size))) { s with heap:=s.heap.push { cls:=.type "tuple",data:=.seq #[] } }):=
 .of_wp fun prog w A R s h=>by
  obtain ⟨hp,g,d,tk,os⟩:=s;obtain ⟨hl,h⟩:=h
  wp_walk;refine wpAny_ite_false (by rw [h1];rfl) ?_;wp_walk;exact ⟨_,rfl,h⟩
theorem tuple_mul_many (l:Addr) (items:Array Value) (n:Nat) (x:Int) (u:Tok) (h1:(decide (x < -(2 ^ 63))||decide (x≥2 ^ 63))=false) (h2:(items.isEmpty||x == 1)=false) (h3:(decide (x≤0)||items.isEmpty)=false) (h4:decide ((items.size:Int)*x > (2 ^ 63 - 1) / 8)=false) (h5:Builtin.Tuple.tupleTooMany ((items.size:Int)*x)=false) (hz:((List.replicate x.toNat items).foldl (·++·) #[]).size≤sizeLine) :
 Meets (Builtin.«tuple.__mul__» ⟨[.ref l,.int x u],[]⟩) (fun _ R s=>s.heap.get? l=some { cls:=.type "tuple",dict:=none,data:=.seq items n,slots:=#[] }∧R (.ok (.ret (.ref s.heap.objs.size))) { s with heap:=s.heap.push { cls:=.type "tuple",data:=.seq ((List.replicate x.toNat items).foldl (·++·) #[]) } }):=
 .of_wp fun prog w A R s h=>by
  obtain ⟨hp,g,d,tk,os⟩:=s;obtain ⟨hl,h⟩:=h
  wp_walk;refine wpAny_ite_false (by rw [h1];rfl) ?_;wp_walk;refine wpAny_ite_false h4 ?_;wp_walk;exact ⟨_,rfl,h⟩
end
section
variable {X:Cx}
def rMulQ:R2:=fun x y H Q=>match x,y with
 | .int i,.int j=>IntMulOk i j∧Q (.int (i*j)) H
 | .ref a,.int k=>(-(2 ^ 63)≤k∧k<2 ^ 63)∧((∃ xs,H a=some (.lst xs)∧xs.length*k.toNat≤sizeLine∧∀ p,H p=none→Q (.ref p) (upd H p (.lst (List.replicate k.toNat xs).flatten))) ∨
  ∃ xs,H a=some (.tup xs)∧xs.length*k.toNat≤sizeLine∧∀ r H',Same H H'→H' r=some (.tup (List.replicate k.toNat xs).flatten)→Q (.ref r) H')
 | _,_=>False
theorem op_mulQ:OpR X (binaryOp .Mult) rMulQ:=by
 intro pins s σ H x y v u Q I rx ry h
 unfold rMulQ at h
 split at h
 · exact op_mulB pins s σ H _ _ v u Q I rx ry ⟨_,_,rfl,rfl,h⟩
 · obtain ⟨⟨hk1,hk2⟩,⟨xs,h1,h4,q⟩ | ⟨xs,hH,hz,q⟩⟩:=h
   · exact op_rep pins s σ H _ _ v u Q I rx ry ⟨_,_,xs,rfl,rfl,h1,hk1,hk2,h4,q⟩
   rename_i l k
   cases rx
   obtain ⟨t,rfl⟩:=ry
   obtain ⟨z,its,r,n,e⟩:=I.hok l _ hH
   have hl:its.length=xs.length:=r.length.symm
   have hemp:its.toArray.isEmpty=xs.isEmpty:=by
    cases r <;> rfl
   have g1:(decide (k < -(2 ^ 63))||decide (k≥2 ^ 63))=false:=by
    rw [Bool.or_eq_false_iff]
    exact ⟨decide_eq_false (by omega),decide_eq_false (by omega)⟩
   refine wpAny_binaryOp_repeat_ref (T:="tuple") (U:="int") (by decide) ⟨_,e,rfl⟩ (fun s'=>typeIs_int s' k t) noFill_tuple_mul F.fills_int_mul F.slot_int_rmul repeat_tuple F.slot_int_index.lookup
    (call_meets F.slot_int_rmul (typeIs_int s k t) F.entry_int_rmul (F.args_int_rmul_2 _ _) (int_rmul_tuple k t l its.toArray n) ⟨e,rfl,⟨_,e,rfl⟩,?_⟩)
   by_cases c1:(its.toArray.isEmpty||k == 1)=true
   · refine call_meets F.slot_tuple_mul ⟨_,e,rfl⟩ F.entry_tuple_mul (F.args_tuple_mul_2 _ _) (tuple_mul_same l its.toArray n k t g1 c1) ⟨e,?_⟩
     refine ⟨.ref l,H,I,rfl,q l H (Same.refl H) ?_⟩
     rw [hH]
     rw [Bool.or_eq_true] at c1
     rcases c1 with c1 | c1
     · rw [hemp,List.isEmpty_iff] at c1
       subst c1
       have:(List.replicate k.toNat ([]:List V)).flatten=[]:=by
        induction k.toNat with
        | zero=>rfl
        | succ m ih=>rw [List.replicate_succ,List.flatten_cons,ih];rfl
       rw [this]
     · have:k=1:=by simpa using c1
       subst this
       show some (HO.tup xs)=some (.tup (List.replicate 1 xs).flatten)
       simp
   · have c1':(its.toArray.isEmpty||k == 1)=false:=by simpa using c1
     have he:its.toArray.isEmpty=false:=(Bool.or_eq_false_iff.mp c1').1
     by_cases c2:k≤0
     · refine call_meets F.slot_tuple_mul ⟨_,e,rfl⟩ F.entry_tuple_mul (F.args_tuple_mul_2 _ _) (tuple_mul_none l its.toArray n k t g1 c1' (by rw [decide_eq_true c2];rfl)) ⟨e,?_⟩
       have e0:(List.replicate k.toNat xs).flatten=[]:=by
        have:k.toNat=0:=by omega
        rw [this];rfl
       have I2:Inv X pins σ (upd H s.heap.objs.size (.tup [])) { s with heap:=s.heap.push { cls:=.type "tuple",data:=.seq #[] } }:=
        I.laid (t':=s.toks) (o:=.tup []) (fun b ob q=>Heap.get?_push_of_some _ q) (Nat.le_refl _) ⟨Nat.zero_le _,[],.nil,TupD.new _ _⟩
       exact ⟨.ref s.heap.objs.size,_,I2,rfl,q _ _ (Same.new (I.hok.fresh (Nat.le_refl _)) _) (by rw [e0];exact upd_same)⟩
     · have hcast:(its.toArray.size:Int)*k=((xs.length*k.toNat:Nat):Int):=by
        rw [List.size_toArray,hl]
        have:k=(k.toNat:Int):=by omega
        conv=>lhs;rw [this]
        norm_cast
       have hb:(sizeLine:Nat)≤(2 ^ 63 - 1) / 8:=by decide
       have g4:decide ((its.toArray.size:Int)*k > (2 ^ 63 - 1) / 8)=false:=by
        refine decide_eq_false ?_
        rw [hcast]
        omega
       have g5:Builtin.Tuple.tupleTooMany ((its.toArray.size:Int)*k)=false:=by
        unfold Builtin.Tuple.tupleTooMany
        rw [hcast]
        exact decide_eq_false (by omega)
       have f0:List.foldl (fun x1 x2=>x1++x2) #[] (List.replicate k.toNat its.toArray)=(List.replicate k.toNat its).flatten.toArray:=by
        have:=foldl_rep its k.toNat []
        rw [List.nil_append] at this
        exact this
       refine call_meets F.slot_tuple_mul ⟨_,e,rfl⟩ F.entry_tuple_mul (F.args_tuple_mul_2 _ _) (tuple_mul_many l its.toArray n k t g1 c1' (by rw [decide_eq_false c2,he];rfl) g4 g5 (by rw [f0,List.size_toArray,len_rep,hl,Nat.mul_comm];exact hz)) ⟨e,?_⟩
       rw [f0]
       have I2:Inv X pins σ (upd H s.heap.objs.size (.tup (List.replicate k.toNat xs).flatten)) { s with heap:=s.heap.push { cls:=.type "tuple",data:=.seq (List.replicate k.toNat its).flatten.toArray } }:=
        I.laid (t':=s.toks) (o:=.tup (List.replicate k.toNat xs).flatten) (fun b ob q=>Heap.get?_push_of_some _ q) (Nat.le_refl _) ⟨by rw [len_rep,Nat.mul_comm];exact hz,_,r.rep k.toNat,TupD.new _ _⟩
       exact ⟨.ref s.heap.objs.size,_,I2,rfl,q _ _ (Same.new (I.hok.fresh (Nat.le_refl _)) _) upd_same⟩
 · exact h.elim
end
section
variable {X:Cx} {e:Expr} {es:List Expr} {t:TA} {p pos:Pos}
theorem boot_repr':bootBuiltins "repr" = some (.builtin "repr"):=by decide +kernel
theorem boot_max':bootBuiltins "max" = some (.builtin "max"):=by decide +kernel
theorem boot_abs':bootBuiltins "abs" = some (.builtin "abs"):=by decide +kernel
theorem pcb_repr {k:Nat} (hr:Room k X.A) (hg:Gl X "repr") (hm:X.mg "repr" = none) (ha:PA X (e::es) t) (he:starEach (e::es) X.env=(false,eval e X.env)::starEach es X.env) (hpl:(backTo pos (starEach es X.env)).any (·.1)=false) :
 PE X (.Call (.Name "repr" p) (e::es) [] pos) (tCB rReprP t):=pe_callB (call_reprP hr) hg hm boot_repr' ha (by decide) (by decide) he hpl
theorem zcb_repr {k:Nat} (hr:Room k X.A) (hg:Gl X "repr") (hm:X.mg "repr" = none) (ha:ZA X (e::es) t) (he:starEach (e::es) X.env=(false,eval e X.env)::starEach es X.env) (hpl:(backTo pos (starEach es X.env)).any (·.1)=false) :
 ZE X (.Call (.Name "repr" p) (e::es) [] pos) (tCB rReprP t):=by with_unfolding_all exact pcb_repr hr hg hm ha he hpl
theorem pcb_max (hc:X.calm=true) (hg:Gl X "max") (hm:X.mg "max" = none) (ha:PA X (e::es) t) (he:starEach (e::es) X.env=(false,eval e X.env)::starEach es X.env) (hpl:(backTo pos (starEach es X.env)).any (·.1)=false) :
 PE X (.Call (.Name "max" p) (e::es) [] pos) (tCB (rMax1P X.K) t):=pe_callB (call_maxP hc) hg hm boot_max' ha (by decide) (by decide) he hpl
theorem zcb_max (hc:X.calm=true) (hg:Gl X "max") (hm:X.mg "max" = none) (ha:ZA X (e::es) t) (he:starEach (e::es) X.env=(false,eval e X.env)::starEach es X.env) (hpl:(backTo pos (starEach es X.env)).any (·.1)=false) :
 ZE X (.Call (.Name "max" p) (e::es) [] pos) (tCB (rMax1P X.K) t):=by with_unfolding_all exact pcb_max hc hg hm ha he hpl
def rAbsP:List V→Hp→VK→Prop:=fun xs H Q=>match xs with
 | [.int i]=>Q (.int (if i<0 then -i else i)) H
 | _=>False
theorem call_absP:CallR X (.builtin "abs") rAbsP:=call_abs.imp fun xs H Q h=>by
 unfold rAbsP at h
 split at h
 · exact ⟨_,rfl,h⟩
 · exact h.elim
theorem pcb_abs (hg:Gl X "abs") (hm:X.mg "abs" = none) (ha:PA X (e::es) t) (he:starEach (e::es) X.env=(false,eval e X.env)::starEach es X.env) (hpl:(backTo pos (starEach es X.env)).any (·.1)=false) :
 PE X (.Call (.Name "abs" p) (e::es) [] pos) (tCB rAbsP t):=pe_callB call_absP hg hm boot_abs' ha (by decide) (by decide) he hpl
theorem zcb_abs (hg:Gl X "abs") (hm:X.mg "abs" = none) (ha:ZA X (e::es) t) (he:starEach (e::es) X.env=(false,eval e X.env)::starEach es X.env) (hpl:(backTo pos (starEach es X.env)).any (·.1)=false) :
 ZE X (.Call (.Name "abs" p) (e::es) [] pos) (tCB rAbsP t):=by with_unfolding_all exact pcb_abs hg hm ha he hpl
def rAppP:V→List V→Hp→VK→Prop:=fun x vs H Q=>match x,vs with
 | .ref l,[y]=>∃ xs,H l=some (.lst xs)∧xs.length<sizeLine∧Q .non (upd H l (.lst (xs++[y])))
 | _,_=>False
theorem mt_appP:MtM X "list.append" rAppP:=fun pins s σ H x vs v us Q I rx rv h=>by
 unfold rAppP at h
 split at h
 · obtain ⟨xs,h1,h2,q⟩:=h
   exact mt_append pins s σ H _ _ v us Q I rx rv ⟨_,xs,_,rfl,rfl,h1,h2,q⟩
 · exact h.elim
variable {o:Expr} {to:TE} {apos cpos:Pos}
theorem pm_append (ho:PE X o to) (ha:PA X (e::es) t) (hbase:attributeBase o "append" X.env (eval o X.env)=eval o X.env:=by rfl)
 (hfew:((backTo cpos (starEach (e::es) X.env)).all (fun x=>!x.1)&&(backToKw cpos (keywordEach [] X.env)).all (fun x=>x.1.isSome)
   && decide ((e::es).length+([]:List Keyword).length+(if ([]:List Keyword).isEmpty then 0 else 1)<30))=true:=by rfl)
 (hline:(apos.endLine == cpos.line)=true:=by rfl) (hs:starEach (e::es) X.env=(false,eval e X.env)::starEach es X.env:=by rfl) (hplain:(backTo cpos (starEach es X.env)).any (·.1)=false:=by rfl) :
 PE X (.Call (.Attribute o "append" apos) (e::es) [] cpos) (fun σ H Q=>to σ H fun x H1=>tyV X.K "list" x H1∧t σ H1 fun xs H2=>rAppP x xs H2 Q):=
 pe_bm PySem.F.plainAttrs_list PySem.F.slot_list_append PySem.F.type_list_append mt_appP ho ha hbase hfew hline hs hplain
theorem zm_append (ho:ZE X o to) (ha:ZA X (e::es) t) (hbase:attributeBase o "append" X.env (eval o X.env)=eval o X.env:=by rfl)
 (hfew:((backTo cpos (starEach (e::es) X.env)).all (fun x=>!x.1)&&(backToKw cpos (keywordEach [] X.env)).all (fun x=>x.1.isSome)
   && decide ((e::es).length+([]:List Keyword).length+(if ([]:List Keyword).isEmpty then 0 else 1)<30))=true:=by rfl)
 (hline:(apos.endLine == cpos.line)=true:=by rfl) (hs:starEach (e::es) X.env=(false,eval e X.env)::starEach es X.env:=by rfl) (hplain:(backTo cpos (starEach es X.env)).any (·.1)=false:=by rfl) :
 ZE X (.Call (.Attribute o "append" apos) (e::es) [] cpos) (fun σ H Q=>to σ H fun x H1=>tyV X.K "list" x H1∧t σ H1 fun xs H2=>rAppP x xs H2 Q):=by with_unfolding_all exact pm_append ho ha hbase hfew hline hs hplain
theorem tyL {K:PySem.W.Frag} {H:Hp} {l:Addr} {xs:List V} (h:H l=some (.lst xs)):tyV K "list" (.ref l) H:=.inl ⟨rfl,xs,SqL.of h⟩
end
structure ShOk (d:PyData) (k L:Nat):Prop where
 sh:d.showable=true
 nd:d.hasDict=false
 dp:d.depth≤k
 ln:d.shown.length≤L
theorem ShOk.mono {d:PyData} {k L k' L':Nat} (h:ShOk d k L) (hk:k≤k') (hL:L≤L'):ShOk d k' L':=⟨h.sh,h.nd,Nat.le_trans h.dp hk,Nat.le_trans h.ln hL⟩
theorem ShOk.need {d:PyData} {k L:Nat} (h:ShOk d k L) (hk:k≤60) (hL:L≤16777216):d.showable=true∧d.hasDict=false∧d.depth≤60∧d.shown.length≤sizeLine:=
 ⟨h.sh,h.nd,Nat.le_trans h.dp hk,by rw [sizeLine_eq];exact Nat.le_trans h.ln hL⟩
theorem ShOk.int {i:Int} (h:i.natAbs.log2<100):ShOk (.int i) 1 101:=by
 refine ⟨?_,by simp only [PyData.hasDict],by simp only [PyData.depth];decide,?_⟩
 · simp only [PyData.showable];exact decide_eq_true (by omega)
 · simp only [PyData.shown]
   rw [PySem.ofString_length]
   exact int_text_length_le (k:=100) (by decide) h
theorem log2_small {i:Int} {n:Nat} (h:i.natAbs<2 ^ n):i.natAbs.log2<n∨i.natAbs=0:=by
 by_cases h0:i.natAbs=0
 · exact .inr h0
 · exact .inl ((Nat.log2_lt h0).mpr h)
theorem ShOk.intB {i:Int} (h1:-(2 ^ 100)<i) (h2:i<2 ^ 100):ShOk (.int i) 1 101:=by
 refine ShOk.int ?_
 have h:i.natAbs<2 ^ 100:=by omega
 rcases log2_small h with h | h
 · exact h
 · rw [h];decide
theorem sh_all {k L:Nat}:∀ {ds:List PyData},(∀ d∈ds,ShOk d k L)→PyData.showableAll ds=true∧PyData.hasDictAll ds=false∧PyData.depthAll ds≤k∧((PyData.shownAll ds).map (·.length)).sum≤ds.length*L∧(PyData.shownAll ds).length=ds.length
 | [],_=>⟨rfl,rfl,by simp only [PyData.depthAll];exact Nat.zero_le _,by simp [PyData.shownAll],by simp [PyData.shownAll]⟩
 | d::r,h=>by
   obtain ⟨h1,h2,h3,h4,h5⟩:=sh_all (ds:=r) fun x hx=>h x (List.mem_cons_of_mem _ hx)
   have hd:=h d List.mem_cons_self
   refine ⟨?_,?_,?_,?_,?_⟩
   · simp only [PyData.showableAll,hd.sh,h1,Bool.and_self]
   · simp only [PyData.hasDictAll,hd.nd,h2,Bool.or_self]
   · simp only [PyData.depthAll];exact Nat.max_le.mpr ⟨hd.dp,h3⟩
   · simp only [PyData.shownAll,List.map_cons,List.sum_cons,List.length_cons,Nat.succ_mul]
     have:=hd.ln;omega
   · simp only [PyData.shownAll,List.length_cons,h5]
theorem ShOk.tuple {ds:List PyData} {k L:Nat} (h:∀ d∈ds,ShOk d k L):ShOk (.tuple ds) (k+1) (ds.length*(L+2)+3):=by
 obtain ⟨h1,h2,h3,h4,h5⟩:=sh_all h
 refine ⟨by simp only [PyData.showable];exact h1,by simp only [PyData.hasDict];exact h2,by simp only [PyData.depth];omega,?_⟩
 simp only [PyData.shown]
 have:=tupleText_len_le (PyData.shownAll ds)
 rw [h5] at this
 rw [Nat.mul_add]
 omega
theorem ShOk.list {ds:List PyData} {k L:Nat} (h:∀ d∈ds,ShOk d k L):ShOk (.list ds) (k+1) (ds.length*(L+2)+3):=by
 obtain ⟨h1,h2,h3,h4,h5⟩:=sh_all h
 refine ⟨by simp only [PyData.showable];exact h1,by simp only [PyData.hasDict];exact h2,by simp only [PyData.depth];omega,?_⟩
 simp only [PyData.shown]
 have:=listText_len_le (PyData.shownAll ds)
 rw [h5] at this
 rw [Nat.mul_add]
 omega
theorem ShOk.ints {ns:List Int} (h:∀ n∈ns,-(2 ^ 100)<n∧n<2 ^ 100):ShOk (.tuple (ns.map PyData.int)) 2 (ns.length*103+3):=by
 have:=ShOk.tuple (ds:=ns.map PyData.int) (k:=1) (L:=101) fun d hd=>by
  obtain ⟨n,hn,rfl⟩:=List.mem_map.mp hd
  exact ShOk.intB (h n hn).1 (h n hn).2
 rw [List.length_map] at this
 exact this
theorem DatV.ints {H:Hp} {a:Addr} {ns:List Int} (e:H a=some (.tup (ns.map V.int))):DatV H (.ref a) (.tuple (ns.map PyData.int)):=.tup e (DatAll.ints ns)
theorem canInts:∀ ns:List Int,PyData.canLayAll0 (ns.map PyData.int)=true∧PyData.depthAll (ns.map PyData.int)≤1
 | []=>⟨by simp [PyData.canLayAll0],by simp [PyData.depthAll]⟩
 | n::r=>by
   obtain ⟨h1,h2⟩:=canInts r
   refine ⟨by simp only [List.map_cons,PyData.canLayAll0,PyData.canLay0,h1,Bool.and_self],?_⟩
   simp only [List.map_cons,PyData.depthAll,PyData.depth]
   omega
theorem shaped_ints (ns:List Int):SeqAt.shaped (.tuple (ns.map PyData.int))=true:=by
 obtain ⟨h1,h2⟩:=canInts ns
 unfold SeqAt.shaped
 rw [Bool.and_eq_true]
 exact ⟨by simp only [PyData.canLay0];exact h1,decide_eq_true (by simp only [PyData.depth];omega)⟩
theorem shaped_list_ints (ns:List Int):SeqAt.shaped (.list (ns.map PyData.int))=true:=by
 obtain ⟨h1,h2⟩:=canInts ns
 unfold SeqAt.shaped
 rw [Bool.and_eq_true]
 exact ⟨by simp only [PyData.canLay0];exact h1,decide_eq_true (by simp only [PyData.depth];omega)⟩
theorem SqL.same {K:PySem.W.Frag} {H H':Hp} {a:Addr} {xs:List V} (e:Same H H') (h:SqL K H a xs):SqL K H' a xs:=by
 rcases h with (h | ⟨o,h⟩) | h
 · exact .inl (.inl (e _ _ h))
 · exact .inl (.inr ⟨o,e _ _ h⟩)
 · exact .inr h
theorem while_by2 {c:TT} {tb:TS} {D:Ends} {σ:St} {H:Hp} (Pv:Nat→St→Hp→Prop) (m0:Nat) (h0:Pv m0 σ H)
 (hs:∀ m σ H,Pv m σ H→c σ H fun b H1=>if b=true then ∃ N:St→Hp→Prop,(∀ σ' H',N σ' H'→∃ m',m' < m∧Pv m' σ' H')∧tb { D with nx:=N,ct:=N,bk:=D.nx } σ H1 else D.nx σ H1):tWhile c tb D σ H:=⟨Pv,⟨m0,h0⟩,hs⟩
theorem eqv_list_nil (ds:List PyData):PyData.eqv (.list ds) (.list [])=ds.isEmpty:=by cases ds <;> simp [PyData.eqv,PyData.eqvAll]
section
variable {X:Cx}
def IntG (mg:Str→Option Value) (x:Str) (i:Int):Prop:=∃ t,mg x=some (.int i t)
theorem pe_ig {x:Str} {i:Int} {pos:Pos} (hg:Gl X x) (hm:IntG X.mg x i) (hd:(x == ("__debug__" : Str))=false:=by decide):PE X (.Name x pos) (tC (.int i)):=by
 obtain ⟨t,e⟩:=hm
 exact pe_glob hg e ⟨t,rfl⟩ hd
theorem ze_ig {x:Str} {i:Int} {pos:Pos} (hg:Gl X x) (hm:IntG X.mg x i) (hd:(x == ("__debug__" : Str))=false:=by decide):ZE X (.Name x pos) (tC (.int i)):=by with_unfolding_all exact pe_ig hg hm hd
end
section
variable {X:Cx} {K:PySem.W.Frag}
theorem ix_P' (h:X.K=K):IxR X (rIxP K):=by subst h;exact ix_P
end
section
variable {X:Cx} {pins:List (Addr×Obj)} {σ:St} {H:Hp} {s:Shared}
def SqK (H:Hp) (c:Bool) (a:Addr) (xs:List V):Prop:=H a=some (if c=true then HO.tup xs else HO.lst xs)
theorem SqK.tup {a:Addr} {xs:List V} (h:H a=some (.tup xs)):SqK H true a xs:=h
end
end L2
namespace SRV
open PySem
open PyProof.Rows hiding K SortedTo K_bubble K_mirror K_congr K_mirror_equal
class KV where
 sh:Shared
 kind:SortKind
 kv:Keyed→Int
 good:Keyed→Prop
 lt:∀ {prog:Program} {w:World} {A:Around} {E:Value→Shared→Prop} {st:SortSt} {x y:Keyed} {Q:Option Bool→SortSt→Prop},kindOf st=kind→good x→good y→Q (some (decide (kv x<kv y))) st→wpS (model prog w) A E sh (lt' x y) Q st
variable [KV]
def kv (p:Keyed):Int:=KV.kv p
def IsI (p:Keyed):Prop:=KV.good p
def AllI (xs:Array Keyed):Prop:=∀ p∈xs.toList,IsI p
def K (xs:Array Keyed) (i:Nat):Int:=match xs[i]? with
 | some p=>kv p
 | none=>0
def SortedTo (xs:Array Keyed) (k:Nat):Prop:=∀ i j,i≤j→j<k→K xs i≤K xs j
theorem K_congr {xs ys:Array Keyed} {i j:Nat} (h:xs[i]? = ys[j]?):K xs i=K ys j:=by unfold K;rw [h]
theorem K_bubble {xs:Array Keyed} {src d:Nat} (hs:src<xs.size) (hd:d≤src) (k:Nat) :
 K (bubble xs src d) k=if k=src - d then K xs src else if src - d<k∧k≤src then K xs (k - 1) else K xs k:=by
 have e:=getElem?_bubble hs d hd k
 by_cases h1:k=src - d
 · rw [if_pos h1] at e ⊢;exact K_congr e
 · rw [if_neg h1] at e ⊢
   by_cases h2:src - d<k∧k≤src
   · rw [if_pos h2] at e ⊢;exact K_congr e
   · rw [if_neg h2] at e ⊢;exact K_congr e
theorem K_mirror {xs:Array Keyed} {i j:Nat} (hj:j≤xs.size) (k:Nat) :
 K (mirror xs i j ((j - i) / 2)) k=if i≤k∧k<j then K xs (i+j - 1 - k) else K xs k:=by
 have e:=getElem?_mirror_all (i:=i) hj k
 by_cases h1:i≤k∧k<j
 · rw [if_pos h1] at e ⊢;exact K_congr e
 · rw [if_neg h1] at e ⊢;exact K_congr e
theorem K_mirror_equal {xs:Array Keyed} {i j:Nat} (hj:j≤xs.size) (heq:∀ k,i≤k→k<j→K xs k=K xs (j - 1)) (k:Nat) :
 K (mirror xs i j ((j - i) / 2)) k=K xs k:=by
 rw [K_mirror hj]
 split
 · rename_i h
   rw [heq k h.1 h.2,heq (i+j - 1 - k) (by omega) (by omega)]
 · rfl
section
variable {prog:Program} {w:World} {A:Around} {E:Value→Shared→Prop}
theorem s_lt {st:SortSt} {x y:Keyed} {Q:Option Bool→SortSt→Prop} (hk:kindOf st=KV.kind) (hx:IsI x) (hy:IsI y) (h:Q (some (decide (kv x<kv y))) st):wpS (model prog w) A E KV.sh (lt' x y) Q st:=KV.lt hk hx hy h
theorem s_elem {st:SortSt} {xs:Array Keyed} {i:Nat} {p:Keyed} {Q:Keyed→SortSt→Prop} (e:xs[i]? = some p) (h:Q p st):wpS (model prog w) A E KV.sh (elem' xs i) Q st:=by
 rw [elem'_eq,e];exact wpS_pure h
def gal:Bool→Keyed→Array Keyed→Nat→Nat→Nat→StateT SortSt Sem (Option Nat):=sortPriv% PySem.Builtin.gallop
theorem gal_eq (lf:Bool) (ky:Keyed) (ar:Array Keyed) (bs n ht:Nat):gal lf ky ar bs n ht=(do
 let byd (i:Nat):StateT SortSt Sem (Option Bool):=do
  let x ← elem' ar (bs+i)
  if lf then lt' x ky else return (← lt' ky x).map (!·)
 let mut la:=0
 let mut os:=1
 let mut lo:=0
 let mut hi:=0
 let some rt ← byd ht | return none
 if rt then
  let mo:=n - ht
  for _ in [0:n] do
   if os≥mo then break
   let some mr ← byd (ht+os) | return none
   if !mr then break
   la:=os
   os:=2*os+1
  lo:=ht+la+1
  hi:=ht+min os mo
 else
  let mo:=ht+1
  for _ in [0:n] do
   if os≥mo then break
   let some fd ← byd (ht - os) | return none
   if fd then break
   la:=os
   os:=2*os+1
  lo:=ht+1 - min os mo
  hi:=ht - la
 for _ in [0:n] do
  if lo≥hi then break
  let m:=lo+(hi - lo) / 2
  let some mr ← byd m | return none
  if mr then lo:=m+1 else hi:=m
 return some hi):=rfl
def Byd (lf:Bool) (ky:Keyed) (ar:Array Keyed) (bs i:Nat):Bool:=if lf then decide (K ar (bs+i)<kv ky) else !decide (kv ky<K ar (bs+i))
theorem K_of {ar:Array Keyed} {i:Nat} {p:Keyed} (e:ar[i]? = some p):K ar i=kv p:=by unfold K;rw [e]
theorem at_of {ar:Array Keyed} {i:Nat} (h:i<ar.size) (hI:AllI ar):∃ p,ar[i]? = some p∧IsI p:=⟨ar[i],getElem?_pos ar i h,hI _ (by simp)⟩
theorem s_byd {st:SortSt} {lf:Bool} {ky:Keyed} {ar:Array Keyed} {bs i:Nat} {Q:Option Bool→SortSt→Prop} (hk:kindOf st=KV.kind) (hI:AllI ar) (hy:IsI ky) (hi:bs+i<ar.size) (h:Q (some (Byd lf ky ar bs i)) st) :
 wpS (model prog w) A E KV.sh (do let x ← elem' ar (bs+i);if lf then lt' x ky else return (← lt' ky x).map (!·)) Q st:=by
 obtain ⟨p,e,hp⟩:=at_of hi hI
 have hK:=K_of e
 unfold Byd at h
 refine wpS_bind (s_elem e ?_)
 cases lf with
 | true=>
   simp only [if_true] at h ⊢
   rw [hK] at h
   exact s_lt hk hp hy h
 | false=>
   simp only [Bool.false_eq_true,if_false] at h ⊢
   rw [hK] at h
   exact wpS_bind (s_lt hk hy hp (wpS_pure h))
theorem s_gal {st:SortSt} {lf:Bool} {ky:Keyed} {ar:Array Keyed} {bs n ht c:Nat} {Q:Option Nat→SortSt→Prop} (hk:kindOf st=KV.kind) (hI:AllI ar) (hy:IsI ky) (hn:bs+n≤ar.size) (hh:ht<n) (hc:c≤n)
 (cut:∀ i,i<n→Byd lf ky ar bs i=decide (i<c)) (h:Q (some c) st):wpS (model prog w) A E KV.sh (gal lf ky ar bs n ht) Q st:=by
 have byd:∀ {i:Nat} {R:Option Bool→SortSt→Prop},i<n→R (some (decide (i<c))) st→wpS (model prog w) A E KV.sh (do let x ← elem' ar (bs+i);if lf then lt' x ky else return (← lt' ky x).map (!·)) R st:=fun {i R} hi hR=>
  s_byd hk hI hy (by omega) (by rw [cut i hi];exact hR)
 rw [gal_eq]
 dsimp only
 refine wpS_bind (byd hh ?_)
 by_cases hr:ht<c
 · simp only [hr,decide_true,if_true]
   refine wpS_bind (wpS_mono (wpS_forRange (I:=fun x r st'=>st=st'∧∃ l o,r=(none,l,o)∧ht+l<c∧l<o∧x+1≤o) (Q:=fun r st'=>st=st'∧∃ l o,r=(none,l,o)∧ht+l<c∧l<o∧c≤ht+min o (n - ht)) ?_ ?_ ⟨rfl,0,1,rfl,by omega,by omega,by omega⟩) ?_)
   · rintro x r st' _ hx ⟨rfl,l,o,rfl,g1,g2,g3⟩
     dsimp only
     by_cases hge:o≥n - ht
     · rw [if_pos hge]
       exact wpS_pure ⟨rfl,l,o,rfl,g1,g2,by omega⟩
     · rw [if_neg hge]
       refine wpS_bind (byd (by omega) ?_)
       by_cases hm:ht+o<c
       · simp only [hm,decide_true,Bool.not_true,Bool.false_eq_true,if_false]
         exact wpS_pure ⟨rfl,_,_,rfl,hm,by omega,by omega⟩
       · simp only [hm,decide_false,Bool.not_false,if_true]
         exact wpS_pure ⟨rfl,l,o,rfl,g1,g2,by omega⟩
   · rintro r st' ⟨rfl,l,o,rfl,g1,g2,g3⟩
     exact ⟨rfl,l,o,rfl,g1,g2,by omega⟩
   · rintro r st' ⟨rfl,l,o,rfl,g1,g2,g3⟩
     dsimp only
     refine wpS_bind (wpS_mono (wpS_forRange (I:=fun x r st'=>st=st'∧∃ l u,r=(none,l,u)∧l≤c∧c≤u∧u≤n∧u - l≤n - x) (Q:=fun r st'=>st=st'∧∃ l,r=(none,l,c)) ?_ ?_ ⟨rfl,(ht+l+1),(ht+min o (n - ht)),rfl,(by omega),g3,(by omega),by omega⟩) ?_)
     · rintro x r st' _ hx ⟨rfl,l,u,rfl,g1,g2,g3,g4⟩
       dsimp only
       by_cases hge:l≥u
       · rw [if_pos hge]
         have:u=c:=by omega
         subst this
         exact wpS_pure ⟨rfl,l,rfl⟩
       · rw [if_neg hge]
         refine wpS_bind (byd (by omega) ?_)
         by_cases hm:l+(u - l) / 2<c
         · simp only [hm,decide_true,if_true]
           exact wpS_pure ⟨rfl,_,_,rfl,by omega,g2,g3,by omega⟩
         · simp only [hm,decide_false,Bool.false_eq_true,if_false]
           exact wpS_pure ⟨rfl,_,_,rfl,g1,by omega,by omega,by omega⟩
     · rintro r st' ⟨rfl,l,u,rfl,g1,g2,g3,g4⟩
       have:u=c:=by
        have:max 0 n=n:=by omega
        omega
       subst this
       exact ⟨rfl,l,rfl⟩
     · rintro r st' ⟨rfl,l,rfl⟩
       exact wpS_pure h
 · simp only [hr,decide_false,Bool.false_eq_true,if_false]
   refine wpS_bind (wpS_mono (wpS_forRange (I:=fun x r st'=>st=st'∧∃ l o,r=(none,l,o)∧c≤ht - l∧l≤ht∧l<o∧x+1≤o) (Q:=fun r st'=>st=st'∧∃ l o,r=(none,l,o)∧c≤ht - l∧l≤ht∧l<o∧ht+1 - min o (ht+1)≤c) ?_ ?_ ⟨rfl,0,1,rfl,by omega,by omega,by omega,by omega⟩) ?_)
   · rintro x r st' _ hx ⟨rfl,l,o,rfl,g1,g0,g2,g3⟩
     dsimp only
     by_cases hge:o≥ht+1
     · rw [if_pos hge]
       exact wpS_pure ⟨rfl,l,o,rfl,g1,g0,g2,by omega⟩
     · rw [if_neg hge]
       refine wpS_bind (byd (by omega) ?_)
       by_cases hm:ht - o<c
       · simp only [hm,decide_true,if_true]
         exact wpS_pure ⟨rfl,l,o,rfl,g1,g0,g2,by omega⟩
       · simp only [hm,decide_false,Bool.false_eq_true,if_false]
         exact wpS_pure ⟨rfl,_,_,rfl,by omega,by omega,by omega,by omega⟩
   · rintro r st' ⟨rfl,l,o,rfl,g1,g0,g2,g3⟩
     exact ⟨rfl,l,o,rfl,g1,g0,g2,by omega⟩
   · rintro r st' ⟨rfl,l,o,rfl,g1,g0,g2,g3⟩
     dsimp only
     refine wpS_bind (wpS_mono (wpS_forRange (I:=fun x r st'=>st=st'∧∃ l u,r=(none,l,u)∧l≤c∧c≤u∧u≤n∧u - l≤n - x) (Q:=fun r st'=>st=st'∧∃ l,r=(none,l,c)) ?_ ?_ ⟨rfl,(ht+1 - min o (ht+1)),(ht - l),rfl,g3,g1,(by omega),by omega⟩) ?_)
     · rintro x r st' _ hx ⟨rfl,l,u,rfl,g1,g2,g3,g4⟩
       dsimp only
       by_cases hge:l≥u
       · rw [if_pos hge]
         have:u=c:=by omega
         subst this
         exact wpS_pure ⟨rfl,l,rfl⟩
       · rw [if_neg hge]
         refine wpS_bind (byd (by omega) ?_)
         by_cases hm:l+(u - l) / 2<c
         · simp only [hm,decide_true,if_true]
           exact wpS_pure ⟨rfl,_,_,rfl,by omega,g2,g3,by omega⟩
         · simp only [hm,decide_false,Bool.false_eq_true,if_false]
           exact wpS_pure ⟨rfl,_,_,rfl,g1,by omega,by omega,by omega⟩
     · rintro r st' ⟨rfl,l,u,rfl,g1,g2,g3,g4⟩
       have:u=c:=by
        have:max 0 n=n:=by omega
        omega
       subst this
       exact ⟨rfl,l,rfl⟩
     · rintro r st' ⟨rfl,l,rfl⟩
       exact wpS_pure h
end
open PyProof.Rows hiding K SortedTo K_bubble K_mirror K_congr K_mirror_equal
variable [KV]
def Le (x y:Keyed):Prop:=kv x≤kv y
structure MI (A B:List Keyed) (o:List Keyed) (ia ib:Nat):Prop where
 perm:o.Perm (A.take ia++B.take ib)
 srt:o.Pairwise Le
 lea:∀ x∈o,∀ y∈A.drop ia,kv x≤kv y
 leb:∀ x∈o,∀ y∈B.drop ib,kv x≤kv y
structure Mer (A B:List Keyed) (o:List Keyed):Prop where
 perm:o.Perm (A++B)
 srt:o.Pairwise Le
theorem pw_drop {l:List Keyed} (h:l.Pairwise Le) {i:Nat} (hi:i<l.length):∀ y∈l.drop (i+1),kv l[i]≤kv y:=by
 have e:l.drop i=l[i]::l.drop (i+1):=List.drop_eq_getElem_cons hi
 have h2:(l.drop i).Pairwise Le:=h.sublist (List.drop_sublist i l)
 rw [e] at h2
 exact (List.pairwise_cons.mp h2).1
theorem mem_drop_succ {l:List Keyed} {i:Nat} {y:Keyed} (h:y∈l.drop (i+1)):y∈l.drop i:=by
 rw [← List.drop_drop] at h
 exact List.mem_of_mem_drop h
theorem MI.pushB {A B o:List Keyed} {ia ib:Nat} (m:MI A B o ia ib) (hB:B.Pairwise Le) (hi:ib<B.length) (h:∀ z∈A.drop ia,kv B[ib]≤kv z):MI A B (o++[B[ib]]) ia (ib+1):=by
 have hm:B[ib]∈B.drop ib:=by rw [List.drop_eq_getElem_cons hi];exact List.mem_cons_self
 refine ⟨?_,?_,fun x hx y hy=>?_,fun x hx y hy=>?_⟩
 · have e:B.take (ib+1)=B.take ib++[B[ib]]:=by rw [List.take_succ,List.getElem?_eq_getElem hi];rfl
   rw [e,← List.append_assoc]
   exact m.perm.append_right _
 · refine List.pairwise_append.mpr ⟨m.srt,List.pairwise_singleton _ _,fun x hx y hy=>?_⟩
   rw [List.mem_singleton.mp hy]
   exact m.leb x hx _ hm
 · rcases List.mem_append.mp hx with hx | hx
   · exact m.lea x hx y hy
   · rw [List.mem_singleton.mp hx];exact h y hy
 · rcases List.mem_append.mp hx with hx | hx
   · exact m.leb x hx y (mem_drop_succ hy)
   · rw [List.mem_singleton.mp hx];exact pw_drop hB hi y hy
theorem MI.pushA {A B o:List Keyed} {ia ib:Nat} (m:MI A B o ia ib) (hA:A.Pairwise Le) (hi:ia<A.length) (h:∀ z∈B.drop ib,kv A[ia]≤kv z):MI A B (o++[A[ia]]) (ia+1) ib:=by
 have hm:A[ia]∈A.drop ia:=by rw [List.drop_eq_getElem_cons hi];exact List.mem_cons_self
 refine ⟨?_,?_,fun x hx y hy=>?_,fun x hx y hy=>?_⟩
 · have e:A.take (ia+1)=A.take ia++[A[ia]]:=by rw [List.take_succ,List.getElem?_eq_getElem hi];rfl
   rw [e,List.append_assoc]
   refine (m.perm.append_right _).trans ?_
   rw [List.append_assoc]
   exact List.Perm.append_left _ List.perm_append_comm
 · refine List.pairwise_append.mpr ⟨m.srt,List.pairwise_singleton _ _,fun x hx y hy=>?_⟩
   rw [List.mem_singleton.mp hy]
   exact m.lea x hx _ hm
 · rcases List.mem_append.mp hx with hx | hx
   · exact m.lea x hx y (mem_drop_succ hy)
   · rw [List.mem_singleton.mp hx];exact pw_drop hA hi y hy
 · rcases List.mem_append.mp hx with hx | hx
   · exact m.leb x hx y hy
   · rw [List.mem_singleton.mp hx];exact h y hy
theorem MI.extA {A B o:List Keyed} {ia ib:Nat} (m:MI A B o ia ib) (hA:A.Pairwise Le):∀ (k:Nat),ia+k≤A.length→(∀ i (hi:ia+i<A.length),i<k→∀ z∈B.drop ib,kv A[ia+i]≤kv z)→MI A B (o++(A.drop ia).take k) (ia+k) ib
 | 0,_,_=>by rw [List.take_zero,List.append_nil];exact m
 | k+1,hk,h=>by
   have ih:=MI.extA m hA k (by omega) fun i hi hik=>h i hi (by omega)
   have hi:ia+k<A.length:=by omega
   have e:(A.drop ia).take (k+1)=(A.drop ia).take k++[A[ia+k]]:=by rw [List.take_succ,List.getElem?_drop,List.getElem?_eq_getElem hi];rfl
   rw [e,← List.append_assoc]
   exact ih.pushA hA hi (h k hi (by omega))
theorem MI.extB {A B o:List Keyed} {ia ib:Nat} (m:MI A B o ia ib) (hB:B.Pairwise Le):∀ (k:Nat),ib+k≤B.length→(∀ i (hi:ib+i<B.length),i<k→∀ z∈A.drop ia,kv B[ib+i]≤kv z)→MI A B (o++(B.drop ib).take k) ia (ib+k)
 | 0,_,_=>by rw [List.take_zero,List.append_nil];exact m
 | k+1,hk,h=>by
   have ih:=MI.extB m hB k (by omega) fun i hi hik=>h i hi (by omega)
   have hi:ib+k<B.length:=by omega
   have e:(B.drop ib).take (k+1)=(B.drop ib).take k++[B[ib+k]]:=by rw [List.take_succ,List.getElem?_drop,List.getElem?_eq_getElem hi];rfl
   rw [e,← List.append_assoc]
   exact ih.pushB hB hi (h k hi (by omega))
theorem perm_mid (a b c d:List Keyed):(a++b++(c++d)).Perm (a++c++(b++d)):=by
 rw [List.append_assoc,List.append_assoc]
 refine List.Perm.append_left a ?_
 rw [← List.append_assoc,← List.append_assoc]
 exact List.Perm.append_right d List.perm_append_comm
theorem MI.finAB {A B o:List Keyed} {ia ib:Nat} (m:MI A B o ia ib) (hA:A.Pairwise Le) (hB:B.Pairwise Le) (h:∀ x∈A.drop ia,∀ y∈B.drop ib,kv x≤kv y):Mer A B (o++A.drop ia++B.drop ib):=by
 refine ⟨?_,?_⟩
 · have e:=(m.perm.append_right (A.drop ia++B.drop ib)).trans (perm_mid (A.take ia) (B.take ib) (A.drop ia) (B.drop ib))
   rw [List.take_append_drop,List.take_append_drop] at e
   rw [List.append_assoc];exact e
 · refine List.pairwise_append.mpr ⟨List.pairwise_append.mpr ⟨m.srt,hA.sublist (List.drop_sublist _ _),fun x hx y hy=>m.lea x hx y hy⟩,hB.sublist (List.drop_sublist _ _),fun x hx y hy=>?_⟩
   rcases List.mem_append.mp hx with hx | hx
   · exact m.leb x hx y hy
   · exact h x hx y hy
theorem MI.finBA {A B o:List Keyed} {ia ib:Nat} (m:MI A B o ia ib) (hA:A.Pairwise Le) (hB:B.Pairwise Le) (h:∀ x∈A.drop ia,∀ y∈B.drop ib,kv y≤kv x):Mer A B (o++B.drop ib++A.drop ia):=by
 refine ⟨?_,?_⟩
 · have e:=(m.perm.append_right (A.drop ia++B.drop ib)).trans (perm_mid (A.take ia) (B.take ib) (A.drop ia) (B.drop ib))
   rw [List.take_append_drop,List.take_append_drop] at e
   rw [List.append_assoc]
   exact (List.Perm.append_left o List.perm_append_comm).trans e
 · refine List.pairwise_append.mpr ⟨List.pairwise_append.mpr ⟨m.srt,hB.sublist (List.drop_sublist _ _),fun x hx y hy=>m.leb x hx y hy⟩,hA.sublist (List.drop_sublist _ _),fun x hx y hy=>?_⟩
   rcases List.mem_append.mp hx with hx | hx
   · exact m.lea x hx y hy
   · exact h y hy x hx
def mlo:Array Keyed→Array Keyed→StateT SortSt Sem (Array Keyed):=sortPriv% PySem.Builtin.mergeLo
def setG:Nat→StateT SortSt Sem Unit:=sortPriv% PySem.Builtin.setMinGallop
theorem setG_eq (g:Nat):setG g=modify fun z=>SortSt.mk' (kindOf z) (arrOf z) (pendingOf z) g (failedOf z):=rfl
theorem mlo_eq (xa xb:Array Keyed):mlo xa xb=(do
 rule "list.sort.merge-lo"
 let tot:=xa.size+xb.size
 let dn (ou:Array Keyed) (i j:Nat):=ou++xa.extract i xa.size++xb.extract j xb.size
 let la (ou:Array Keyed) (i j:Nat):=ou++xb.extract j xb.size++xa.extract i xa.size
 let mut ou:Array Keyed:=#[← elem' xb 0]
 let mut i:=0
 let mut j:=1
 if j == xb.size then return dn ou i j
 if i+1 == xa.size then return la ou i j
 let mut mg:=gallopOf (← get)
 for _ in [0:tot] do
  let mut ac:=0
  let mut bc:=0
  for _ in [0:tot] do
   let some bw ← lt' (← elem' xb j) (← elem' xa i) | return dn ou i j
   if bw then
    ou:=ou.push (← elem' xb j);j:=j+1;bc:=bc+1;ac:=0
    if j == xb.size then return dn ou i j
    if bc≥mg then break
   else
    ou:=ou.push (← elem' xa i);i:=i+1;ac:=ac+1;bc:=0
    if i+1 == xa.size then return la ou i j
    if ac≥mg then break
  rule "list.sort.gallop"
  mg:=mg+1
  for _ in [0:tot] do
   if mg > 1 then mg:=mg - 1
   setG mg
   let some k ← gal false (← elem' xb j) xa i (xa.size - i) 0 | return dn ou i j
   ac:=k
   if k > 0 then
    ou:=ou++xa.extract i (i+k);i:=i+k
    if i+1 == xa.size then return la ou i j
    if i == xa.size then return dn ou i j
   ou:=ou.push (← elem' xb j);j:=j+1
   if j == xb.size then return dn ou i j
   let some k ← gal true (← elem' xa i) xb j (xb.size - j) 0 | return dn ou i j
   bc:=k
   if k > 0 then
    ou:=ou++xb.extract j (j+k);j:=j+k
    if j == xb.size then return dn ou i j
   ou:=ou.push (← elem' xa i);i:=i+1
   if i+1 == xa.size then return la ou i j
   if ac<7&&bc<7 then break
  mg:=mg+1
  setG mg
 unsupported "internal:list.sort.merge-bound"):=rfl
open PyProof.Rows hiding K SortedTo K_bubble K_mirror K_congr K_mirror_equal
variable [KV]
structure SameSt (a b:SortSt):Prop where
 kind:kindOf b=kindOf a
 arr:arrOf b=arrOf a
 pend:pendingOf b=pendingOf a
 fail:failedOf b=failedOf a
theorem SameSt.refl (a:SortSt):SameSt a a:=⟨rfl,rfl,rfl,rfl⟩
theorem SameSt.setG {a b:SortSt} (h:SameSt a b) (g:Nat):SameSt a (SortSt.mk' (kindOf b) (arrOf b) (pendingOf b) g (failedOf b)):=⟨h.kind,h.arr,h.pend,h.fail⟩
theorem toL_end (o x y:Array Keyed) (i j:Nat):(o++x.extract i x.size++y.extract j y.size).toList=o.toList++x.toList.drop i++y.toList.drop j:=by
 have e:∀ (z:Array Keyed) (k:Nat),(z.extract k z.size).toList=z.toList.drop k:=fun z k=>by
  rw [Array.toList_extract,List.extract_eq_drop_take,List.take_of_length_le]
  rw [List.length_drop,Array.length_toList]
  exact Nat.le_refl _
 rw [Array.toList_append,Array.toList_append,e,e]
theorem toL_ext (o x:Array Keyed) (i k:Nat):(o++x.extract i (i+k)).toList=o.toList++(x.toList.drop i).take k:=by
 rw [Array.toList_append,Array.toList_extract,List.extract_eq_drop_take,Nat.add_sub_cancel_left]
section
variable {A B:List Keyed} {o:List Keyed} {ia ib:Nat}
theorem drop_len {l:List Keyed} {i:Nat} (h:i=l.length):l.drop i=[]:=List.drop_of_length_le (by omega)
theorem one_left {l:List Keyed} {i:Nat} (h:i+1=l.length):∀ x∈l.drop i,kv x=kv (l[l.length - 1]'(by omega)):=fun x hx=>by
 have e:l.drop i=l[i]::l.drop (i+1):=List.drop_eq_getElem_cons (by omega)
 rw [e,drop_len h] at hx
 have:x=l[i]:=by simpa using hx
 subst this
 congr 2
 omega
end
section
variable {prog:Program} {w:World} {A:Around} {E:Value→Shared→Prop}
theorem s_elemL {st:SortSt} {xs:Array Keyed} {i:Nat} {Q:Keyed→SortSt→Prop} (hi:i<xs.toList.length) (h:Q xs.toList[i] st):wpS (model prog w) A E KV.sh (elem' xs i) Q st:=
 s_elem (by rw [← Array.getElem?_toList,List.getElem?_eq_getElem hi]) h
theorem s_setG {st:SortSt} {g:Nat} {Q:Unit→SortSt→Prop} (h:Q () (SortSt.mk' (kindOf st) (arrOf st) (pendingOf st) g (failedOf st))):wpS (model prog w) A E KV.sh (setG g) Q st:=by
 rw [setG_eq];exact wpS_modify h
theorem cut_of {xs:Array Keyed} (hs:xs.toList.Pairwise Le) (ky:Keyed) (lf:Bool) (bs n:Nat) (hn:bs+n≤xs.size):∃ c,c≤n∧∀ i,i<n→Byd lf ky xs bs i=decide (i<c):=by
 have mono:∀ i j,i≤j→bs+j<xs.size→K xs (bs+i)≤K xs (bs+j):=fun i j hij hj=>by
  have e1:xs[bs+i]? = some (xs.toList[bs+i]'(by rw [Array.length_toList];omega)):=by rw [← Array.getElem?_toList,List.getElem?_eq_getElem]
  have e2:xs[bs+j]? = some (xs.toList[bs+j]'(by rw [Array.length_toList];omega)):=by rw [← Array.getElem?_toList,List.getElem?_eq_getElem]
  rw [K_of e1,K_of e2]
  by_cases h:i=j
  · subst h;exact Int.le_refl _
  · exact List.pairwise_iff_getElem.mp hs _ _ _ _ (by omega)
 have down:∀ i j,i≤j→j<n→Byd lf ky xs bs j=true→Byd lf ky xs bs i=true:=fun i j hij hj h=>by
  have:=mono i j hij (by omega)
  unfold Byd at h ⊢
  cases lf with
  | true=>simp only [if_true,decide_eq_true_eq] at h ⊢;omega
  | false=>simp only [Bool.false_eq_true,if_false,Bool.not_eq_true',decide_eq_false_iff_not] at h ⊢;omega
 induction n with
 | zero=>exact ⟨0,Nat.le_refl _,fun i hi=>absurd hi (Nat.not_lt_zero _)⟩
 | succ n ih=>
   obtain ⟨c,hc,hd⟩:=ih (by omega) (fun i j hij hj h=>down i j hij (by omega) h)
   by_cases hb:Byd lf ky xs bs n=true
   · refine ⟨n+1,Nat.le_refl _,fun i hi=>?_⟩
     rw [decide_eq_true hi]
     exact down i n (by omega) (by omega) hb
   · refine ⟨c,by omega,fun i hi=>?_⟩
     by_cases h:i=n
     · subst h
       rw [decide_eq_false (by omega)]
       exact Bool.not_eq_true _▸(by simpa using hb)
     · exact hd i (by omega)
theorem K_at {xs:Array Keyed} {i:Nat} (hi:i<xs.toList.length):K xs i=kv xs.toList[i]:=K_of (by rw [← Array.getElem?_toList,List.getElem?_eq_getElem hi])
end
open PyProof.Rows hiding K SortedTo K_bubble K_mirror K_congr K_mirror_equal
variable [KV]
theorem mem_dropE {l:List Keyed} {k:Nat} {z:Keyed} (h:z∈l.drop k):∃ u,∃ h:k+u<l.length,z=l[k+u]:=by
 obtain ⟨u,hu,rfl⟩:=List.mem_iff_getElem.mp h
 rw [List.length_drop] at hu
 exact ⟨u,by omega,by rw [List.getElem_drop]⟩
theorem head_le {l:List Keyed} (h:l.Pairwise Le) {i:Nat} (hi:i<l.length):∀ z∈l.drop i,kv l[i]≤kv z:=fun z hz=>by
 rw [List.drop_eq_getElem_cons hi] at hz
 rcases List.mem_cons.mp hz with rfl | hz
 · exact Int.le_refl _
 · exact pw_drop h hi z hz
theorem gfalse {xs:Array Keyed} {ky:Keyed} {bs n c:Nat} (hn:bs+n=xs.toList.length) (cut:∀ i,i<n→Byd false ky xs bs i=decide (i<c)) :
 (∀ t (h:bs+t<xs.toList.length),t<c→kv xs.toList[bs+t]≤kv ky)∧(∀ z∈xs.toList.drop (bs+c),kv ky<kv z):=by
 constructor
 · intro t h ht
   have:=cut t (by omega)
   rw [decide_eq_true ht] at this
   unfold Byd at this
   rw [K_at h] at this
   simp only [Bool.false_eq_true,if_false,Bool.not_eq_true',decide_eq_false_iff_not] at this
   omega
 · intro z hz
   obtain ⟨u,hu,rfl⟩:=mem_dropE hz
   have:=cut (c+u) (by omega)
   rw [decide_eq_false (by omega)] at this
   unfold Byd at this
   have e:bs+(c+u)=bs+c+u:=by omega
   rw [e,K_at hu] at this
   simpa using this
theorem gtrue {xs:Array Keyed} {ky:Keyed} {bs n c:Nat} (hn:bs+n=xs.toList.length) (cut:∀ i,i<n→Byd true ky xs bs i=decide (i<c)) :
 (∀ t (h:bs+t<xs.toList.length),t<c→kv xs.toList[bs+t]<kv ky)∧(∀ z∈xs.toList.drop (bs+c),kv ky≤kv z):=by
 constructor
 · intro t h ht
   have:=cut t (by omega)
   rw [decide_eq_true ht] at this
   unfold Byd at this
   rw [K_at h] at this
   simpa using this
 · intro z hz
   obtain ⟨u,hu,rfl⟩:=mem_dropE hz
   have:=cut (c+u) (by omega)
   rw [decide_eq_false (by omega)] at this
   unfold Byd at this
   have e:bs+(c+u)=bs+c+u:=by omega
   rw [e,K_at hu] at this
   simpa using this
theorem MI.start {A B:List Keyed} (hB:B.Pairwise Le) (hb:0<B.length) (h0:∀ z∈A,kv B[0]≤kv z):MI A B [B[0]] 0 1:=by
 have m:MI A B [] 0 0:=⟨by simp,List.Pairwise.nil,fun x hx=>(nomatch hx),fun x hx=>(nomatch hx)⟩
 exact m.pushB hB hb fun z hz=>h0 z (by simpa using hz)
theorem MI.doneB {xa xb ou:Array Keyed} {i j:Nat} (m:MI xa.toList xb.toList ou.toList i j) (hA:xa.toList.Pairwise Le) (hB:xb.toList.Pairwise Le) (h:j=xb.toList.length):Mer xa.toList xb.toList (ou++xa.extract i xa.size++xb.extract j xb.size).toList:=by
 rw [toL_end]
 exact m.finAB hA hB fun x _ y hy=>by rw [drop_len h] at hy;cases hy
theorem MI.doneA {xa xb ou:Array Keyed} {i j:Nat} (m:MI xa.toList xb.toList ou.toList i j) (hA:xa.toList.Pairwise Le) (hB:xb.toList.Pairwise Le) (h:i=xa.toList.length):Mer xa.toList xb.toList (ou++xa.extract i xa.size++xb.extract j xb.size).toList:=by
 rw [toL_end]
 exact m.finAB hA hB fun x hx y _=>by rw [drop_len h] at hx;cases hx
theorem MI.last {xa xb ou:Array Keyed} {i j:Nat} (m:MI xa.toList xb.toList ou.toList i j) (hA:xa.toList.Pairwise Le) (hB:xb.toList.Pairwise Le) (h:i+1=xa.toList.length) (hl:∀ z∈xb.toList,kv z≤kv (xa.toList[xa.toList.length - 1]'(by omega))):Mer xa.toList xb.toList (ou++xb.extract j xb.size++xa.extract i xa.size).toList:=by
 rw [toL_end]
 exact m.finBA hA hB fun x hx y hy=>by rw [one_left h x hx];exact hl y (List.mem_of_mem_drop hy)
section
variable {prog:Program} {w:World} {A:Around} {E:Value→Shared→Prop}
theorem s_mlo {st:SortSt} {xa xb:Array Keyed} {Q:Array Keyed→SortSt→Prop} (hk:kindOf st=KV.kind) (hIa:AllI xa) (hIb:AllI xb) (hA:xa.toList.Pairwise Le) (hB:xb.toList.Pairwise Le) (ha:0<xa.toList.length) (hb:0<xb.toList.length)
 (h0:∀ z∈xa.toList,kv (xb.toList[0])≤kv z) (hl:∀ z∈xb.toList,kv z≤kv (xa.toList[xa.toList.length - 1]'(by omega)))
 (h:∀ o st',SameSt st st'→Mer xa.toList xb.toList o.toList→Q o st'):wpS (model prog w) A E KV.sh (mlo xa xb) Q st:=by
 have hsa:xa.size=xa.toList.length:=(Array.length_toList ..).symm
 have hsb:xb.size=xb.toList.length:=(Array.length_toList ..).symm
 rw [mlo_eq]
 refine wpS_bind (wpS_lift (wpAny_rule ⟨rfl,?_⟩))
 dsimp only
 refine wpS_bind (s_elemL hb ?_)
 have m0:MI xa.toList xb.toList (#[xb.toList[0]]:Array Keyed).toList 0 1:=MI.start hB hb h0
 by_cases c1:1=xb.size
 · rw [if_pos (by simpa using c1)]
   exact wpS_pure (h _ _ (SameSt.refl _) (m0.doneB hA hB (by omega)))
 rw [if_neg (by simpa using c1)]
 by_cases c2:0+1=xa.size
 · rw [if_pos (by simpa using c2)]
   exact wpS_pure (h _ _ (SameSt.refl _) (m0.last hA hB (by omega) hl))
 rw [if_neg (by simpa using c2)]
 refine wpS_bind (wpS_get ?_)
 refine wpS_bind (wpS_mono (wpS_forRange (I:=fun x c st'=>SameSt st st'∧∃ ou i j mg,c=(none,ou,i,j,mg)∧MI xa.toList xb.toList ou.toList i j∧i+1<xa.size∧j<xb.toList.length∧x+1≤i+j) (Q:=fun c st'=>SameSt st st'∧∃ res rest,c=(some res,rest)∧Mer xa.toList xb.toList res.toList) ?step ?fin ⟨SameSt.refl _,_,_,_,_,rfl,m0,by omega,by omega,by omega⟩) ?post)
 case post=>
  rintro c st' ⟨sm,res,rest,rfl,me⟩
  exact wpS_pure (h _ _ sm me)
 case fin=>
  rintro c st' ⟨sm,ou,i,j,mg,rfl,m,hi,hj,hx⟩
  exfalso
  omega
 case step=>
  rintro x c st1 _ hx ⟨sm,ou,i,j,mg,rfl,m,hi,hj,hx2⟩
  dsimp only
  refine wpS_bind (wpS_mono (wpS_forRange (I:=fun y c st'=>SameSt st st'∧∃ ou i j ac bc,c=(none,ou,i,j,ac,bc)∧MI xa.toList xb.toList ou.toList i j∧i+1<xa.size∧j<xb.toList.length∧x+1+min y 1≤i+j)
   (Q:=fun c st'=>SameSt st st'∧((∃ res rest,c=(some res,rest)∧Mer xa.toList xb.toList res.toList)∨∃ ou i j ac bc,c=(none,ou,i,j,ac,bc)∧MI xa.toList xb.toList ou.toList i j∧i+1<xa.size∧j<xb.toList.length∧x+2≤i+j)) ?s1 ?f1 ⟨sm,_,_,_,_,_,rfl,m,hi,hj,by omega⟩) ?p1)
  case f1=>
   rintro c st2 ⟨sm2,ou,i,j,ac,bc,rfl,m,hi,hj,hx3⟩
   exact ⟨sm2,.inr ⟨_,_,_,_,_,rfl,m,hi,hj,by omega⟩⟩
  case s1=>
   rintro y c st2 _ hy ⟨sm2,ou,i,j,ac,bc,rfl,m,hi,hj,hx3⟩
   dsimp only
   refine wpS_bind (s_elemL hj (wpS_bind (s_elemL (i:=i) (by omega) ?_)))
   refine wpS_bind (s_lt (sm2.kind.trans hk) (hIb _ (List.getElem_mem _)) (hIa _ (List.getElem_mem _)) ?_)
   by_cases bw:kv xb.toList[j]<kv (xa.toList[i]'(by omega))
   · simp only [bw,decide_true,if_true]
     refine wpS_bind (s_elemL hj ?_)
     have m2:MI xa.toList xb.toList (ou.push xb.toList[j]).toList i (j+1):=by
      rw [Array.toList_push]
      exact m.pushB hB hj fun z hz=>Int.le_trans (Int.le_of_lt bw) (head_le hA (by omega) z hz)
     by_cases e1:j+1=xb.size
     · rw [if_pos (by simpa using e1)]
       exact wpS_pure ⟨sm2,.inl ⟨_,_,rfl,m2.doneB hA hB (by omega)⟩⟩
     · rw [if_neg (by simpa using e1)]
       split
       · exact wpS_pure ⟨sm2,.inr ⟨_,_,_,_,_,rfl,m2,hi,by omega,by omega⟩⟩
       · exact wpS_pure ⟨sm2,_,_,_,_,_,rfl,m2,hi,by omega,by omega⟩
   · simp only [bw,decide_false,Bool.false_eq_true,if_false]
     refine wpS_bind (s_elemL (i:=i) (by omega) ?_)
     have m2:MI xa.toList xb.toList (ou.push (xa.toList[i]'(by omega))).toList (i+1) j:=by
      rw [Array.toList_push]
      exact m.pushA hA (by omega) fun z hz=>Int.le_trans (Int.not_lt.mp bw) (head_le hB hj z hz)
     by_cases e1:i+1+1=xa.size
     · rw [if_pos (by simpa using e1)]
       exact wpS_pure ⟨sm2,.inl ⟨_,_,rfl,m2.last hA hB (by omega) hl⟩⟩
     · rw [if_neg (by simpa using e1)]
       split
       · exact wpS_pure ⟨sm2,.inr ⟨_,_,_,_,_,rfl,m2,by omega,hj,by omega⟩⟩
       · exact wpS_pure ⟨sm2,_,_,_,_,_,rfl,m2,by omega,hj,by omega⟩
  case p1=>
   rintro c st2 ⟨sm2,⟨res,rest,rfl,me⟩ | ⟨ou,i,j,ac,bc,rfl,m,hi,hj,hx3⟩⟩
   · exact wpS_pure ⟨sm2,_,_,rfl,me⟩
   dsimp only
   refine wpS_bind (wpS_lift (wpAny_rule ⟨rfl,?_⟩))
   refine wpS_bind (wpS_mono (wpS_forRange (I:=fun y c st'=>SameSt st st'∧∃ ou i j mg ac bc,c=(none,ou,i,j,mg,ac,bc)∧MI xa.toList xb.toList ou.toList i j∧i+1<xa.size∧j<xb.toList.length∧x+2≤i+j)
    (Q:=fun c st'=>SameSt st st'∧((∃ res rest,c=(some res,rest)∧Mer xa.toList xb.toList res.toList)∨∃ ou i j mg ac bc,c=(none,ou,i,j,mg,ac,bc)∧MI xa.toList xb.toList ou.toList i j∧i+1<xa.size∧j<xb.toList.length∧x+2≤i+j)) ?s2 ?f2 ⟨sm2,_,_,_,_,_,_,rfl,m,hi,hj,hx3⟩) ?p2)
   case f2=>
    rintro c st3 ⟨sm3,ou,i,j,mg,ac,bc,rfl,m,hi,hj,hx4⟩
    exact ⟨sm3,.inr ⟨_,_,_,_,_,_,rfl,m,hi,hj,hx4⟩⟩
   case p2=>
    rintro c st3 ⟨sm3,⟨res,rest,rfl,me⟩ | ⟨ou,i,j,mg,ac,bc,rfl,m,hi,hj,hx4⟩⟩
    · exact wpS_pure ⟨sm3,_,_,rfl,me⟩
    · dsimp only
      refine wpS_bind (s_setG ?_)
      exact wpS_pure ⟨sm3.setG _,_,_,_,_,rfl,m,hi,hj,by omega⟩
   case s2=>
    rintro y c st3 _ hy ⟨sm3',ou,i,j,mg,ac,bc,rfl,m,hi,hj,hx4⟩
    dsimp only
    have sm3:=fun g=>sm3'.setG g
    obtain ⟨c1,hc1,cut1⟩:=cut_of hA xb.toList[j] false i (xa.size - i) (by omega)
    obtain ⟨le1,gt1⟩:=gfalse (by omega) cut1
    have m1:MI xa.toList xb.toList (ou++xa.extract i (i+c1)).toList (i+c1) j:=by
     rw [toL_ext]
     exact m.extA hA c1 (by omega) fun t ht htc z hz=>Int.le_trans (le1 t ht htc) (head_le hB hj z hz)
    by_cases hmg:mg > 1
    · rw [if_pos hmg]
      refine wpS_bind (s_setG (wpS_bind (s_elemL hj ?_)))
      refine wpS_bind (s_gal (c:=c1) ((sm3 _).kind.trans hk) hIa (hIb _ (List.getElem_mem _)) (by omega) (by omega) hc1 cut1 ?_)
      dsimp only
      by_cases k0:c1 > 0
      · rw [if_pos k0]
        by_cases e1:i+c1+1=xa.size
        · rw [if_pos (by simpa using e1)]
          exact wpS_pure ⟨sm3 _,.inl ⟨_,_,rfl,m1.last hA hB (by omega) hl⟩⟩
        · rw [if_neg (by simpa using e1)]
          by_cases e2:i+c1=xa.size
          · rw [if_pos (by simpa using e2)]
            exact wpS_pure ⟨sm3 _,.inl ⟨_,_,rfl,m1.doneA hA hB (by omega)⟩⟩
          · rw [if_neg (by simpa using e2)]
            refine wpS_bind (s_elemL hj ?_)
            have M2:MI xa.toList xb.toList (Array.push (ou++xa.extract i (i+c1)) xb.toList[j]).toList (i+c1) (j+1):=by rw [Array.toList_push];exact MI.pushB m1 hB hj (fun z hz=>Int.le_of_lt (gt1 z hz))
            by_cases e3:j+1=xb.size
            · rw [if_pos (by simpa using e3)]
              exact wpS_pure ⟨sm3 _,.inl ⟨_,_,rfl,M2.doneB hA hB (by omega)⟩⟩
            · rw [if_neg (by simpa using e3)]
              refine wpS_bind (s_elemL (i:=(i+c1)) (by omega) ?_)
              obtain ⟨c2,hc2,cut2⟩:=cut_of hB (xa.toList[(i+c1)]'(by omega)) true (j+1) (xb.size - (j+1)) (by omega)
              obtain ⟨lt2,ge2⟩:=gtrue (by omega) cut2
              refine wpS_bind (s_gal (c:=c2) ((sm3 _).kind.trans hk) hIb (hIa _ (List.getElem_mem _)) (by omega) (by omega) hc2 cut2 ?_)
              dsimp only
              by_cases k1:c2 > 0
              · rw [if_pos k1]
                have M3:MI xa.toList xb.toList (Array.push (ou++xa.extract i (i+c1)) xb.toList[j]++xb.extract (j+1) (j+1+c2)).toList (i+c1) (j+1+c2):=by
                 rw [toL_ext]
                 exact M2.extB hB c2 (by omega) fun t ht htc z hz=>Int.le_trans (Int.le_of_lt (lt2 t ht htc)) (head_le hA (by omega) z hz)
                by_cases e4:j+1+c2=xb.size
                · rw [if_pos (by simpa using e4)]
                  exact wpS_pure ⟨sm3 _,.inl ⟨_,_,rfl,M3.doneB hA hB (by omega)⟩⟩
                · rw [if_neg (by simpa using e4)]
                  refine wpS_bind (s_elemL (i:=(i+c1)) (by omega) ?_)
                  have M4:MI xa.toList xb.toList (Array.push (Array.push (ou++xa.extract i (i+c1)) xb.toList[j]++xb.extract (j+1) (j+1+c2)) (xa.toList[(i+c1)]'(by omega))).toList ((i+c1)+1) (j+1+c2):=by rw [Array.toList_push];exact MI.pushA M3 hA (by omega) ge2
                  by_cases e5:(i+c1)+1+1=xa.size
                  · rw [if_pos (by simpa using e5)]
                    exact wpS_pure ⟨sm3 _,.inl ⟨_,_,rfl,M4.last hA hB (by omega) hl⟩⟩
                  · rw [if_neg (by simpa using e5)]
                    split
                    · exact wpS_pure ⟨sm3 _,.inr ⟨_,_,_,_,_,_,rfl,M4,by omega,by omega,by omega⟩⟩
                    · exact wpS_pure ⟨sm3 _,_,_,_,_,_,_,rfl,M4,by omega,by omega,by omega⟩
              · rw [if_neg k1]
                have c20:c2=0:=by omega
                refine wpS_bind (s_elemL (i:=(i+c1)) (by omega) ?_)
                have M4:MI xa.toList xb.toList (Array.push (Array.push (ou++xa.extract i (i+c1)) xb.toList[j]) (xa.toList[(i+c1)]'(by omega))).toList ((i+c1)+1) (j+1):=by rw [Array.toList_push];exact MI.pushA M2 hA (by omega) (fun z hz=>ge2 z (by rw [c20,Nat.add_zero];exact hz))
                by_cases e5:(i+c1)+1+1=xa.size
                · rw [if_pos (by simpa using e5)]
                  exact wpS_pure ⟨sm3 _,.inl ⟨_,_,rfl,M4.last hA hB (by omega) hl⟩⟩
                · rw [if_neg (by simpa using e5)]
                  split
                  · exact wpS_pure ⟨sm3 _,.inr ⟨_,_,_,_,_,_,rfl,M4,by omega,by omega,by omega⟩⟩
                  · exact wpS_pure ⟨sm3 _,_,_,_,_,_,_,rfl,M4,by omega,by omega,by omega⟩
      · rw [if_neg k0]
        have c10:c1=0:=by omega
        refine wpS_bind (s_elemL hj ?_)
        have M2:MI xa.toList xb.toList (Array.push ou xb.toList[j]).toList i (j+1):=by rw [Array.toList_push];exact MI.pushB m hB hj (fun z hz=>Int.le_of_lt (gt1 z (by rw [c10,Nat.add_zero];exact hz)))
        by_cases e3:j+1=xb.size
        · rw [if_pos (by simpa using e3)]
          exact wpS_pure ⟨sm3 _,.inl ⟨_,_,rfl,M2.doneB hA hB (by omega)⟩⟩
        · rw [if_neg (by simpa using e3)]
          refine wpS_bind (s_elemL (i:=i) (by omega) ?_)
          obtain ⟨c2,hc2,cut2⟩:=cut_of hB (xa.toList[i]'(by omega)) true (j+1) (xb.size - (j+1)) (by omega)
          obtain ⟨lt2,ge2⟩:=gtrue (by omega) cut2
          refine wpS_bind (s_gal (c:=c2) ((sm3 _).kind.trans hk) hIb (hIa _ (List.getElem_mem _)) (by omega) (by omega) hc2 cut2 ?_)
          dsimp only
          by_cases k1:c2 > 0
          · rw [if_pos k1]
            have M3:MI xa.toList xb.toList (Array.push ou xb.toList[j]++xb.extract (j+1) (j+1+c2)).toList i (j+1+c2):=by
             rw [toL_ext]
             exact M2.extB hB c2 (by omega) fun t ht htc z hz=>Int.le_trans (Int.le_of_lt (lt2 t ht htc)) (head_le hA (by omega) z hz)
            by_cases e4:j+1+c2=xb.size
            · rw [if_pos (by simpa using e4)]
              exact wpS_pure ⟨sm3 _,.inl ⟨_,_,rfl,M3.doneB hA hB (by omega)⟩⟩
            · rw [if_neg (by simpa using e4)]
              refine wpS_bind (s_elemL (i:=i) (by omega) ?_)
              have M4:MI xa.toList xb.toList (Array.push (Array.push ou xb.toList[j]++xb.extract (j+1) (j+1+c2)) (xa.toList[i]'(by omega))).toList (i+1) (j+1+c2):=by rw [Array.toList_push];exact MI.pushA M3 hA (by omega) ge2
              by_cases e5:i+1+1=xa.size
              · rw [if_pos (by simpa using e5)]
                exact wpS_pure ⟨sm3 _,.inl ⟨_,_,rfl,M4.last hA hB (by omega) hl⟩⟩
              · rw [if_neg (by simpa using e5)]
                split
                · exact wpS_pure ⟨sm3 _,.inr ⟨_,_,_,_,_,_,rfl,M4,by omega,by omega,by omega⟩⟩
                · exact wpS_pure ⟨sm3 _,_,_,_,_,_,_,rfl,M4,by omega,by omega,by omega⟩
          · rw [if_neg k1]
            have c20:c2=0:=by omega
            refine wpS_bind (s_elemL (i:=i) (by omega) ?_)
            have M4:MI xa.toList xb.toList (Array.push (Array.push ou xb.toList[j]) (xa.toList[i]'(by omega))).toList (i+1) (j+1):=by rw [Array.toList_push];exact MI.pushA M2 hA (by omega) (fun z hz=>ge2 z (by rw [c20,Nat.add_zero];exact hz))
            by_cases e5:i+1+1=xa.size
            · rw [if_pos (by simpa using e5)]
              exact wpS_pure ⟨sm3 _,.inl ⟨_,_,rfl,M4.last hA hB (by omega) hl⟩⟩
            · rw [if_neg (by simpa using e5)]
              split
              · exact wpS_pure ⟨sm3 _,.inr ⟨_,_,_,_,_,_,rfl,M4,by omega,by omega,by omega⟩⟩
              · exact wpS_pure ⟨sm3 _,_,_,_,_,_,_,rfl,M4,by omega,by omega,by omega⟩
    · rw [if_neg hmg]
      refine wpS_bind (s_setG (wpS_bind (s_elemL hj ?_)))
      refine wpS_bind (s_gal (c:=c1) ((sm3 _).kind.trans hk) hIa (hIb _ (List.getElem_mem _)) (by omega) (by omega) hc1 cut1 ?_)
      dsimp only
      by_cases k0:c1 > 0
      · rw [if_pos k0]
        by_cases e1:i+c1+1=xa.size
        · rw [if_pos (by simpa using e1)]
          exact wpS_pure ⟨sm3 _,.inl ⟨_,_,rfl,m1.last hA hB (by omega) hl⟩⟩
        · rw [if_neg (by simpa using e1)]
          by_cases e2:i+c1=xa.size
          · rw [if_pos (by simpa using e2)]
            exact wpS_pure ⟨sm3 _,.inl ⟨_,_,rfl,m1.doneA hA hB (by omega)⟩⟩
          · rw [if_neg (by simpa using e2)]
            refine wpS_bind (s_elemL hj ?_)
            have M2:MI xa.toList xb.toList (Array.push (ou++xa.extract i (i+c1)) xb.toList[j]).toList (i+c1) (j+1):=by rw [Array.toList_push];exact MI.pushB m1 hB hj (fun z hz=>Int.le_of_lt (gt1 z hz))
            by_cases e3:j+1=xb.size
            · rw [if_pos (by simpa using e3)]
              exact wpS_pure ⟨sm3 _,.inl ⟨_,_,rfl,M2.doneB hA hB (by omega)⟩⟩
            · rw [if_neg (by simpa using e3)]
              refine wpS_bind (s_elemL (i:=(i+c1)) (by omega) ?_)
              obtain ⟨c2,hc2,cut2⟩:=cut_of hB (xa.toList[(i+c1)]'(by omega)) true (j+1) (xb.size - (j+1)) (by omega)
              obtain ⟨lt2,ge2⟩:=gtrue (by omega) cut2
              refine wpS_bind (s_gal (c:=c2) ((sm3 _).kind.trans hk) hIb (hIa _ (List.getElem_mem _)) (by omega) (by omega) hc2 cut2 ?_)
              dsimp only
              by_cases k1:c2 > 0
              · rw [if_pos k1]
                have M3:MI xa.toList xb.toList (Array.push (ou++xa.extract i (i+c1)) xb.toList[j]++xb.extract (j+1) (j+1+c2)).toList (i+c1) (j+1+c2):=by
                 rw [toL_ext]
                 exact M2.extB hB c2 (by omega) fun t ht htc z hz=>Int.le_trans (Int.le_of_lt (lt2 t ht htc)) (head_le hA (by omega) z hz)
                by_cases e4:j+1+c2=xb.size
                · rw [if_pos (by simpa using e4)]
                  exact wpS_pure ⟨sm3 _,.inl ⟨_,_,rfl,M3.doneB hA hB (by omega)⟩⟩
                · rw [if_neg (by simpa using e4)]
                  refine wpS_bind (s_elemL (i:=(i+c1)) (by omega) ?_)
                  have M4:MI xa.toList xb.toList (Array.push (Array.push (ou++xa.extract i (i+c1)) xb.toList[j]++xb.extract (j+1) (j+1+c2)) (xa.toList[(i+c1)]'(by omega))).toList ((i+c1)+1) (j+1+c2):=by rw [Array.toList_push];exact MI.pushA M3 hA (by omega) ge2
                  by_cases e5:(i+c1)+1+1=xa.size
                  · rw [if_pos (by simpa using e5)]
                    exact wpS_pure ⟨sm3 _,.inl ⟨_,_,rfl,M4.last hA hB (by omega) hl⟩⟩
                  · rw [if_neg (by simpa using e5)]
                    split
                    · exact wpS_pure ⟨sm3 _,.inr ⟨_,_,_,_,_,_,rfl,M4,by omega,by omega,by omega⟩⟩
                    · exact wpS_pure ⟨sm3 _,_,_,_,_,_,_,rfl,M4,by omega,by omega,by omega⟩
              · rw [if_neg k1]
                have c20:c2=0:=by omega
                refine wpS_bind (s_elemL (i:=(i+c1)) (by omega) ?_)
                have M4:MI xa.toList xb.toList (Array.push (Array.push (ou++xa.extract i (i+c1)) xb.toList[j]) (xa.toList[(i+c1)]'(by omega))).toList ((i+c1)+1) (j+1):=by rw [Array.toList_push];exact MI.pushA M2 hA (by omega) (fun z hz=>ge2 z (by rw [c20,Nat.add_zero];exact hz))
                by_cases e5:(i+c1)+1+1=xa.size
                · rw [if_pos (by simpa using e5)]
                  exact wpS_pure ⟨sm3 _,.inl ⟨_,_,rfl,M4.last hA hB (by omega) hl⟩⟩
                · rw [if_neg (by simpa using e5)]
                  split
                  · exact wpS_pure ⟨sm3 _,.inr ⟨_,_,_,_,_,_,rfl,M4,by omega,by omega,by omega⟩⟩
                  · exact wpS_pure ⟨sm3 _,_,_,_,_,_,_,rfl,M4,by omega,by omega,by omega⟩
      · rw [if_neg k0]
        have c10:c1=0:=by omega
        refine wpS_bind (s_elemL hj ?_)
        have M2:MI xa.toList xb.toList (Array.push ou xb.toList[j]).toList i (j+1):=by rw [Array.toList_push];exact MI.pushB m hB hj (fun z hz=>Int.le_of_lt (gt1 z (by rw [c10,Nat.add_zero];exact hz)))
        by_cases e3:j+1=xb.size
        · rw [if_pos (by simpa using e3)]
          exact wpS_pure ⟨sm3 _,.inl ⟨_,_,rfl,M2.doneB hA hB (by omega)⟩⟩
        · rw [if_neg (by simpa using e3)]
          refine wpS_bind (s_elemL (i:=i) (by omega) ?_)
          obtain ⟨c2,hc2,cut2⟩:=cut_of hB (xa.toList[i]'(by omega)) true (j+1) (xb.size - (j+1)) (by omega)
          obtain ⟨lt2,ge2⟩:=gtrue (by omega) cut2
          refine wpS_bind (s_gal (c:=c2) ((sm3 _).kind.trans hk) hIb (hIa _ (List.getElem_mem _)) (by omega) (by omega) hc2 cut2 ?_)
          dsimp only
          by_cases k1:c2 > 0
          · rw [if_pos k1]
            have M3:MI xa.toList xb.toList (Array.push ou xb.toList[j]++xb.extract (j+1) (j+1+c2)).toList i (j+1+c2):=by
             rw [toL_ext]
             exact M2.extB hB c2 (by omega) fun t ht htc z hz=>Int.le_trans (Int.le_of_lt (lt2 t ht htc)) (head_le hA (by omega) z hz)
            by_cases e4:j+1+c2=xb.size
            · rw [if_pos (by simpa using e4)]
              exact wpS_pure ⟨sm3 _,.inl ⟨_,_,rfl,M3.doneB hA hB (by omega)⟩⟩
            · rw [if_neg (by simpa using e4)]
              refine wpS_bind (s_elemL (i:=i) (by omega) ?_)
              have M4:MI xa.toList xb.toList (Array.push (Array.push ou xb.toList[j]++xb.extract (j+1) (j+1+c2)) (xa.toList[i]'(by omega))).toList (i+1) (j+1+c2):=by rw [Array.toList_push];exact MI.pushA M3 hA (by omega) ge2
              by_cases e5:i+1+1=xa.size
              · rw [if_pos (by simpa using e5)]
                exact wpS_pure ⟨sm3 _,.inl ⟨_,_,rfl,M4.last hA hB (by omega) hl⟩⟩
              · rw [if_neg (by simpa using e5)]
                split
                · exact wpS_pure ⟨sm3 _,.inr ⟨_,_,_,_,_,_,rfl,M4,by omega,by omega,by omega⟩⟩
                · exact wpS_pure ⟨sm3 _,_,_,_,_,_,_,rfl,M4,by omega,by omega,by omega⟩
          · rw [if_neg k1]
            have c20:c2=0:=by omega
            refine wpS_bind (s_elemL (i:=i) (by omega) ?_)
            have M4:MI xa.toList xb.toList (Array.push (Array.push ou xb.toList[j]) (xa.toList[i]'(by omega))).toList (i+1) (j+1):=by rw [Array.toList_push];exact MI.pushA M2 hA (by omega) (fun z hz=>ge2 z (by rw [c20,Nat.add_zero];exact hz))
            by_cases e5:i+1+1=xa.size
            · rw [if_pos (by simpa using e5)]
              exact wpS_pure ⟨sm3 _,.inl ⟨_,_,rfl,M4.last hA hB (by omega) hl⟩⟩
            · rw [if_neg (by simpa using e5)]
              split
              · exact wpS_pure ⟨sm3 _,.inr ⟨_,_,_,_,_,_,rfl,M4,by omega,by omega,by omega⟩⟩
              · exact wpS_pure ⟨sm3 _,_,_,_,_,_,_,rfl,M4,by omega,by omega,by omega⟩
end
open PyProof.Rows hiding K SortedTo K_bubble K_mirror K_congr K_mirror_equal
variable [KV]
structure MH (A B:List Keyed) (o:List Keyed) (na nb:Nat):Prop where
 perm:o.Perm (A.drop na++B.drop nb)
 srt:o.Pairwise Le
 lea:∀ x∈o,∀ y∈A.take na,kv y≤kv x
 leb:∀ x∈o,∀ y∈B.take nb,kv y≤kv x
theorem pw_take {l:List Keyed} (h:l.Pairwise Le) {i:Nat} (hi:i<l.length):∀ y∈l.take i,kv y≤kv l[i]:=fun y hy=>by
 obtain ⟨u,hu,rfl⟩:=List.mem_iff_getElem.mp hy
 rw [List.length_take] at hu
 rw [List.getElem_take]
 exact List.pairwise_iff_getElem.mp h _ _ _ _ (by omega)
theorem mem_take_succ {l:List Keyed} {i:Nat} {y:Keyed} (h:y∈l.take i):y∈l.take (i+1):=(List.take_sublist_take_left (Nat.le_succ i)).mem h
theorem mem_take_at {l:List Keyed} {i:Nat} (hi:i<l.length):l[i]∈l.take (i+1):=by
 rw [List.take_succ,List.getElem?_eq_getElem hi]
 exact List.mem_append_right _ (List.mem_singleton.mpr rfl)
theorem MH.pushA {A B o:List Keyed} {na nb:Nat} (m:MH A B o (na+1) nb) (hA:A.Pairwise Le) (hi:na<A.length) (h:∀ z∈B.take nb,kv z≤kv A[na]):MH A B (A[na]::o) na nb:=by
 refine ⟨?_,?_,fun x hx y hy=>?_,fun x hx y hy=>?_⟩
 · rw [List.drop_eq_getElem_cons hi,List.cons_append]
   exact List.Perm.cons _ m.perm
 · exact List.pairwise_cons.mpr ⟨fun x hx=>m.lea x hx _ (mem_take_at hi),m.srt⟩
 · rcases List.mem_cons.mp hx with rfl | hx
   · exact pw_take hA hi y hy
   · exact m.lea x hx y (mem_take_succ hy)
 · rcases List.mem_cons.mp hx with rfl | hx
   · exact h y hy
   · exact m.leb x hx y hy
theorem MH.pushB {A B o:List Keyed} {na nb:Nat} (m:MH A B o na (nb+1)) (hB:B.Pairwise Le) (hi:nb<B.length) (h:∀ z∈A.take na,kv z≤kv B[nb]):MH A B (B[nb]::o) na nb:=by
 refine ⟨?_,?_,fun x hx y hy=>?_,fun x hx y hy=>?_⟩
 · rw [List.drop_eq_getElem_cons hi]
   exact (List.Perm.cons _ m.perm).trans List.perm_middle.symm
 · exact List.pairwise_cons.mpr ⟨fun x hx=>m.leb x hx _ (mem_take_at hi),m.srt⟩
 · rcases List.mem_cons.mp hx with rfl | hx
   · exact h y hy
   · exact m.lea x hx y hy
 · rcases List.mem_cons.mp hx with rfl | hx
   · exact pw_take hB hi y hy
   · exact m.leb x hx y (mem_take_succ hy)
theorem MH.extA {A B o:List Keyed} {nb:Nat} (hA:A.Pairwise Le):∀ (k c:Nat),MH A B o (c+k) nb→c+k≤A.length→(∀ i (hi:i<A.length),c≤i→i<c+k→∀ z∈B.take nb,kv z≤kv A[i])→MH A B ((A.drop c).take k++o) c nb
 | 0,c,m,_,_=>by rw [List.take_zero];exact m
 | k+1,c,m,hk,h=>by
   have m':MH A B o (c+1+k) nb:=by rw [show c+1+k=c+(k+1) by omega];exact m
   have ih:=MH.extA hA k (c+1) m' (by omega) fun i hi h1 h2=>h i hi (by omega) (by omega)
   have hi:c<A.length:=by omega
   rw [List.drop_eq_getElem_cons hi,List.take_succ_cons,List.cons_append]
   exact ih.pushA hA hi (h c hi (Nat.le_refl _) (by omega))
theorem MH.extB {A B o:List Keyed} {na:Nat} (hB:B.Pairwise Le):∀ (k c:Nat),MH A B o na (c+k)→c+k≤B.length→(∀ i (hi:i<B.length),c≤i→i<c+k→∀ z∈A.take na,kv z≤kv B[i])→MH A B ((B.drop c).take k++o) na c
 | 0,c,m,_,_=>by rw [List.take_zero];exact m
 | k+1,c,m,hk,h=>by
   have m':MH A B o na (c+1+k):=by rw [show c+1+k=c+(k+1) by omega];exact m
   have ih:=MH.extB hB k (c+1) m' (by omega) fun i hi h1 h2=>h i hi (by omega) (by omega)
   have hi:c<B.length:=by omega
   rw [List.drop_eq_getElem_cons hi,List.take_succ_cons,List.cons_append]
   exact ih.pushB hB hi (h c hi (Nat.le_refl _) (by omega))
theorem MH.finAB {A B o:List Keyed} {na nb:Nat} (m:MH A B o na nb) (hA:A.Pairwise Le) (hB:B.Pairwise Le) (h:∀ x∈A.take na,∀ y∈B.take nb,kv x≤kv y):Mer A B (A.take na++B.take nb++o):=by
 refine ⟨?_,?_⟩
 · have e:=(List.Perm.append_left (A.take na++B.take nb) m.perm).trans (perm_mid (A.take na) (B.take nb) (A.drop na) (B.drop nb))
   rw [List.take_append_drop,List.take_append_drop] at e
   exact e
 · refine List.pairwise_append.mpr ⟨List.pairwise_append.mpr ⟨hA.sublist (List.take_sublist _ _),hB.sublist (List.take_sublist _ _),fun x hx y hy=>h x hx y hy⟩,m.srt,fun x hx y hy=>?_⟩
   rcases List.mem_append.mp hx with hx | hx
   · exact m.lea y hy x hx
   · exact m.leb y hy x hx
theorem MH.finBA {A B o:List Keyed} {na nb:Nat} (m:MH A B o na nb) (hA:A.Pairwise Le) (hB:B.Pairwise Le) (h:∀ x∈A.take na,∀ y∈B.take nb,kv y≤kv x):Mer A B (B.take nb++A.take na++o):=by
 refine ⟨?_,?_⟩
 · have e:=(List.Perm.append_left (A.take na++B.take nb) m.perm).trans (perm_mid (A.take na) (B.take nb) (A.drop na) (B.drop nb))
   rw [List.take_append_drop,List.take_append_drop] at e
   exact (List.Perm.append_right o List.perm_append_comm).trans e
 · refine List.pairwise_append.mpr ⟨List.pairwise_append.mpr ⟨hB.sublist (List.take_sublist _ _),hA.sublist (List.take_sublist _ _),fun x hx y hy=>h y hy x hx⟩,m.srt,fun x hx y hy=>?_⟩
   rcases List.mem_append.mp hx with hx | hx
   · exact m.leb y hy x hx
   · exact m.lea y hy x hx
theorem toL_front (o x y:Array Keyed) (i j:Nat):(x.extract 0 i++y.extract 0 j++o.reverse).toList=x.toList.take i++y.toList.take j++o.toList.reverse:=by
 have e:∀ (z:Array Keyed) (k:Nat),(z.extract 0 k).toList=z.toList.take k:=fun z k=>by
  rw [Array.toList_extract,List.extract_eq_drop_take,List.drop_zero,Nat.sub_zero]
 rw [Array.toList_append,Array.toList_append,e,e,Array.toList_reverse]
theorem toL_pushR (o:Array Keyed) (z:Keyed):(o.push z).toList.reverse=z::o.toList.reverse:=by
 rw [Array.toList_push,List.reverse_append];rfl
theorem toL_extR (o x:Array Keyed) (c n:Nat):(o++(x.extract c n).reverse).toList.reverse=(x.toList.drop c).take (n - c)++o.toList.reverse:=by
 rw [Array.toList_append,List.reverse_append,Array.toList_reverse,List.reverse_reverse,Array.toList_extract,List.extract_eq_drop_take]
def MHa (xa xb ou:Array Keyed) (na nb:Nat):Prop:=MH xa.toList xb.toList ou.toList.reverse na nb
section
variable {xa xb ou:Array Keyed} {na nb:Nat}
theorem MHa.done0 (m:MHa xa xb ou na nb) (hA:xa.toList.Pairwise Le) (hB:xb.toList.Pairwise Le) (h:na=0∨nb=0):Mer xa.toList xb.toList (xa.extract 0 na++xb.extract 0 nb++ou.reverse).toList:=by
 rw [toL_front]
 refine MH.finAB m hA hB fun x hx y hy=>?_
 rcases h with h | h
 · rw [h] at hx;simp at hx
 · rw [h] at hy;simp at hy
theorem MHa.first (m:MHa xa xb ou na nb) (hA:xa.toList.Pairwise Le) (hB:xb.toList.Pairwise Le) (hb:0<xb.toList.length) (h:nb=1) (h0:∀ z∈xa.toList,kv xb.toList[0]≤kv z):Mer xa.toList xb.toList (xb.extract 0 nb++xa.extract 0 na++ou.reverse).toList:=by
 rw [toL_front]
 refine MH.finBA m hA hB fun x hx y hy=>?_
 rw [h,List.take_succ,List.getElem?_eq_getElem hb] at hy
 have:y=xb.toList[0]:=by simpa using hy
 rw [this]
 exact h0 x (List.mem_of_mem_take hx)
theorem MHa.pushA (m:MHa xa xb ou (na+1) nb) (hA:xa.toList.Pairwise Le) (hi:na<xa.toList.length) (h:∀ z∈xb.toList.take nb,kv z≤kv xa.toList[na]):MHa xa xb (ou.push xa.toList[na]) na nb:=by
 unfold MHa;rw [toL_pushR];exact MH.pushA m hA hi h
theorem MHa.pushB (m:MHa xa xb ou na (nb+1)) (hB:xb.toList.Pairwise Le) (hi:nb<xb.toList.length) (h:∀ z∈xa.toList.take na,kv z≤kv xb.toList[nb]):MHa xa xb (ou.push xb.toList[nb]) na nb:=by
 unfold MHa;rw [toL_pushR];exact MH.pushB m hB hi h
theorem MHa.extA {c:Nat} (m:MHa xa xb ou na nb) (hA:xa.toList.Pairwise Le) (hc:c≤na) (hn:na≤xa.toList.length) (h:∀ i (hi:i<xa.toList.length),c≤i→i<na→∀ z∈xb.toList.take nb,kv z≤kv xa.toList[i]):MHa xa xb (ou++(xa.extract c na).reverse) c nb:=by
 unfold MHa;rw [toL_extR]
 exact MH.extA hA (na - c) c (by rw [show c+(na - c)=na by omega];exact m) (by omega) fun i hi h1 h2=>h i hi h1 (by omega)
theorem MHa.extB {c:Nat} (m:MHa xa xb ou na nb) (hB:xb.toList.Pairwise Le) (hc:c≤nb) (hn:nb≤xb.toList.length) (h:∀ i (hi:i<xb.toList.length),c≤i→i<nb→∀ z∈xa.toList.take na,kv z≤kv xb.toList[i]):MHa xa xb (ou++(xb.extract c nb).reverse) na c:=by
 unfold MHa;rw [toL_extR]
 exact MH.extB hB (nb - c) c (by rw [show c+(nb - c)=nb by omega];exact m) (by omega) fun i hi h1 h2=>h i hi h1 (by omega)
end
theorem ffalse {xs:Array Keyed} {ky:Keyed} {n c:Nat} (hn:n≤xs.toList.length) (hc:c≤n) (cut:∀ i,i<n→Byd false ky xs 0 i=decide (i<c)) :
 (∀ z∈xs.toList.take c,kv z≤kv ky)∧(∀ i (h:i<xs.toList.length),c≤i→i<n→kv ky<kv xs.toList[i]):=by
 have key:∀ i (h:i<xs.toList.length),i<n→(!decide (kv ky<kv xs.toList[i]))=decide (i<c):=fun i h hi=>by
  have:=cut i hi
  unfold Byd at this
  rw [Nat.zero_add,K_at h] at this
  simpa using this
 constructor
 · intro z hz
   obtain ⟨u,hu,rfl⟩:=List.mem_iff_getElem.mp hz
   rw [List.length_take] at hu
   have:=key u (by omega) (by omega)
   rw [List.getElem_take]
   rw [decide_eq_true (show u<c by omega)] at this
   simpa using this
 · intro i h h1 h2
   have:=key i h h2
   rw [decide_eq_false (show ¬ i<c by omega)] at this
   simpa using this
theorem ftrue {xs:Array Keyed} {ky:Keyed} {n c:Nat} (hn:n≤xs.toList.length) (hc:c≤n) (cut:∀ i,i<n→Byd true ky xs 0 i=decide (i<c)) :
 (∀ z∈xs.toList.take c,kv z<kv ky)∧(∀ i (h:i<xs.toList.length),c≤i→i<n→kv ky≤kv xs.toList[i]):=by
 have key:∀ i (h:i<xs.toList.length),i<n→decide (kv xs.toList[i]<kv ky)=decide (i<c):=fun i h hi=>by
  have:=cut i hi
  unfold Byd at this
  rw [Nat.zero_add,K_at h] at this
  simpa using this
 constructor
 · intro z hz
   obtain ⟨u,hu,rfl⟩:=List.mem_iff_getElem.mp hz
   rw [List.length_take] at hu
   have:=key u (by omega) (by omega)
   rw [List.getElem_take]
   rw [decide_eq_true (show u<c by omega)] at this
   simpa using this
 · intro i h h1 h2
   have:=key i h h2
   rw [decide_eq_false (show ¬ i<c by omega)] at this
   simpa using this
theorem take_le {l:List Keyed} (h:l.Pairwise Le) {n:Nat} (hn:n<l.length):∀ z∈l.take (n+1),kv z≤kv l[n]:=fun z hz=>by
 rw [List.take_succ,List.getElem?_eq_getElem hn] at hz
 rcases List.mem_append.mp hz with hz | hz
 · exact pw_take h hn z hz
 · have:z=l[n]:=by simpa using hz
   rw [this];exact Int.le_refl _
def mhi:Array Keyed→Array Keyed→StateT SortSt Sem (Array Keyed):=sortPriv% PySem.Builtin.mergeHi
theorem mhi_eq (xa xb:Array Keyed):mhi xa xb=(do
 rule "list.sort.merge-hi"
 let tot:=xa.size+xb.size
 let dn (ou:Array Keyed) (i j:Nat):=xa.extract 0 i++xb.extract 0 j++ou.reverse
 let fb (ou:Array Keyed) (i j:Nat):=xb.extract 0 j++xa.extract 0 i++ou.reverse
 let mut i:=xa.size - 1
 let mut j:=xb.size
 let mut ou:Array Keyed:=#[← elem' xa i]
 if i == 0 then return dn ou i j
 if j == 1 then return fb ou i j
 let mut mg:=gallopOf (← get)
 for _ in [0:tot] do
  let mut ac:=0
  let mut bc:=0
  for _ in [0:tot] do
   let some aw ← lt' (← elem' xb (j - 1)) (← elem' xa (i - 1)) | return dn ou i j
   if aw then
    i:=i - 1;ou:=ou.push (← elem' xa i);ac:=ac+1;bc:=0
    if i == 0 then return dn ou i j
    if ac≥mg then break
   else
    j:=j - 1;ou:=ou.push (← elem' xb j);bc:=bc+1;ac:=0
    if j == 1 then return fb ou i j
    if bc≥mg then break
  rule "list.sort.gallop"
  mg:=mg+1
  for _ in [0:tot] do
   if mg > 1 then mg:=mg - 1
   setG mg
   let some t ← gal false (← elem' xb (j - 1)) xa 0 i (i - 1) | return dn ou i j
   let k:=i - t
   ac:=k
   if k > 0 then
    ou:=ou++(xa.extract t i).reverse;i:=t
    if i == 0 then return dn ou i j
   j:=j - 1;ou:=ou.push (← elem' xb j)
   if j == 1 then return fb ou i j
   let some t ← gal true (← elem' xa (i - 1)) xb 0 j (j - 1) | return dn ou i j
   let k:=j - t
   bc:=k
   if k > 0 then
    ou:=ou++(xb.extract t j).reverse;j:=t
    if j == 1 then return fb ou i j
    if j == 0 then return dn ou i j
   i:=i - 1;ou:=ou.push (← elem' xa i)
   if i == 0 then return dn ou i j
   if ac<7&&bc<7 then break
  mg:=mg+1
  setG mg
 unsupported "internal:list.sort.merge-bound"):=rfl
open PyProof.Rows hiding K SortedTo K_bubble K_mirror K_congr K_mirror_equal
variable [KV]
section
variable {prog:Program} {w:World} {A:Around} {E:Value→Shared→Prop}
theorem s_mhi {st:SortSt} {xa xb:Array Keyed} {Q:Array Keyed→SortSt→Prop} (hk:kindOf st=KV.kind) (hIa:AllI xa) (hIb:AllI xb) (hA:xa.toList.Pairwise Le) (hB:xb.toList.Pairwise Le) (ha:0<xa.toList.length) (hb:0<xb.toList.length)
 (h0:∀ z∈xa.toList,kv (xb.toList[0])≤kv z) (hl:∀ z∈xb.toList,kv z≤kv (xa.toList[xa.toList.length - 1]'(by omega)))
 (h:∀ o st',SameSt st st'→Mer xa.toList xb.toList o.toList→Q o st'):wpS (model prog w) A E KV.sh (mhi xa xb) Q st:=by
 have hsa:xa.size=xa.toList.length:=(Array.length_toList ..).symm
 have hsb:xb.size=xb.toList.length:=(Array.length_toList ..).symm
 rw [mhi_eq]
 refine wpS_bind (wpS_lift (wpAny_rule ⟨rfl,?_⟩))
 dsimp only
 refine wpS_bind (s_elemL (i:=xa.size - 1) (by omega) ?_)
 have m0:MHa xa xb #[xa.toList[xa.size - 1]'(by omega)] (xa.size - 1) xb.size:=by
  have mm:MHa xa xb #[] (xa.size - 1+1) xb.size:=by
   refine ⟨?_,List.Pairwise.nil,fun x hx=>(nomatch hx),fun x hx=>(nomatch hx)⟩
   rw [drop_len (show xa.size - 1+1=xa.toList.length by omega),drop_len hsb]
   exact List.Perm.refl _
  refine mm.pushA hA (by omega) fun z hz=>?_
  have:=hl z (List.mem_of_mem_take hz)
  have e:xa.toList[xa.toList.length - 1]'(by omega)=xa.toList[xa.size - 1]'(by omega):=by congr 1
  rw [← e];exact this
 by_cases c1:xa.size - 1=0
 · rw [if_pos (by simpa using c1)]
   exact wpS_pure (h _ _ (SameSt.refl _) (m0.done0 hA hB (.inl c1)))
 rw [if_neg (by simpa using c1)]
 by_cases c2:xb.size=1
 · rw [if_pos (by simpa using c2)]
   exact wpS_pure (h _ _ (SameSt.refl _) (m0.first hA hB hb c2 h0))
 rw [if_neg (by simpa using c2)]
 refine wpS_bind (wpS_get ?_)
 refine wpS_bind (wpS_mono (wpS_forRange (I:=fun x c st'=>SameSt st st'∧∃ i j ou mg,c=(none,i,j,ou,mg)∧MHa xa xb ou i j∧0<i∧i<xa.size∧1<j∧j≤xb.size∧i+j+x+1≤xa.size+xb.size) (Q:=fun c st'=>SameSt st st'∧∃ res rest,c=(some res,rest)∧Mer xa.toList xb.toList res.toList) ?step ?fin ⟨SameSt.refl _,_,_,_,_,rfl,m0,by omega,by omega,by omega,by omega,by omega⟩) ?post)
 case post=>
  rintro c st' ⟨sm,res,rest,rfl,me⟩
  exact wpS_pure (h _ _ sm me)
 case fin=>
  rintro c st' ⟨sm,i,j,ou,mg,rfl,m,hi,hi2,hj,hj2,hx⟩
  exfalso
  omega
 case step=>
  rintro x c st1 _ hx ⟨sm,i,j,ou,mg,rfl,m,hi,hi2,hj,hj2,hx2⟩
  dsimp only
  refine wpS_bind (wpS_mono (wpS_forRange (I:=fun y c st'=>SameSt st st'∧∃ i j ou ac bc,c=(none,i,j,ou,ac,bc)∧MHa xa xb ou i j∧0<i∧i<xa.size∧1<j∧j≤xb.size∧i+j+x+1+min y 1≤xa.size+xb.size)
   (Q:=fun c st'=>SameSt st st'∧((∃ res rest,c=(some res,rest)∧Mer xa.toList xb.toList res.toList)∨∃ i j ou ac bc,c=(none,i,j,ou,ac,bc)∧MHa xa xb ou i j∧0<i∧i<xa.size∧1<j∧j≤xb.size∧i+j+x+2≤xa.size+xb.size)) ?s1 ?f1 ⟨sm,_,_,_,_,_,rfl,m,hi,hi2,hj,hj2,by omega⟩) ?p1)
  case f1=>
   rintro c st2 ⟨sm2,i,j,ou,ac,bc,rfl,m,hi,hi2,hj,hj2,hx3⟩
   exact ⟨sm2,.inr ⟨_,_,_,_,_,rfl,m,hi,hi2,hj,hj2,by omega⟩⟩
  case s1=>
   rintro y c st2 _ hy ⟨sm2,i,j,ou,ac,bc,rfl,m,hi,hi2,hj,hj2,hx3⟩
   dsimp only
   refine wpS_bind (s_elemL (i:=j - 1) (by omega) (wpS_bind (s_elemL (i:=i - 1) (by omega) ?_)))
   refine wpS_bind (s_lt (sm2.kind.trans hk) (hIb _ (List.getElem_mem _)) (hIa _ (List.getElem_mem _)) ?_)
   by_cases aw:kv (xb.toList[j - 1]'(by omega))<kv (xa.toList[i - 1]'(by omega))
   · simp only [aw,decide_true,if_true]
     refine wpS_bind (s_elemL (i:=i - 1) (by omega) ?_)
     have m2:MHa xa xb (ou.push (xa.toList[i - 1]'(by omega))) (i - 1) j:=MHa.pushA (by rw [show i - 1+1=i by omega];exact m) hA (by omega) fun z hz=>by
      refine Int.le_trans ?_ (Int.le_of_lt aw)
      exact take_le hB (n:=j - 1) (by omega) z (by rw [show j - 1+1=j by omega];exact hz)
     by_cases e1:i - 1=0
     · rw [if_pos (by simpa using e1)]
       exact wpS_pure ⟨sm2,.inl ⟨_,_,rfl,m2.done0 hA hB (.inl e1)⟩⟩
     · rw [if_neg (by simpa using e1)]
       split
       · exact wpS_pure ⟨sm2,.inr ⟨_,_,_,_,_,rfl,m2,by omega,by omega,hj,hj2,by omega⟩⟩
       · exact wpS_pure ⟨sm2,_,_,_,_,_,rfl,m2,by omega,by omega,hj,hj2,by omega⟩
   · simp only [aw,decide_false,Bool.false_eq_true,if_false]
     refine wpS_bind (s_elemL (i:=j - 1) (by omega) ?_)
     have m2:MHa xa xb (ou.push (xb.toList[j - 1]'(by omega))) i (j - 1):=MHa.pushB (by rw [show j - 1+1=j by omega];exact m) hB (by omega) fun z hz=>by
      refine Int.le_trans ?_ (Int.not_lt.mp aw)
      exact take_le hA (n:=i - 1) (by omega) z (by rw [show i - 1+1=i by omega];exact hz)
     by_cases e1:j - 1=1
     · rw [if_pos (by simpa using e1)]
       exact wpS_pure ⟨sm2,.inl ⟨_,_,rfl,m2.first hA hB hb e1 h0⟩⟩
     · rw [if_neg (by simpa using e1)]
       split
       · exact wpS_pure ⟨sm2,.inr ⟨_,_,_,_,_,rfl,m2,hi,hi2,by omega,by omega,by omega⟩⟩
       · exact wpS_pure ⟨sm2,_,_,_,_,_,rfl,m2,hi,hi2,by omega,by omega,by omega⟩
  case p1=>
   rintro c st2 ⟨sm2,⟨res,rest,rfl,me⟩ | ⟨i,j,ou,ac,bc,rfl,m,hi,hi2,hj,hj2,hx3⟩⟩
   · exact wpS_pure ⟨sm2,_,_,rfl,me⟩
   dsimp only
   refine wpS_bind (wpS_lift (wpAny_rule ⟨rfl,?_⟩))
   refine wpS_bind (wpS_mono (wpS_forRange (I:=fun y c st'=>SameSt st st'∧∃ i j ou mg ac bc,c=(none,i,j,ou,mg,ac,bc)∧MHa xa xb ou i j∧0<i∧i<xa.size∧1<j∧j≤xb.size∧i+j+x+2≤xa.size+xb.size)
    (Q:=fun c st'=>SameSt st st'∧((∃ res rest,c=(some res,rest)∧Mer xa.toList xb.toList res.toList)∨∃ i j ou mg ac bc,c=(none,i,j,ou,mg,ac,bc)∧MHa xa xb ou i j∧0<i∧i<xa.size∧1<j∧j≤xb.size∧i+j+x+2≤xa.size+xb.size)) ?s2 ?f2 ⟨sm2,_,_,_,_,_,_,rfl,m,hi,hi2,hj,hj2,hx3⟩) ?p2)
   case f2=>
    rintro c st3 ⟨sm3,i,j,ou,mg,ac,bc,rfl,m,hi,hi2,hj,hj2,hx4⟩
    exact ⟨sm3,.inr ⟨_,_,_,_,_,_,rfl,m,hi,hi2,hj,hj2,hx4⟩⟩
   case p2=>
    rintro c st3 ⟨sm3,⟨res,rest,rfl,me⟩ | ⟨i,j,ou,mg,ac,bc,rfl,m,hi,hi2,hj,hj2,hx4⟩⟩
    · exact wpS_pure ⟨sm3,_,_,rfl,me⟩
    · dsimp only
      refine wpS_bind (s_setG ?_)
      exact wpS_pure ⟨sm3.setG _,_,_,_,_,rfl,m,hi,hi2,hj,hj2,by omega⟩
   case s2=>
    rintro y c st3 _ hy ⟨sm3',i,j,ou,mg,ac,bc,rfl,m,hi,hi2,hj,hj2,hx4⟩
    dsimp only
    have sm3:=fun g=>sm3'.setG g
    obtain ⟨c1,hc1,cut1⟩:=cut_of hA (xb.toList[j - 1]'(by omega)) false 0 i (by omega)
    obtain ⟨le1,gt1⟩:=ffalse (by omega) hc1 cut1
    have m1:MHa xa xb (ou++(xa.extract c1 i).reverse) c1 j:=m.extA hA hc1 (by omega) fun t ht h1 h2 z hz=>by
     refine Int.le_trans ?_ (Int.le_of_lt (gt1 t ht h1 h2))
     exact take_le hB (n:=j - 1) (by omega) z (by rw [show j - 1+1=j by omega];exact hz)
    by_cases hmg:mg > 1
    · rw [if_pos hmg]
      refine wpS_bind (s_setG (wpS_bind (s_elemL (i:=j - 1) (by omega) ?_)))
      refine wpS_bind (s_gal (c:=c1) ((sm3 _).kind.trans hk) hIa (hIb _ (List.getElem_mem _)) (by omega) (by omega) hc1 cut1 ?_)
      dsimp only
      by_cases k0:i - c1 > 0
      · rw [if_pos k0]
        by_cases e1:c1=0
        · rw [if_pos (by simpa using e1)]
          exact wpS_pure ⟨sm3 _,.inl ⟨_,_,rfl,m1.done0 hA hB (.inl e1)⟩⟩
        · rw [if_neg (by simpa using e1)]
          refine wpS_bind (s_elemL (i:=j - 1) (by omega) ?_)
          have M2:MHa xa xb (Array.push (ou++(xa.extract c1 i).reverse) (xb.toList[j - 1]'(by omega))) c1 (j - 1):=MHa.pushB (by rw [show j - 1+1=j by omega];exact m1) hB (by omega) (fun z hz=>le1 z hz)
          by_cases e3:j - 1=1
          · rw [if_pos (by simpa using e3)]
            exact wpS_pure ⟨sm3 _,.inl ⟨_,_,rfl,M2.first hA hB hb e3 h0⟩⟩
          · rw [if_neg (by simpa using e3)]
            refine wpS_bind (s_elemL (i:=c1 - 1) (by omega) ?_)
            obtain ⟨c2,hc2,cut2⟩:=cut_of hB (xa.toList[c1 - 1]'(by omega)) true 0 (j - 1) (by omega)
            obtain ⟨lt2,ge2⟩:=ftrue (by omega) hc2 cut2
            refine wpS_bind (s_gal (c:=c2) ((sm3 _).kind.trans hk) hIb (hIa _ (List.getElem_mem _)) (by omega) (by omega) hc2 cut2 ?_)
            dsimp only
            by_cases k1:j - 1 - c2 > 0
            · rw [if_pos k1]
              have M3:MHa xa xb (Array.push (ou++(xa.extract c1 i).reverse) (xb.toList[j - 1]'(by omega))++(xb.extract c2 (j - 1)).reverse) c1 c2:=M2.extB hB hc2 (by omega) fun t ht h1 h2 z hz=>by
               refine Int.le_trans ?_ (ge2 t ht h1 h2)
               exact take_le hA (n:=c1 - 1) (by omega) z (by rw [show c1 - 1+1=c1 by omega];exact hz)
              by_cases e4:c2=1
              · rw [if_pos (by simpa using e4)]
                exact wpS_pure ⟨sm3 _,.inl ⟨_,_,rfl,M3.first hA hB hb e4 h0⟩⟩
              · rw [if_neg (by simpa using e4)]
                by_cases e6:c2=0
                · rw [if_pos (by simpa using e6)]
                  exact wpS_pure ⟨sm3 _,.inl ⟨_,_,rfl,M3.done0 hA hB (.inr e6)⟩⟩
                · rw [if_neg (by simpa using e6)]
                  refine wpS_bind (s_elemL (i:=c1 - 1) (by omega) ?_)
                  have M4:MHa xa xb (Array.push (Array.push (ou++(xa.extract c1 i).reverse) (xb.toList[j - 1]'(by omega))++(xb.extract c2 (j - 1)).reverse) (xa.toList[c1 - 1]'(by omega))) (c1 - 1) c2:=MHa.pushA (by rw [show c1 - 1+1=c1 by omega];exact M3) hA (by omega) (fun z hz=>Int.le_of_lt (lt2 z hz))
                  by_cases e5:c1 - 1=0
                  · rw [if_pos (by simpa using e5)]
                    exact wpS_pure ⟨sm3 _,.inl ⟨_,_,rfl,M4.done0 hA hB (.inl e5)⟩⟩
                  · rw [if_neg (by simpa using e5)]
                    split
                    · exact wpS_pure ⟨sm3 _,.inr ⟨_,_,_,_,_,_,rfl,M4,by omega,by omega,by omega,by omega,by omega⟩⟩
                    · exact wpS_pure ⟨sm3 _,_,_,_,_,_,_,rfl,M4,by omega,by omega,by omega,by omega,by omega⟩
            · rw [if_neg k1]
              have c20:c2=j - 1:=by omega
              refine wpS_bind (s_elemL (i:=c1 - 1) (by omega) ?_)
              have M4:MHa xa xb (Array.push (Array.push (ou++(xa.extract c1 i).reverse) (xb.toList[j - 1]'(by omega))) (xa.toList[c1 - 1]'(by omega))) (c1 - 1) (j - 1):=MHa.pushA (by rw [show c1 - 1+1=c1 by omega];exact M2) hA (by omega) (fun z hz=>Int.le_of_lt (lt2 z (by rw [c20];exact hz)))
              by_cases e5:c1 - 1=0
              · rw [if_pos (by simpa using e5)]
                exact wpS_pure ⟨sm3 _,.inl ⟨_,_,rfl,M4.done0 hA hB (.inl e5)⟩⟩
              · rw [if_neg (by simpa using e5)]
                split
                · exact wpS_pure ⟨sm3 _,.inr ⟨_,_,_,_,_,_,rfl,M4,by omega,by omega,by omega,by omega,by omega⟩⟩
                · exact wpS_pure ⟨sm3 _,_,_,_,_,_,_,rfl,M4,by omega,by omega,by omega,by omega,by omega⟩
      · rw [if_neg k0]
        have c10:c1=i:=by omega
        refine wpS_bind (s_elemL (i:=j - 1) (by omega) ?_)
        have M2:MHa xa xb (Array.push ou (xb.toList[j - 1]'(by omega))) i (j - 1):=MHa.pushB (by rw [show j - 1+1=j by omega];exact m) hB (by omega) (fun z hz=>le1 z (by rw [c10];exact hz))
        by_cases e3:j - 1=1
        · rw [if_pos (by simpa using e3)]
          exact wpS_pure ⟨sm3 _,.inl ⟨_,_,rfl,M2.first hA hB hb e3 h0⟩⟩
        · rw [if_neg (by simpa using e3)]
          refine wpS_bind (s_elemL (i:=i - 1) (by omega) ?_)
          obtain ⟨c2,hc2,cut2⟩:=cut_of hB (xa.toList[i - 1]'(by omega)) true 0 (j - 1) (by omega)
          obtain ⟨lt2,ge2⟩:=ftrue (by omega) hc2 cut2
          refine wpS_bind (s_gal (c:=c2) ((sm3 _).kind.trans hk) hIb (hIa _ (List.getElem_mem _)) (by omega) (by omega) hc2 cut2 ?_)
          dsimp only
          by_cases k1:j - 1 - c2 > 0
          · rw [if_pos k1]
            have M3:MHa xa xb (Array.push ou (xb.toList[j - 1]'(by omega))++(xb.extract c2 (j - 1)).reverse) i c2:=M2.extB hB hc2 (by omega) fun t ht h1 h2 z hz=>by
             refine Int.le_trans ?_ (ge2 t ht h1 h2)
             exact take_le hA (n:=i - 1) (by omega) z (by rw [show i - 1+1=i by omega];exact hz)
            by_cases e4:c2=1
            · rw [if_pos (by simpa using e4)]
              exact wpS_pure ⟨sm3 _,.inl ⟨_,_,rfl,M3.first hA hB hb e4 h0⟩⟩
            · rw [if_neg (by simpa using e4)]
              by_cases e6:c2=0
              · rw [if_pos (by simpa using e6)]
                exact wpS_pure ⟨sm3 _,.inl ⟨_,_,rfl,M3.done0 hA hB (.inr e6)⟩⟩
              · rw [if_neg (by simpa using e6)]
                refine wpS_bind (s_elemL (i:=i - 1) (by omega) ?_)
                have M4:MHa xa xb (Array.push (Array.push ou (xb.toList[j - 1]'(by omega))++(xb.extract c2 (j - 1)).reverse) (xa.toList[i - 1]'(by omega))) (i - 1) c2:=MHa.pushA (by rw [show i - 1+1=i by omega];exact M3) hA (by omega) (fun z hz=>Int.le_of_lt (lt2 z hz))
                by_cases e5:i - 1=0
                · rw [if_pos (by simpa using e5)]
                  exact wpS_pure ⟨sm3 _,.inl ⟨_,_,rfl,M4.done0 hA hB (.inl e5)⟩⟩
                · rw [if_neg (by simpa using e5)]
                  split
                  · exact wpS_pure ⟨sm3 _,.inr ⟨_,_,_,_,_,_,rfl,M4,by omega,by omega,by omega,by omega,by omega⟩⟩
                  · exact wpS_pure ⟨sm3 _,_,_,_,_,_,_,rfl,M4,by omega,by omega,by omega,by omega,by omega⟩
          · rw [if_neg k1]
            have c20:c2=j - 1:=by omega
            refine wpS_bind (s_elemL (i:=i - 1) (by omega) ?_)
            have M4:MHa xa xb (Array.push (Array.push ou (xb.toList[j - 1]'(by omega))) (xa.toList[i - 1]'(by omega))) (i - 1) (j - 1):=MHa.pushA (by rw [show i - 1+1=i by omega];exact M2) hA (by omega) (fun z hz=>Int.le_of_lt (lt2 z (by rw [c20];exact hz)))
            by_cases e5:i - 1=0
            · rw [if_pos (by simpa using e5)]
              exact wpS_pure ⟨sm3 _,.inl ⟨_,_,rfl,M4.done0 hA hB (.inl e5)⟩⟩
            · rw [if_neg (by simpa using e5)]
              split
              · exact wpS_pure ⟨sm3 _,.inr ⟨_,_,_,_,_,_,rfl,M4,by omega,by omega,by omega,by omega,by omega⟩⟩
              · exact wpS_pure ⟨sm3 _,_,_,_,_,_,_,rfl,M4,by omega,by omega,by omega,by omega,by omega⟩
    · rw [if_neg hmg]
      refine wpS_bind (s_setG (wpS_bind (s_elemL (i:=j - 1) (by omega) ?_)))
      refine wpS_bind (s_gal (c:=c1) ((sm3 _).kind.trans hk) hIa (hIb _ (List.getElem_mem _)) (by omega) (by omega) hc1 cut1 ?_)
      dsimp only
      by_cases k0:i - c1 > 0
      · rw [if_pos k0]
        by_cases e1:c1=0
        · rw [if_pos (by simpa using e1)]
          exact wpS_pure ⟨sm3 _,.inl ⟨_,_,rfl,m1.done0 hA hB (.inl e1)⟩⟩
        · rw [if_neg (by simpa using e1)]
          refine wpS_bind (s_elemL (i:=j - 1) (by omega) ?_)
          have M2:MHa xa xb (Array.push (ou++(xa.extract c1 i).reverse) (xb.toList[j - 1]'(by omega))) c1 (j - 1):=MHa.pushB (by rw [show j - 1+1=j by omega];exact m1) hB (by omega) (fun z hz=>le1 z hz)
          by_cases e3:j - 1=1
          · rw [if_pos (by simpa using e3)]
            exact wpS_pure ⟨sm3 _,.inl ⟨_,_,rfl,M2.first hA hB hb e3 h0⟩⟩
          · rw [if_neg (by simpa using e3)]
            refine wpS_bind (s_elemL (i:=c1 - 1) (by omega) ?_)
            obtain ⟨c2,hc2,cut2⟩:=cut_of hB (xa.toList[c1 - 1]'(by omega)) true 0 (j - 1) (by omega)
            obtain ⟨lt2,ge2⟩:=ftrue (by omega) hc2 cut2
            refine wpS_bind (s_gal (c:=c2) ((sm3 _).kind.trans hk) hIb (hIa _ (List.getElem_mem _)) (by omega) (by omega) hc2 cut2 ?_)
            dsimp only
            by_cases k1:j - 1 - c2 > 0
            · rw [if_pos k1]
              have M3:MHa xa xb (Array.push (ou++(xa.extract c1 i).reverse) (xb.toList[j - 1]'(by omega))++(xb.extract c2 (j - 1)).reverse) c1 c2:=M2.extB hB hc2 (by omega) fun t ht h1 h2 z hz=>by
               refine Int.le_trans ?_ (ge2 t ht h1 h2)
               exact take_le hA (n:=c1 - 1) (by omega) z (by rw [show c1 - 1+1=c1 by omega];exact hz)
              by_cases e4:c2=1
              · rw [if_pos (by simpa using e4)]
                exact wpS_pure ⟨sm3 _,.inl ⟨_,_,rfl,M3.first hA hB hb e4 h0⟩⟩
              · rw [if_neg (by simpa using e4)]
                by_cases e6:c2=0
                · rw [if_pos (by simpa using e6)]
                  exact wpS_pure ⟨sm3 _,.inl ⟨_,_,rfl,M3.done0 hA hB (.inr e6)⟩⟩
                · rw [if_neg (by simpa using e6)]
                  refine wpS_bind (s_elemL (i:=c1 - 1) (by omega) ?_)
                  have M4:MHa xa xb (Array.push (Array.push (ou++(xa.extract c1 i).reverse) (xb.toList[j - 1]'(by omega))++(xb.extract c2 (j - 1)).reverse) (xa.toList[c1 - 1]'(by omega))) (c1 - 1) c2:=MHa.pushA (by rw [show c1 - 1+1=c1 by omega];exact M3) hA (by omega) (fun z hz=>Int.le_of_lt (lt2 z hz))
                  by_cases e5:c1 - 1=0
                  · rw [if_pos (by simpa using e5)]
                    exact wpS_pure ⟨sm3 _,.inl ⟨_,_,rfl,M4.done0 hA hB (.inl e5)⟩⟩
                  · rw [if_neg (by simpa using e5)]
                    split
                    · exact wpS_pure ⟨sm3 _,.inr ⟨_,_,_,_,_,_,rfl,M4,by omega,by omega,by omega,by omega,by omega⟩⟩
                    · exact wpS_pure ⟨sm3 _,_,_,_,_,_,_,rfl,M4,by omega,by omega,by omega,by omega,by omega⟩
            · rw [if_neg k1]
              have c20:c2=j - 1:=by omega
              refine wpS_bind (s_elemL (i:=c1 - 1) (by omega) ?_)
              have M4:MHa xa xb (Array.push (Array.push (ou++(xa.extract c1 i).reverse) (xb.toList[j - 1]'(by omega))) (xa.toList[c1 - 1]'(by omega))) (c1 - 1) (j - 1):=MHa.pushA (by rw [show c1 - 1+1=c1 by omega];exact M2) hA (by omega) (fun z hz=>Int.le_of_lt (lt2 z (by rw [c20];exact hz)))
              by_cases e5:c1 - 1=0
              · rw [if_pos (by simpa using e5)]
                exact wpS_pure ⟨sm3 _,.inl ⟨_,_,rfl,M4.done0 hA hB (.inl e5)⟩⟩
              · rw [if_neg (by simpa using e5)]
                split
                · exact wpS_pure ⟨sm3 _,.inr ⟨_,_,_,_,_,_,rfl,M4,by omega,by omega,by omega,by omega,by omega⟩⟩
                · exact wpS_pure ⟨sm3 _,_,_,_,_,_,_,rfl,M4,by omega,by omega,by omega,by omega,by omega⟩
      · rw [if_neg k0]
        have c10:c1=i:=by omega
        refine wpS_bind (s_elemL (i:=j - 1) (by omega) ?_)
        have M2:MHa xa xb (Array.push ou (xb.toList[j - 1]'(by omega))) i (j - 1):=MHa.pushB (by rw [show j - 1+1=j by omega];exact m) hB (by omega) (fun z hz=>le1 z (by rw [c10];exact hz))
        by_cases e3:j - 1=1
        · rw [if_pos (by simpa using e3)]
          exact wpS_pure ⟨sm3 _,.inl ⟨_,_,rfl,M2.first hA hB hb e3 h0⟩⟩
        · rw [if_neg (by simpa using e3)]
          refine wpS_bind (s_elemL (i:=i - 1) (by omega) ?_)
          obtain ⟨c2,hc2,cut2⟩:=cut_of hB (xa.toList[i - 1]'(by omega)) true 0 (j - 1) (by omega)
          obtain ⟨lt2,ge2⟩:=ftrue (by omega) hc2 cut2
          refine wpS_bind (s_gal (c:=c2) ((sm3 _).kind.trans hk) hIb (hIa _ (List.getElem_mem _)) (by omega) (by omega) hc2 cut2 ?_)
          dsimp only
          by_cases k1:j - 1 - c2 > 0
          · rw [if_pos k1]
            have M3:MHa xa xb (Array.push ou (xb.toList[j - 1]'(by omega))++(xb.extract c2 (j - 1)).reverse) i c2:=M2.extB hB hc2 (by omega) fun t ht h1 h2 z hz=>by
             refine Int.le_trans ?_ (ge2 t ht h1 h2)
             exact take_le hA (n:=i - 1) (by omega) z (by rw [show i - 1+1=i by omega];exact hz)
            by_cases e4:c2=1
            · rw [if_pos (by simpa using e4)]
              exact wpS_pure ⟨sm3 _,.inl ⟨_,_,rfl,M3.first hA hB hb e4 h0⟩⟩
            · rw [if_neg (by simpa using e4)]
              by_cases e6:c2=0
              · rw [if_pos (by simpa using e6)]
                exact wpS_pure ⟨sm3 _,.inl ⟨_,_,rfl,M3.done0 hA hB (.inr e6)⟩⟩
              · rw [if_neg (by simpa using e6)]
                refine wpS_bind (s_elemL (i:=i - 1) (by omega) ?_)
                have M4:MHa xa xb (Array.push (Array.push ou (xb.toList[j - 1]'(by omega))++(xb.extract c2 (j - 1)).reverse) (xa.toList[i - 1]'(by omega))) (i - 1) c2:=MHa.pushA (by rw [show i - 1+1=i by omega];exact M3) hA (by omega) (fun z hz=>Int.le_of_lt (lt2 z hz))
                by_cases e5:i - 1=0
                · rw [if_pos (by simpa using e5)]
                  exact wpS_pure ⟨sm3 _,.inl ⟨_,_,rfl,M4.done0 hA hB (.inl e5)⟩⟩
                · rw [if_neg (by simpa using e5)]
                  split
                  · exact wpS_pure ⟨sm3 _,.inr ⟨_,_,_,_,_,_,rfl,M4,by omega,by omega,by omega,by omega,by omega⟩⟩
                  · exact wpS_pure ⟨sm3 _,_,_,_,_,_,_,rfl,M4,by omega,by omega,by omega,by omega,by omega⟩
          · rw [if_neg k1]
            have c20:c2=j - 1:=by omega
            refine wpS_bind (s_elemL (i:=i - 1) (by omega) ?_)
            have M4:MHa xa xb (Array.push (Array.push ou (xb.toList[j - 1]'(by omega))) (xa.toList[i - 1]'(by omega))) (i - 1) (j - 1):=MHa.pushA (by rw [show i - 1+1=i by omega];exact M2) hA (by omega) (fun z hz=>Int.le_of_lt (lt2 z (by rw [c20];exact hz)))
            by_cases e5:i - 1=0
            · rw [if_pos (by simpa using e5)]
              exact wpS_pure ⟨sm3 _,.inl ⟨_,_,rfl,M4.done0 hA hB (.inl e5)⟩⟩
            · rw [if_neg (by simpa using e5)]
              split
              · exact wpS_pure ⟨sm3 _,.inr ⟨_,_,_,_,_,_,rfl,M4,by omega,by omega,by omega,by omega,by omega⟩⟩
              · exact wpS_pure ⟨sm3 _,_,_,_,_,_,_,rfl,M4,by omega,by omega,by omega,by omega,by omega⟩
end
open PyProof.Rows hiding K SortedTo K_bubble K_mirror K_congr K_mirror_equal
variable [KV]
def PM:List (Nat×Nat×Nat)→List (List Keyed)→Nat→Prop
 | [],[],_=>True
 | p::r,l::ls,lo=>p.1=lo∧p.2.1=l.length∧PM r ls (lo+l.length)
 | _,_,_=>False
theorem PM.len:∀ {ps:List (Nat×Nat×Nat)} {ls:List (List Keyed)} {lo:Nat},PM ps ls lo→ps.length=ls.length
 | [],[],_,_=>rfl
 | _::r,_::ls,lo,h=>by rw [List.length_cons,List.length_cons,PM.len h.2.2]
 | [],_::_,_,h=>h.elim
 | _::_,[],_,h=>h.elim
theorem PM.at:∀ {ps:List (Nat×Nat×Nat)} {a:List (List Keyed)} {l:List Keyed} {b:List (List Keyed)} {lo:Nat},PM ps (a++l::b) lo→∃ pw,ps[a.length]? = some (lo+a.flatten.length,l.length,pw)
 | (s,n,p)::r,[],l,b,lo,h=>⟨p,by have h1:=h.1;have h2:=h.2.1;simp only at h1 h2;subst h1 h2;rfl⟩
 | p::r,x::a,l,b,lo,h=>by
   obtain ⟨pw,e⟩:=PM.at (a:=a) h.2.2
   refine ⟨pw,?_⟩
   rw [List.length_cons,List.getElem?_cons_succ,e,List.flatten_cons,List.length_append,Nat.add_assoc]
 | [],[],_,_,_,h=>h.elim
 | [],_::_,_,_,_,h=>h.elim
theorem PM.merge:∀ {ps:List (Nat×Nat×Nat)} {a:List (List Keyed)} {l m:List Keyed} {b:List (List Keyed)} {lo:Nat} {x:List Keyed} {pw:Nat},PM ps (a++l::m::b) lo→x.length=l.length+m.length →
 PM ((ps.set a.length (lo+a.flatten.length,l.length+m.length,pw)).eraseIdx (a.length+1)) (a++x::b) lo
 | p::q::r,[],l,m,b,lo,x,pw,h,hx=>by
   obtain ⟨h1,h2,h3,h4,h5⟩:=h
   show PM ((lo+0,l.length+m.length,pw)::r) (x::b) lo
   refine ⟨rfl,hx.symm,?_⟩
   rw [hx,← Nat.add_assoc]
   exact h5
 | p::r,y::a,l,m,b,lo,x,pw,h,hx=>by
   obtain ⟨h1,h2,h3⟩:=h
   have ih:=PM.merge (pw:=pw) h3 hx
   show PM (p::((r.set a.length _).eraseIdx (a.length+1))) (y::(a++x::b)) lo
   refine ⟨h1,h2,?_⟩
   rw [List.flatten_cons,List.length_append,← Nat.add_assoc]
   exact ih
 | [],[],_,_,_,_,_,_,h,_=>h.elim
 | [_],[],_,_,_,_,_,_,h,_=>h.2.2.elim
 | [],_::_,_,_,_,_,_,_,h,_=>h.elim
theorem seg_at {xs:Array Keyed} {pre R post:List Keyed} (e:xs.toList=pre++R++post) {t:Nat} (ht:t<R.length):xs[pre.length+t]? = some R[t]:=by
 rw [← Array.getElem?_toList,e,List.append_assoc,List.getElem?_append_right (by omega),Nat.add_sub_cancel_left,List.getElem?_append_left ht,List.getElem?_eq_getElem ht]
theorem cut_seg {xs:Array Keyed} {R:List Keyed} (hs:R.Pairwise Le) (ky:Keyed) (lf:Bool) (bs:Nat) (hK:∀ t (h:t<R.length),K xs (bs+t)=kv R[t]):∃ c,c≤R.length∧∀ i,i<R.length→Byd lf ky xs bs i=decide (i<c):=by
 have down:∀ i j,i≤j→j<R.length→Byd lf ky xs bs j=true→Byd lf ky xs bs i=true:=fun i j hij hj h=>by
  have hm:kv (R[i]'(by omega))≤kv R[j]:=by
   by_cases e:i=j
   · subst e;exact Int.le_refl _
   · exact List.pairwise_iff_getElem.mp hs _ _ _ _ (by omega)
  unfold Byd at h ⊢
  rw [hK j hj] at h
  rw [hK i (by omega)]
  cases lf with
  | true=>simp only [if_true,decide_eq_true_eq] at h ⊢;omega
  | false=>simp only [Bool.false_eq_true,if_false,Bool.not_eq_true',decide_eq_false_iff_not] at h ⊢;omega
 have main:∀ n,n≤R.length→∃ c,c≤n∧∀ i,i<n→Byd lf ky xs bs i=decide (i<c):=by
  intro n
  induction n with
  | zero=>exact fun _=>⟨0,Nat.le_refl _,fun i hi=>absurd hi (Nat.not_lt_zero _)⟩
  | succ n ih=>
    intro hn
    obtain ⟨c,hc,hd⟩:=ih (by omega)
    by_cases hb:Byd lf ky xs bs n=true
    · refine ⟨n+1,Nat.le_refl _,fun i hi=>?_⟩
      rw [decide_eq_true hi]
      exact down i n (by omega) (by omega) hb
    · refine ⟨c,by omega,fun i hi=>?_⟩
      by_cases h:i=n
      · subst h
        rw [decide_eq_false (by omega)]
        exact Bool.not_eq_true _▸(by simpa using hb)
      · exact hd i (by omega)
 exact main _ (Nat.le_refl _)
theorem write_back:∀ (l:List Keyed) (k off:Nat) (xs:Array Keyed),off+k+l.length≤xs.size→((l.zipIdx k).foldl (fun a (x:Keyed×Nat)=>a.setIfInBounds (off+x.2) x.1) xs).toList=xs.toList.take (off+k)++l++xs.toList.drop (off+k+l.length)
 | [],k,off,xs,_=>by simp
 | p::l,k,off,xs,h=>by
   rw [List.zipIdx_cons,List.foldl_cons]
   rw [List.length_cons] at h
   rw [write_back l (k+1) off _ (by rw [Array.size_setIfInBounds];omega)]
   rw [Array.toList_setIfInBounds]
   have hlen:off+k<xs.toList.length:=by rw [Array.length_toList];omega
   rw [List.drop_set_of_lt (by omega),List.length_cons]
   have e1:(xs.toList.set (off+k) p).take (off+(k+1))=xs.toList.take (off+k)++[p]:=by
    rw [← Nat.add_assoc,List.take_succ,List.take_set_of_le (by omega),List.getElem?_set_self hlen]
    rfl
   have e2:off+(k+1)+l.length=off+k+(l.length+1):=by omega
   rw [e1,e2]
   simp
theorem pw3 {a b c:List Keyed} (ha:a.Pairwise Le) (hb:b.Pairwise Le) (hc:c.Pairwise Le) (hab:∀ x∈a,∀ y∈b,kv x≤kv y) (hac:∀ x∈a,∀ y∈c,kv x≤kv y) (hbc:∀ x∈b,∀ y∈c,kv x≤kv y):(a++b++c).Pairwise Le:=by
 refine List.pairwise_append.mpr ⟨List.pairwise_append.mpr ⟨ha,hb,hab⟩,hc,fun x hx y hy=>?_⟩
 rcases List.mem_append.mp hx with hx | hx
 · exact hac x hx y hy
 · exact hbc x hx y hy
def mat:Nat→StateT SortSt Sem Bool:=sortPriv% PySem.Builtin.mergeAt
theorem mat_is:mergeAt'=mat:=rfl
theorem mat_eq (i:Nat):mat i=(do
 let z ← get
 let (some (p,n,pw),some (q,m,_)):=((pendingOf z)[i]?,(pendingOf z)[i+1]?) | unsupported "internal:list.sort.pending"
 set (setPending z (((pendingOf z).setIfInBounds i (p,n+m,pw)).eraseIdxIfInBounds (i+1)))
 let some k ← gal false (← elem' (arrOf z) q) (arrOf z) p n 0 | return false
 let (p,n):=(p+k,n - k)
 if n == 0 then return true
 let some m ← gal true (← elem' (arrOf z) (p+n - 1)) (arrOf z) q m (m - 1) | return false
 if m == 0 then return true
 let x:=(arrOf z).extract p q
 let y:=(arrOf z).extract q (q+m)
 let mg ← if n≤m then mlo x y else mhi x y
 modify fun v=>setArr v (mg.toList.zipIdx.foldl (fun a (u,j)=>a.setIfInBounds (p+j) u) (arrOf v))
 return (failedOf (← get)).isNone):=rfl
open PyProof.Rows hiding K SortedTo K_bubble K_mirror K_congr K_mirror_equal
variable [KV]
theorem s_set {prog:Program} {w:World} {A:Around} {E:Value→Shared→Prop} {st v:SortSt} {Q:PUnit→SortSt→Prop} (h:Q ⟨⟩ v):wpS (model prog w) A E KV.sh (set v:StateT SortSt Sem PUnit) Q st:=by
 unfold wpS
 rw [StateT.run_set]
 exact wpAny_pure ⟨rfl,h⟩
theorem drop_pre:∀ (p z:List Keyed) (c:Nat),(p++z).drop (p.length+c)=z.drop c
 | [],z,c=>by simp
 | x::p,z,c=>by
   rw [List.length_cons,show p.length+1+c=p.length+c+1 by omega,List.cons_append,List.drop_succ_cons]
   exact drop_pre p z c
theorem ext_seg {xs:Array Keyed} {pre R post:List Keyed} (e:xs.toList=pre++R++post) (c d:Nat) (hd:d≤R.length) (hc:c≤d):(xs.extract (pre.length+c) (pre.length+d)).toList=(R.drop c).take (d - c):=by
 rw [Array.toList_extract,List.extract_eq_drop_take,e,List.append_assoc,drop_pre]
 have:(R++post).drop c=R.drop c++post:=List.drop_append_of_le_length (by omega)
 rw [this,show pre.length+d - (pre.length+c)=d - c by omega,List.take_append_of_le_length (by rw [List.length_drop];omega)]
theorem AllI.sub {xs ys:Array Keyed} (h:AllI xs) (hs:∀ p∈ys.toList,p∈xs.toList):AllI ys:=fun p hp=>h p (hs p hp)
section
variable {prog:Program} {w:World} {A:Around} {E:Value→Shared→Prop}
structure Kept (a b:SortSt):Prop where
 kind:kindOf b=kindOf a
 fail:failedOf b=failedOf a
theorem s_mat {st:SortSt} {L1 L2:List (List Keyed)} {R1 R2 rest:List Keyed} {Q:Bool→SortSt→Prop} (hk:kindOf st=KV.kind) (hf:failedOf st=none) (hI:AllI (arrOf st))
 (ha:(arrOf st).toList=(L1++R1::R2::L2).flatten++rest) (pm:PM (pendingOf st).toList (L1++R1::R2::L2) 0) (n1:R1≠[]) (n2:R2≠[]) (s1:R1.Pairwise Le) (s2:R2.Pairwise Le)
 (h:∀ st' R,Kept st st'→R.Perm (R1++R2)→R.Pairwise Le→(arrOf st').toList=(L1++R::L2).flatten++rest→PM (pendingOf st').toList (L1++R::L2) 0→Q true st'):wpS (model prog w) A E KV.sh (mat L1.length) Q st:=by
 have p1:0<R1.length:=List.length_pos_iff.mpr n1
 have p2:0<R2.length:=List.length_pos_iff.mpr n2
 obtain ⟨pw,e1⟩:=pm.at
 have e2':=(show PM (pendingOf st).toList ((L1++[R1])++R2::L2) 0 by rw [List.append_assoc];exact pm).at
 obtain ⟨pw2,e2⟩:=e2'
 rw [List.length_append,List.length_singleton,List.flatten_append,List.flatten_cons,List.flatten_nil,List.append_nil,List.length_append] at e2
 rw [Array.getElem?_toList] at e1 e2
 have ea:(arrOf st).toList=L1.flatten++R1++(R2++L2.flatten++rest):=by rw [ha];simp
 have eb:(arrOf st).toList=(L1.flatten++R1)++R2++(L2.flatten++rest):=by rw [ha];simp
 have hsz:(arrOf st).size=L1.flatten.length+R1.length+R2.length+L2.flatten.length+rest.length:=by
  rw [← Array.length_toList,ha]
  simp only [List.flatten_append,List.flatten_cons,List.length_append]
  omega
 have pmR:∀ R:List Keyed,R.length=R1.length+R2.length→PM (((pendingOf st).setIfInBounds L1.length (0+L1.flatten.length,R1.length+R2.length,pw)).eraseIdxIfInBounds (L1.length+1)).toList (L1++R::L2) 0:=fun R hR=>by
  have:=PM.merge (pw:=pw) pm hR
  rw [Array.toList_eraseIdxIfInBounds,Array.toList_setIfInBounds]
  exact this
 have join:(L1++(R1++R2)::L2).flatten++rest=(arrOf st).toList:=by rw [ha];simp
 rw [mat_eq]
 refine wpS_bind (wpS_get ?_)
 rw [e1,e2]
 dsimp only
 refine wpS_bind (s_set ?_)
 have g2:(arrOf st)[0+(L1.flatten.length+R1.length)]? = some R2[0]:=by
  have:=seg_at eb p2
  rw [List.length_append,Nat.add_zero] at this
  rw [Nat.zero_add];exact this
 refine wpS_bind (s_elem g2 ?_)
 have hK1:∀ t (ht:t<R1.length),K (arrOf st) (0+L1.flatten.length+t)=kv R1[t]:=fun t ht=>by
  rw [Nat.zero_add];exact K_of (seg_at ea ht)
 have hK2:∀ t (ht:t<R2.length),K (arrOf st) (0+(L1.flatten.length+R1.length)+t)=kv R2[t]:=fun t ht=>by
  have:=K_of (seg_at eb ht)
  rw [List.length_append] at this
  rw [Nat.zero_add];exact this
 have hI2:IsI R2[0]:=hI _ (by rw [eb];exact List.mem_append_left _ (List.mem_append_right _ (List.getElem_mem _)))
 obtain ⟨c,hc,cut⟩:=cut_seg s1 R2[0] false (0+L1.flatten.length) hK1
 have lo:∀ t (ht:t<R1.length),t<c→kv R1[t]≤kv R2[0]:=fun t ht htc=>by
  have:=cut t ht
  unfold Byd at this
  rw [hK1 t ht,decide_eq_true htc] at this
  simp only [Bool.false_eq_true,if_false,Bool.not_eq_true',decide_eq_false_iff_not] at this
  omega
 have up:∀ t (ht:t<R1.length),c≤t→kv R2[0]<kv R1[t]:=fun t ht htc=>by
  have:=cut t ht
  unfold Byd at this
  rw [hK1 t ht,decide_eq_false (show ¬ t<c by omega)] at this
  simpa using this
 refine wpS_bind (s_gal (st:=setPending st _) (c:=c) hk hI hI2 (by omega) p1 hc cut ?_)
 dsimp only
 have b0:∀ y∈R2,kv R2[0]≤kv y:=fun y hy=>head_le s2 p2 y (by simpa using hy)
 by_cases c1:R1.length - c=0
 · rw [if_pos (by simpa using c1)]
   refine wpS_pure (h _ (R1++R2) ⟨rfl,rfl⟩ (List.Perm.refl _) ?_ join.symm (pmR _ (by rw [List.length_append])))
   refine List.pairwise_append.mpr ⟨s1,s2,fun x hx y hy=>?_⟩
   obtain ⟨t,ht,rfl⟩:=List.mem_iff_getElem.mp hx
   exact Int.le_trans (lo t ht (by omega)) (b0 y hy)
 rw [if_neg (by simpa using c1)]
 have gl:(arrOf st)[0+L1.flatten.length+c+(R1.length - c) - 1]? = some (R1[R1.length - 1]'(by omega)):=by
  have:=seg_at ea (t:=R1.length - 1) (by omega)
  rw [show 0+L1.flatten.length+c+(R1.length - c) - 1=L1.flatten.length+(R1.length - 1) by omega];exact this
 refine wpS_bind (s_elem gl ?_)
 have hI1:IsI (R1[R1.length - 1]'(by omega)):=hI _ (by rw [ea];exact List.mem_append_left _ (List.mem_append_right _ (List.getElem_mem _)))
 obtain ⟨d,hd,cut2⟩:=cut_seg s2 (R1[R1.length - 1]'(by omega)) true (0+(L1.flatten.length+R1.length)) hK2
 have lo2:∀ t (ht:t<R2.length),t<d→kv R2[t]<kv (R1[R1.length - 1]'(by omega)):=fun t ht htc=>by
  have:=cut2 t ht
  unfold Byd at this
  rw [hK2 t ht,decide_eq_true htc] at this
  simpa using this
 have up2:∀ t (ht:t<R2.length),d≤t→kv (R1[R1.length - 1]'(by omega))≤kv R2[t]:=fun t ht htc=>by
  have:=cut2 t ht
  unfold Byd at this
  rw [hK2 t ht,decide_eq_false (show ¬ t<d by omega)] at this
  simpa using this
 refine wpS_bind (s_gal (st:=setPending st _) (c:=d) hk hI hI1 (by omega) (by omega) hd cut2 ?_)
 dsimp only
 have lastA:∀ x∈R1,kv x≤kv (R1[R1.length - 1]'(by omega)):=fun x hx=>by
  refine take_le s1 (n:=R1.length - 1) (by omega) x ?_
  rw [List.take_of_length_le (by omega)];exact hx
 by_cases c2:d=0
 · rw [if_pos (by simpa using c2)]
   refine wpS_pure (h _ (R1++R2) ⟨rfl,rfl⟩ (List.Perm.refl _) ?_ join.symm (pmR _ (by rw [List.length_append])))
   refine List.pairwise_append.mpr ⟨s1,s2,fun x hx y hy=>?_⟩
   exact Int.le_trans (lastA x hx) (Int.le_trans (up2 0 p2 (by omega)) (b0 y hy))
 rw [if_neg (by simpa using c2)]
 have ex:((arrOf st).extract (0+L1.flatten.length+c) (0+(L1.flatten.length+R1.length))).toList=R1.drop c:=by
  have:=ext_seg ea c R1.length (Nat.le_refl _) hc
  rw [Nat.zero_add,Nat.zero_add,this,List.take_of_length_le (by rw [List.length_drop];exact Nat.le_refl _)]
 have ey:((arrOf st).extract (0+(L1.flatten.length+R1.length)) (0+(L1.flatten.length+R1.length)+d)).toList=R2.take d:=by
  have:=ext_seg eb 0 d hd (Nat.zero_le _)
  rw [List.length_append,Nat.add_zero,List.drop_zero,Nat.sub_zero] at this
  rw [Nat.zero_add];exact this
 generalize hx:(arrOf st).extract (0+L1.flatten.length+c) (0+(L1.flatten.length+R1.length))=xx at ex ⊢
 generalize hy:(arrOf st).extract (0+(L1.flatten.length+R1.length)) (0+(L1.flatten.length+R1.length)+d)=yy at ey ⊢
 have Ix:AllI xx:=hI.sub fun p hp=>by rw [ex] at hp;rw [ea];exact List.mem_append_left _ (List.mem_append_right _ (List.mem_of_mem_drop hp))
 have Iy:AllI yy:=hI.sub fun p hp=>by rw [ey] at hp;rw [eb];exact List.mem_append_left _ (List.mem_append_right _ (List.mem_of_mem_take hp))
 have Sx:xx.toList.Pairwise Le:=by rw [ex];exact s1.sublist (List.drop_sublist _ _)
 have Sy:yy.toList.Pairwise Le:=by rw [ey];exact s2.sublist (List.take_sublist _ _)
 have lx:xx.toList.length=R1.length - c:=by rw [ex,List.length_drop]
 have ly:yy.toList.length=d:=by rw [ey,List.length_take];omega
 have y0:yy.toList[0]'(by omega)=R2[0]:=by simp only [ey,List.getElem_take]
 have xl:xx.toList[xx.toList.length - 1]'(by omega)=R1[R1.length - 1]'(by omega):=by
  simp only [ex,List.getElem_drop,List.length_drop]
  congr 1
  omega
 have h0:∀ z∈xx.toList,kv (yy.toList[0]'(by omega))≤kv z:=fun z hz=>by
  rw [y0]
  rw [ex] at hz
  obtain ⟨u,hu,rfl⟩:=mem_dropE hz
  exact Int.le_of_lt (up _ hu (by omega))
 have hl:∀ z∈yy.toList,kv z≤kv (xx.toList[xx.toList.length - 1]'(by omega)):=fun z hz=>by
  rw [xl]
  rw [ey] at hz
  obtain ⟨u,hu,rfl⟩:=List.mem_iff_getElem.mp hz
  rw [List.length_take] at hu
  rw [List.getElem_take]
  exact Int.le_of_lt (lo2 u (by omega) (by omega))
 have fin:∀ (o:Array Keyed) (st2:SortSt),SameSt (setPending st (((pendingOf st).setIfInBounds L1.length (0+L1.flatten.length,R1.length+R2.length,pw)).eraseIdxIfInBounds (L1.length+1))) st2→Mer xx.toList yy.toList o.toList →
  wpS (model prog w) A E KV.sh (do modify fun v=>setArr v (o.toList.zipIdx.foldl (fun a (u,j)=>a.setIfInBounds (0+L1.flatten.length+c+j) u) (arrOf v));return (failedOf (← get)).isNone) Q st2:=by
  intro o st2 sm me
  refine wpS_bind (wpS_modify (wpS_bind (wpS_get ?_)))
  have hf2:failedOf st2=none:=sm.fail.trans hf
  show wpS _ _ _ _ (pure (failedOf st2).isNone) Q _
  rw [hf2]
  have harr:arrOf st2=arrOf st:=sm.arr
  have lo':o.toList.length=R1.length - c+d:=by rw [me.perm.length_eq,List.length_append,lx,ly]
  have hwb:=write_back o.toList 0 (0+L1.flatten.length+c) (arrOf st) (by rw [lo'];omega)
  refine wpS_pure (h _ (R1.take c++o.toList++R2.drop d) ⟨sm.kind,sm.fail⟩ ?_ ?_ ?_ ?_)
  · have e:=me.perm
    rw [ex,ey] at e
    have e3:(R1.take c++o.toList++R2.drop d).Perm (R1.take c++(R1.drop c++R2.take d)++R2.drop d):=List.Perm.append_right _ (List.Perm.append_left _ e)
    have e4:R1.take c++(R1.drop c++R2.take d)++R2.drop d=R1++R2:=by
     rw [← List.append_assoc,List.take_append_drop,List.append_assoc,List.take_append_drop]
    rw [e4] at e3
    exact e3
  · have om:∀ z∈o.toList,z∈R1.drop c∨z∈R2.take d:=fun z hz=>by
     have:=me.perm.mem_iff.mp hz
     rw [ex,ey] at this
     exact List.mem_append.mp this
    have ta:∀ x∈R1.take c,kv x≤kv R2[0]:=fun x hx=>by
     obtain ⟨u,hu,rfl⟩:=List.mem_iff_getElem.mp hx
     rw [List.length_take] at hu
     rw [List.getElem_take]
     exact lo u (by omega) (by omega)
    have td:∀ y∈R2.drop d,kv (R1[R1.length - 1]'(by omega))≤kv y:=fun y hy=>by
     obtain ⟨u,hu,rfl⟩:=mem_dropE hy
     exact up2 _ hu (by omega)
    refine pw3 (s1.sublist (List.take_sublist _ _)) me.srt (s2.sublist (List.drop_sublist _ _)) (fun x hx y hy=>?_) (fun x hx y hy=>?_) (fun x hx y hy=>?_)
    · rcases om y hy with hy | hy
      · obtain ⟨u,hu,rfl⟩:=mem_dropE hy
        exact Int.le_trans (ta x hx) (Int.le_of_lt (up _ hu (by omega)))
      · exact Int.le_trans (ta x hx) (b0 y (List.mem_of_mem_take hy))
    · exact Int.le_trans (ta x hx) (b0 y (List.mem_of_mem_drop hy))
    · rcases om x hx with hx | hx
      · exact Int.le_trans (lastA x (List.mem_of_mem_drop hx)) (td y hy)
      · obtain ⟨u,hu,rfl⟩:=List.mem_iff_getElem.mp hx
        rw [List.length_take] at hu
        rw [List.getElem_take]
        exact Int.le_trans (Int.le_of_lt (lo2 u (by omega) (by omega))) (td y hy)
  · show (o.toList.zipIdx.foldl (fun a (x:Keyed×Nat)=>a.setIfInBounds (0+L1.flatten.length+c+x.2) x.1) (arrOf st2)).toList=_
    rw [harr]
    refine hwb.trans ?_
    rw [Nat.add_zero,lo']
    have t1:(arrOf st).toList.take (0+L1.flatten.length+c)=L1.flatten++R1.take c:=by
     rw [ea,List.append_assoc,Nat.zero_add,List.take_append,List.take_of_length_le (by omega),Nat.add_sub_cancel_left,List.take_append_of_le_length (by omega)]
    have t2:(arrOf st).toList.drop (0+L1.flatten.length+c+(R1.length - c+d))=R2.drop d++(L2.flatten++rest):=by
     rw [eb,List.append_assoc,show 0+L1.flatten.length+c+(R1.length - c+d)=(L1.flatten++R1).length+d by rw [List.length_append];omega,drop_pre,List.drop_append_of_le_length (by omega)]
    rw [t1,t2]
    simp only [List.flatten_append,List.flatten_cons,List.append_assoc]
  · show PM (pendingOf st2).toList _ _
    rw [sm.pend]
    refine pmR _ ?_
    rw [List.length_append,List.length_append,List.length_take,List.length_drop,lo']
    omega
 by_cases c3:R1.length - c≤d
 · rw [if_pos c3]
   exact wpS_bind (s_mlo hk Ix Iy Sx Sy (by omega) (by omega) h0 hl fun o st2 sm me=>fin o st2 sm me)
 · rw [if_neg c3]
   exact wpS_bind (s_mhi hk Ix Iy Sx Sy (by omega) (by omega) h0 hl fun o st2 sm me=>fin o st2 sm me)
end
open PyProof.Rows hiding K SortedTo K_bubble K_mirror K_congr K_mirror_equal
variable [KV]
structure SX (a₀:Array Keyed) (lo:Nat) (st₀ st:SortSt):Prop where
 perm:(arrOf st).Perm a₀
 kind:kindOf st=KV.kind
 fail:failedOf st=none
 pend:pendingOf st=pendingOf st₀
 pre:∀ k,k<lo→(arrOf st)[k]? = a₀[k]?
theorem SX.size {a₀:Array Keyed} {lo:Nat} {st₀ st:SortSt} (h:SX a₀ lo st₀ st):(arrOf st).size=a₀.size:=h.perm.size_eq
theorem SX.setA {a₀:Array Keyed} {lo:Nat} {st₀ st:SortSt} (h:SX a₀ lo st₀ st) {xs:Array Keyed} (hp:xs.Perm (arrOf st)) (he:∀ k,k<lo→xs[k]? = (arrOf st)[k]?):SX a₀ lo st₀ (setArr st xs):=
 ⟨hp.trans h.perm,h.kind,h.fail,h.pend,fun k hk=>(he k hk).trans (h.pre k hk)⟩
def SrtL (xs:Array Keyed) (lo n:Nat):Prop:=∀ i j,i≤j→j<n→K xs (lo+i)≤K xs (lo+j)
def NonL (xs:Array Keyed) (lo n:Nat):Prop:=∀ i j,i≤j→j<n→K xs (lo+j)≤K xs (lo+i)
section
variable {prog:Program} {w:World} {A:Around} {E:Value→Shared→Prop} {a₀:Array Keyed} {lo:Nat} {st₀:SortSt}
theorem sx_lt {st:SortSt} {i j:Nat} {Q:Option Bool→SortSt→Prop} (hX:SX a₀ lo st₀ st) (h0:AllI a₀) (hi:i<a₀.size) (hj:j<a₀.size) (h:Q (some (decide (K (arrOf st) i<K (arrOf st) j))) st):wpS (model prog w) A E KV.sh (ltAt' i j) Q st:=by
 have get:∀ k,k<a₀.size→∃ p,(arrOf st)[k]? = some p∧IsI p:=fun k hk=>by
  have hk':k<(arrOf st).size:=by rw [hX.size];exact hk
  have hm:(arrOf st)[k]∈a₀.toList:=(Array.perm_iff_toList_perm.mp hX.perm).mem_iff.mp (by simp)
  exact ⟨_,getElem?_pos (arrOf st) k hk',h0 _ hm⟩
 obtain ⟨p,e1,g1⟩:=get i hi
 obtain ⟨q,e2,g2⟩:=get j hj
 rw [K_of e1,K_of e2] at h
 rw [ltAt'_eq]
 exact wpS_bind (wpS_get (wpS_bind (s_elem e1 (wpS_bind (s_elem e2 (s_lt hX.kind g1 g2 h))))))
theorem sx_mirror {st:SortSt} {i j:Nat} (hX:SX a₀ lo st₀ st) (hi:lo≤i) (hj:j≤a₀.size):SX a₀ lo st₀ (setArr st (mirror (arrOf st) i j ((j - i) / 2))):=
 hX.setA (mirror_perm _ _ _ _) fun k hk=>by
  rw [getElem?_mirror_all (by rw [hX.size];exact hj),if_neg (by omega)]
theorem s_bin {st:SortSt} {n ok:Nat} {Q:Bool→SortSt→Prop} (h0:AllI a₀) (hn:lo+n≤a₀.size) (hok:ok≤n) (hX:SX a₀ lo st₀ st) (hs:SrtL (arrOf st) lo ok)
 (h:∀ st',SX a₀ lo st₀ st'→SrtL (arrOf st') lo n→Q true st'):wpS (model prog w) A E KV.sh (binarySort' lo n ok) Q st:=by
 rw [binarySort'_eq]
 refine wpS_bind (wpS_mono (wpS_forRange (I:=fun k c z=>c=(none,())∧SX a₀ lo st₀ z∧SrtL (arrOf z) lo (min k n)) (Q:=fun c z=>c=(none,())∧SX a₀ lo st₀ z∧SrtL (arrOf z) lo n) ?st1 ?fi1 ?in1) ?po1)
 case po1=>rintro c z ⟨rfl,zX,zs⟩;exact wpS_pure (h z zX zs)
 case in1=>
  refine ⟨rfl,hX,fun i j hij hj=>?_⟩
  by_cases h1:ok=0
  · have:i=j:=by omega
    subst this;exact Int.le_refl _
  · exact hs i j hij (by omega)
 case fi1=>
  rintro c z ⟨hc,zX,zs⟩
  refine ⟨hc,zX,?_⟩
  rwa [show min (max (max ok 1) n) n=n by omega] at zs
 case st1=>
  rintro k c z hak hkn ⟨rfl,zX,zs⟩
  rw [show min k n=k by omega] at zs
  refine wpS_bind (wpS_mono (wpS_forRange (I:=fun x c v=>z=v∧∃ l r,c=(none,l,r)∧l≤r∧r≤k∧r - l≤k - x∧(∀ i,i<l→K (arrOf z) (lo+i)≤K (arrOf z) (lo+k))∧(∀ i,r≤i→i<k→K (arrOf z) (lo+k)<K (arrOf z) (lo+i)))
   (Q:=fun c v=>z=v∧∃ l r,c=(none,l,r)∧l≤k∧(∀ i,i<l→K (arrOf z) (lo+i)≤K (arrOf z) (lo+k))∧(∀ i,l≤i→i<k→K (arrOf z) (lo+k)<K (arrOf z) (lo+i))) ?ist ?ifi ⟨rfl,0,k,rfl,by omega,by omega,by omega,fun i hi=>by omega,fun i g1 g2=>by omega⟩) ?ipo)
  case ifi=>
   rintro c v ⟨rfl,l,r,rfl,hlr,hrk,hm,hlo,hhi⟩
   have:l=r:=by omega
   subst this
   exact ⟨rfl,l,l,rfl,hrk,hlo,hhi⟩
  case ist=>
   rintro x c v _ hxk ⟨rfl,l,r,rfl,hlr,hrk,hm,hlo,hhi⟩
   dsimp only
   by_cases hge:l≥r
   · rw [if_pos hge]
     have:l=r:=by omega
     subst this
     exact wpS_pure ⟨rfl,l,l,rfl,hrk,hlo,hhi⟩
   · rw [if_neg hge]
     refine wpS_bind (sx_lt zX h0 (by omega) (by omega) ?_)
     by_cases hz:K (arrOf z) (lo+k)<K (arrOf z) (lo+(l+r) / 2)
     · simp only [hz,decide_true,if_true]
       exact wpS_pure ⟨rfl,l,(l+r) / 2,rfl,by omega,by omega,by omega,hlo,fun i g1 g2=>Int.lt_of_lt_of_le hz (zs _ _ g1 g2)⟩
     · simp only [hz,decide_false,Bool.false_eq_true,if_false]
       exact wpS_pure ⟨rfl,(l+r) / 2+1,r,rfl,by omega,by omega,by omega,fun i g1=>Int.le_trans (zs i ((l+r) / 2) (by omega) (by omega)) (Int.not_lt.mp hz),hhi⟩
  case ipo=>
   rintro c v ⟨rfl,l,r,rfl,hlk,hlo,hhi⟩
   show wpS _ _ _ _ (do moveDown' (lo+k) (lo+l);pure (ForInStep.yield (none,()))) _ _
   rw [moveDown'_eq]
   have hks:lo+k<(arrOf z).size:=by rw [zX.size];omega
   have hd:lo+k - (lo+k - (lo+l))=lo+l:=by omega
   refine wpS_bind (wpS_modify (wpS_pure ⟨rfl,zX.setA (bubble_perm _ _ _) fun q hq=>?_,?_⟩))
   · rw [getElem?_bubble hks _ (by omega),hd,if_neg (by omega),if_neg (by omega)]
   · rw [show min (k+1) n=k+1 by omega]
     intro i j hij hj
     show K (bubble (arrOf z) (lo+k) (lo+k - (lo+l))) (lo+i)≤K (bubble (arrOf z) (lo+k) (lo+k - (lo+l))) (lo+j)
     rw [K_bubble hks (by omega),K_bubble hks (by omega),hd]
     have back:∀ q,0<q→lo+q - 1=lo+(q - 1):=fun q hq=>by omega
     repeat' split
     all_goals first
      | (exfalso;omega)
      | exact Int.le_refl _
      | exact hlo _ (by omega)
      | (rw [back j (by omega)];exact Int.le_of_lt (hhi _ (by omega) (by omega)))
      | exact Int.le_of_lt (hhi _ (by omega) (by omega))
      | (rw [back i (by omega),back j (by omega)];exact zs _ _ (by omega) (by omega))
      | (rw [back i (by omega)];exact zs _ _ (by omega) (by omega))
      | (rw [back j (by omega)];exact zs _ _ (by omega) (by omega))
      | exact zs _ _ (by omega) (by omega)
end
open PyProof.Rows hiding K SortedTo K_bubble K_mirror K_congr K_mirror_equal
variable [KV]
def upL (lo a m:Nat):StateT SortSt Sem (Option (Option Nat)×Nat):=
 forIn [a:m] ((none,a):Option (Option Nat)×Nat) fun _ c=>do
  let t ← ltAt' (lo+c.snd) (lo+c.snd - 1)
  match t with
  | some b=>if b=true then pure (.done (none,c.snd)) else pure (.yield (none,c.snd+1))
  | _=>pure (.done (some none,c.snd))
def dnL (lo a m:Nat):StateT SortSt Sem (Option (Option Nat)×Nat×Nat):=
 forIn [a:m] ((none,a,0):Option (Option Nat)×Nat×Nat) fun _ c=>do
  let t ← ltAt' (lo+c.snd.fst) (lo+c.snd.fst - 1)
  match t with
  | some b=>
    if b=true then
     if c.snd.snd > 0 then do
      reverseSlice' (lo+c.snd.fst - (c.snd.snd+1)) (lo+c.snd.fst)
      pure (.yield (none,c.snd.fst+1,0))
     else pure (.yield (none,c.snd.fst+1,0))
    else do
     let u ← ltAt' (lo+c.snd.fst - 1) (lo+c.snd.fst)
     match u with
     | some d=>if d=true then pure (.done (none,c.snd.fst,c.snd.snd)) else pure (.yield (none,c.snd.fst+1,c.snd.snd+1))
     | _=>pure (.done (some none,c.snd.fst,c.snd.snd))
  | _=>pure (.done (some none,c.snd.fst,c.snd.snd))
def enL (lo a m:Nat):StateT SortSt Sem (Option Nat):=do
 reverseSlice' lo (lo+a)
 let c ← upL lo a m
 match c.fst with
 | some r=>pure r
 | none=>pure (some c.snd)
def faL (lo a m:Nat):StateT SortSt Sem (Option Nat):=do
 liftM (rule "list.sort.descending-run")
 let c ← dnL lo (a+1) m
 match c.fst with
 | some r=>pure r
 | none=>
   if c.snd.snd > 0 then do
    reverseSlice' (lo+c.snd.fst - (c.snd.snd+1)) (lo+c.snd.fst)
    enL lo c.snd.fst m
   else enL lo c.snd.fst m
theorem run_eq (lo m:Nat):countRun' lo m=(do
 let c ← upL lo 1 m
 match c.fst with
 | some r=>pure r
 | none=>
   if (c.snd == m)=true then pure (some c.snd)
   else if c.snd > 1 then do
    let t ← ltAt' lo (lo+c.snd - 1)
    match t with
    | some b=>if b=true then pure (some c.snd) else do
     reverseSlice' lo (lo+c.snd)
     faL lo c.snd m
    | _=>pure none
   else faL lo c.snd m):=by
 rw [countRun'_eq]
 dsimp only
 unfold faL enL dnL upL
 congr 1
 funext c
 obtain ⟨r,k⟩:=c
 cases r with
 | some r=>rfl
 | none=>
   dsimp only
   split
   · rfl
   · split
     · congr 1
       funext t
       cases t with
       | none=>rfl
       | some b=>
         dsimp only
         split
         · rfl
         · congr 1
           funext _y
           congr 1
           funext _x
           congr 1
           congr 1
           funext y
           obtain ⟨r,k,q⟩:=y
           cases r with
           | some r=>rfl
           | none=>
             dsimp only
             split
             · congr 1
               funext _z
               congr 1
               funext _x
               congr 1
               funext y
               obtain ⟨r,k⟩:=y
               cases r <;> rfl
             · congr 1
               funext _x
               congr 1
               funext y
               obtain ⟨r,k⟩:=y
               cases r <;> rfl
     · skip
       congr 1
       funext _x
       congr 1
       congr 1
       funext y
       obtain ⟨r,k,q⟩:=y
       cases r with
       | some r=>rfl
       | none=>
         dsimp only
         split
         · congr 1
           funext _z
           congr 1
           funext _x
           congr 1
           funext y
           obtain ⟨r,k⟩:=y
           cases r <;> rfl
         · congr 1
           funext _x
           congr 1
           funext y
           obtain ⟨r,k⟩:=y
           cases r <;> rfl
section
variable {prog:Program} {w:World} {A:Around} {E:Value→Shared→Prop} {a₀:Array Keyed} {lo:Nat} {st₀:SortSt}
theorem s_rev {st:SortSt} {i j:Nat} {Q:Unit→SortSt→Prop} (h:Q () (setArr st (mirror (arrOf st) i j ((j - i) / 2)))):wpS (model prog w) A E KV.sh (reverseSlice' i j) Q st:=by
 rw [reverseSlice'_eq]
 exact wpS_modify h
theorem back1 {lo x:Nat} (h:1≤x):lo+x - 1=lo+(x - 1):=by omega
theorem s_up {st:SortSt} {a m:Nat} {Q:Option (Option Nat)×Nat→SortSt→Prop} (h0:AllI a₀) (hm:lo+m≤a₀.size) (ha:1≤a) (ham:a≤m) (hX:SX a₀ lo st₀ st)
 (hs:SrtL (arrOf st) lo a)
 (h:∀ n,a≤n→n≤m→SrtL (arrOf st) lo n→(n=m∨K (arrOf st) (lo+n)<K (arrOf st) (lo+(n - 1)))→Q (none,n) st):wpS (model prog w) A E KV.sh (upL lo a m) Q st:=by
 unfold upL
 refine wpS_forRange (I:=fun x c v=>st=v∧c=(none,x)∧SrtL (arrOf st) lo x) ?s1 ?f1 ⟨rfl,rfl,hs⟩
 case f1=>
  rintro c v ⟨rfl,rfl,g⟩
  rw [show max a m=m by omega] at g ⊢
  exact h m ham (Nat.le_refl _) g (.inl rfl)
 case s1=>
  rintro x c v hax hxm ⟨rfl,rfl,g⟩
  dsimp only
  rw [back1 (by omega)]
  refine wpS_bind (sx_lt hX h0 (by omega) (by omega) ?_)
  by_cases hl:K (arrOf st) (lo+x)<K (arrOf st) (lo+(x - 1))
  · simp only [hl,decide_true,if_true]
    exact wpS_pure (h x hax (by omega) g (.inr hl))
  · simp only [hl,decide_false,Bool.false_eq_true,if_false]
    refine wpS_pure ⟨rfl,rfl,fun i j hij hj=>?_⟩
    rcases Nat.lt_or_ge j x with q | q
    · exact g i j hij q
    · obtain rfl:j=x:=by omega
      rcases Nat.eq_or_lt_of_le hij with rfl | q2
      · exact Int.le_refl _
      · exact Int.le_trans (g i (j - 1) (by omega) (by omega)) (Int.not_lt.mp hl)
theorem s_en {st:SortSt} {a m:Nat} {Q:Option Nat→SortSt→Prop} (h0:AllI a₀) (hm:lo+m≤a₀.size) (ha:1≤a) (ham:a≤m) (hX:SX a₀ lo st₀ st)
 (hs:NonL (arrOf st) lo a) (h:∀ n v,SX a₀ lo st₀ v→1≤n→n≤m→SrtL (arrOf v) lo n→Q (some n) v):wpS (model prog w) A E KV.sh (enL lo a m) Q st:=by
 unfold enL
 have hz:lo+a≤(arrOf st).size:=by rw [hX.size];omega
 refine wpS_bind (s_rev ?_)
 have hX':=sx_mirror (i:=lo) (j:=lo+a) hX (Nat.le_refl _) (by omega)
 refine wpS_bind (s_up h0 hm ha ham hX' ?_ fun n g1 g2 g3 _=>wpS_pure (h n _ hX' (by omega) g2 g3))
 intro i j hij hj
 show K (mirror (arrOf st) lo (lo+a) ((lo+a - lo) / 2)) _≤K (mirror (arrOf st) lo (lo+a) ((lo+a - lo) / 2)) _
 rw [K_mirror hz,K_mirror hz,if_pos (by omega),if_pos (by omega),show lo+(lo+a) - 1 - (lo+i)=lo+(a - 1 - i) by omega,show lo+(lo+a) - 1 - (lo+j)=lo+(a - 1 - j) by omega]
 exact hs _ _ (by omega) (by omega)
def Alike (xs:Array Keyed) (lo n q:Nat):Prop:=∀ i,lo+n - (q+1)≤i→i<lo+n→K xs i=K xs (lo+n - 1)
theorem alike0 {xs:Array Keyed} {n:Nat} (h:1≤n):Alike xs lo n 0:=fun i a b=>by
 obtain rfl:i=lo+n - 1:=by omega
 rfl
theorem s_dn {st:SortSt} {a m:Nat} {Q:Option (Option Nat)×Nat×Nat→SortSt→Prop} (h0:AllI a₀) (hm:lo+m≤a₀.size) (ha:1≤a) (ham:a≤m) (hX:SX a₀ lo st₀ st)
 (hs:NonL (arrOf st) lo a)
 (h:∀ n q v,SX a₀ lo st₀ v→a≤n→n≤m→NonL (arrOf v) lo n→q+1≤n→Alike (arrOf v) lo n q→Q (none,n,q) v):wpS (model prog w) A E KV.sh (dnL lo a m) Q st:=by
 unfold dnL
 refine wpS_forRange (I:=fun x c v=>∃ q,c=(none,x,q)∧SX a₀ lo st₀ v∧NonL (arrOf v) lo x∧q+1≤x∧Alike (arrOf v) lo x q) ?s1 ?f1 ⟨0,rfl,hX,hs,by omega,alike0 ha⟩
 case f1=>
  rintro c v ⟨q,rfl,vX,vs,vq,va⟩
  rw [show max a m=m by omega] at vs vq va ⊢
  exact h m q v vX ham (Nat.le_refl _) vs vq va
 case s1=>
  rintro x c v hax hxm ⟨q,rfl,vX,vs,vq,va⟩
  dsimp only
  have hz:lo+x≤(arrOf v).size:=by rw [vX.size];omega
  have grow:∀ xs:Array Keyed,(∀ k,K xs k=K (arrOf v) k)→K (arrOf v) (lo+x)≤K (arrOf v) (lo+(x - 1))→NonL xs lo (x+1):=by
   intro xs hk hl i j hij hj
   rw [hk,hk]
   rcases Nat.lt_or_ge j x with g | g
   · exact vs i j hij g
   · obtain rfl:j=x:=by omega
     rcases Nat.eq_or_lt_of_le hij with rfl | g2
     · exact Int.le_refl _
     · exact Int.le_trans hl (vs i (j - 1) (by omega) (by omega))
  rw [back1 (by omega)]
  refine wpS_bind (sx_lt vX h0 (by omega) (by omega) ?_)
  by_cases hl:K (arrOf v) (lo+x)<K (arrOf v) (lo+(x - 1))
  · simp only [hl,decide_true,if_true]
    by_cases hq:q > 0
    · rw [if_pos hq]
      exact wpS_bind (s_rev (wpS_pure ⟨0,rfl,sx_mirror vX (by omega) (by omega),grow _ (K_mirror_equal hz va) (Int.le_of_lt hl),by omega,alike0 (by omega)⟩))
    · rw [if_neg hq]
      exact wpS_pure ⟨0,rfl,vX,grow _ (fun _=>rfl) (Int.le_of_lt hl),by omega,alike0 (by omega)⟩
  · simp only [hl,decide_false,Bool.false_eq_true,if_false]
    refine wpS_bind (sx_lt vX h0 (by omega) (by omega) ?_)
    by_cases hg:K (arrOf v) (lo+(x - 1))<K (arrOf v) (lo+x)
    · simp only [hg,decide_true,if_true]
      exact wpS_pure (h x q v vX hax (by omega) vs vq va)
    · simp only [hg,decide_false,Bool.false_eq_true,if_false]
      have he:K (arrOf v) (lo+x)=K (arrOf v) (lo+(x - 1)):=by omega
      refine wpS_pure ⟨q+1,rfl,vX,grow _ (fun _=>rfl) (by omega),by omega,fun i g1 g2=>?_⟩
      rw [show lo+(x+1) - 1=lo+x by omega]
      by_cases hi:i=lo+x
      · rw [hi]
      · rw [he,← back1 (by omega)]
        exact va i (by omega) (by omega)
theorem s_fa {st:SortSt} {a m:Nat} {Q:Option Nat→SortSt→Prop} (h0:AllI a₀) (hm:lo+m≤a₀.size) (ham:a+1≤m) (hX:SX a₀ lo st₀ st)
 (hs:NonL (arrOf st) lo (a+1)) (h:∀ n v,SX a₀ lo st₀ v→1≤n→n≤m→SrtL (arrOf v) lo n→Q (some n) v):wpS (model prog w) A E KV.sh (faL lo a m) Q st:=by
 unfold faL
 refine wpS_bind (wpS_lift (wpAny_rule ⟨rfl,?_⟩))
 refine wpS_bind (s_dn h0 hm (by omega) ham hX hs fun n q v vX g1 g2 vs vq va=>?_)
 dsimp only
 have hz:lo+n≤(arrOf v).size:=by rw [vX.size];omega
 by_cases hq:q > 0
 · rw [if_pos hq]
   refine wpS_bind (s_rev (s_en h0 hm (by omega) g2 (sx_mirror vX (by omega) (by omega)) ?_ h))
   intro i j hij hj
   show K (mirror (arrOf v) _ _ _) _≤K (mirror (arrOf v) _ _ _) _
   rw [K_mirror_equal hz va,K_mirror_equal hz va]
   exact vs i j hij hj
 · rw [if_neg hq]
   exact s_en h0 hm (by omega) g2 vX vs h
theorem s_run {st:SortSt} {m:Nat} {Q:Option Nat→SortSt→Prop} (h0:AllI a₀) (hm:lo+m≤a₀.size) (h1:1≤m) (hX:SX a₀ lo st₀ st)
 (h:∀ n v,SX a₀ lo st₀ v→1≤n→n≤m→SrtL (arrOf v) lo n→Q (some n) v):wpS (model prog w) A E KV.sh (countRun' lo m) Q st:=by
 rw [run_eq]
 have one:SrtL (arrOf st) lo 1:=fun i j hij hj=>by
  obtain rfl:i=j:=by omega
  exact Int.le_refl _
 refine wpS_bind (s_up h0 hm (Nat.le_refl 1) h1 hX one fun n g1 g2 gs go=>?_)
 dsimp only
 by_cases hn:n=m
 · rw [if_pos (by simpa using hn)]
   exact wpS_pure (h n st hX g1 g2 gs)
 · rw [if_neg (by simpa using hn)]
   have hl:=go.resolve_left hn
   by_cases hg:n > 1
   · rw [if_pos hg]
     rw [back1 (by omega)]
     refine wpS_bind (sx_lt (i:=lo) hX h0 (by omega) (by omega) ?_)
     by_cases hr:K (arrOf st) lo<K (arrOf st) (lo+(n - 1))
     · simp only [hr,decide_true,if_true]
       exact wpS_pure (h n st hX g1 g2 gs)
     · simp only [hr,decide_false,Bool.false_eq_true,if_false]
       have hz:lo+n≤(arrOf st).size:=by rw [hX.size];omega
       have al:∀ k,lo≤k→k<lo+n→K (arrOf st) k=K (arrOf st) (lo+n - 1):=by
        intro k k1 k2
        obtain ⟨d,rfl⟩:=Nat.exists_eq_add_of_le k1
        have e1:=gs 0 d (by omega) (by omega)
        have e2:=gs d (n - 1) (by omega) (by omega)
        rw [back1 (by omega)]
        rw [Nat.add_zero] at e1
        omega
       refine wpS_bind (s_rev (s_fa h0 hm (by omega) (sx_mirror hX (Nat.le_refl _) (by omega)) ?_ h))
       intro i j hij hj
       show K (mirror (arrOf st) _ _ _) _≤K (mirror (arrOf st) _ _ _) _
       rw [K_mirror_equal hz al,K_mirror_equal hz al]
       rcases Nat.lt_or_ge j n with q | q
       · rw [al (lo+i) (by omega) (by omega),al (lo+j) (by omega) (by omega)]
         exact Int.le_refl _
       · obtain rfl:j=n:=by omega
         rcases Nat.eq_or_lt_of_le hij with rfl | q2
         · exact Int.le_refl _
         · rw [al (lo+i) (by omega) (by omega),back1 (by omega)]
           exact Int.le_of_lt hl
   · rw [if_neg hg]
     obtain rfl:n=1:=by omega
     refine s_fa h0 hm (by omega) hX ?_ h
     intro i j hij hj
     rcases Nat.eq_or_lt_of_le hij with rfl | q2
     · exact Int.le_refl _
     · obtain rfl:i=0:=by omega
       obtain rfl:j=1:=by omega
       exact Int.le_of_lt hl
end
open PyProof.Rows hiding K SortedTo K_bubble K_mirror K_congr K_mirror_equal
variable [KV]
structure RS (a₀:Array Keyed) (st:SortSt) (Ls:List (List Keyed)) (rest:List Keyed):Prop where
 kind:kindOf st=KV.kind
 fail:failedOf st=none
 perm:(arrOf st).Perm a₀
 arr:(arrOf st).toList=Ls.flatten++rest
 pm:PM (pendingOf st).toList Ls 0
 runs:∀ R∈Ls,R≠[]∧R.Pairwise Le
theorem AllI.perm {xs ys:Array Keyed} (h:AllI xs) (p:ys.Perm xs):AllI ys:=fun q hq=>h q ((Array.perm_iff_toList_perm.mp p).mem_iff.mp hq)
theorem PM.alter:∀ {ps:List (Nat×Nat×Nat)} {ls:List (List Keyed)} {lo:Nat} (k:Nat) {f:Nat×Nat×Nat→Nat×Nat×Nat},(∀ p,(f p).1=p.1∧(f p).2.1=p.2.1)→PM ps ls lo→PM (ps.modify k f) ls lo
 | [],[],_,k,f,_,_=>by cases k <;> trivial
 | p::r,l::ls,lo,0,f,hf,h=>by
   show PM (f p::r) (l::ls) lo
   exact ⟨(hf p).1.trans h.1,(hf p).2.trans h.2.1,h.2.2⟩
 | p::r,l::ls,lo,k+1,f,hf,h=>by
   show PM (p::r.modify k f) (l::ls) lo
   exact ⟨h.1,h.2.1,PM.alter k hf h.2.2⟩
 | [],_::_,_,_,_,_,h=>h.elim
 | _::_,[],_,_,_,_,h=>h.elim
theorem PM.snoc:∀ {ps:List (Nat×Nat×Nat)} {ls:List (List Keyed)} {lo:Nat} {R:List Keyed} {k n:Nat},PM ps ls lo→k=lo+ls.flatten.length→n=R.length→PM (ps++[(k,n,0)]) (ls++[R]) lo
 | [],[],lo,R,k,n,_,e,e2=>⟨by simpa using e,e2,trivial⟩
 | p::r,l::ls,lo,R,k,n,h,e,e2=>by
   refine ⟨h.1,h.2.1,PM.snoc h.2.2 ?_ e2⟩
   rw [e,List.flatten_cons,List.length_append,Nat.add_assoc]
 | [],_::_,_,_,_,_,h,_,_=>h.elim
 | _::_,[],_,_,_,_,h,_,_=>h.elim
section
variable {prog:Program} {w:World} {A:Around} {E:Value→Shared→Prop} {a₀:Array Keyed}
theorem s_join {st:SortSt} {Ls:List (List Keyed)} {rest:List Keyed} {i:Nat} {Q:Bool→SortSt→Prop} (h0:AllI a₀) (r:RS a₀ st Ls rest) (hi:i+1<Ls.length)
 (h:∀ v Ms,RS a₀ v Ms rest→Ms.length+1=Ls.length→Ms.flatten.length=Ls.flatten.length→Q true v):wpS (model prog w) A E KV.sh (mergeAt' i) Q st:=by
 obtain ⟨L1,R1,R2,L2,rfl,rfl⟩:∃ L1 R1 R2 L2,Ls=L1++R1::R2::L2∧i=L1.length:=by
  refine ⟨Ls.take i,Ls[i],Ls[i+1],Ls.drop (i+2),?_,by rw [List.length_take];omega⟩
  rw [← List.drop_eq_getElem_cons hi,← List.drop_eq_getElem_cons (by omega),List.take_append_drop]
 have m1:=r.runs R1 (by simp)
 have m2:=r.runs R2 (by simp)
 rw [mat_is]
 refine s_mat r.kind r.fail (h0.perm r.perm) r.arr r.pm m1.1 m2.1 m1.2 m2.2 fun v R hk hp hs ha hpm=>?_
 have hl:=hp.length_eq
 rw [List.length_append] at hl
 refine h v (L1++R::L2) ⟨hk.kind.trans r.kind,hk.fail.trans r.fail,?_,ha,hpm,?_⟩ (by simp;omega) ?_
 · refine Array.Perm.trans ?_ r.perm
   rw [Array.perm_iff_toList_perm,ha,r.arr]
   refine List.Perm.append_right _ ?_
   rw [List.flatten_append,List.flatten_append,List.flatten_cons,List.flatten_cons,List.flatten_cons,← List.append_assoc R1]
   exact List.Perm.append_left _ (List.Perm.append_right _ hp)
 · intro T hT
   rcases List.mem_append.mp hT with g | g
   · exact r.runs T (by simp [g])
   · rcases List.mem_cons.mp g with rfl | g
     · refine ⟨fun e=>?_,hs⟩
       rw [e] at hl
       have:=List.length_pos_iff.mpr m1.1
       simp at hl
       omega
     · exact r.runs T (by simp [g])
 · simp only [List.flatten_append,List.flatten_cons,List.length_append]
   omega
theorem many_runs:∀ {Ls:List (List Keyed)},(∀ R∈Ls,R≠[]∧R.Pairwise Le)→Ls.length≤Ls.flatten.length
 | [],_=>Nat.le_refl _
 | R::Ls,h=>by
   have:=many_runs (Ls:=Ls) fun T hT=>h T (List.mem_cons_of_mem _ hT)
   have:=List.length_pos_iff.mpr (h R (by simp)).1
   rw [List.length_cons,List.flatten_cons,List.length_append]
   omega
theorem RS.psize {st:SortSt} {Ls:List (List Keyed)} {rest:List Keyed} (r:RS a₀ st Ls rest):(pendingOf st).size=Ls.length:=by
 rw [← Array.length_toList];exact r.pm.len
theorem RS.total {st:SortSt} {Ls:List (List Keyed)} {rest:List Keyed} (r:RS a₀ st Ls rest):Ls.flatten.length+rest.length=a₀.size:=by
 rw [← List.length_append,← r.arr,Array.length_toList,r.perm.size_eq]
theorem RS.cut {st v:SortSt} {Ls:List (List Keyed)} {rest:List Keyed} {n:Nat} (r:RS a₀ st Ls rest) (x:SX (arrOf st) Ls.flatten.length st v) (hn:Ls.flatten.length+n≤a₀.size) (hs:SrtL (arrOf v) Ls.flatten.length n) :
 ∃ R rest',R.length=n∧R.Pairwise Le∧RS a₀ v Ls (R++rest'):=by
 have hz:(arrOf v).toList.length=a₀.size:=by rw [Array.length_toList,x.size,r.perm.size_eq]
 have ht:(arrOf v).toList.take Ls.flatten.length=Ls.flatten:=by
  have e:(arrOf v).toList.take Ls.flatten.length=(arrOf st).toList.take Ls.flatten.length:=by
   refine List.ext_getElem? fun k=>?_
   rw [List.getElem?_take,List.getElem?_take]
   split
   · rename_i g
     rw [Array.getElem?_toList,Array.getElem?_toList]
     exact x.pre k g
   · rfl
  rw [e,r.arr,List.take_left]
 refine ⟨((arrOf v).toList.drop Ls.flatten.length).take n,((arrOf v).toList.drop Ls.flatten.length).drop n,?_,?_,x.kind,x.fail,x.perm.trans r.perm,?_,?_,r.runs⟩
 · rw [List.length_take,List.length_drop,hz];omega
 · refine List.pairwise_iff_getElem.mpr fun i j hi hj hij=>?_
   rw [List.length_take,List.length_drop,hz] at hi hj
   have:=hs i j (Nat.le_of_lt hij) (by omega)
   rw [K_at (by omega),K_at (by omega)] at this
   rw [List.getElem_take,List.getElem_take,List.getElem_drop,List.getElem_drop]
   exact this
 · rw [List.take_append_drop]
   conv=>lhs;rw [← List.take_append_drop Ls.flatten.length (arrOf v).toList,ht]
 · rw [x.pend];exact r.pm
theorem RS.add {st:SortSt} {Ls:List (List Keyed)} {R rest:List Keyed} {k n:Nat} (r:RS a₀ st Ls (R++rest)) (hR:R≠[]) (hs:R.Pairwise Le) (hk:k=Ls.flatten.length) (hn:n=R.length) :
 RS a₀ (setPending st ((pendingOf st).push (k,n,0))) (Ls++[R]) rest where
 kind:=r.kind
 fail:=r.fail
 perm:=r.perm
 arr:=by show (arrOf st).toList=_;rw [r.arr];simp
 pm:=by
  show PM ((pendingOf st).push (k,n,0)).toList _ 0
  rw [Array.toList_push]
  exact r.pm.snoc (by omega) hn
 runs:=fun T hT=>by
  rcases List.mem_append.mp hT with g | g
  · exact r.runs T g
  · rw [List.mem_singleton.mp g];exact ⟨hR,hs⟩
theorem RS.alter {st:SortSt} {Ls:List (List Keyed)} {rest:List Keyed} {k:Nat} {f:Nat×Nat×Nat→Nat×Nat×Nat} (hf:∀ p,(f p).1=p.1∧(f p).2.1=p.2.1) (r:RS a₀ st Ls rest) :
 RS a₀ (setPending st ((pendingOf st).modify k f)) Ls rest where
 kind:=r.kind
 fail:=r.fail
 perm:=r.perm
 arr:=r.arr
 pm:=by
  show PM ((pendingOf st).modify k f).toList _ 0
  rw [Array.toList_modify]
  exact r.pm.alter k hf
 runs:=r.runs
theorem RS.sorted {st:SortSt} {Ls:List (List Keyed)} (r:RS a₀ st Ls []) (h1:Ls.length≤1):SortedTo (arrOf st) a₀.size:=by
 have hz:(arrOf st).toList.length=a₀.size:=by rw [Array.length_toList,r.perm.size_eq]
 have hp:(arrOf st).toList.Pairwise Le:=by
  rw [r.arr]
  match Ls,h1,r.runs with
  | [],_,_=>simp
  | [R],_,g=>simpa using (g R (by simp)).2
 intro i j hij hj
 rw [K_at (by omega),K_at (by omega)]
 rcases Nat.eq_or_lt_of_le hij with e | e
 · subst e;exact Int.le_refl _
 · exact List.pairwise_iff_getElem.mp hp i j (by omega) (by omega) e
end
open PyProof.Rows hiding K SortedTo K_bubble K_mirror K_congr K_mirror_equal
variable [KV]
section
variable {prog:Program} {w:World} {A:Around} {E:Value→Shared→Prop} {a₀:Array Keyed}
def putRun (sz lo n:Nat):StateT SortSt Sem (ForInStep (Option Unit×Nat)):=do
 let z ← get
 match (pendingOf z).back? with
 | some (p,k,_)=>do
   let c ← forIn [0:sz] ((none,()):Option Unit×Unit) fun _ _=>do
    let z ← get
    match if (pendingOf z).size > 1 then (pendingOf z)[(pendingOf z).size - 2]? else none with
    | some (_,_,o)=>
      if o≤power' sz (2*p+k) (2*p+k+k+n) sz then pure (.done (none,()))
      else do
       let b ← mergeAt' ((pendingOf z).size - 2)
       if (!b)=true then pure (.done (some (),())) else pure (.yield (none,()))
    | _=>pure (.done (none,()))
   match c.fst with
   | some r=>pure (.done (some r,lo))
   | none=>do
     modify fun s=>setPending s ((pendingOf s).modify ((pendingOf s).size - 1) fun x=>(x.fst,x.2.fst,power' sz (2*p+k) (2*p+k+k+n) sz))
     modify fun s=>setPending s ((pendingOf s).push (lo,n,0))
     pure (.yield (none,lo+n))
 | _=>do
   modify fun s=>setPending s ((pendingOf s).push (lo,n,0))
   pure (.yield (none,lo+n))
theorem s_put {st:SortSt} {Ls:List (List Keyed)} {R rest:List Keyed} {sz lo n:Nat} {Q:ForInStep (Option Unit×Nat)→SortSt→Prop} (h0:AllI a₀) (r:RS a₀ st Ls (R++rest)) (hlo:lo=Ls.flatten.length) (hn:n=R.length) (hR:R≠[]) (hs:R.Pairwise Le)
 (h:∀ v Ms,RS a₀ v Ms rest→Ms.flatten.length=lo+n→Q (.yield (none,lo+n)) v):wpS (model prog w) A E KV.sh (putRun sz lo n) Q st:=by
 unfold putRun
 refine wpS_bind (wpS_get ?_)
 have fin:∀ {v:SortSt} {Ms:List (List Keyed)},RS a₀ v Ms (R++rest)→Ms.flatten.length=lo→Q (.yield (none,lo+n)) (setPending v ((pendingOf v).push (lo,n,0))):=fun {v Ms} g e=>
  h _ (Ms++[R]) (g.add hR hs e.symm hn) (by rw [List.flatten_append,List.length_append,e,List.flatten_cons,List.flatten_nil,List.append_nil,hn])
 split
 · rename_i p k _ _
   generalize power' sz (2*p+k) (2*p+k+k+n) sz=pw
   refine wpS_bind (wpS_mono (wpS_forRange (I:=fun x c v=>c=(none,())∧∃ Ms,RS a₀ v Ms (R++rest)∧Ms.flatten.length=lo) (Q:=fun c v=>c=(none,())∧∃ Ms,RS a₀ v Ms (R++rest)∧Ms.flatten.length=lo) ?s2 (fun _ _ g=>g) ⟨rfl,Ls,r,hlo.symm⟩) ?p2)
   case p2=>
    rintro c v ⟨rfl,Ms,g,e⟩
    dsimp only
    refine wpS_bind (wpS_modify (wpS_bind (wpS_modify (wpS_pure ?_))))
    exact fin (g.alter (fun _=>⟨rfl,rfl⟩)) e
   case s2=>
    rintro x c v _ _ ⟨rfl,Ms,g,e⟩
    refine wpS_bind (wpS_get ?_)
    rw [g.psize]
    split
    · rename_i o ho
      by_cases h1:Ms.length > 1
      · by_cases h2:o≤pw
        · rw [if_pos h2]
          exact wpS_pure ⟨rfl,Ms,g,e⟩
        · rw [if_neg h2]
          refine wpS_bind (s_join h0 g (by omega) fun u Ns g2 e1 e2=>?_)
          simp only [Bool.not_true,Bool.false_eq_true,if_false]
          exact wpS_pure ⟨rfl,Ns,g2,e2.trans e⟩
      · rw [if_neg h1] at ho
        cases ho
    · exact wpS_pure ⟨rfl,Ms,g,e⟩
 · exact wpS_bind (wpS_modify (wpS_pure (fin r hlo.symm)))
theorem pick_lt {c:Bool} {m:Nat} (h:¬ m≤1):(if c=true then m - 2 - 1 else m - 2)+1<m:=by
 split <;> omega
theorem s_all {st:SortSt} {Q:Unit→SortSt→Prop} (h0:AllI a₀) (hk:kindOf st=KV.kind) (hf:failedOf st=none) (hp:arrOf st=a₀) (he:pendingOf st=#[])
 (h:∀ v,(arrOf v).Perm a₀→failedOf v=none→SortedTo (arrOf v) a₀.size→Q () v):wpS (model prog w) A E KV.sh sortRuns' Q st:=by
 rw [sortRuns'_eq]
 refine wpS_bind (wpS_get ?_)
 dsimp only
 rw [hp]
 generalize minRun' a₀.size a₀.size 0=mr
 have r0:RS a₀ st [] a₀.toList:=⟨hk,hf,by rw [hp],by rw [hp];rfl,by rw [he];trivial,fun R hR=>by cases hR⟩
 refine wpS_bind (wpS_mono (wpS_forRange (I:=fun x c z=>∃ Ls rest,c=(none,Ls.flatten.length)∧RS a₀ z Ls rest∧x≤Ls.flatten.length)
  (Q:=fun c z=>∃ Ls k,c=(none,k)∧RS a₀ z Ls []) ?s1 ?f1 ⟨[],_,rfl,r0,Nat.le_refl _⟩) ?p1)
 case f1=>
  rintro c z ⟨Ls,rest,rfl,r,hx⟩
  have:=r.total
  have e:rest=[]:=List.length_eq_zero_iff.mp (by omega)
  subst e
  exact ⟨Ls,_,rfl,r⟩
 case p1=>
  rintro c z ⟨Ls,k,rfl,r⟩
  dsimp only
  refine wpS_bind (wpS_mono (wpS_forRange (I:=fun x c v=>c=(none,())∧∃ Ms,RS a₀ v Ms []∧Ms.length+x≤a₀.size) (Q:=fun c v=>c=(none,())∧∃ Ms,RS a₀ v Ms []∧Ms.length≤1) ?s2 ?f2 ?i2) ?p2)
  case i2=>
   have e1:=many_runs r.runs
   have e2:=r.total
   exact ⟨rfl,Ls,r,by simp only [List.length_nil] at e2;omega⟩
  case f2=>
   rintro c v ⟨rfl,Ms,g,hl⟩
   exact ⟨rfl,Ms,g,by omega⟩
  case p2=>
   rintro c v ⟨rfl,Ms,g,hl⟩
   exact wpS_pure (h v g.perm g.fail (g.sorted hl))
  case s2=>
   rintro x c v _ hx ⟨rfl,Ms,g,hl⟩
   refine wpS_bind (wpS_get ?_)
   rw [g.psize]
   by_cases h1:Ms.length≤1
   · rw [if_pos h1]
     exact wpS_pure ⟨rfl,Ms,g,h1⟩
   · rw [if_neg h1]
     refine wpS_bind (s_join h0 g (pick_lt h1) fun u Ns g2 e1 e2=>?_)
     simp only [Bool.not_true,Bool.false_eq_true,if_false]
     exact wpS_pure ⟨rfl,Ns,g2,by omega⟩
 case s1=>
  rintro x c z _ hx ⟨Ls,rest,rfl,r,hxl⟩
  dsimp only
  have tot:=r.total
  by_cases hge:Ls.flatten.length≥a₀.size
  · rw [if_pos hge]
    have e:rest=[]:=List.length_eq_zero_iff.mp (by omega)
    subst e
    exact wpS_pure ⟨Ls,_,rfl,r⟩
  · rw [if_neg hge]
    have hI:=h0.perm r.perm
    have hsz:=r.perm.size_eq
    have x0:SX (arrOf z) Ls.flatten.length z z:=⟨Array.Perm.refl _,r.kind,r.fail,rfl,fun _ _=>rfl⟩
    refine wpS_bind (s_run hI (by omega) (by omega) x0 fun n v vX g1 g2 gs=>?_)
    dsimp only
    refine Eq.mp (congrArg (fun p=>wpS (model prog w) A E KV.sh p _ v) (?_:(if n<mr then do
     liftM (rule "list.sort.binary-insertion")
     let b ← binarySort' Ls.flatten.length (min (a₀.size - Ls.flatten.length) mr) n
     if (!b)=true then pure (ForInStep.done (some (),Ls.flatten.length)) else putRun a₀.size Ls.flatten.length (min (a₀.size - Ls.flatten.length) mr)
     else putRun a₀.size Ls.flatten.length n)=_)) ?_
    · unfold putRun
      congr 1
      · congr 1
        funext _y
        congr 1
        funext b
        congr 1
        congr 1
        funext z
        cases (pendingOf z).back? with
        | none=>rfl
        | some t=>
          obtain ⟨p,k,o⟩:=t
          dsimp only
          congr 1
          funext c
          obtain ⟨r,_⟩:=c
          cases r <;> rfl
      · congr 1
        funext z
        cases (pendingOf z).back? with
        | none=>rfl
        | some t=>
          obtain ⟨p,k,o⟩:=t
          dsimp only
          congr 1
          funext c
          obtain ⟨r,_⟩:=c
          cases r <;> rfl
    have last:∀ {u:SortSt} {k:Nat},1≤k→k≤a₀.size - Ls.flatten.length→SX (arrOf z) Ls.flatten.length z u→SrtL (arrOf u) Ls.flatten.length k→wpS (model prog w) A E KV.sh (putRun a₀.size Ls.flatten.length k) (fun t st'=>∃ Ms rs,t=.yield (none,Ms.flatten.length)∧RS a₀ st' Ms rs∧x+1≤Ms.flatten.length) u:=fun {u k} k1 k2 uX us=>by
     obtain ⟨R,rest',e1,e2,e3⟩:=r.cut uX (by omega) us
     refine s_put h0 e3 rfl e1.symm (fun e=>by rw [e] at e1;simp at e1;omega) e2 fun v2 Ms g e=>?_
     exact ⟨Ms,rest',by rw [e],g,by omega⟩
    by_cases hm:n<mr
    · rw [if_pos hm]
      refine wpS_bind (wpS_lift (wpAny_rule ⟨rfl,?_⟩))
      refine wpS_bind (s_bin hI (by omega) (by omega) vX gs fun u uX us=>?_)
      simp only [Bool.not_true,Bool.false_eq_true,if_false]
      refine wpS_mono (last (by omega) (by omega) uX us) ?_
      rintro t u2 ⟨Ms,rs,rfl,g,e⟩
      exact ⟨Ms,rs,rfl,g,e⟩
    · rw [if_neg hm]
      refine wpS_mono (last g1 g2 vX gs) ?_
      rintro t u2 ⟨Ms,rs,rfl,g,e⟩
      exact ⟨Ms,rs,rfl,g,e⟩
end
end SRV
namespace SRT
open PySem PyProof.Rows
abbrev kvI (s:Shared):SRV.KV where
 sh:=s
 kind:=oneType'
 kv:=fun p=>numOf p.1
 good:=fun p=>∃ t,p.1=.int (numOf p.1) t
 lt:=fun {prog w A E st x y Q} hk hx hy h=>by
  obtain ⟨t,e⟩:=hx;obtain ⟨u,e'⟩:=hy
  rw [lt'_eq];refine wpS_bind (wpS_get ?_)
  rw [hk,keyLt'_oneType,e,e'];exact wpS_bind (wpS_lift (wpAny_attempt (oneLt_int ⟨rfl,wpS_pure h⟩)))
def AllI (xs:Array Keyed):Prop:=∀ p∈xs.toList,∃ t,p.1=.int (numOf p.1) t
theorem AllI.perm {xs ys:Array Keyed} (h:AllI xs) (p:ys.Perm xs):AllI ys:=fun q hq=>h q ((Array.perm_iff_toList_perm.mp p).mem_iff.mp hq)
def core (a:Addr) (e1:Nat) (ar:Array Value) (b:Bool):Sem Fin:=do
 let knd ← if ar.size<2 then pure general' else keyKind' ar
 let ((),z) ← (if ar.size<2 then pure () else sortRuns').run (SortSt.mk' knd (if b then (ar.zip ar).reverse else ar.zip ar) #[] 7 none)
 let srt:=(arrOf z).map (·.2)
 let tch:=(← seqEpoch a) != e1
 Builtin.List.listUpdate (.ref a) fun _=>if b then srt.reverse else srt
 if let some e:=failedOf z then rule "list.sort.comparison-raised";throw e
 if tch then rule "list.sort.modified";raiseError "ValueError" "list modified during sort"
 ret .none
theorem plain_core (a:Addr):Builtin.«list.sort» ⟨[.ref a],[]⟩=(do
 let ar ← Builtin.List.listItems (.ref a)
 Builtin.List.listUpdate (.ref a) fun _=>#[]
 let e1 ← seqEpoch a
 let t ← newTuple ar.toList
 let l ← newList []
 holding [t,l] (core a e1 ar false)):=by rw [list_sort_plain];rfl
theorem rev_core (a:Addr):Builtin.«list.sort» ⟨[.ref a],[(Str.ofString "reverse",.bool true)]⟩=(do
 let ar ← Builtin.List.listItems (.ref a)
 Builtin.List.listUpdate (.ref a) fun _=>#[]
 let e1 ← seqEpoch a
 let t ← newTuple ar.toList
 let l ← newList []
 holding [t,l] (do let _ ← rule "list.sort.reverse";core a e1 ar true)):=by rw [list_sort_rev];rfl
theorem allI_of {vs:List Value} {ns:List Int} (hI:IntsAre vs ns):AllI (pairsOf vs):=fun p hp=>by
 obtain ⟨n,t,e⟩:=hI.intKeys p hp
 refine ⟨t,?_⟩
 show p.1=.int (numOf p.1) t
 rw [e]
 rfl
section
variable {prog:Program} {w:World} {A:Around} {E:Value→Shared→Prop} {s:Shared}
theorem w_core {a:Addr} {e1:Nat} {vs:List Value} {ns:List Int} {b:Bool} {P:Fin→Shared→Prop} (hA:s.heap.get? a=some (seqObj "list" #[] e1)) (hI:IntsAre vs ns) (hz:vs.length≤sizeLine)
 (h:∀ (o:Array Value) (ns':List Int),IntsAre o.toList ns'→ns'.Perm ns→Ordered b ns'→P (.done (.ret .none)) { s with heap:=s.heap.update a (Obj.mapSeq fun _=>o) }):wpAny (model prog w) A (core a e1 vs.toArray b) P E s:=by
 unfold core
 have fin:∀ z:SortSt,(arrOf z).Perm (pairsOf vs)→failedOf z=none→SortedTo (arrOf z) (pairsOf vs).size→wpAny (model prog w) A (do
  let tch:=(← seqEpoch a) != e1
  Builtin.List.listUpdate (.ref a) fun _=>if b then ((arrOf z).map (·.2)).reverse else (arrOf z).map (·.2)
  if let some e:=failedOf z then rule "list.sort.comparison-raised";throw e
  if tch then rule "list.sort.modified";raiseError "ValueError" "list modified during sort"
  ret .none) P E s:=fun z hp hf hs=>by
  obtain ⟨ns',q1,q2,q3⟩:=sorted_out_rev hI hp hs b
  have hlen:((arrOf z).map (·.2)).size≤sizeLine+1:=by rw [Array.size_map,hp.size_eq,pairsOf_size];omega
  refine wpAny_bind (seqEpoch_at hA rfl (wpAny_bind (listUpdate_at hA rfl ?_ (hsz2:=?sz))))
  case sz=>
   split
   · rw [Array.size_reverse];exact hlen
   · exact hlen
  rw [hf]
  simp only [bne_self_eq_false,Bool.false_eq_true,if_false]
  exact wpAny_pure (h _ ns' q1 q2 q3)
 have hst:(if b=true then (vs.toArray.zip vs.toArray).reverse else vs.toArray.zip vs.toArray).Perm (pairsOf vs):=by
  cases b
  · exact Array.Perm.refl _
  · rw [if_pos rfl,Array.perm_iff_toList_perm,Array.toList_reverse]
    exact List.reverse_perm _
 by_cases h2:vs.toArray.size<2
 · rw [if_pos h2,if_pos h2]
   refine wpAny_bind (wpAny_pure ?_)
   dsimp only
   rw [StateT.run_pure]
   refine wpAny_bind (wpAny_pure (fin (SortSt.mk' general' _ #[] 7 none) hst rfl fun i j hij hj=>?_))
   rw [pairsOf_size] at hj
   rw [List.size_toArray] at h2
   obtain rfl:i=j:=by omega
   exact Int.le_refl _
 · rw [if_neg h2,if_neg h2]
   obtain ⟨x,y,r,rfl⟩:∃ x y r,vs=x::y::r:=by
    rw [List.size_toArray] at h2
    match vs,h2 with
    | [],g=>simp at g
    | [_],g=>simp at g
    | x::y::r,_=>exact ⟨x,y,r,rfl⟩
   rw [keyKind_ints hI]
   refine wpAny_bind (wpAny_pure ?_)
   generalize hL:x::y::r=L at *
   have ha0:AllI (if b=true then (L.toArray.zip L.toArray).reverse else L.toArray.zip L.toArray):=(allI_of hI).perm hst
   letI inst:SRV.KV:=kvI s
   refine wpAny_bind (wpAny_mono (SRV.s_all (st:=SortSt.mk' oneType' (if b=true then (L.toArray.zip L.toArray).reverse else L.toArray.zip L.toArray) #[] 7 none)
    (Q:=fun _ z=>(arrOf z).Perm (pairsOf L)∧failedOf z=none∧SortedTo (arrOf z) (pairsOf L).size) ha0 rfl rfl rfl rfl fun z g1 g2 g3=>⟨g1.trans hst,g2,by rw [← hst.size_eq];exact g3⟩) ?_ fun _ _ e=>e)
   rintro ⟨⟨⟩,z⟩ s' ⟨rfl,g1,g2,g3⟩
   exact fin z g1 g2 g3
theorem w_start {a:Addr} {vs:List Value} {n:Nat} {P:Fin→Shared→Prop} {f:Nat→Array Value→Sem Fin} (hA:s.heap.get? a=some (seqObj "list" vs.toArray n)) (hz:vs.length≤sizeLine)
 (h:∀ (s':Shared) e1,s'={ s with heap:=((s.heap.update a (Obj.mapSeq fun _=>#[])).push (seqObj "tuple" vs.toArray 0)).push (seqObj "list" #[] 0) }→s'.heap.get? a=some (seqObj "list" #[] e1)→wpAny (model prog w) A (f e1 vs.toArray) P E s') :
 wpAny (model prog w) A (do
  let ar ← Builtin.List.listItems (.ref a)
  Builtin.List.listUpdate (.ref a) fun _=>#[]
  let e1 ← seqEpoch a
  let t ← newTuple ar.toList
  let l ← newList []
  holding [t,l] (f e1 ar)) P E s:=by
 have ha:a<s.heap.objs.size:=Heap.lt_size hA
 refine wpAny_bind (listItems_at hA rfl (wpAny_bind (listUpdate_at hA rfl ?_ (hsz:=by rw [List.size_toArray];exact hz))))
 obtain ⟨e1,hE⟩:∃ e1,(s.heap.update a (Obj.mapSeq fun _=>#[])).get? a=some (seqObj "list" #[] e1):=⟨_,get?_update_seq hA fun _=>#[]⟩
 refine wpAny_bind (seqEpoch_at hE rfl (wpAny_bind (wpAny_newTuple (wpAny_bind (wpAny_newList (wpAny_holding ?_)) ) ?hs)))
 case hs=>exact hz
 refine h _ e1 rfl ?_
 show (((s.heap.update a (Obj.mapSeq fun _=>#[])).push (seqObj "tuple" vs.toArray 0)).push (seqObj "list" #[] 0)).get? a=_
 rw [Heap.get?_push_ne _ _ _ (by rw [size_push',Heap.size_update];exact fun e=>absurd ha (by rw [e];exact Nat.not_lt.mpr (Nat.le_succ _))),Heap.get?_push_ne _ _ _ (by rw [Heap.size_update];exact fun e=>absurd ha (by rw [e];exact Nat.lt_irrefl _))]
 exact hE
def kwOf (b:Bool):List (Str×Value):=if b then [(Str.ofString "reverse",.bool true)] else []
theorem w_sort {a:Addr} {vs:List Value} {ns:List Int} {n:Nat} {b:Bool} {P:Fin→Shared→Prop} (hA:s.heap.get? a=some (seqObj "list" vs.toArray n)) (hI:IntsAre vs ns) (hz:vs.length≤sizeLine)
 (h:∀ (o:Array Value) (ns':List Int),IntsAre o.toList ns'→ns'.Perm ns→Ordered b ns'→P (.done (.ret .none)) { s with heap:=sortedHeap s.heap a vs o }):wpAny (model prog w) A (Builtin.«list.sort» ⟨[.ref a],kwOf b⟩) P E s:=by
 cases b with
 | false=>
   show wpAny _ _ (Builtin.«list.sort» ⟨[.ref a],[]⟩) _ _ _
   rw [plain_core]
   refine w_start hA hz fun s' e1 e hA'=>w_core hA' hI hz fun o ns' g1 g2 g3=>?_
   subst e
   exact h o ns' g1 g2 g3
 | true=>
   show wpAny _ _ (Builtin.«list.sort» ⟨[.ref a],[(Str.ofString "reverse",.bool true)]⟩) _ _ _
   rw [rev_core]
   refine w_start hA hz fun s' e1 e hA'=>wpAny_bind (wpAny_rule (w_core hA' hI hz fun o ns' g1 g2 g3=>?_))
   subst e
   exact h o ns' g1 g2 g3
theorem w_collect {l:Addr} {vs:List Value} {o:Obj} {T:String} {n:Nat} {Q:List Value→Shared→Prop} (ho:s.heap.get? l=some o) (hc:o.cls=.type T) (hd:o.data=.seq vs.toArray n) (hT:T="list"∨T="tuple") (hz:vs.length≤sizeLine)
 (h:Q vs { s with heap:=(s.heap.push (seqObj "list" #[] 0)).update s.heap.objs.size (Obj.mapSeq (·++vs.toArray)) }):wpAny (model prog w) A (collect (.ref l)) Q E s:=by
 unfold collect
 refine wpAny_bind (wpAny_runValue (codeAny_builtin entry_proto_collect' ?mk))
 case mk=>
 show wpAny _ _ (do again (.builtin "list.__iadd__" ⟨[← newList [],.ref l],[]⟩)) _ _ _
 refine wpAny_bind (wpAny_newList (wpAny_pure (And.intro (Code.quiet_builtin _ (by decide +kernel)) (codeAny_builtin entry_list_iadd' ?_))))
 show wpAny (model prog w) _ (Builtin.List.listExtendWith (.ref s.heap.objs.size) (.ref l) (.ref s.heap.objs.size)) _ _ { s with heap:=s.heap.push (seqObj "list" #[] 0) }
 unfold Builtin.List.listExtendWith
 have hO':(s.heap.push (seqObj "list" #[] 0)).get? l=some o:=Heap.get?_push_of_some _ ho
 have hN:(s.heap.push (seqObj "list" #[] 0)).get? s.heap.objs.size=some (seqObj "list" #[] 0):=Heap.get?_push_size _ rfl
 refine wpAny_bind (wpAny_typeOf (T:=T) ⟨o,hO',hc⟩ ?_)
 have e1:(Value.type "list" == Value.type "list")=true:=by rfl
 have e2:(Value.type "tuple" == Value.type "tuple")=true:=by rfl
 rw [if_pos (by rcases hT with rfl | rfl <;> simp [e1,e2])]
 refine wpAny_bind (listItems_at hO' hd (wpAny_bind (listItems_at hN rfl ?_)))
 rw [if_neg (by simp)]
 refine wpAny_bind (listUpdate_at hN rfl (wpAny_pure ?_) (Nat.zero_le _) (by rw [Array.size_append,List.size_toArray];show 0+vs.length≤_;omega))
 show wpAny (model prog w) A (do
  let z ← load s.heap.objs.size
  match z.data with
  | .seq xs _=>pure xs.toList
  | _=>unsupported "internal:collect") Q E ⟨(s.heap.push (seqObj "list" #[] 0)).update s.heap.objs.size (Obj.mapSeq (·++vs.toArray)),s.gens,s.drawn,s.toks,s.os⟩
 refine wpAny_bind (wpAny_load (get?_update_seq hN _) ?_)
 show wpAny (model prog w) _ (pure ((#[]:Array Value)++vs.toArray).toList) Q E _
 have e3:((#[]:Array Value)++vs.toArray).toList=vs:=by simp
 rw [e3]
 exact wpAny_pure h
theorem w_sorted {l:Addr} {vs:List Value} {ns:List Int} {o:Obj} {T:String} {n:Nat} {b:Bool} {Q:Value→Shared→Prop} (ho:s.heap.get? l=some o) (hc:o.cls=.type T) (hd:o.data=.seq vs.toArray n) (hT:T="list"∨T="tuple") (hI:IntsAre vs ns) (hz:vs.length≤sizeLine)
 (h:∀ (r:Array Value) (ns':List Int),IntsAre r.toList ns'→ns'.Perm ns→Ordered b ns'→Q (.ref (s.heap.objs.size+1)) { s with heap:=sortedAll s.heap vs r }):wpAny (model prog w) A (call (.builtin "sorted") [.ref l] (kwOf b)) Q E s:=by
 have ha:argsOk "sorted" ⟨[.ref l],kwOf b⟩:=by cases b;exact args_sorted1 _;exact args_sorted_rev _ _
 refine call_function_entry_kw kind_sorted plain_sorted entry_sorted ha ?_
 unfold Builtin.«sorted»
 refine wpAny_bind (m:=checkCount "sorted" 1 1 _) (wpAny_pure (wpAny_bind (w_collect ho hc hd hT hz (wpAny_bind (wpAny_newList ?_ ?hs)))))
 case hs=>exact hz
 generalize hG:(s.heap.push (seqObj "list" #[] 0)).update s.heap.objs.size (Obj.mapSeq (·++vs.toArray))=G
 have sG:G.objs.size=s.heap.objs.size+1:=by rw [← hG,Heap.size_update,size_push']
 have hL:(G.push (seqObj "list" vs.toArray 0)).get? (s.heap.objs.size+1)=some (seqObj "list" vs.toArray 0):=by rw [← sG];exact Heap.get?_push_size _ rfl
 show wpAny _ _ _ _ _ { s with heap:=G.push (seqObj "list" vs.toArray 0) }
 rw [show ({ s with heap:=G }:Shared).heap.objs.size=s.heap.objs.size+1 from sG]
 have hs:argsOk "list.sort" ⟨[.ref (s.heap.objs.size+1)],kwOf b⟩:=by cases b;exact args_list_sort _;exact args_list_sort_rev _ _
 refine wpAny_bind (wpAny_holding (wpAny_call_entry_kw slot_list_sort ⟨_,hL,rfl⟩ entry_list_sort (w_sort hL hI hz fun r ns' g1 g2 g3=>⟨_,rfl,wpAny_pure ⟨_,rfl,?_⟩⟩) hs))
 have:=h r ns' g1 g2 g3
 unfold sortedAll at this
 rw [hG] at this
 exact this
end
end SRT
namespace L2
open PySem PySem.Spec PyProof.Rows
section
variable {X:Cx}
def rSortB (K:PySem.W.Frag) (b:Bool):List V→Hp→VK→Prop:=fun xs H Q=>match xs with
 | [.ref p]=>∃ ns:List Int,(SqL K H p (ns.map V.int)∨SqT K H p (ns.map V.int))∧∀ l ns',H l=none→List.Perm ns' ns→Ordered b ns'→Q (.ref l) (upd H l (.lst (ns'.map V.int)))
 | _=>False
theorem sort_any {b:Bool} (pins:List (Addr×Obj)) (s:Shared) (σ:St) (H:Hp) (xs:List V) (us:List Value) (Q:VK) (I:Inv X pins σ H s) (r:Vals xs us) (h:rSortB X.K b xs H Q) :
 wpAny (model X.prog X.w) X.A (call (.builtin "sorted") us (SRT.kwOf b)) (EP X pins σ Q) X.xe s:=by
 unfold rSortB at h
 split at h
 · rename_i p
   obtain ⟨ns,hq,q⟩:=h
   obtain ⟨u,rfl,rx⟩:=vals1 r
   cases rx
   obtain ⟨its,T,o,n,hI,hz,hz2,ho,hc,hd,hT⟩:∃ (its:List Value) (T:String) (o:Obj) (n:Nat),IntsAre its ns∧its.length≤sizeLine∧ns.length≤sizeLine∧s.heap.get? p=some o∧o.cls=.type T∧o.data=.seq its.toArray n∧(T="list"∨T="tuple"):=by
    rcases hq with hq | hq
    · obtain ⟨its,rv,pl,hz⟩:=I.list hq
      obtain ⟨o,ho,hc,n,hd⟩:=id pl.isList
      exact ⟨its,"list",o,n,intsAre_of rv,by rw [← rv.length];exact hz,by rw [List.length_map] at hz;exact hz,ho,hc,hd,.inl rfl⟩
    · obtain ⟨its,rv,pl,hz⟩:=I.tuple hq
      obtain ⟨o,ho,hc,n,hd⟩:=id pl
      exact ⟨its,"tuple",o,n,intsAre_of rv,by rw [← rv.length];exact hz,by rw [List.length_map] at hz;exact hz,ho,hc,hd,.inr rfl⟩
   refine SRT.w_sorted ho hc hd hT hI hz fun out ns' a1 a2 a3=>?_
   obtain ⟨e,he⟩:=sortedAll_at s.heap its out
   refine ⟨.ref (s.heap.objs.size+1),_,I.laid (t':=s.toks) (a:=s.heap.objs.size+1) (o:=.lst (ns'.map V.int)) (fun c ob q=>sortedAll_old q) (Nat.le_succ _) ?_,rfl,q _ ns' (I.hok.fresh (Nat.le_succ _)) a2 a3⟩
   refine ⟨?_,out.toList,e,vals_ints a1,he⟩
   rw [List.length_map,a2.length_eq]
   exact hz2
 · exact h.elim
variable {e:Expr} {es:List Expr} {t:TA} {p pos:Pos}
theorem pcb_sortR {k:Nat} {p2 p3:Pos} (hg:Gl X "sorted") (hm:X.mg "sorted" = none) (ha:PA X [e] t) (he:starEach [e] X.env=[(false,eval e X.env)]) :
 PE X (.Call (.Name "sorted" p) [e] [⟨some "reverse",.Constant (.bool true) k p2,p3⟩] pos) (tCB (rSortB X.K true) t):=by
 intro pins s σ H Q I h
 refine wpAny_Call_Name_kw (ld_blt I hg hm boot_sorted' ?_ (by decide) (by decide))
 refine callWith_kw (thn (ha pos pins s σ H _ I h) fun us s1 ⟨vs,H1,I1,r1,q1⟩=>?_) ?_ ?_ rfl rfl
 · refine kws_cons (wpAny_Constant_bool (kws_nil ?_))
   exact sort_any (b:=true) pins s1 σ H1 vs us Q I1 r1 q1
 · rw [he]
   rfl
 · rw [he]
   rfl
theorem zcb_sortR {k:Nat} {p2 p3:Pos} (hg:Gl X "sorted") (hm:X.mg "sorted" = none) (ha:ZA X [e] t) (he:starEach [e] X.env=[(false,eval e X.env)]) :
 ZE X (.Call (.Name "sorted" p) [e] [⟨some "reverse",.Constant (.bool true) k p2,p3⟩] pos) (tCB (rSortB X.K true) t):=by with_unfolding_all exact pcb_sortR hg hm ha he
variable {o:Expr} {to:TE} {apos cpos:Pos}
end
end L2
namespace L2
open PySem PySem.Spec PyProof.Rows
section
variable {X:Cx}
variable {e:Expr} {es:List Expr} {t:TA} {p pos:Pos}
def rIntT:List V→Hp→VK→Prop:=fun xs H Q=>match xs with
 | [.str x]=>∃ n,intText? x=some n∧x.length≤640∧Q (.int n) H
 | _=>False
theorem call_intT:CallR X (.type "int") rIntT:=by
 intro pins s σ H xs us Q I r h
 unfold rIntT at h
 split at h
 · obtain ⟨n,h1,h2,q⟩:=h
   obtain ⟨u,rfl,r1⟩:=vals1 r
   obtain ⟨t,rfl⟩:=r1
   exact PySem.W.KIN.call_text h1 h2 ⟨.int n,H,I.tok _,⟨_,rfl⟩,q⟩
 · exact h.elim
theorem pcb_intT (hg:Gl X "int") (hm:X.mg "int" = none) (ha:PA X (e::es) t) (he:starEach (e::es) X.env=(false,eval e X.env)::starEach es X.env) (hpl:(backTo pos (starEach es X.env)).any (·.1)=false) :
 PE X (.Call (.Name "int" p) (e::es) [] pos) (tCB rIntT t):=pe_callTy call_intT hg hm boot_int' ha (by decide) (by decide) he hpl
theorem zcb_intT (hg:Gl X "int") (hm:X.mg "int" = none) (ha:ZA X (e::es) t) (he:starEach (e::es) X.env=(false,eval e X.env)::starEach es X.env) (hpl:(backTo pos (starEach es X.env)).any (·.1)=false) :
 ZE X (.Call (.Name "int" p) (e::es) [] pos) (tCB rIntT t):=by with_unfolding_all exact pcb_intT hg hm ha he hpl
def strMul (x:Str) (n:Nat):Str:=⟨(List.replicate n x.cps).foldl (·++·) #[]⟩
theorem cat_size:∀ (l:List (Array Nat)) (a:Array Nat),(l.foldl (·++·) a).size=a.size+(l.map (·.size)).sum
 | [],a=>by simp
 | x::l,a=>by
   rw [List.foldl_cons,cat_size l,Array.size_append,List.map_cons,List.sum_cons]
   omega
theorem strMul_len (z:Str) (n:Nat):(strMul z n).length=z.length*n:=by
 show ((List.replicate n z.cps).foldl (·++·) #[]).size=_
 rw [cat_size,List.map_replicate,List.sum_replicate_nat]
 show 0+n*z.length=_
 rw [Nat.zero_add,Nat.mul_comm]
def rMulS:R2:=fun x y H Q=>match x,y with
 | .str z,.int k=>(2≤k∧1≤z.length∧z.length*k.toNat≤sizeLine)∧Q (.str (strMul z k.toNat)) H
 | _,_=>False
theorem op_mulS:OpR X (binaryOp .Mult) rMulS:=by
 intro pins s σ H x y v u Q I rx ry h
 unfold rMulS at h
 split at h
 · rename_i z k
   obtain ⟨⟨h1,h2,h3⟩,q⟩:=h
   obtain ⟨t,rfl⟩:=rx
   obtain ⟨t',rfl⟩:=ry
   have hz:(z.length == 0)=false:=by
    have:z.length≠0:=by omega
    simpa using this
   have hk1:(k == 1)=false:=by
    have:k≠1:=by omega
    simpa using this
   have hs:=sizeLine_eq
   have hkk:k.toNat≤z.length*k.toNat:=Nat.le_mul_of_pos_left _ (by omega)
   have hzz:z.length≤z.length*k.toNat:=Nat.le_mul_of_pos_right _ (by omega)
   refine P.mul_str ?_ (fun _ _=>?_) (fun _ _=>?_) ?_
   · rw [decide_eq_false (by omega),decide_eq_false (by omega)];rfl
   · have:(z.length:Int)≤(2 ^ 63 - 1) / k:=by
      rw [Int.le_ediv_iff_mul_le (by omega)]
      have:(z.length:Int)*k=((z.length*k.toNat:Nat):Int):=by
       rw [Int.natCast_mul,Int.toNat_of_nonneg (by omega)]
      omega
     omega
   · unfold Builtin.Str.tooLong
     exact decide_eq_false (by omega)
   · rw [if_neg (by omega),hk1,hz]
     exact ⟨Nat.le_trans (Nat.le_of_eq (strMul_len z k.toNat)) h3,⟨.str _,H,I.tok _,⟨_,rfl⟩,q⟩⟩
 · exact h.elim
def rExtP:V→List V→Hp→VK→Prop:=fun x vs H Q=>match x,vs with
 | .ref l,[.ref b]=>∃ xs zs,H l=some (.lst xs)∧H b=some (.lst zs)∧xs.length+zs.length≤sizeLine∧Q .non (upd H l (.lst (xs++zs)))
 | _,_=>False
theorem mt_extP:MtM X "list.extend" rExtP:=fun pins s σ H x vs v us Q I rx rv h=>by
 unfold rExtP at h
 split at h
 · obtain ⟨xs,zs,h1,h2,h3,q⟩:=h
   exact mt_extend pins s σ H _ _ v us Q I rx rv ⟨_,_,xs,zs,rfl,rfl,h1,h2,h3,q⟩
 · exact h.elim
variable {o:Expr} {to:TE} {apos cpos:Pos}
theorem pm_extend (ho:PE X o to) (ha:PA X (e::es) t) (hbase:attributeBase o "extend" X.env (eval o X.env)=eval o X.env:=by rfl)
 (hfew:((backTo cpos (starEach (e::es) X.env)).all (fun x=>!x.1)&&(backToKw cpos (keywordEach [] X.env)).all (fun x=>x.1.isSome)
   && decide ((e::es).length+([]:List Keyword).length+(if ([]:List Keyword).isEmpty then 0 else 1)<30))=true:=by rfl)
 (hline:(apos.endLine == cpos.line)=true:=by rfl) (hs:starEach (e::es) X.env=(false,eval e X.env)::starEach es X.env:=by rfl) (hplain:(backTo cpos (starEach es X.env)).any (·.1)=false:=by rfl) :
 PE X (.Call (.Attribute o "extend" apos) (e::es) [] cpos) (fun σ H Q=>to σ H fun x H1=>tyV X.K "list" x H1∧t σ H1 fun xs H2=>rExtP x xs H2 Q):=
 pe_bm PySem.F.plainAttrs_list PySem.F.slot_list_extend PySem.F.type_list_extend mt_extP ho ha hbase hfew hline hs hplain
theorem zm_extend (ho:ZE X o to) (ha:ZA X (e::es) t) (hbase:attributeBase o "extend" X.env (eval o X.env)=eval o X.env:=by rfl)
 (hfew:((backTo cpos (starEach (e::es) X.env)).all (fun x=>!x.1)&&(backToKw cpos (keywordEach [] X.env)).all (fun x=>x.1.isSome)
   && decide ((e::es).length+([]:List Keyword).length+(if ([]:List Keyword).isEmpty then 0 else 1)<30))=true:=by rfl)
 (hline:(apos.endLine == cpos.line)=true:=by rfl) (hs:starEach (e::es) X.env=(false,eval e X.env)::starEach es X.env:=by rfl) (hplain:(backTo cpos (starEach es X.env)).any (·.1)=false:=by rfl) :
 ZE X (.Call (.Attribute o "extend" apos) (e::es) [] cpos) (fun σ H Q=>to σ H fun x H1=>tyV X.K "list" x H1∧t σ H1 fun xs H2=>rExtP x xs H2 Q):=by with_unfolding_all exact pm_extend ho ha hbase hfew hline hs hplain
end
section
variable {X:Cx} {e:Expr} {es:List Expr} {t:TA} {p pos:Pos}
theorem pty_str (hg:Gl X "str") (hm:X.mg "str" = none):PE X (.Name "str" pos) (tC (.ty "str")):=pe_ty hg hm boot_str' (by decide) (by decide)
theorem zty_str (hg:Gl X "str") (hm:X.mg "str" = none):ZE X (.Name "str" pos) (tC (.ty "str")):=by with_unfolding_all exact pty_str hg hm
end
theorem rep_snoc (j:Nat):(List.replicate j true).map V.bl++[V.bl true]=(List.replicate (j+1) true).map V.bl:=by
 rw [List.replicate_succ',List.map_append];rfl
theorem rep_all (n:Nat):(List.replicate n true).all id=true:=by
 rw [List.all_eq_true];intro x hx;exact List.eq_of_mem_replicate hx
def seqT (c:Bool):String:=match c with | true=>"tuple" | false=>"list"
theorem SqK.ty {H:Hp} {c:Bool} {a:Addr} {xs:List V} (h:SqK H c a xs):tyName H (.ref a)=some (seqT c):=by
 cases c with
 | true=>unfold tyName;dsimp only;rw [show H a=some (.tup xs) from h];rfl
 | false=>unfold tyName;dsimp only;rw [show H a=some (.lst xs) from h];rfl
theorem strs_are:∀ {ys:List Str} {its:List Value},Vals (ys.map V.str) its→StrsAre its ys
 | [],_,r=>by cases r;exact .nil
 | y::ys,_,r=>by
   cases r with
   | cons a b=>
     obtain ⟨t,rfl⟩:=(show ∃ t,_=Value.str y t from a)
     exact .cons y t (strs_are b)
theorem vals_strs:∀ (tk:Nat) (ys:List Str),Vals (ys.map V.str) (strsFrom tk ys)
 | _,[]=>.nil
 | tk,y::ys=>.cons ⟨tk,rfl⟩ (vals_strs (tk+1) ys)
section
variable {X:Cx} {e:Expr} {es:List Expr} {t:TA} {p pos:Pos} {o:Expr} {to:TE} {apos cpos:Pos}
def rJoinP (K:PySem.W.Frag):V→List V→Hp→VK→Prop:=fun x vs H Q=>match x,vs with
 | .str z,[.ref a]=>∃ ys:List Str,SqL K H a (ys.map V.str)∧(ys.map (·.length)).sum+ys.length*z.length≤16777216∧Q (.str (Txt.join z ys)) H
 | _,_=>False
theorem mt_join:MtR X "str.join" (rJoinP X.K):=by
 intro pins s σ H x xs v us Q I rx rs h
 unfold rJoinP at h
 split at h
 · obtain ⟨ys,hq,hz,q⟩:=h
   obtain ⟨tk,rfl⟩:=rx
   obtain ⟨u,rfl,ru⟩:=vals1 rs
   cases ru
   obtain ⟨its,rv,pl,_⟩:=I.list hq
   exact join_list pl.isList (by simpa using strs_are rv) hz fun t' k=>⟨.str _,H,I.tok k,⟨_,rfl⟩,q⟩
 · exact h.elim
def rSplitP:V→List V→Hp→VK→Prop:=fun x vs H Q=>match x,vs with
 | .str z,[.str y]=>z.length≤10000∧(y.length == 0)=false∧∀ a,H a=none→Q (.ref a) (upd H a (.lst ((Txt.split z y).map V.str)))
 | _,_=>False
theorem mt_split:MtR X "str.split" rSplitP:=by
 intro pins s σ H x xs v us Q I rx rs h
 unfold rSplitP at h
 split at h
 · rename_i z y
   obtain ⟨hz,hy,q⟩:=h
   obtain ⟨tk,rfl⟩:=rx
   obtain ⟨u,rfl,ru⟩:=vals1 rs
   obtain ⟨tk2,rfl⟩:=ru
   have hn:H s.heap.objs.size=none:=I.hok.fresh (Nat.le_refl _)
   have sl:(10000:Nat)+2≤sizeLine:=by rw [sizeLine_eq];decide
   have lay:∀ (ys:List Str) (its:List Value) (k:Nat),Txt.split z y=ys→Vals (ys.map V.str) its→EP X pins σ Q (.ref s.heap.objs.size) { s with heap:=s.heap.push { cls:=.type "list",data:=.seq its.toArray },toks:=k }:=by
    intro ys its k e rv
    have hl:(ys.map V.str).length≤sizeLine:=by
     rw [List.length_map,← e]
     exact Nat.le_trans (split_le z y) (by omega)
    refine ⟨.ref s.heap.objs.size,_,I.laid (t':=k) (o:=.lst (ys.map V.str)) (fun b ob q=>Heap.get?_push_of_some _ q) (Nat.le_refl _) ⟨hl,its,0,rv,Heap.get?_push_size _ rfl⟩,rfl,?_⟩
    have:=q _ hn
    rw [e] at this
    exact this
   cases h1:(decide (z.length<y.length)||decide (Builtin.Str.strKind z<Builtin.Str.strKind y))
   · cases hf:(Builtin.Str.occurrences z y 0 z.length (z.length+1)).isEmpty
     · have e:Txt.split z y=Builtin.Str.partsBetween z (Builtin.Str.occurrences z y 0 z.length (z.length+1)) y.length:=(if_neg (ne_true_of_eq_false h1)).trans (if_neg (ne_true_of_eq_false hf))
       have hn2:(Builtin.Str.partsBetween z (Builtin.Str.occurrences z y 0 z.length (z.length+1)) y.length).length≤sizeLine:=by rw [← e];exact Nat.le_trans (split_le z y) (by omega)
       exact call_meets F.slot_str_split (typeIs_str _ _ _) F.entry_str_split (F.args_str_split_2 _ _) (meets_str_split_sep z y tk tk2 h1 hy hf (by omega) hn2) (lay _ _ _ e (vals_strs _ _))
     · have e:Txt.split z y=[z]:=(if_neg (ne_true_of_eq_false h1)).trans (if_pos hf)
       exact call_meets F.slot_str_split (typeIs_str _ _ _) F.entry_str_split (F.args_str_split_2 _ _) (meets_str_split_not_found z y tk tk2 h1 hy hf) (lay [z] [.str z tk] s.toks e (.cons ⟨tk,rfl⟩ .nil))
   · have e:Txt.split z y=[z]:=if_pos h1
     exact call_meets F.slot_str_split (typeIs_str _ _ _) F.entry_str_split (F.args_str_split_2 _ _) (meets_str_split_cannot_occur z y tk tk2 h1) (lay [z] [.str z tk] s.toks e (.cons ⟨tk,rfl⟩ .nil))
 · exact h.elim
theorem pm_join (ho:PE X o to) (ha:PA X (e::es) t) (hbase:attributeBase o "join" X.env (eval o X.env)=eval o X.env:=by rfl)
 (hfew:((backTo cpos (starEach (e::es) X.env)).all (fun x=>!x.1)&&(backToKw cpos (keywordEach [] X.env)).all (fun x=>x.1.isSome)
   && decide ((e::es).length+([]:List Keyword).length+(if ([]:List Keyword).isEmpty then 0 else 1)<30))=true:=by rfl)
 (hline:(apos.endLine == cpos.line)=true:=by rfl) (hs:starEach (e::es) X.env=(false,eval e X.env)::starEach es X.env:=by rfl) (hplain:(backTo cpos (starEach es X.env)).any (·.1)=false:=by rfl) :
 PE X (.Call (.Attribute o "join" apos) (e::es) [] cpos) (fun σ H Q=>to σ H fun x H1=>tyV X.K "str" x H1∧t σ H1 fun xs H2=>rJoinP X.K x xs H2 Q):=
 pe_bm PySem.F.plainAttrs_str PySem.F.slot_str_join PySem.F.type_str_join mt_join ho ha hbase hfew hline hs hplain
theorem zm_join (ho:ZE X o to) (ha:ZA X (e::es) t) (hbase:attributeBase o "join" X.env (eval o X.env)=eval o X.env:=by rfl)
 (hfew:((backTo cpos (starEach (e::es) X.env)).all (fun x=>!x.1)&&(backToKw cpos (keywordEach [] X.env)).all (fun x=>x.1.isSome)
   && decide ((e::es).length+([]:List Keyword).length+(if ([]:List Keyword).isEmpty then 0 else 1)<30))=true:=by rfl)
 (hline:(apos.endLine == cpos.line)=true:=by rfl) (hs:starEach (e::es) X.env=(false,eval e X.env)::starEach es X.env:=by rfl) (hplain:(backTo cpos (starEach es X.env)).any (·.1)=false:=by rfl) :
 ZE X (.Call (.Attribute o "join" apos) (e::es) [] cpos) (fun σ H Q=>to σ H fun x H1=>tyV X.K "str" x H1∧t σ H1 fun xs H2=>rJoinP X.K x xs H2 Q):=by with_unfolding_all exact pm_join ho ha hbase hfew hline hs hplain
theorem pm_split (ho:PE X o to) (ha:PA X (e::es) t) (hbase:attributeBase o "split" X.env (eval o X.env)=eval o X.env:=by rfl)
 (hfew:((backTo cpos (starEach (e::es) X.env)).all (fun x=>!x.1)&&(backToKw cpos (keywordEach [] X.env)).all (fun x=>x.1.isSome)
   && decide ((e::es).length+([]:List Keyword).length+(if ([]:List Keyword).isEmpty then 0 else 1)<30))=true:=by rfl)
 (hline:(apos.endLine == cpos.line)=true:=by rfl) (hs:starEach (e::es) X.env=(false,eval e X.env)::starEach es X.env:=by rfl) (hplain:(backTo cpos (starEach es X.env)).any (·.1)=false:=by rfl) :
 PE X (.Call (.Attribute o "split" apos) (e::es) [] cpos) (fun σ H Q=>to σ H fun x H1=>tyV X.K "str" x H1∧t σ H1 fun xs H2=>rSplitP x xs H2 Q):=
 pe_bm PySem.F.plainAttrs_str PySem.F.slot_str_split PySem.F.type_str_split mt_split ho ha hbase hfew hline hs hplain
theorem zm_split (ho:ZE X o to) (ha:ZA X (e::es) t) (hbase:attributeBase o "split" X.env (eval o X.env)=eval o X.env:=by rfl)
 (hfew:((backTo cpos (starEach (e::es) X.env)).all (fun x=>!x.1)&&(backToKw cpos (keywordEach [] X.env)).all (fun x=>x.1.isSome)
   && decide ((e::es).length+([]:List Keyword).length+(if ([]:List Keyword).isEmpty then 0 else 1)<30))=true:=by rfl)
 (hline:(apos.endLine == cpos.line)=true:=by rfl) (hs:starEach (e::es) X.env=(false,eval e X.env)::starEach es X.env:=by rfl) (hplain:(backTo cpos (starEach es X.env)).any (·.1)=false:=by rfl) :
 ZE X (.Call (.Attribute o "split" apos) (e::es) [] cpos) (fun σ H Q=>to σ H fun x H1=>tyV X.K "str" x H1∧t σ H1 fun xs H2=>rSplitP x xs H2 Q):=by with_unfolding_all exact pm_split ho ha hbase hfew hline hs hplain
def rPopK:V→List V→Hp→VK→Prop:=fun x vs H Q=>match x,vs with
 | .ref l,[.int i]=>∃ xs k y,H l=some (.lst xs)∧(-(2 ^ 63)≤i∧i<2 ^ 63)∧seqIndex? i xs.length=some k∧xs[k]? = some y∧Q y (upd H l (.lst (xs.eraseIdx k)))
 | _,_=>False
theorem mt_popK:MtM X "list.pop" rPopK:=fun pins s σ H x vs v us Q I rx rv h=>by
 unfold rPopK at h
 split at h
 · obtain ⟨xs,k,y,h1,⟨h2,h3⟩,h4,h5,q⟩:=h
   exact mt_popAt pins s σ H _ _ v us Q I rx rv ⟨_,xs,_,k,y,rfl,rfl,h1,h2,h3,h4,h5,q⟩
 · exact h.elim
theorem pm_popK (ho:PE X o to) (ha:PA X (e::es) t) (hbase:attributeBase o "pop" X.env (eval o X.env)=eval o X.env:=by rfl)
 (hfew:((backTo cpos (starEach (e::es) X.env)).all (fun x=>!x.1)&&(backToKw cpos (keywordEach [] X.env)).all (fun x=>x.1.isSome)
   && decide ((e::es).length+([]:List Keyword).length+(if ([]:List Keyword).isEmpty then 0 else 1)<30))=true:=by rfl)
 (hline:(apos.endLine == cpos.line)=true:=by rfl) (hs:starEach (e::es) X.env=(false,eval e X.env)::starEach es X.env:=by rfl) (hplain:(backTo cpos (starEach es X.env)).any (·.1)=false:=by rfl) :
 PE X (.Call (.Attribute o "pop" apos) (e::es) [] cpos) (fun σ H Q=>to σ H fun x H1=>tyV X.K "list" x H1∧t σ H1 fun xs H2=>rPopK x xs H2 Q):=
 pe_bm PySem.F.plainAttrs_list PySem.F.slot_list_pop PySem.F.type_list_pop mt_popK ho ha hbase hfew hline hs hplain
theorem zm_popK (ho:ZE X o to) (ha:ZA X (e::es) t) (hbase:attributeBase o "pop" X.env (eval o X.env)=eval o X.env:=by rfl)
 (hfew:((backTo cpos (starEach (e::es) X.env)).all (fun x=>!x.1)&&(backToKw cpos (keywordEach [] X.env)).all (fun x=>x.1.isSome)
   && decide ((e::es).length+([]:List Keyword).length+(if ([]:List Keyword).isEmpty then 0 else 1)<30))=true:=by rfl)
 (hline:(apos.endLine == cpos.line)=true:=by rfl) (hs:starEach (e::es) X.env=(false,eval e X.env)::starEach es X.env:=by rfl) (hplain:(backTo cpos (starEach es X.env)).any (·.1)=false:=by rfl) :
 ZE X (.Call (.Attribute o "pop" apos) (e::es) [] cpos) (fun σ H Q=>to σ H fun x H1=>tyV X.K "list" x H1∧t σ H1 fun xs H2=>rPopK x xs H2 Q):=by with_unfolding_all exact pm_popK ho ha hbase hfew hline hs hplain
def rLenT:List V→Hp→VK→Prop:=fun xs H Q=>match xs with
 | [.str z]=>z.length≤sizeLine∧Q (.int z.length) H
 | _=>False
theorem call_lenT:CallR X (.builtin "len") rLenT:=call_len_str.imp fun xs H Q h=>by
 unfold rLenT at h
 split at h
 · exact ⟨_,rfl,h⟩
 · exact h.elim
theorem pcb_lenT (hg:Gl X "len") (hm:X.mg "len" = none) (ha:PA X (e::es) t) (he:starEach (e::es) X.env=(false,eval e X.env)::starEach es X.env) (hpl:(backTo pos (starEach es X.env)).any (·.1)=false) :
 PE X (.Call (.Name "len" p) (e::es) [] pos) (tCB rLenT t):=pe_callB call_lenT hg hm PySem.boot_len ha (by decide) (by decide) he hpl
theorem zcb_lenT (hg:Gl X "len") (hm:X.mg "len" = none) (ha:ZA X (e::es) t) (he:starEach (e::es) X.env=(false,eval e X.env)::starEach es X.env) (hpl:(backTo pos (starEach es X.env)).any (·.1)=false) :
 ZE X (.Call (.Name "len" p) (e::es) [] pos) (tCB rLenT t):=by with_unfolding_all exact pcb_lenT hg hm ha he hpl
def inT (y z:Str):Bool:=!(Builtin.Str.occurrences z y 0 z.length 1).isEmpty
def rInT:R2:=fun x y H Q=>match x,y with
 | .str i,.str j=>Q (.bl (inT i j)) H
 | _,_=>False
theorem op_inT:OpR X (compareOp .In) rInT:=op_in_str.imp fun x y H Q h=>by
 unfold rInT at h
 split at h
 · exact ⟨_,_,rfl,rfl,h⟩
 · exact h.elim
def rIxTx:R2:=fun x y H Q=>match x,y with
 | .str z,.int i=>∃ c:Nat,z.length≤sizeLine∧atI z.cps.toList i=some c∧Q (.str ⟨#[c]⟩) H
 | _,_=>False
theorem ix_T:IxR X rIxTx:=by
 intro value slice pins s σ H x y v u Q I rx ry h hs
 unfold rIxTx at h
 split at h
 · obtain ⟨c,h1,h2,q⟩:=h
   exact ix_str value slice pins s σ H _ _ v u Q I rx ry ⟨_,_,c,rfl,rfl,h1,h2,q⟩ hs
 · exact h.elim
def ItS (z:Str):It:=⟨fun i _=>i<z.cps.size,fun i H x H'=>H'=H∧∃ c,z.cps[i]? = some c∧x=.str ⟨#[c]⟩,fun i _=>z.cps.size≤i⟩
def StI (h:Heap) (it:Addr) (z:Str) (t:Tok) (i:Nat):Prop:=h.IsStrIter it "str_ascii_iterator" z t i∨h.IsStrIter it "str_iterator" z t i
theorem turn_str {P:Program} {w:World} {K:PySem.W.Frag} {tg:Expr} (z:Str) (tk:Tok) (it:Addr):Turn P w K tg (ItS z) [it] it (fun i h=>StI h it z tk i) where
 mem:=by simp
 obj:=fun i h st b hb=>by
  have e:b=it:=by simpa using hb
  subst e
  rcases st with ⟨o,e,c,d⟩ | ⟨o,e,c,d⟩ <;> exact ⟨o,e,fun v z=>by rw [d] at z;cases z⟩
 keep:=fun i h h' st k=>by
  rcases st with ⟨o,e,c⟩ | ⟨o,e,c⟩
  · exact .inl ⟨o,k it (by simp) o e,c⟩
  · exact .inr ⟨o,k it (by simp) o e,c⟩
 item:=by
  intro X hP hw hK hc i pins s σ H E I hf st hg
  subst hP hw hK
  have hi:i<z.cps.size:=hg
  obtain ⟨f0,f1,f2,f3,f4,f5⟩:=hf it (by simp)
  rcases st with st | st
  · refine wpAny_pyNext_ascii_item st (c:=z.cps[i]) (by simp [hi]) fun h' st' sb=>?_
    have I1:Inv X pins σ H { s with heap:=h',toks:=s.toks+1 }:=I.turned (t':=s.toks+1) (fun b o hb e=>(sb.2 b hb).trans e) f0 f1 f3 f4 f5
    obtain ⟨o,e,c,d⟩:=id st'
    exact ⟨_,rfl,go_of (s:={ s with heap:=h',toks:=s.toks+1 }) e c d (by decide) ⟨.str _,H,I1,⟨_,rfl⟩,⟨rfl,_,by simp [hi],rfl⟩,.inl st',fun b hb=>(hf b hb).1⟩⟩
  · refine wpAny_pyNext_wide_item st (c:=z.cps[i]) (by simp [hi]) fun h' st' sb=>?_
    have I1:Inv X pins σ H { s with heap:=h',toks:=s.toks+1 }:=I.turned (t':=s.toks+1) (fun b o hb e=>(sb.2 b hb).trans e) f0 f1 f3 f4 f5
    obtain ⟨o,e,c,d⟩:=id st'
    exact ⟨_,rfl,go_of (s:={ s with heap:=h',toks:=s.toks+1 }) e c d (by decide) ⟨.str _,H,I1,⟨_,rfl⟩,⟨rfl,_,by simp [hi],rfl⟩,.inr st',fun b hb=>(hf b hb).1⟩⟩
 done:=by
  intro X hP hw hK hc i pins s σ H E I hf st hg
  subst hP hw hK
  have hi:z.cps.size≤i:=hg
  obtain ⟨f0,f1,f2,f3,f4,f5⟩:=hf it (by simp)
  rcases st with st | st
  · exact wpAny_pyNext_ascii_end (I.ok.hd hc) st (by simp;omega) fun h' eb=>⟨rfl,I.turned (t':=s.toks) (fun b o hb e=>eb b o hb e) f0 f1 f3 f4 f5⟩
  · exact wpAny_pyNext_wide_end (I.ok.hd hc) st (by simp;omega) fun h' eb=>⟨rfl,I.turned (t':=s.toks) (fun b o hb e=>eb b o hb e) f0 f1 f3 f4 f5⟩
 self:=fun _ _ _ _ _ st h=>by
  rcases st with st | st
  · exact wpAny_pyIter_striter_ascii st h
  · exact wpAny_pyIter_striter_wide st h
def iStr (tl:TE):TI:=fun σ H R=>tl σ H fun x H1=>match x with
 | .str z=>R (ItS z) H1
 | _=>False
theorem pi_str {tg l:Expr} {tl:TE} (hl:PE X l tl):PI X tg l (iStr tl):=by
 intro pins s σ H R I h
 refine thn (hl pins s σ H _ I h) fun v s1 ⟨x,H1,I1,r1,q1⟩=>?_
 dsimp only at q1
 split at q1
 · rename_i z
   obtain ⟨tk,rfl⟩:=r1
   have fp:∀ b∈[s1.heap.objs.size],FpOk X pins H1 b:=fun b hb=>by
    have e:b=s1.heap.objs.size:=by simpa using hb
    subst e
    exact I1.fpOk (Nat.le_refl _) (I1.hok.fresh (Nat.le_refl _))
   cases ha:z.cps.all (· < 128)
   · exact wpAny_pyIter_wide ha ⟨s1.heap.objs.size,[s1.heap.objs.size],_,_,H1,rfl,I1.kept (t':=s1.toks) fun b o e=>Heap.get?_push_of_some _ e,turn_str z tk _,.inr ⟨_,Heap.get?_push_size _ rfl,rfl,rfl⟩,fp,q1⟩
   · exact wpAny_pyIter_ascii ha ⟨s1.heap.objs.size,[s1.heap.objs.size],_,_,H1,rfl,I1.kept (t':=s1.toks) fun b o e=>Heap.get?_push_of_some _ e,turn_str z tk _,.inl ⟨_,Heap.get?_push_size _ rfl,rfl,rfl⟩,fp,q1⟩
 · exact q1.elim
theorem zi_str {tg l:Expr} {tl:TE} (hl:ZE X l tl):ZI X tg l (iStr tl):=by with_unfolding_all exact pi_str hl
theorem cmp_str {nv:List Str} {ix:List (Str×Nat)} {σ:St} {H:Hp} {g:TG} {ti:TT} {te:TE} {Fin:List V→Hp→Prop} {z:Str} (Pv:Nat→List V→Hp→Prop) (h0:Pv 0 [] H)
 (hs:∀ i c zs H,z.cps[i]? = some c→Pv i zs H→zs.length<sizeLine∧g (.str ⟨#[c]⟩) (st0 nv ix σ) H fun σ2 H2=>ti σ2 H2 fun b H3=>if b=true then te σ2 H3 fun y H4=>Pv (i+1) (zs++[y]) H4 else Pv (i+1) zs H3)
 (hd:∀ zs H,Pv z.cps.size zs H→Fin zs H):CmpW nv ix g ti te σ (ItS z) Fin H:=by
 refine ⟨fun i m zs H=>m=z.cps.size - i∧i≤z.cps.size∧Pv i zs H,⟨_,rfl,Nat.zero_le _,h0⟩,?_⟩
 rintro i m zs H ⟨rfl,hi,p⟩
 by_cases hlt:i<z.cps.size
 · refine .inr ⟨hlt,(hs i z.cps[i] zs H (by simp [hlt]) p).1,Pv (i+1),fun σ' H' p'=>⟨_,by omega,rfl,hlt,p'⟩,fun x H' y=>?_⟩
   obtain ⟨rfl,c,hc,rfl⟩:=y
   exact (hs i c zs _ hc p).2
 · have e:i=z.cps.size:=by omega
   subst e
   exact .inl ⟨Nat.le_refl _,hd zs H p⟩
def StrG (mg:Str→Option Value) (x:Str) (z:Str):Prop:=∃ t,mg x=some (.str z t)
theorem pe_sg {x z:Str} {pos:Pos} (hg:Gl X x) (hm:StrG X.mg x z) (hd:(x == ("__debug__" : Str))=false:=by decide):PE X (.Name x pos) (tC (.str z)):=by
 obtain ⟨t,hm⟩:=hm
 exact pe_glob hg hm ⟨t,rfl⟩ hd
theorem ze_sg {x z:Str} {pos:Pos} (hg:Gl X x) (hm:StrG X.mg x z) (hd:(x == ("__debug__" : Str))=false:=by decide):ZE X (.Name x pos) (tC (.str z)):=by with_unfolding_all exact pe_sg hg hm hd
end
end L2
namespace K70
open PySem L2
def top (i:Nat):Stmt:=PySem.Challenge.pw_partrests_k70_no_texts.main.body.getD i (.Pass ⟨0,0,0,0⟩)
def Hand (H:Hp) (a L:Addr) (n:Nat):Prop:=∃ (gs:List Int) (s c:Int),H a=some (.lst [.ref L,.int s,.int c])∧H L=some (.lst (gs.map V.int))∧(∀ g∈gs,(0:Int)≤g)∧gs.length≤63∧0≤s∧s<2305843009213693951∧0≤c∧c≤n∧a≠L
def Step (a L:Addr) (n:Nat) (H H':Hp):Prop:=(∀ b o,b≠a→b≠L→H b=some o→H' b=some o)∧Hand H' a L n
theorem Hand.mono {H:Hp} {a L:Addr} {n m:Nat} (h:Hand H a L n) (k:n≤m):Hand H a L m:=let ⟨g,s,c,e,e2,h1,h2,h3,h4,h5,h6,h7⟩:=h;⟨g,s,c,e,e2,h1,h2,h3,h4,h5,by omega,h7⟩
theorem Hand.same {H H':Hp} {a L:Addr} {n:Nat} (h:Hand H a L n) (y:Same H H'):Hand H' a L n:=let ⟨g,s,c,e,e2,r⟩:=h;⟨g,s,c,y _ _ e,y _ _ e2,r⟩
theorem Hand.ne {H:Hp} {a L b:Addr} {n:Nat} (h:Hand H a L n) (hb:H b=none):b≠a∧b≠L:=by
 obtain ⟨g,s,c,e,e2,_⟩:=h
 exact ⟨fun z=>(by rw [z,e] at hb;cases hb),fun z=>(by rw [z,e2] at hb;cases hb)⟩
theorem Step.trans {a L:Addr} {n m:Nat} {H H1 H2:Hp} (x:Step a L n H H1) (y:Step a L m H1 H2):Step a L m H H2:=⟨fun b o k k2 e=>y.1 b o k k2 (x.1 b o k k2 e),y.2⟩
theorem Step.same {a L:Addr} {n:Nat} {H H1 H2:Hp} (x:Step a L n H H1) (y:Same H1 H2):Step a L n H H2:=⟨fun b o k k2 e=>y b o (x.1 b o k k2 e),x.2.same y⟩
theorem Step.refl {a L:Addr} {n:Nat} {H:Hp} (h:Hand H a L n):Step a L n H H:=⟨fun _ _ _ _ e=>e,h⟩
theorem Step.of_same {a L:Addr} {n:Nat} {H H1:Hp} (h:Hand H a L n) (y:Same H H1):Step a L n H H1:=(Step.refl h).same y
theorem Step.mono {a L:Addr} {n m:Nat} {H H':Hp} (x:Step a L n H H') (k:n≤m):Step a L m H H':=⟨x.1,x.2.mono k⟩
theorem Step.updN {a L D:Addr} {n:Nat} {H H1:Hp} {o:HO} (x:Step a L n H H1) (k:D≠a∧D≠L) (e:H D=none):Step a L n H (upd H1 D o):=by
 refine ⟨fun b u nb nL eb=>?_,?_⟩
 · rw [upd_ne (ne_of_none eb e)]
   exact x.1 b u nb nL eb
 · obtain ⟨g,s,c,e1,e2,r⟩:=x.2
   exact ⟨g,s,c,by rw [upd_ne (Ne.symm k.1)];exact e1,by rw [upd_ne (Ne.symm k.2)];exact e2,r⟩
theorem Step.lst {a L b:Addr} {n:Nat} {H H1:Hp} {xs:List V} (x:Step a L n H H1) (k:b≠a∧b≠L) (e:H b=some (.lst xs)):H1 b=some (.lst xs):=x.1 b _ k.1 k.2 e
theorem Step.none {a L b:Addr} {n:Nat} {H H1:Hp} (x:Step a L n H H1) (k:b≠a∧b≠L) (e:H1 b=none):H b=none:=by
 cases q:H b with
 | none=>rfl
 | some o=>have:=x.1 b o k.1 k.2 q;rw [e] at this;cases this
theorem atI_of {xs:List V} {k:Int} {j:Nat} {v:V} (h:k=(j:Int)) (hx:xs[j]? = some v):atI xs k=some v:=by subst h;exact atI_nat hx
theorem getI {ns:List Int} {j:Nat} (h:j<ns.length):(ns.map V.int)[j]? = some (.int ns[j]):=by rw [List.getElem?_map,List.getElem?_eq_getElem h];rfl
theorem rep_flat (n:Nat) (x:Int):(List.replicate n [V.int x]).flatten=(List.replicate n x).map V.int:=by
 induction n with
 | zero=>rfl
 | succ n ih=>rw [List.replicate_succ,List.flatten_cons,ih,List.replicate_succ,List.map_cons];rfl
theorem le_line {n:Nat} (h:n≤1000):n≤sizeLine:=Nat.le_of_lt (small1000 h)
theorem mulR {a b:Int} (h1:-(2 ^ 64)<b) (h2:b<2 ^ 64):IntMulOk a b:=IntMulOk.of_right (intBits_le_64 h1 h2)
theorem mulL {a b:Int} (h1:-(2 ^ 64)<a) (h2:a<2 ^ 64):IntMulOk a b:=IntMulOk.of_left (intBits_le_64 h1 h2)
theorem ix0 {n:Nat} (h:0<n):ixN n 0=some 0:=by
 unfold ixN
 rw [if_pos (Int.le_refl _),if_pos (by omega)];rfl
theorem cut_ints (ns:List Int) (k:Int):∃ ms:List Int,cutV (ns.map V.int) none (some k)=ms.map V.int∧ms.length≤ns.length:=by
 refine ⟨(ns.drop (HT.sIx (ns.map V.int).length 0 none)).take (HT.sIx (ns.map V.int).length (ns.map V.int).length (some k) - HT.sIx (ns.map V.int).length 0 none),?_,?_⟩
 · unfold cutV
   rw [List.map_take,List.map_drop]
 · rw [List.length_take,List.length_drop]
   omega
theorem sum_ge_len:∀ {ns:List Int},(∀ n∈ns,(1:Int)≤n)→(ns.length:Int)≤ns.sum
 | [],_=>by simp
 | x::r,h=>by
   have:=sum_ge_len (ns:=r) fun n hn=>h n (List.mem_cons_of_mem _ hn)
   have:=h x List.mem_cons_self
   rw [List.length_cons,List.sum_cons]
   omega
theorem perm_sum {a b:List Int} (h:a.Perm b):a.sum=b.sum:=by
 induction h with
 | nil=>rfl
 | cons x _ ih=>rw [List.sum_cons,List.sum_cons,ih]
 | swap x y l=>simp only [List.sum_cons];omega
 | trans _ _ i1 i2=>exact i1.trans i2
theorem mem_le_sum:∀ {ns:List Int} {x:Int},(∀ n∈ns,(1:Int)≤n)→x∈ns→x≤ns.sum
 | y::r,x,h,hx=>by
   have h1:∀ n∈r,(1:Int)≤n:=fun n hn=>h n (List.mem_cons_of_mem _ hn)
   have:=sum_ge_len h1
   have:=h y List.mem_cons_self
   rw [List.sum_cons]
   rcases List.mem_cons.mp hx with rfl | hx
   · omega
   · have:=mem_le_sum h1 hx
     omega
section
variable {P:Program} {w:World} {K:PySem.W.Frag} {mg:Str→Option Value} {base:Heap} {f:Addr} {fd:FuncData}
theorem sc_spool:FnScope ["_law_script","_law_seed","_law_cell"] ["_law_script"] (defScope (top 37)):=⟨rfl,rfl,rfl,by decide +kernel,rfl,by decide +kernel,by decide +kernel⟩
def sp_spool (K:PySem.W.Frag):Sp:=fun vs H Q _=>∃ (a:Addr) (ns:List Int),vs=[.ref a]∧SqL K H a (ns.map V.int)∧ns.length≤63∧∀ p L H',Same H H'→Hand H' p L 0→Q (.ref p) H'
theorem ok_spool (F:Fun K "_law_spool" "_law_spool" (top 37) f fd) (m_abs:mg "abs" = none) (m_len:mg "len" = none):FnOk P w K mg base CX0 1 f fd ["_law_script"] (sp_spool K):=by
 refine F.okz sc_spool (fun vs H Q E h=>?_) (fun cdv A outer s H vs Q E hr h=>?_)
 · obtain ⟨a,ns,rfl,_⟩:=h;rfl
 obtain ⟨a,ns,rfl,hS,hl,q⟩:=h
 have nd:=sc_spool.nd
 have hu:=hr.units
 obtain ⟨ms,em,lm⟩:=cut_ints ns 63
 refine ⟨_,(zss_cons (zs_set (i:=1) nd rfl (Or.inl rfl) (ze_op op_addP (ze_op op_mulQ ze_int (zcb_len rfl m_len (za_cons (zn 0) za_nil) rfl rfl)) ze_int))
  (zss_cons (zs_for PassesOwn.never rfl (zi_list (ze_slice sl_P (zn 0) zo_none (zo_some ze_int))) (zg_name (i:=2) nd rfl (Or.inl rfl)) (zss_one (zs_set (i:=1) nd rfl (Or.inl rfl) (ze_op op_modP (ze_op op_addP (ze_op op_mulQ (zn 1) ze_int) (zn 2)) ze_int))))
  (zss_one (zs_ret (ze_lst (za_cons (ze_comp ["_law_cell"] [] rfl ⟨rfl,by decide +kernel,by decide +kernel,rfl,rfl⟩ (zi_list (ze_slice sl_P (zn 0) zo_none (zo_some ze_int))) kpg_name (fun _ _ _ _=>zg_name (i:=0) (show List.Nodup (["_law_cell"]:List Str) by decide +kernel) rfl (Or.inl rfl)) (fun _ _ _ _=>(zif_one (zt_cmpP op_geP (zcb_abs rfl m_abs (za_cons (zn 0) za_nil) rfl rfl) (ze_op op_powP ze_int ze_int) (nomark _)))) (fun _ _ _ _=>(zcb_abs rfl m_abs (za_cons (zn 0) za_nil) rfl rfl))) (za_cons (zn 1) (za_cons ze_int za_nil)))))))),?_⟩
 refine ⟨_,.inl hS,mulL (by decide) (by decide),?_⟩
 rw [List.length_map]
 refine ⟨_,rfl,a,rfl,.inr ⟨_,hS,fun d hd=>?_⟩⟩
 rw [em]
 have yd:=Same.new hd (.lst (ms.map V.int))
 refine ⟨d,rfl,⟨_,SqL.of upd_same⟩,for_list (xs:=ms.map V.int) (fun i σ H'=>H'=upd H d (.lst (ms.map V.int))∧∃ (z:Int) (x2:Option V),σ=[some (.ref a),some (.int z),x2]∧0≤z∧z<2305843009213693951) ⟨rfl,_,_,rfl,by omega,by omega⟩ ?_ ?_ ?_⟩
 · rintro i σ H' _ ⟨rfl,_⟩
   exact SqL.of upd_same
 · rintro i x σ H' hx ⟨rfl,z,x2,rfl,z0,z1⟩
   have hi:i<ms.length:=by
    have:=(List.getElem?_eq_some_iff.mp hx).1
    rw [List.length_map] at this
    exact this
   have ex:x=.int ms[i]:=by rw [getI hi] at hx;exact (Option.some.inj hx).symm
   subst ex
   refine ⟨mulR (by decide) (by decide),(show (0:Int)<2305843009213693951 by decide),?_⟩
   exact ⟨rfl,_,_,rfl,Int.emod_nonneg _ (by decide),Int.emod_lt_of_pos _ (by decide)⟩
 · rintro σ H' ⟨rfl,z,x2,rfl,z0,z1⟩
   refine ⟨_,rfl,a,rfl,.inr ⟨_,SqL.same yd hS,fun d2 hd2=>?_⟩⟩
   rw [em]
   have y2:=Same.new hd2 (.lst (ms.map V.int))
   refine ⟨d2,rfl,⟨_,SqL.of upd_same⟩,cmp_list (xs:=ms.map V.int) (fun i ys H'=>H'=upd (upd H d (.lst (ms.map V.int))) d2 (.lst (ms.map V.int))∧∃ gs:List Int,ys=gs.map V.int∧gs.length≤i∧∀ g∈gs,(0:Int)≤g) ⟨rfl,[],rfl,Nat.le_refl _,by simp⟩ ?_ ?_ ?_⟩
   · rintro i ys H' _ ⟨rfl,_⟩
     exact SqL.of upd_same
   · rintro i x ys H' hx ⟨rfl,gs,rfl,hg,h0⟩
     have hi:i<ms.length:=by
      have:=(List.getElem?_eq_some_iff.mp hx).1
      rw [List.length_map] at this
      exact this
     have ex:x=.int ms[i]:=by rw [getI hi] at hx;exact (Option.some.inj hx).symm
     subst ex
     refine ⟨by rw [List.length_map];exact small1000 (by omega),?_⟩
     refine ⟨⟨by decide,by decide,by decide⟩,?_⟩
     refine iteD (fun c=>?_) (fun c=>?_)
     · refine ⟨rfl,gs++[if ms[i]<0 then -ms[i] else ms[i]],by rw [List.map_append];rfl,by rw [List.length_append];show gs.length+1≤i+1;omega,fun g hg'=>?_⟩
       rcases List.mem_append.mp hg' with hg' | hg'
       · exact h0 g hg'
       · have:g=if ms[i]<0 then -ms[i] else ms[i]:=by simpa using hg'
         rw [this]
         split <;> omega
     · exact ⟨rfl,gs,rfl,by omega,h0⟩
   · rintro ys H' ⟨rfl,gs,rfl,hg,h0⟩ L hL
     rw [List.length_map] at hg
     refine ⟨by show 3≤sizeLine;decide,fun p hp=>?_⟩
     have yL:=Same.new hL (.lst (gs.map V.int))
     have yp:=Same.new hp (.lst [V.ref L,.int z,.int 0])
     have hpL:p≠L:=fun e=>by rw [e,upd_same] at hp;cases hp
     exact q p L _ (((yd.trans y2).trans yL).trans yp) ⟨gs,z,0,upd_same,yp _ _ upd_same,h0,by omega,z0,z1,by decide,by decide,hpL⟩
theorem sc_take:FnScope ["_law_spool_here","_law_many","_law_digit","_law_once","_law_twice"] ["_law_spool_here","_law_many"] (defScope (top 38)):=⟨rfl,rfl,rfl,by decide +kernel,rfl,by decide +kernel,by decide +kernel⟩
def sp_take:Sp:=fun vs H Q _=>∃ (a L:Addr) (m:Int) (n:Nat),vs=[.ref a,.int m]∧Hand H a L n∧n<1000000000∧0<m∧m<1073741824∧∀ r H',0≤r→r<m→Step a L (n+1) H H'→Q (.int r) H'
theorem ok_take (F:Fun K "_law_take" "_law_take" (top 38) f fd):FnOk P w K mg base CX0 1 f fd ["_law_spool_here","_law_many"] sp_take:=by
 refine F.okz sc_take (fun vs H Q E h=>?_) (fun cdv A outer s H vs Q E hr h=>?_)
 · obtain ⟨a,L,m,n,rfl,_⟩:=h;rfl
 obtain ⟨a,L,m,n,rfl,hh,n1,m0,m1,q⟩:=h
 have nd:=sc_take.nd
 have hu:=hr.units
 obtain ⟨gs,z,c,ha,hL,g0,gl,z0,z1,c0,c1,aL⟩:=hh
 have rest:∃ t,ZSs (cxOf CX0 P w K mg base ["_law_spool_here","_law_many","_law_digit","_law_once","_law_twice"] "_law_take" (defScope (top 38)) f cdv A outer s H E).nox ((defBody (top 38)).drop 1) t ∧
  ∀ (H1:Hp) (gs:List Int),(∀ b o,b≠a→b≠L→H b=some o→H1 b=some o)→H1 a=some (.lst [.ref L,.int z,.int c])→H1 L=some (.lst (gs.map V.int))→(∀ g∈gs,(0:Int)≤g)→gs.length≤63→t { nx:=fun _ H'=>Q .non H',rt:=Q } [some (.ref a),some (.int m),none,none,none] H1:=by
  refine ⟨_,(zss_cons (zs_if (zt_cmpP (op_neD hu) (ze_ix ix_P (zn 0) ze_int (fun _ _=>rfl)) (ze_lst za_nil) (nomark _)) (zss_cons (zs_set (i:=2) nd rfl (Or.inl rfl) (ze_op op_modP (ze_ix ix_P (ze_ix ix_P (zn 0) ze_int (fun _ _=>rfl)) ze_int (fun _ _=>rfl)) (zn 1)))
   (zss_cons (zs_asg (ze_op op_fdivP (ze_ix ix_P (ze_ix ix_P (zn 0) ze_int (fun _ _=>rfl)) ze_int (fun _ _=>rfl)) (zn 1)) (zg_sub (ze_ix ix_P (zn 0) ze_int (fun _ _=>rfl)) ze_int set_list))
   (zss_one (zs_ret (zn 2))))) zss_nil)
   (zss_cons (zs_asg (ze_op op_addP (ze_ix ix_P (zn 0) ze_int (fun _ _=>rfl)) ze_int) (zg_sub (zn 0) ze_int set_list))
   (zss_cons (zs_set (i:=3) nd rfl (Or.inl rfl) (ze_op op_modP (ze_op op_addP (ze_ix ix_P (zn 0) ze_int (fun _ _=>rfl)) (ze_op op_mulQ ze_int (ze_ix ix_P (zn 0) ze_int (fun _ _=>rfl)))) ze_int))
   (zss_cons (zs_set (i:=4) nd rfl (Or.inl rfl) (ze_op op_modP (ze_op op_addP (ze_op op_powP (zn 3) ze_int) (ze_op op_mulQ ze_int (ze_ix ix_P (zn 0) ze_int (fun _ _=>rfl)))) ze_int))
   (zss_one (zs_ret (ze_op op_modP (ze_op op_fdivP (zn 4) ze_int) (zn 1)))))))),?_⟩
  intro H1 gs kp ha hL g0 gl
  refine ⟨_,.inl (SqL.of ha),.ref L,rfl,?_⟩
  refine ⟨Nat.zero_le _,fun d hd=>?_⟩
  have yd:=Same.new hd (.lst [])
  refine ⟨_,_,.lst (yd _ _ hL) (DatAll.ints gs),.lst (xs:=[]) upd_same .nil,shaped_list_ints _,shaped_list_ints [],?_⟩
  have ha':=yd _ _ ha
  have hL':=yd _ _ hL
  have kp':∀ b o,b≠a→b≠L→H b=some o→upd H1 d (.lst []) b=some o:=fun b o n1 n2 e=>yd _ _ (kp b o n1 n2 e)
  generalize upd H1 d (.lst [])=H2 at ha' hL' kp'
  cases gs with
  | nil=>
    refine ⟨_,.inl (SqL.of ha'),.int c,rfl,?_⟩
    refine ⟨a,_,_,_,rfl,rfl,ha',rfl,?_⟩
    refine ⟨_,.inl (SqL.of upd_same),.int z,rfl,?_⟩
    refine ⟨_,.inl (SqL.of upd_same),.int (c+1),rfl,mulL (by decide) (by decide),(show (0:Int)<2305843009213693951 by decide),?_⟩
    have e1:0≤(z+104729*(c+1)) % 2305843009213693951:=Int.emod_nonneg _ (by decide)
    have e2:(z+104729*(c+1)) % 2305843009213693951<2305843009213693951:=Int.emod_lt_of_pos _ (by decide)
    refine ⟨⟨by decide,by decide,by omega⟩,?_⟩
    refine ⟨_,.inl (SqL.of upd_same),.int (c+1),rfl,mulL (by decide) (by decide),(show (0:Int)<2305843009213693951 by decide),?_⟩
    refine ⟨⟨by decide,by decide⟩,m0,?_⟩
    refine q _ _ (Int.emod_nonneg _ (by omega)) (Int.emod_lt_of_pos _ m0) ⟨fun b o k1 k2 e=>?_,[],z,c+1,upd_same,?_,g0,gl,z0,z1,by omega,by omega,aL⟩
    · rw [upd_ne k1];exact kp' b o k1 k2 e
    · rw [upd_ne (Ne.symm aL)];exact hL'
  | cons g r=>
    refine ⟨_,.inl (SqL.of ha'),.ref L,rfl,?_⟩
    refine ⟨_,.inl (SqL.of hL'),.int g,atI_of (j:=0) rfl rfl,m0,?_⟩
    refine ⟨_,.inl (SqL.of ha'),.ref L,rfl,?_⟩
    refine ⟨_,.inl (SqL.of hL'),.int g,atI_of (j:=0) rfl rfl,⟨m0,m1⟩,?_⟩
    refine ⟨_,.inl (SqL.of ha'),.ref L,rfl,?_⟩
    refine ⟨L,_,_,0,rfl,rfl,hL',ix0 (by rw [List.length_map];exact Nat.succ_pos _),?_⟩
    have hg0:=g0 g List.mem_cons_self
    refine q _ _ (Int.emod_nonneg _ (by omega)) (Int.emod_lt_of_pos _ m0) ⟨fun b o k1 k2 e=>?_,(g / m)::r,z,c,?_,upd_same,fun x hx=>?_,gl,z0,z1,c0,by omega,aL⟩
    · rw [upd_ne k2];exact kp' b o k1 k2 e
    · rw [upd_ne aL];exact ha'
    · rcases List.mem_cons.mp hx with rfl | hx
      · exact Int.ediv_nonneg hg0 (by omega)
      · exact g0 x (List.mem_cons_of_mem _ hx)
 obtain ⟨t2,ht2,rest⟩:=rest
 refine ⟨_,(zss_cons (zs_while PassesOwn.never (ZW.zt (zw_and (zt_cmpP (op_neD hu) (ze_ix ix_P (zn 0) ze_int (fun _ _=>rfl)) (ze_lst za_nil) (nomark _)) (zw_and1 (zt_cmpP (op_eqD hu) (ze_ix ix_P (ze_ix ix_P (zn 0) ze_int (fun _ _=>rfl)) ze_int (fun _ _=>rfl)) ze_int (nomark _))))) (zss_one (zs_expr (zm_popK (ze_ix ix_P (zn 0) ze_int (fun _ _=>rfl)) (za_cons ze_int za_nil)))))
  ht2),?_⟩
 refine while_by2 (fun k σ H'=>∃ gs:List Int,k=gs.length∧σ=[some (.ref a),some (.int m),none,none,none]∧(∀ b o,b≠a→b≠L→H b=some o→H' b=some o)∧H' a=some (.lst [.ref L,.int z,.int c])∧H' L=some (.lst (gs.map V.int))∧(∀ g∈gs,(0:Int)≤g)∧gs.length≤63) gs.length ⟨gs,rfl,rfl,fun _ _ _ _ e=>e,ha,hL,g0,gl⟩ ?_
 rintro k σ H' ⟨gs,rfl,rfl,kp,ha,hL,g0,gl⟩
 refine ⟨_,.inl (SqL.of ha),.ref L,rfl,?_⟩
 refine ⟨Nat.zero_le _,fun d hd=>?_⟩
 have yd:=Same.new hd (.lst [])
 refine ⟨_,_,.lst (yd _ _ hL) (DatAll.ints gs),.lst (xs:=[]) upd_same .nil,shaped_list_ints _,shaped_list_ints [],?_⟩
 have ha':=yd _ _ ha
 have hL':=yd _ _ hL
 have kp':∀ b o,b≠a→b≠L→H b=some o→upd H' d (.lst []) b=some o:=fun b o n1 n2 e=>yd _ _ (kp b o n1 n2 e)
 generalize upd H' d (.lst [])=H2 at ha' hL' kp'
 cases gs with
 | nil=>exact rest H2 [] kp' ha' hL' g0 gl
 | cons g r=>
   refine ⟨_,.inl (SqL.of ha'),.ref L,rfl,?_⟩
   refine ⟨_,.inl (SqL.of hL'),.int g,atI_of (j:=0) rfl rfl,?_⟩
   refine iteD (fun cc=>?_) (fun cc=>?_)
   · refine ⟨fun σ' H'=>∃ gs':List Int,gs'.length<(g::r).length∧σ'=[some (.ref a),some (.int m),none,none,none]∧(∀ b o,b≠a→b≠L→H b=some o→H' b=some o)∧H' a=some (.lst [.ref L,.int z,.int c])∧H' L=some (.lst (gs'.map V.int))∧(∀ g∈gs',(0:Int)≤g)∧gs'.length≤63,?_,?_⟩
     · rintro σ' H' ⟨gs',hlt,r'⟩
       exact ⟨_,hlt,gs',rfl,r'⟩
     refine ⟨_,.inl (SqL.of ha'),.ref L,rfl,?_⟩
     refine ⟨tyL hL',_,0,.int g,hL',⟨by decide,by decide⟩,(ixN_seq (ix0 (by rw [List.length_map];exact Nat.succ_pos _))).1,rfl,?_⟩
     refine ⟨r,Nat.lt_succ_self _,rfl,fun b o k1 k2 e=>?_,?_,upd_same,fun x hx=>g0 x (List.mem_cons_of_mem _ hx),by have:(g::r).length=r.length+1:=rfl
                                                                                                                    omega⟩
     · rw [upd_ne k2];exact kp' b o k1 k2 e
     · rw [upd_ne aL];exact ha'
   · exact rest H2 (g::r) kp' ha' hL' g0 gl
end
end K70
namespace L2
open PySem PySem.Spec PyProof.Rows
section
variable {prog:Program} {w:World} {A:Around} {E:Value→Shared→Prop} {R:Result→Shared→Prop} {s:Shared}
theorem two_inner (elt t1 i1 t2 i2:Expr) (c1 c2:List Expr) (scope:Scope) (pos:Pos) (it acc:Value) (env:Env) :
 compTurn (.ListComp elt [⟨t1,i1,c1,0⟩,⟨t2,i2,c2,0⟩] scope pos) 1 it acc env=(do
  standAt i2.pos
  match ← pyNext it with
  | none=>pure (.done .next)
  | some v=>
    letOwnedTupleGo t2 it v
    assign t2 env v
    let mut ok:=true
    for c in c2 do
     if ok then ok ← isTrue c env (eval c env)
    if ok then
     (do let _ ← call (.builtin "list.append") [acc,← eval elt env])
    again (.compLoop (.ListComp elt [⟨t1,i1,c1,0⟩,⟨t2,i2,c2,0⟩] scope pos) 1 it acc env)):=by rfl
theorem two_outer (elt t1 i1 t2 i2:Expr) (c1 c2:List Expr) (scope:Scope) (pos:Pos) (it acc:Value) (env:Env) :
 compTurn (.ListComp elt [⟨t1,i1,c1,0⟩,⟨t2,i2,c2,0⟩] scope pos) 0 it acc env=(do
  standAt i1.pos
  match ← pyNext it with
  | none=>pure (.done .next)
  | some v=>
    letOwnedTupleGo t1 it v
    assign t1 env v
    let mut ok:=true
    for c in c1 do
     if ok then ok ← isTrue c env (eval c env)
    if ok then
     let x ← eval i2 env
     standAt i2.pos
     let x ← (if ((0:Nat) != 0)=true then foldedIterable i2 x else foldedSetIterable i2 env x)
     let _ ← runOwn (.compStart (.ListComp elt [⟨t1,i1,c1,0⟩,⟨t2,i2,c2,0⟩] scope pos) 1 (← holding [x] (if ((0:Nat) != 0)=true then asyncIter x else pyIter x)) acc env) env
    again (.compLoop (.ListComp elt [⟨t1,i1,c1,0⟩,⟨t2,i2,c2,0⟩] scope pos) 0 it acc env)):=by rfl
theorem loop_inner {elt t1 i1 t2 i2:Expr} {c1 c2:List Expr} {scope:Scope} {pos:Pos} {it acc:Value} {env:Env} (I:Nat→Shared→Prop)
 (turn:∀ n s,I n s→wpAny (model prog w) A (pyNext it) (fun r s₁=>match r with
   | none=>R (.ok .next) s₁
   | some v=>wpAny (model prog w) A (letOwnedTupleGo t2 it v) (fun _ s₁'=>wpAny (model prog w) A (assign t2 env v) (fun _ s₂=>
    wpAny (model prog w) A (forIn c2 true fun c r=>if r=true then do let ok ← isTrue c env (eval c env);pure (ForInStep.yield ok) else pure (ForInStep.yield r)) (fun ok s₃=>
     if ok=true then wpAny (model prog w) A (eval elt env) (fun x s₄=>
      wpAny (model prog w) A (call (.builtin "list.append") [acc,x]) (fun _ s₅=>∃ m,m<n∧I m s₅) (fun _ _=>False) s₄) (fun _ _=>False) s₃
     else ∃ m,m<n∧I m s₃) (fun _ _=>False) s₂) (fun _ _=>False) s₁') (fun _ _=>False) s₁) (fun _ _=>False) s)
 (n:Nat) (h:I n s) :
 codeAny (model prog w) A (.compLoop (.ListComp elt [⟨t1,i1,c1,0⟩,⟨t2,i2,c2,0⟩] scope pos) 1 it acc env) R s:=by
 refine codeAny_loop rfl I (fun n s hI=>?_) n h
 show wpAny _ A ((compTurn (.ListComp elt [⟨t1,i1,c1,0⟩,⟨t2,i2,c2,0⟩] scope pos) 1 it acc env).onRaise (fun x=>do noteFrame x env;theTreesLotGoes x)) _ _ s
 refine wpAny_noted ?_
 rw [two_inner]
 refine wpAny_bind (wpAny_standAt (wpAny_bind (wpAny_mono (turn n s hI) (fun r s₁ h₁=>?_) fun _ _ h'=>h'.elim)))
 cases r with
 | none=>exact wpAny_pure h₁
 | some v=>
   refine wpAny_bind (wpAny_mono h₁ (fun _ s₁' h₁'=>?_) fun _ _ h'=>h'.elim)
   refine wpAny_bind (wpAny_mono h₁' (fun _ s₂ h₂=>wpAny_bind (wpAny_mono h₂ (fun ok s₃ h₃=>?_) fun _ _ h'=>h'.elim)) fun _ _ h'=>h'.elim)
   cases ok with
   | false=>exact wpAny_pure ⟨rfl,h₃⟩
   | true=>
     exact wpAny_bind (wpAny_bind (wpAny_mono h₃ (fun x s₄ h₄=>wpAny_bind (wpAny_mono h₄ (fun _ s₅ h₅=>wpAny_pure (wpAny_pure ⟨rfl,h₅⟩)) fun _ _ h'=>h'.elim)) fun _ _ h'=>h'.elim))
theorem start_inner {elt t1 i1 t2 i2:Expr} {c1 c2:List Expr} {scope:Scope} {pos:Pos} {it acc:Value} {env:Env}
 (h0:codeAny (model prog w) A (.compLoop (.ListComp elt [⟨t1,i1,c1,0⟩,⟨t2,i2,c2,0⟩] scope pos) 1 it acc env) R s)
 (h:wpAny (model prog w) A (pyIter it) (fun it' s'=>codeAny (model prog w) A (.compLoop (.ListComp elt [⟨t1,i1,c1,0⟩,⟨t2,i2,c2,0⟩] scope pos) 1 it' acc env) R s')
   (notedBy (model prog w) A env fun x s'=>R (.error x) s') s) :
 codeAny (model prog w) A (.compStart (.ListComp elt [⟨t1,i1,c1,0⟩,⟨t2,i2,c2,0⟩] scope pos) 1 it acc env) R s:=by
 refine codeAny_of_tree ?_
 show wpAny _ _ ((compStart (.ListComp elt [⟨t1,i1,c1,0⟩,⟨t2,i2,c2,0⟩] scope pos) 1 it acc env).onRaise (fun x=>do noteFrame x env;standAt theWindowsPlace)) _ _ s
 refine wpAny_notedAt ?_
 unfold compStart
 show wpAny _ _ (ask >>= _) _ _ s
 refine wpAny_bind (wpAny_askSetting (wpAny_ite ?_))
 split
 · first
    | exact wpAny_bind (wpAny_pure (wpAny_pure (And.intro rfl h0)))
    | exact wpAny_pure (And.intro rfl h0)
 · first
    | exact wpAny_bind (wpAny_rule (wpAny_bind (wpAny_standAt (wpAny_bind (wpAny_mono h (fun it' s' h'=>wpAny_pure (And.intro rfl h')) fun _ _ x=>x)))))
    | (refine wpAny_bind (wpAny_rule ?_);show wpAny _ _ (standAt i2.pos >>= _) _ _ s;exact wpAny_bind (wpAny_standAt (wpAny_bind (wpAny_mono h (fun it' s' h'=>wpAny_pure (And.intro rfl h')) fun _ _ x=>x))))
theorem loop_outer {elt t1 i1 t2 i2:Expr} {c1 c2:List Expr} {scope:Scope} {pos:Pos} {it acc:Value} {env:Env} (I:Nat→Shared→Prop)
 (hs:∀ x,foldedSetIterable i2 env x=pure x)
 (turn:∀ n s,I n s→wpAny (model prog w) A (pyNext it) (fun r s₁=>match r with
   | none=>R (.ok .next) s₁
   | some v=>wpAny (model prog w) A (letOwnedTupleGo t1 it v) (fun _ s₁'=>wpAny (model prog w) A (assign t1 env v) (fun _ s₂=>
    wpAny (model prog w) A (forIn c1 true fun c r=>if r=true then do let ok ← isTrue c env (eval c env);pure (ForInStep.yield ok) else pure (ForInStep.yield r)) (fun ok s₃=>
     if ok=true then wpAny (model prog w) A (eval i2 env) (fun x s₄=>wpAny (model prog w) A (pyIter x) (fun it2 s₅=>
      codeAny (model prog w) A (.compStart (.ListComp elt [⟨t1,i1,c1,0⟩,⟨t2,i2,c2,0⟩] scope pos) 1 it2 acc env) (fun r s₆=>r=.ok .next∧∃ m,m<n∧I m s₆) s₅) (fun _ _=>False) s₄) (fun _ _=>False) s₃
     else ∃ m,m<n∧I m s₃) (fun _ _=>False) s₂) (fun _ _=>False) s₁') (fun _ _=>False) s₁) (fun _ _=>False) s)
 (n:Nat) (h:I n s) :
 codeAny (model prog w) A (.compLoop (.ListComp elt [⟨t1,i1,c1,0⟩,⟨t2,i2,c2,0⟩] scope pos) 0 it acc env) R s:=by
 refine codeAny_loop rfl I (fun n s hI=>?_) n h
 show wpAny _ A ((compTurn (.ListComp elt [⟨t1,i1,c1,0⟩,⟨t2,i2,c2,0⟩] scope pos) 0 it acc env).onRaise (fun x=>do noteFrame x env;theTreesLotGoes x)) _ _ s
 refine wpAny_noted ?_
 rw [two_outer]
 refine wpAny_bind (wpAny_standAt (wpAny_bind (wpAny_mono (turn n s hI) (fun r s₁ h₁=>?_) fun _ _ h'=>h'.elim)))
 cases r with
 | none=>exact wpAny_pure h₁
 | some v=>
   refine wpAny_bind (wpAny_mono h₁ (fun _ s₁' h₁'=>?_) fun _ _ h'=>h'.elim)
   refine wpAny_bind (wpAny_mono h₁' (fun _ s₂ h₂=>wpAny_bind (wpAny_mono h₂ (fun ok s₃ h₃=>?_) fun _ _ h'=>h'.elim)) fun _ _ h'=>h'.elim)
   cases ok with
   | false=>exact wpAny_pure ⟨rfl,h₃⟩
   | true=>
     refine wpAny_bind (wpAny_mono h₃ (fun x s₄ h₄=>wpAny_bind (wpAny_standAt ?_)) fun _ _ h'=>h'.elim)
     refine wpAny_bind (wpAny_of_eq (t:=foldedSetIterable i2 env x) (hs x) ?_)
     refine wpAny_bind (wpAny_holding (wpAny_mono (t:=pyIter x) h₄ (fun it2 s₅ h₅=>?_) fun _ _ h'=>h'.elim))
     refine wpAny_bind (wpAny_runOwn (codeAny_mono h₅ (fun r s₆ h₆=>?_)))
     obtain ⟨rfl,h₆⟩:=h₆
     exact wpAny_pure ⟨rfl,h₆⟩
end
section
variable {X:Cx} {nv:List Str} {ix:List (Str×Nat)} {scope:Scope} {pins:List (Addr×Obj)} {σ:St} {H:Hp} {s:Shared} {elt t1 i1 t2 i2:Expr} {c1 c2:List Expr} {pos:Pos}
def CmpI (g:TG) (ti:TT) (te:TE) (σ:St) (J:It) (ys0:List V) (Fin:List V→Hp→Prop) (H1:Hp):Prop:=
 ∃ W:Nat→Nat→List V→Hp→Prop,(∃ m,W 0 m ys0 H1)∧∀ i m ys H,W i m ys H →
   (J.stop i H∧Fin ys H)∨(J.go i H∧ys.length<sizeLine∧∃ N:List V→Hp→Prop,(∀ ys' H',N ys' H'→∃ m',m' < m∧W (i+1) m' ys' H') ∧
     ∀ x H',J.yld i H x H'→g x σ H' fun σ2 H2=>ti σ2 H2 fun b H3=>if b=true then te σ2 H3 fun y H4=>N (ys++[y]) H4 else N ys H3)
def CmpW2 (nv:List Str) (ix:List (Str×Nat)) (g1:TG) (ti1:TT) (wi2:TI) (g2:TG) (ti2:TT) (te:TE) (σ:St) (J:It) (Fin:List V→Hp→Prop) (H1:Hp):Prop:=
 ∃ W:Nat→Nat→List V→Hp→Prop,(∃ m,W 0 m [] H1)∧∀ i m ys H,W i m ys H →
   (J.stop i H∧Fin ys H)∨(J.go i H∧∃ N:List V→Hp→Prop,(∀ ys' H',N ys' H'→∃ m',m' < m∧W (i+1) m' ys' H') ∧
     ∀ x H',J.yld i H x H'→g1 x (st0 nv ix σ) H' fun σ1 H2=>ti1 σ1 H2 fun b H3=>if b=true then wi2 σ1 H3 fun J2 H4=>CmpI g2 ti2 te σ1 J2 ys N H4 else N ys H3)
def KpT (g2:TG) (σ1:St):Prop:=∀ (v:V) (H:Hp) (Q:St→Hp→Prop),g2 v σ1 H Q→g2 v σ1 H fun σ2 H2=>Kp σ1 σ2∧Q σ2 H2
def KpG2 (nv:List Str) (g1 g2:TG):Prop:=∀ (fr:St) (v:V) (H:Hp) (Q:St→Hp→Prop),g1 v (nv.map (fun _=>none)++fr) H Q→g1 v (nv.map (fun _=>none)++fr) H fun σ1 H1=>(Kp (nv.map (fun _=>none)++fr) σ1∧KpT g2 σ1)∧Q σ1 H1
theorem inner_run {D:Addr} {J:It} {fp:List Addr} {it:Addr} {tn:Nat→Heap→Prop} {g:TG} {ti:TT} {te:TE} {N:List V→Hp→Prop} {pl:List (Addr×Obj)} {ys:List V} {its:List Value} {k:Nat}
 (hc:X.calm=true) (hp0:X.pn=[]) (I:Inv X ([(D,lobj its k)]++pl) σ H s) (rv:Vals ys its) (hz:ys.length≤sizeLine) (T:Turn X.prog X.w X.K t2 J fp it tn) (st:tn 0 s.heap) (hf:∀ b∈fp,FpOk X ([(D,lobj its k)]++pl) H b)
 (hD1:D∈X.ex∨X.s₀.heap.objs.size≤D) (hD2:∀ x c,X.env.cells.lookup x=some c→c≠D) (hD3:∀ p∈pl,p.1≠D)
 (kg:KpT g σ) (hg:PG X t2 g) (hi:PIf X c2 ti) (he:PE X elt te) (hx:X.xe=fun _ _=>False) (q:CmpI g ti te σ J ys N H) :
 codeAny (model X.prog X.w) X.A (.compStart (.ListComp elt [⟨t1,i1,c1,0⟩,⟨t2,i2,c2,0⟩] scope pos) 1 (.ref it) (.ref D) X.env)
  (fun r s'=>r=.ok .next∧∃ H' ys' its' k',Inv X ([(D,lobj its' k')]++pl) σ H' s'∧Vals ys' its'∧ys'.length≤sizeLine∧N ys' H') s:=by
 obtain ⟨W,⟨m0,w0⟩,turn⟩:=q
 have fpD:∀ b∈fp,b≠D:=fun b hb z=>by
  have:=(hf b hb).2.2.2.2.2 (D,lobj its k) (by rw [hp0];simp)
  exact this z.symm
 have fpc:∀ {H':Hp} {its':List Value} {k':Nat},(∀ b∈fp,H' b=none)→∀ b∈fp,FpOk X ([(D,lobj its' k')]++pl) H' b:=fun {H' its' k'} hn b hb=>by
  obtain ⟨_,f1,f2,f3,f4,f5⟩:=hf b hb
  refine ⟨hn b hb,f1,f2,f3,f4,fun p hp z=>?_⟩
  rw [hp0,List.nil_append] at hp
  rcases List.mem_append.mp hp with hp | hp
  · have e:p=(D,lobj its' k'):=by simpa using hp
    subst e
    exact fpD b hb z.symm
  · exact f5 p (by rw [hp0,List.nil_append];exact List.mem_append_right _ hp) z
 have loop:codeAny (model X.prog X.w) X.A (.compLoop (.ListComp elt [⟨t1,i1,c1,0⟩,⟨t2,i2,c2,0⟩] scope pos) 1 (.ref it) (.ref D) X.env)
  (fun r s'=>r=.ok .next∧∃ H' ys' its' k',Inv X ([(D,lobj its' k')]++pl) σ H' s'∧Vals ys' its'∧ys'.length≤sizeLine∧N ys' H') s:=by
  refine loop_inner (fun n s'=>∃ i H' ys its k,Inv X ([(D,lobj its k)]++pl) σ H' s'∧Vals ys its∧ys.length≤sizeLine∧tn i s'.heap∧(∀ b∈fp,H' b=none)∧W i n ys H')
   ?_ m0 ⟨0,H,ys,its,k,I,rv,hz,st,fun b hb=>(hf b hb).1,w0⟩
  rintro n s3 ⟨i,H3,ys,its,k,I3,rv,hz,st3,fr3,w3⟩
  rcases turn i n ys H3 w3 with ⟨stop,fin0⟩ | ⟨go,hlt',N',hN,step⟩
  · refine thn (T.done X rfl rfl rfl hc i _ s3 _ H3 _ I3 (fpc fr3) st3 stop) fun r s4 ⟨hr,I4⟩=>?_
    subst hr
    exact ⟨rfl,H3,ys,its,k,I4,rv,hz,fin0⟩
  · refine thn (T.item X rfl rfl rfl hc i _ s3 _ H3 _ I3 (fpc fr3) st3 go) fun r s4 ⟨u,hr,h4⟩=>?_
    subst hr
    refine thn h4 fun _ s5 ⟨x,H5,I5,r5,y5,st5,fr5⟩=>?_
    have I5':=I5.pinned (fpc fr5) (T.obj _ _ st5)
    have hg':=hg _ s5 _ H5 x u _ I5' r5 (kg _ _ _ (step x H5 y5))
    rw [hx] at hg'
    refine thn hg' fun _ s6 ⟨σ6,H6,I6,kp,q6⟩=>?_
    have hi':=hi _ s6 σ6 H6 _ I6 q6
    rw [hx] at hi'
    refine thn hi' fun b s7 ⟨H7,I7,q7⟩=>?_
    have again:∀ {s7:Shared} {H7:Hp} {ys' its':List _} {k':Nat},Inv X (([(D,lobj its' k')]++pl)++pinsAt fp s5.heap) σ6 H7 s7→Vals ys' its'→ys'.length≤sizeLine→N' ys' H7 →
     ∃ m,m<n∧∃ i H' ys its k,Inv X ([(D,lobj its k)]++pl) σ H' s7∧Vals ys its∧ys.length≤sizeLine∧tn i s7.heap∧(∀ b∈fp,H' b=none)∧W i m ys H':=fun {s7 H7 ys' its' k'} I8 rv' hz' n8=>by
     obtain ⟨m',hm,w8⟩:=hN _ _ n8
     have pn:=fun (b:Addr) (o:Obj) (hb:b∈fp) (e:s5.heap.get? b=some o)=>I8.pin (b,o) (List.mem_append_right _ (List.mem_append_right _ (mem_pinsAt hb e)))
     refine ⟨m',hm,i+1,H7,ys',its',k',(I8.unpinned).weak kp.1 kp.2,rv',hz',T.keep _ _ _ st5 fun b hb o e=>(pn b o hb e).1,fun b hb=>?_,w8⟩
     obtain ⟨o,e,d⟩:=T.obj _ _ st5 b hb
     exact (pn b o hb e).2.1
    cases b with
    | false=>
      rw [if_neg Bool.false_ne_true] at q7 ⊢
      exact again I7 rv hz q7
    | true=>
      rw [if_pos rfl] at q7 ⊢
      have he':=he _ s7 σ6 H7 _ I7 q7
      rw [hx] at he'
      refine thn he' fun u8 s8 ⟨y,H8,I8,r8,q8⟩=>?_
      obtain ⟨p1,p2,p3,p4,p5⟩:=I8.pin (D,lobj its k) (List.mem_append_right _ List.mem_cons_self)
      refine append_at (hsz:=by rw [List.size_toArray,← rv.length];exact Nat.le_of_lt hlt') p1 fun h9 hs9 hD9=>?_
      have I9:Inv X (pl++pinsAt fp s5.heap) σ6 H8 { s8 with heap:=h9 }:=by
       have Iu:Inv X (pl++pinsAt fp s5.heap) σ6 H8 s8:=I8.pins_of fun p hp=>I8.pin p (List.mem_append_right _ (by rw [List.append_assoc];exact List.mem_append_right _ hp))
       refine Iu.turned (t':=s8.toks) (it:=D) (fun b o hb e=>(hs9.2 b hb).trans e) p2 p3 hD1 hD2 fun p hp z=>?_
       rw [hp0,List.nil_append] at hp
       rcases List.mem_append.mp hp with hp | hp
       · exact hD3 p hp z
       · obtain ⟨hb,_⟩:=of_pinsAt hp
         exact fpD _ hb z
      have I10:Inv X (([(D,lobj (its++[u8]) (k+1))]++pl)++pinsAt fp s5.heap) σ6 H8 { s8 with heap:=h9 }:=
       I9.pins_of fun p hp=>by
        rw [List.append_assoc] at hp
        rcases List.mem_append.mp hp with hp | hp
        · have e:p=(D,lobj (its++[u8]) (k+1)):=by simpa using hp
          subst e
          refine ⟨?_,p2,p3,p4,fun v z=>by cases z⟩
          rw [List.push_toArray] at hD9
          exact hD9
        · exact I9.pin p (List.mem_append_right _ hp)
      exact again I10 (rv.append (.cons r8 .nil)) (by rw [List.length_append,List.length_singleton];exact hlt') q8
 exact start_inner loop (T.self _ 0 _ _ _ st loop)
theorem comp_run2 {J:It} {fp:List Addr} {it:Addr} {tn:Nat→Heap→Prop} {g1 g2:TG} {ti1 ti2:TT} {wi2:TI} {te:TE} {Fin:List V→Hp→Prop} {E:Value→Shared→Prop} {RR:Value→Addr→Result→Shared→Prop}
 (co:CompOk X nv ix scope) (hc:X.calm=true) (I:Inv X pins σ H s) (T:Turn X.prog X.w X.K t1 J fp it tn) (st:tn 0 s.heap) (hf:∀ b∈fp,FpOk X pins H b)
 (kg:KpG2 nv g1 g2) (hg:∀ C s₀ H₀ fp,PG (cmpX X nv ix scope C s₀ H₀ fp) t1 g1) (hi:∀ C s₀ H₀ fp,PIf (cmpX X nv ix scope C s₀ H₀ fp) c1 ti1)
 (hw2:∀ C s₀ H₀ fp,PI (cmpX X nv ix scope C s₀ H₀ fp) t2 i2 wi2) (hg2:∀ C s₀ H₀ fp,PG (cmpX X nv ix scope C s₀ H₀ fp) t2 g2) (hi2:∀ C s₀ H₀ fp,PIf (cmpX X nv ix scope C s₀ H₀ fp) c2 ti2) (he:∀ C s₀ H₀ fp,PE (cmpX X nv ix scope C s₀ H₀ fp) elt te)
 (hs2:∀ C s₀ H₀ fp x,foldedSetIterable i2 (cmpX X nv ix scope C s₀ H₀ fp).env x=pure x)
 (q:CmpW2 nv ix g1 ti1 wi2 g2 ti2 te σ J Fin H)
 (fin:∀ D C s' H' ys,Inv X pins σ (upd H' D (.lst ys)) s'→H' D=none→Fin ys H'→(∃ m,s'.heap.Ns C m)→FpOk X pins (upd H' D (.lst ys)) C→RR (.ref D) C (.ok .next) s') :
 wpAny (model X.prog X.w) X.A (newList []) (fun acc s₃=>wpAny (model X.prog X.w) X.A (newFunctionEnv scope X.env.globals (clsOf X.env scope.names []) [] X.env.qual none .none (some X.env)) (fun cenv s₄=>
  codeAny (model X.prog X.w) X.A (.compStart (.ListComp elt [⟨t1,i1,c1,0⟩,⟨t2,i2,c2,0⟩] scope pos) 0 (.ref it) acc { cenv with scope:=relabel scope X.env }) (RR acc cenv.locals) s₄) E s₃) E s:=by
 obtain ⟨W,⟨m0,w0⟩,turn⟩:=q
 refine wpAny_newObj_type (wpAny_newFunctionEnv co.nocell (by intro y hy;simp at hy) (fun h₁ hns₁ hsb₁=>?_) co.kind)
 dsimp only at hns₁ hsb₁ ⊢
 generalize hH2:s.heap.push { cls:=.type "list",dict:=none,data:=.seq ([]:List Value).toArray }=H2 at hns₁ hsb₁ ⊢
 have hC:H2.objs.size=s.heap.objs.size+1:=by rw [← hH2,Heap.size_push]
 rw [hC] at hns₁ hsb₁ ⊢
 have hDC:s.heap.objs.size≠s.heap.objs.size+1:=Nat.ne_of_lt (Nat.lt_succ_self _)
 have below:∀ b,b<s.heap.objs.size→b≠s.heap.objs.size+1∧b≠s.heap.objs.size:=fun b hb=>⟨Nat.ne_of_lt (Nat.lt_succ_of_lt hb),Nat.ne_of_lt hb⟩
 have old:∀ b o,s.heap.get? b=some o→h₁.get? b=some o:=fun b o e=>hsb₁.extBut b o (below b (Heap.lt_size e)).1 (Heap.get?_push_of_some _ (hH2▸Heap.get?_push_of_some _ e))
 have hacc:h₁.get? s.heap.objs.size=some (lobj [] 0):=hsb₁.extBut _ _ hDC (Heap.get?_push_of_some _ (hH2▸Heap.get?_push_size _ rfl))
 have hlt:∀ b∈fp,b<s.heap.objs.size:=fun b hb=>by
  obtain ⟨o,e,_⟩:=T.obj 0 _ st b hb
  exact Heap.lt_size e
 have I₁:=fun tk=>cmp_start (tk:=tk) co I hf hlt hns₁ old hacc
 have st₁:tn 0 h₁:=T.keep 0 _ _ st fun b _ o e=>old b o e
 have fpD:∀ {H':Hp},H' s.heap.objs.size=none→FpOk X pins H' s.heap.objs.size:=fun hn=>I.fpOk (Nat.le_refl _) hn
 have loop:∀ tk:Nat,codeAny (model X.prog X.w) X.A (.compLoop (.ListComp elt [⟨t1,i1,c1,0⟩,⟨t2,i2,c2,0⟩] scope pos) 0 (.ref it) (.ref s.heap.objs.size) (compEnvC scope (clsOf X.env scope.names []) (s.heap.objs.size+1) X.env))
  (RR (.ref s.heap.objs.size) (s.heap.objs.size+1)) { s with heap:=h₁,toks:=tk }:=by
  intro tk
  refine loop_outer (fun n s'=>∃ i H' ys its k,Inv (cmpX X nv ix scope (s.heap.objs.size+1) s H fp) [(s.heap.objs.size,lobj its k)] (st0 nv ix σ) H' s'∧Vals ys its∧ys.length≤sizeLine∧tn i s'.heap∧(∀ b∈fp,H' b=none)∧W i n ys H')
   (hs2 (s.heap.objs.size+1) s H fp) ?_ m0 ⟨0,H,[],[],0,I₁ tk,.nil,Nat.zero_le _,st₁,fun b hb=>(hf b hb).1,w0⟩
  rintro n s3 ⟨i,H3,ys,its,k,I3,rv,hz,st3,fr3,w3⟩
  have fpc:∀ {H':Hp} {its:List Value} {k:Nat},(∀ b∈fp,H' b=none)→∀ b∈fp,FpOk (cmpX X nv ix scope (s.heap.objs.size+1) s H fp) [(s.heap.objs.size,lobj its k)] H' b:=fun {H' its k} hn b hb=>by
   refine ⟨hn b hb,(below b (hlt b hb)).1,fun hs=>?_,.inl hb,fun x c e=>(hf b hb).2.2.2.2.1 x c (co.look I.ok e),fun p hp z=>?_⟩
   · rcases List.mem_cons.mp (I.stkSub b hs) with e | h
     · exact (hf b hb).2.1 e
     · exact (hf b hb).2.2.1 h
   · have e:p=(s.heap.objs.size,lobj its k):=by simpa [cmpX] using hp
     subst e
     exact (below b (hlt b hb)).2 z.symm
  have pD:=fun {ps:List (Addr×Obj)} {σ':St} {H':Hp} {s':Shared} (I':Inv (cmpX X nv ix scope (s.heap.objs.size+1) s H fp) ((s.heap.objs.size,lobj its k)::ps) σ' H' s')=>
   I'.pin (s.heap.objs.size,lobj its k) (List.mem_append_right _ List.mem_cons_self)
  rcases turn i n ys H3 w3 with ⟨stop,fin0⟩ | ⟨go,N,hN,step⟩
  · refine thn (T.done (cmpX X nv ix scope (s.heap.objs.size+1) s H fp) rfl rfl rfl hc i _ s3 _ H3 _ I3 (fpc fr3) st3 stop) fun r s4 ⟨hr,I4⟩=>?_
    subst hr
    obtain ⟨p1,p2,_⟩:=pD I4
    have I5:=(cmp_end I hf I4).track rv hz p1 p2 (fpD p2)
    obtain ⟨mC,hmC,_⟩:=I4.loc
    exact fin _ _ s4 H3 ys I5 p2 fin0 ⟨mC,hmC⟩ (I.fpOk (Nat.le_succ _) (by rw [upd_ne (Ne.symm hDC)];exact I4.free))
  · refine thn (T.item (cmpX X nv ix scope (s.heap.objs.size+1) s H fp) rfl rfl rfl hc i _ s3 _ H3 _ I3 (fpc fr3) st3 go) fun r s4 ⟨u,hr,h4⟩=>?_
    subst hr
    refine thn h4 fun _ s5 ⟨x,H5,I5,r5,y5,st5,fr5⟩=>?_
    have I5':=I5.pinned (fpc fr5) (T.obj _ _ st5)
    refine thn (hg _ _ _ _ _ s5 _ H5 x u _ I5' r5 (kg _ _ _ _ (step x H5 y5))) fun _ s6 ⟨σ6,H6,I6,⟨kp,kt⟩,q6⟩=>?_
    refine thn (hi _ _ _ _ _ s6 σ6 H6 _ I6 q6) fun b s7 ⟨H7,I7,q7⟩=>?_
    have again:∀ {s7:Shared} {H7:Hp} {ys' its':List _} {k':Nat},Inv (cmpX X nv ix scope (s.heap.objs.size+1) s H fp) ([(s.heap.objs.size,lobj its' k')]++pinsAt fp s5.heap) σ6 H7 s7→Vals ys' its'→ys'.length≤sizeLine→N ys' H7 →
     ∃ m,m<n∧∃ i H' ys its k,Inv (cmpX X nv ix scope (s.heap.objs.size+1) s H fp) [(s.heap.objs.size,lobj its k)] (st0 nv ix σ) H' s7∧Vals ys its∧ys.length≤sizeLine∧tn i s7.heap∧(∀ b∈fp,H' b=none)∧W i m ys H':=fun {s7 H7 ys' its' k'} I8 rv' hz' n8=>by
     obtain ⟨m',hm,w8⟩:=hN _ _ n8
     have pn:=fun (b:Addr) (o:Obj) (hb:b∈fp) (e:s5.heap.get? b=some o)=>I8.pin (b,o) (List.mem_append_right _ (List.mem_append_right _ (mem_pinsAt hb e)))
     refine ⟨m',hm,i+1,H7,ys',its',k',(I8.unpinned).weak kp.1 kp.2,rv',hz',T.keep _ _ _ st5 fun b hb o e=>(pn b o hb e).1,fun b hb=>?_,w8⟩
     obtain ⟨o,e,d⟩:=T.obj _ _ st5 b hb
     exact (pn b o hb e).2.1
    cases b with
    | false=>
      rw [if_neg Bool.false_ne_true] at q7 ⊢
      exact again I7 rv hz q7
    | true=>
      rw [if_pos rfl] at q7 ⊢
      refine thn (hw2 _ _ _ _ _ s7 σ6 H7 _ I7 q7) fun v8 s8 h8=>thn h8 fun itv s9 h9=>?_
      obtain ⟨it2,fp2,tn2,J2,H9,e9,I9,T2,st9,f9,q9⟩:=h9
      subst e9
      refine codeAny_mono (inner_run (X:=cmpX X nv ix scope (s.heap.objs.size+1) s H fp) (elt:=elt) (t1:=t1) (i1:=i1) (c1:=c1) (i2:=i2) hc rfl I9 rv hz T2 st9 f9 (.inr (Nat.le_refl _)) (fun x c e z=>?_) (fun p hp z=>?_) kt (hg2 _ _ _ _) (hi2 _ _ _ _) (he _ _ _ _) rfl q9) fun r s10 h10=>?_
      · obtain ⟨v,o,e1,_⟩:=I.cell x c (co.look I.ok e)
        exact absurd (Heap.lt_size e1) (by rw [z];exact Nat.lt_irrefl _)
      · obtain ⟨hb,_⟩:=of_pinsAt hp
        exact (below _ (hlt _ hb)).2 z
      · obtain ⟨rfl,H10,ys',its',k',I10,rv10,hz10,n10⟩:=h10
        exact ⟨rfl,again I10 rv10 hz10 n10⟩
 exact codeAny_compStart_list (loop _) (T.self _ 0 _ _ _ st₁ (loop _))
def tComp2 (nv:List Str) (ix:List (Str×Nat)) (wi:TI) (g1:TG) (ti1:TT) (wi2:TI) (g2:TG) (ti2:TT) (te:TE):TE:=fun σ H Q=>wi σ H fun J H1=>CmpW2 nv ix g1 ti1 wi2 g2 ti2 te σ J (fun ys H2=>∀ D,H2 D=none→Q (.ref D) (upd H2 D (.lst ys))) H1
theorem pe_two {wi wi2:TI} {g1 g2:TG} {ti1 ti2:TT} {te:TE} (nv:List Str) (ix:List (Str×Nat)) (hc:X.calm=true) (co:CompOk X nv ix scope) (hit:PI X t1 i1 wi) (kg:KpG2 nv g1 g2) (hg:∀ C s₀ H₀ fp,PG (cmpX X nv ix scope C s₀ H₀ fp) t1 g1)
 (hi:∀ C s₀ H₀ fp,PIf (cmpX X nv ix scope C s₀ H₀ fp) c1 ti1) (hw2:∀ C s₀ H₀ fp,PI (cmpX X nv ix scope C s₀ H₀ fp) t2 i2 wi2) (hg2:∀ C s₀ H₀ fp,PG (cmpX X nv ix scope C s₀ H₀ fp) t2 g2) (hi2:∀ C s₀ H₀ fp,PIf (cmpX X nv ix scope C s₀ H₀ fp) c2 ti2) (he:∀ C s₀ H₀ fp,PE (cmpX X nv ix scope C s₀ H₀ fp) elt te)
 (hs:∀ x,foldedSetIterable i1 X.env x=pure x:=by intro _;rfl) (hs2:∀ C s₀ H₀ fp x,foldedSetIterable i2 (cmpX X nv ix scope C s₀ H₀ fp).env x=pure x:=by intro _ _ _ _ _;rfl):PE X (.ListComp elt [⟨t1,i1,c1,0⟩,⟨t2,i2,c2,0⟩] scope pos) (tComp2 nv ix wi g1 ti1 wi2 g2 ti2 te):=by
 intro pins s σ H Q I h
 rw [eval_ListComp]
 refine wpAny_comprehension_free (use:=none) rfl hs (closure_ok (co.cells I.ok)) co.kind co.names (thn (hit pins s σ H _ I h) fun v s1 h1=>thn h1 fun itv s2 h2=>?_)
 obtain ⟨it,fp,tn,J,H2,e,I2,T,st2,f2,q⟩:=h2
 subst e
 refine comp_run2 co hc I2 T st2 f2 kg hg hi hw2 hg2 hi2 he hs2 q fun D C s' H' ys I' hD fin ⟨m,hm⟩ hC=>?_
 obtain ⟨c0,c1,c2,c3,c4,c5⟩:=hC
 exact ⟨m,hm,fun h' hs'=>⟨.ref D,_,I'.turned (t':=s'.toks) (fun b o hb e=>(hs'.2 b hb).trans e) c0 c1 c3 c4 c5,rfl,fin D hD⟩⟩
theorem ze_two {wi wi2:TI} {g1 g2:TG} {ti1 ti2:TT} {te:TE} (nv:List Str) (ix:List (Str×Nat)) (hc:X.calm=true) (co:CompOk X nv ix scope) (hit:ZI X t1 i1 wi) (kg:KpG2 nv g1 g2) (hg:∀ C s₀ H₀ fp,ZG (cmpX X nv ix scope C s₀ H₀ fp) t1 g1)
 (hi:∀ C s₀ H₀ fp,ZIf (cmpX X nv ix scope C s₀ H₀ fp) c1 ti1) (hw2:∀ C s₀ H₀ fp,ZI (cmpX X nv ix scope C s₀ H₀ fp) t2 i2 wi2) (hg2:∀ C s₀ H₀ fp,ZG (cmpX X nv ix scope C s₀ H₀ fp) t2 g2) (hi2:∀ C s₀ H₀ fp,ZIf (cmpX X nv ix scope C s₀ H₀ fp) c2 ti2) (he:∀ C s₀ H₀ fp,ZE (cmpX X nv ix scope C s₀ H₀ fp) elt te)
 (hs:∀ x,foldedSetIterable i1 X.env x=pure x:=by intro _;rfl) (hs2:∀ C s₀ H₀ fp x,foldedSetIterable i2 (cmpX X nv ix scope C s₀ H₀ fp).env x=pure x:=by intro _ _ _ _ _;rfl):ZE X (.ListComp elt [⟨t1,i1,c1,0⟩,⟨t2,i2,c2,0⟩] scope pos) (tComp2 nv ix wi g1 ti1 wi2 g2 ti2 te):=by with_unfolding_all exact pe_two nv ix hc co hit kg hg hi hw2 hg2 hi2 he hs hs2
theorem kpg2_names {x y:Str}:KpG2 [x,y] (gName 0) (gName 1):=fun fr v H Q h=>by
 refine ⟨⟨⟨by simp,fun i w e=>?_⟩,fun v2 H2 Q2 h2=>⟨⟨by simp,fun i w e=>?_⟩,h2⟩⟩,h⟩
 · match i,e with
   | 0,e=>cases e
   | i+1,e=>exact e
 · match i,e with
   | 0,e=>exact e
   | 1,e=>cases e
   | i+2,e=>exact e
def rMulT:R2:=fun x y H Q=>match x,y with
 | .str z,.int k=>(0≤k∧1≤z.length∧z.length*k.toNat≤sizeLine)∧Q (.str (strMul z k.toNat)) H
 | _,_=>False
theorem strMul_one (z:Str):strMul z 1=z:=by
 unfold strMul
 show (⟨#[]++z.cps⟩:Str)=z
 rw [Array.empty_append]
theorem op_mulT:OpR X (binaryOp .Mult) rMulT:=by
 intro pins s σ H x y v u Q I rx ry h
 unfold rMulT at h
 split at h
 · rename_i z k
   obtain ⟨⟨h1,h2,h3⟩,q⟩:=h
   by_cases h0:k=0
   · subst h0
     obtain ⟨t,rfl⟩:=rx
     obtain ⟨t',rfl⟩:=ry
     exact P.mul_str_none (by decide) (by decide) ⟨.str _,H,I.tok _,⟨_,rfl⟩,q⟩
   by_cases h1':k=1
   · subst h1'
     obtain ⟨t,rfl⟩:=rx
     obtain ⟨t',rfl⟩:=ry
     refine P.mul_str (by decide) (fun _ e=>by rw [show ((1:Int) == 1)=true from rfl,Bool.true_or] at e;cases e) (fun _ e=>by rw [show ((1:Int) == 1)=true from rfl,Bool.true_or] at e;cases e) ?_
     rw [if_neg (by decide),if_pos (by rfl)]
     rw [show (1:Int).toNat=1 from rfl,strMul_one] at q
     exact ⟨.str z,H,I,⟨_,rfl⟩,q⟩
   · exact op_mulS pins s σ H (.str z) (.int k) v u Q I rx ry ⟨⟨by omega,h2,h3⟩,q⟩
 · exact h.elim
end
end L2
namespace M67
open PySem
def jl (c:Nat):List (List Nat)→List Nat
 | []=>[]
 | [x]=>x
 | x::y::r=>x++c::jl c (y::r)
theorem app_list (a b:Str):(a++b).cps.toList=a.cps.toList++b.cps.toList:=by
 show (a.cps++b.cps).toList=_
 exact Array.toList_append
theorem join_list (c:Nat):∀ ys:List Str,(Str.join ⟨#[c]⟩ ys).cps.toList=jl c (ys.map fun y=>y.cps.toList)
 | []=>rfl
 | [x]=>rfl
 | x::y::r=>by
   show ((x++⟨#[c]⟩++Str.join ⟨#[c]⟩ (y::r):Str)).cps.toList=_
   rw [app_list,app_list,join_list c (y::r)]
   show x.cps.toList++[c]++_=x.cps.toList++c::_
   simp
theorem cut_at {c:Nat}:∀ {a b r s:List Nat},c∉a→c∉b→a++c::r=b++c::s→a=b∧r=s
 | [],[],_,_,_,_,e=>⟨rfl,(List.cons.inj e).2⟩
 | [],y::b,_,_,_,hb,e=>absurd (by rw [(List.cons.inj e).1];exact List.mem_cons_self) hb
 | x::a,[],_,_,ha,_,e=>absurd (by rw [← (List.cons.inj e).1];exact List.mem_cons_self) ha
 | x::a,y::b,_,_,ha,hb,e=>by
   obtain ⟨e1,e2⟩:=List.cons.inj e
   obtain ⟨h1,h2⟩:=cut_at (fun h=>ha (List.mem_cons_of_mem _ h)) (fun h=>hb (List.mem_cons_of_mem _ h)) e2
   exact ⟨by rw [e1,h1],h2⟩
theorem jl_inj {c:Nat}:∀ {xs ys:List (List Nat)},xs≠[]→ys≠[]→(∀ x∈xs,c∉x)→(∀ y∈ys,c∉y)→jl c xs=jl c ys→xs=ys
 | [],_,h,_,_,_,_=>absurd rfl h
 | _::_,[],_,h,_,_,_=>absurd rfl h
 | [x],[y],_,_,_,_,e=>by rw [show x=y from e]
 | [x],y::z::r,_,_,hx,_,e=>by
   have:c∈x:=by rw [show x=y++c::jl c (z::r) from e];simp
   exact absurd this (hx x List.mem_cons_self)
 | x::w::q,[y],_,_,_,hy,e=>by
   have:c∈y:=by rw [← show x++c::jl c (w::q)=y from e];simp
   exact absurd this (hy y List.mem_cons_self)
 | x::w::q,y::z::r,_,_,hx,hy,e=>by
   obtain ⟨e1,e2⟩:=cut_at (hx x List.mem_cons_self) (hy y List.mem_cons_self) (show x++c::jl c (w::q)=y++c::jl c (z::r) from e)
   rw [e1,jl_inj (List.cons_ne_nil _ _) (List.cons_ne_nil _ _) (fun u hu=>hx u (List.mem_cons_of_mem _ hu)) (fun u hu=>hy u (List.mem_cons_of_mem _ hu)) e2]
theorem str_ext {a b:Str} (h:a.cps.toList=b.cps.toList):a=b:=by
 cases a;cases b
 congr 1
 exact Array.toList_inj.mp h
theorem map_inj_str:∀ {xs ys:List Str},xs.map (fun y=>y.cps.toList)=ys.map (fun y=>y.cps.toList)→xs=ys
 | [],[],_=>rfl
 | [],_::_,e=>by cases e
 | _::_,[],e=>by cases e
 | x::xs,y::ys,e=>by
   obtain ⟨e1,e2⟩:=List.cons.inj e
   rw [str_ext e1,map_inj_str e2]
theorem split_join {c:Nat} {ys:List Str} (hn:ys≠[]) (h:∀ y∈ys,c∉y.cps.toList):Txt.split (Txt.join ⟨#[c]⟩ ys) ⟨#[c]⟩=ys:=by
 have e0:Txt.join ⟨#[c]⟩ ys=Str.join ⟨#[c]⟩ ys:=StrLaws.glued_eq_join _ _
 rw [e0]
 have e1:=StrLaws.join_split (Str.join ⟨#[c]⟩ ys) ⟨#[c]⟩
 have hf:=StrLaws.split_free (Str.join ⟨#[c]⟩ ys) c
 have hp:=PyProof.Rows.split_pos (Str.join ⟨#[c]⟩ ys) ⟨#[c]⟩
 generalize Txt.split (Str.join ⟨#[c]⟩ ys) ⟨#[c]⟩=zs at e1 hf hp
 have hz:zs≠[]:=fun z=>by rw [z] at hp;exact absurd hp (by decide)
 refine map_inj_str (jl_inj (c:=c) (by simpa using hz) (by simpa using hn) ?_ ?_ ?_)
 · intro x hx
   obtain ⟨y,hy,rfl⟩:=List.mem_map.mp hx
   exact hf y hy
 · intro x hx
   obtain ⟨y,hy,rfl⟩:=List.mem_map.mp hx
   exact h y hy
 · rw [← join_list,← join_list,e1]
def nt (n:Int):Str:=Str.ofString (toString n)
theorem nt_signs (m:Nat):(nt (m:Int)).cps.toList=(Nat.toDigits 10 m).map Char.toNat:=PySem.W.KIN.signs_num m
theorem dig_range {ch:Char} (h:ch.isDigit=true):48≤ch.toNat∧ch.toNat≤57:=by
 unfold Char.isDigit at h
 rw [Bool.and_eq_true,decide_eq_true_iff,decide_eq_true_iff] at h
 exact ⟨h.1,h.2⟩
theorem nt_digit {n:Int} (h0:0≤n):∀ c∈(nt n).cps.toList,48≤c∧c≤57:=by
 obtain ⟨m,rfl⟩:=Int.eq_ofNat_of_zero_le h0
 intro c hc
 rw [nt_signs] at hc
 obtain ⟨ch,hch,rfl⟩:=List.mem_map.mp hc
 exact dig_range (Nat.isDigit_of_mem_toDigits (by decide) (by decide) hch)
theorem td_step {m:Nat} (h:10≤m):Nat.toDigits 10 m=Nat.toDigits 10 (m / 10)++[Nat.digitChar (m % 10)]:=by
 have hm:m % 10<10:=Nat.mod_lt m (by decide)
 have t:Nat.toDigits 10 (m / 10)++Nat.toDigits 10 (m % 10)=Nat.toDigits 10 (10*(m / 10)+m % 10):=Nat.toDigits_append_toDigits (by decide) (by omega) hm
 rw [Nat.div_add_mod] at t
 rw [← t,Nat.toDigits_of_lt_base hm]
theorem td_len:∀ (k m:Nat),m<10 ^ (k+1)→1≤(Nat.toDigits 10 m).length∧(Nat.toDigits 10 m).length≤k+1
 | 0,m,h=>by rw [Nat.toDigits_of_lt_base (by simpa using h)];exact ⟨Nat.le_refl 1,Nat.le_refl 1⟩
 | k+1,m,h=>by
   by_cases hm:m<10
   · rw [Nat.toDigits_of_lt_base hm];exact ⟨Nat.le_refl 1,by show 1≤_;omega⟩
   · rw [td_step (by omega),List.length_append]
     have hlt:m / 10<10 ^ (k+1):=by
      rw [Nat.pow_succ] at h
      omega
     have:=td_len k (m / 10) hlt
     show 1≤_+1∧_+1≤_
     omega
theorem td_first:∀ (m:Nat),1≤m→∃ ch r,Nat.toDigits 10 m=ch::r∧ch.toNat≠48:=by
 intro m
 induction m using Nat.strongRecOn with
 | _ m ih=>
   intro h
   by_cases hm:m<10
   · rw [Nat.toDigits_of_lt_base hm]
     refine ⟨_,_,rfl,?_⟩
     have:∀ d:Nat,d<10→1≤d→(Nat.digitChar d).toNat≠48:=by decide
     exact this m hm h
   · obtain ⟨ch,r,e,hc⟩:=ih (m / 10) (by omega) (by omega)
     rw [td_step (by omega),e]
     exact ⟨ch,_,rfl,hc⟩
theorem nt_len {n:Int} (h0:0≤n) (h1:n<1000000):1≤(nt n).length∧(nt n).length≤6:=by
 obtain ⟨m,rfl⟩:=Int.eq_ofNat_of_zero_le h0
 have t6:(10:Nat) ^ (5+1)=1000000:=by decide
 have:=td_len 5 m (by omega)
 have e:(nt (m:Int)).length=(Nat.toDigits 10 m).length:=by
  show (nt (m:Int)).cps.size=_
  rw [← Array.length_toList,nt_signs,List.length_map]
 omega
theorem nt_first {n:Int} (h:1≤n):∃ c,(nt n).cps.toList[0]? = some c∧c≠48:=by
 obtain ⟨m,rfl⟩:=Int.eq_ofNat_of_zero_le (show 0≤n by omega)
 obtain ⟨ch,r,e,hc⟩:=td_first m (by omega)
 refine ⟨ch.toNat,?_,hc⟩
 rw [nt_signs,e]
 rfl
theorem ten10:(10:Int) ^ 10=10000000000:=by decide
theorem nt_reads {n:Int} (h0:0≤n) (h1:n<1000000):intText? (nt n)=some n:=PySem.W.KIN.num_reads h0 (by rw [ten10];omega)
theorem nt_nosep {n:Int} {c:Nat} (h0:0≤n) (hc:c<48):c∉(nt n).cps.toList:=fun h=>by
 have:=nt_digit h0 c h
 omega
end M67
namespace M68
open PySem M67
inductive Kd where
 | bare (w:Str)
 | one (w:Str) (n:Int)
 | box (a b:Int)
 | rests (m:Int) (rs:List Int)
def Kd.Ok:Kd→Prop
 | .bare w=>w=Str.ofString "all"∨w=Str.ofString "own"
 | .one w n=>((w=Str.ofString "most"∨w=Str.ofString "few"∨w=Str.ofString "off")∧1≤n∧n≤600)∨(w=Str.ofString "times"∧2≤n∧n≤60)
 | .box a b=>(1≤a∧a≤600)∧1≤b∧b≤600
 | .rests m rs=>(2≤m∧m≤60)∧rs≠[]∧rs.Pairwise (· < ·)∧(∀ r∈rs,0≤r∧r<m)∧rs.length≤60
def Kd.words:Kd→List Str
 | .bare w=>[w]
 | .one w n=>[w,nt n]
 | .box a b=>[Str.ofString "box",nt a,nt b]
 | .rests m rs=>[Str.ofString "rests",nt m,Txt.join (Str.ofString ",") (rs.map nt)]
def Kd.text (k:Kd):Str:=Txt.join (Str.ofString " ") k.words
theorem sp_is:(Str.ofString " ")=⟨#[32]⟩:=by decide +kernel
theorem comma_is:(Str.ofString ",")=⟨#[44]⟩:=by decide +kernel
theorem joinE (z:Str) (ys:List Str):Txt.join z ys=Str.join z ys:=StrLaws.glued_eq_join _ _
theorem jl_mem {c d:Nat}:∀ {xs:List (List Nat)},d∈jl c xs→d=c∨∃ x∈xs,d∈x
 | [],h=>by cases h
 | [x],h=>.inr ⟨x,List.mem_cons_self,h⟩
 | x::y::r,h=>by
   have h':d∈x++c::jl c (y::r):=h
   rcases List.mem_append.mp h' with h1 | h1
   · exact .inr ⟨x,List.mem_cons_self,h1⟩
   · rcases List.mem_cons.mp h1 with h2 | h2
     · exact .inl h2
     · rcases jl_mem h2 with h3 | ⟨z,hz,h3⟩
       · exact .inl h3
       · exact .inr ⟨z,List.mem_cons_of_mem _ hz,h3⟩
theorem rs_nosp {rs:List Int} (h:∀ r∈rs,(0:Int)≤r):32∉(Txt.join (Str.ofString ",") (rs.map nt)).cps.toList:=fun z=>by
 rw [comma_is,joinE,join_list] at z
 rcases jl_mem z with z | ⟨x,hx,z⟩
 · exact absurd z (by decide)
 · rw [List.map_map] at hx
   obtain ⟨r,hr,rfl⟩:=List.mem_map.mp hx
   exact nt_nosep (h r hr) (by decide) z
theorem words_nosp {k:Kd} (h:k.Ok):∀ y∈k.words,32∉y.cps.toList:=by
 intro y hy
 cases k with
 | bare w=>
   have e:y=w:=by simpa [Kd.words] using hy
   subst e
   rcases h with rfl | rfl <;> decide +kernel
 | one w n=>
   have e:y=w∨y=nt n:=by simpa [Kd.words] using hy
   rcases e with rfl | rfl
   · rcases h with ⟨rfl | rfl | rfl,_⟩ | ⟨rfl,_⟩ <;> decide +kernel
   · exact nt_nosep (by rcases h with ⟨_,h,_⟩ | ⟨_,h,_⟩ <;> omega) (by decide)
 | box a b=>
   have e:y=Str.ofString "box"∨y=nt a∨y=nt b:=by simpa [Kd.words] using hy
   obtain ⟨⟨h1,_⟩,h2,_⟩:=h
   rcases e with rfl | rfl | rfl
   · decide +kernel
   · exact nt_nosep (by omega) (by decide)
   · exact nt_nosep (by omega) (by decide)
 | rests m rs=>
   obtain ⟨⟨h1,_⟩,_,_,h4,_⟩:=h
   have e:y=Str.ofString "rests"∨y=nt m∨y=Txt.join (Str.ofString ",") (rs.map nt):=by simpa [Kd.words] using hy
   rcases e with rfl | rfl | rfl
   · decide +kernel
   · exact nt_nosep (by omega) (by decide)
   · exact rs_nosp fun r hr=>(h4 r hr).1
theorem text_split {k:Kd} (h:k.Ok):Txt.split k.text (Str.ofString " ")=k.words:=by
 unfold Kd.text
 rw [sp_is]
 refine split_join ?_ (words_nosp h)
 cases k <;> exact List.cons_ne_nil _ _
theorem rs_split {rs:List Int} (hn:rs≠[]) (h:∀ r∈rs,(0:Int)≤r):Txt.split (Txt.join (Str.ofString ",") (rs.map nt)) (Str.ofString ",")=rs.map nt:=by
 rw [comma_is]
 refine split_join (by simpa using hn) fun y hy=>?_
 obtain ⟨r,hr,rfl⟩:=List.mem_map.mp hy
 exact nt_nosep (h r hr) (by decide)
theorem app_len (a b:Str):(a++b).length=a.length+b.length:=by
 show (a.cps++b.cps).size=_
 rw [Array.size_append]
 rfl
theorem join_len (c:Nat):∀ ys:List Str,(Str.join ⟨#[c]⟩ ys).length≤(ys.map (·.length)).sum+ys.length
 | []=>Nat.zero_le _
 | [x]=>by show x.length≤_;simp
 | x::y::r=>by
   have:=join_len c (y::r)
   show ((x++⟨#[c]⟩++Str.join ⟨#[c]⟩ (y::r):Str)).length≤_
   rw [app_len,app_len,show (⟨#[c]⟩:Str).length=1 from rfl]
   simp only [List.map_cons,List.sum_cons,List.length_cons] at this ⊢
   omega
theorem nts_sum {ns:List Int} {k:Nat} (h:∀ n∈ns,(nt n).length≤k):((ns.map nt).map (·.length)).sum≤ns.length*k:=by
 induction ns with
 | nil=>simp
 | cons x r ih=>
   have:=ih fun n hn=>h n (List.mem_cons_of_mem _ hn)
   have:=h x List.mem_cons_self
   simp only [List.map_cons,List.sum_cons,List.length_cons]
   rw [Nat.add_mul,Nat.one_mul]
   omega
theorem rs_len {rs:List Int} (h:∀ r∈rs,0≤r∧r<1000000):(Txt.join (Str.ofString ",") (rs.map nt)).length≤rs.length*7:=by
 rw [comma_is,joinE]
 have h1:=join_len 44 (rs.map nt)
 have h2:=nts_sum (ns:=rs) (k:=6) fun r hr=>(nt_len (h r hr).1 (h r hr).2).2
 rw [List.length_map] at h1
 omega
theorem words_len {k:Kd} (h:k.Ok):(k.words.map (·.length)).sum≤440∧k.words.length≤3:=by
 cases k with
 | bare w=>
   refine ⟨?_,by show 1≤3;decide⟩
   show w.length+0≤440
   have:w.length≤3:=by rcases h with rfl | rfl <;> decide +kernel
   omega
 | one w n=>
   refine ⟨?_,by show 2≤3;decide⟩
   show w.length+((nt n).length+0)≤440
   have:w.length≤5:=by rcases h with ⟨rfl | rfl | rfl,_⟩ | ⟨rfl,_⟩ <;> decide +kernel
   have:=(nt_len (n:=n) (by rcases h with ⟨_,h,_⟩ | ⟨_,h,_⟩ <;> omega) (by rcases h with ⟨_,_,h⟩ | ⟨_,_,h⟩ <;> omega)).2
   omega
 | box a b=>
   obtain ⟨⟨h1,h2⟩,h3,h4⟩:=h
   refine ⟨?_,by show 3≤3;decide⟩
   show (Str.ofString "box").length+((nt a).length+((nt b).length+0))≤440
   have:(Str.ofString "box").length=3:=by decide +kernel
   have:=(nt_len (n:=a) (by omega) (by omega)).2
   have:=(nt_len (n:=b) (by omega) (by omega)).2
   omega
 | rests m rs=>
   obtain ⟨⟨h1,h2⟩,h3,h4,h5,h6⟩:=h
   refine ⟨?_,by show 3≤3;decide⟩
   show (Str.ofString "rests").length+((nt m).length+((Txt.join (Str.ofString ",") (rs.map nt)).length+0))≤440
   have:(Str.ofString "rests").length=5:=by decide +kernel
   have:=(nt_len (n:=m) (by omega) (by omega)).2
   have:=rs_len (rs:=rs) fun r hr=>⟨(h5 r hr).1,by have:=(h5 r hr).2;omega⟩
   omega
theorem text_len {k:Kd} (h:k.Ok):k.text.length≤443:=by
 obtain ⟨h1,h2⟩:=words_len h
 have h3:=join_len 32 k.words
 unfold Kd.text
 rw [sp_is,joinE]
 omega
theorem join_fits {k:Kd} (h:k.Ok):(k.words.map (·.length)).sum+k.words.length*(Str.ofString " ").length≤16777216:=by
 obtain ⟨h1,h2⟩:=words_len h
 have:(Str.ofString " ").length=1:=by decide +kernel
 rw [this]
 omega
theorem rs_fits {rs:List Int} (h:∀ r∈rs,0≤r∧r<1000000) (hl:rs.length≤60):((rs.map nt).map (·.length)).sum+(rs.map nt).length*(Str.ofString ",").length≤16777216:=by
 have h2:=nts_sum (ns:=rs) (k:=6) fun r hr=>(nt_len (h r hr).1 (h r hr).2).2
 have:(Str.ofString ",").length=1:=by decide +kernel
 rw [this,List.length_map]
 omega
end M68
namespace K70
open PySem L2 M67 M68
def KdAt (H:Hp) (c:Addr):Kd→Prop
 | .bare w=>H c=some (.tup [.str w])
 | .one w n=>H c=some (.tup [.str w,.int n])
 | .box a b=>H c=some (.tup [.str (Str.ofString "box"),.int a,.int b])
 | .rests m rs=>∃ d,H c=some (.tup [.str (Str.ofString "rests"),.int m,.ref d])∧H d=some (.tup (rs.map V.int))
theorem KdAt.same {H H':Hp} {c:Addr} {k:Kd} (h:KdAt H c k) (y:Same H H'):KdAt H' c k:=by
 cases k with
 | bare w=>exact y _ _ h
 | one w n=>exact y _ _ h
 | box a b=>exact y _ _ h
 | rests m rs=>obtain ⟨d,h1,h2⟩:=h;exact ⟨d,y _ _ h1,y _ _ h2⟩
theorem pick3 {k a b c:Int} (h0:0≤k) (h1:k<3) {lo hi:Int} (ha:lo≤a∧a≤hi) (hb:lo≤b∧b≤hi) (hc:lo≤c∧c≤hi):∃ m:Int,atI [V.int a,.int b,.int c] k=some (.int m)∧lo≤m∧m≤hi:=by
 have:k=0∨k=1∨k=2:=by omega
 rcases this with rfl | rfl | rfl
 · exact ⟨a,rfl,ha⟩
 · exact ⟨b,rfl,hb⟩
 · exact ⟨c,rfl,hc⟩
section
variable {P:Program} {w:World} {K:PySem.W.Frag} {mg:Str→Option Value} {base:Heap} {f:Addr} {fd:FuncData}
theorem sc_kind:FnScope ["_law_spool_here","_law_most","_law_way","_law_far","_law_number_here","_law_word","_law_m","_law_some"] ["_law_spool_here","_law_most"] (defScope (top 39)):=⟨rfl,rfl,rfl,by decide +kernel,rfl,by decide +kernel,by decide +kernel⟩
def sp_kind:Sp:=fun vs H Q _=>∃ (a L:Addr) (most:Int) (n:Nat),vs=[.ref a,.int most]∧Hand H a L n∧n<900000000∧1≤most∧most≤8 ∧
 ∀ c H' (k:Kd),Step a L (n+100) H H'→KdAt H' c k→k.Ok→Q (.ref c) H'
theorem ok_kind (F:Fun K "_law_kind" "_law_kind" (top 39) f fd) (m_range:mg "range" = none) (m_tuple:mg "tuple" = none) (F_law_take:FnA P w K mg base "_law_take" 1 ["_law_spool_here","_law_many"] sp_take):FnOk P w K mg base CX0 2 f fd ["_law_spool_here","_law_most"] sp_kind:=by
 refine F.okz sc_kind (fun vs H Q E h=>?_) (fun cdv A outer s H vs Q E hr h=>?_)
 · obtain ⟨a,L,m,n,rfl,_⟩:=h;rfl
 obtain ⟨a,L,most,n,rfl,hh,hn,m0,m1,q⟩:=h
 have nd:=sc_kind.nd
 have hu:=hr.units
 refine ⟨_,(zss_cons (zs_par (i:=2) (j:=3) rfl nd rfl rfl (by decide) rfl rfl (za_cons (ze_fn F_law_take hr (by decide) rfl (za_cons (zn 0) (za_cons (zn 1) za_nil))) (za_cons (ze_fn F_law_take hr (by decide) rfl (za_cons (zn 0) (za_cons ze_int za_nil))) za_nil)) rfl)
  (zss_cons (zs_set (i:=4) nd rfl (Or.inl rfl) (ze_op op_addP ze_int (ze_fn F_law_take hr (by decide) rfl (za_cons (zn 0) (za_cons (ze_ix ix_P (ze_lst (za_cons ze_int (za_cons ze_int (za_cons ze_int za_nil)))) (zn 3) (fun _ _=>rfl)) za_nil)))))
  (zss_cons (zs_if (zt_cmpP (op_eqD hu) (zn 2) ze_int (nomark _)) (zss_one (zs_ret (ze_tup (za_cons ze_str za_nil)))) zss_nil)
  (zss_cons (zs_if (zt_cmpP op_ltP (zn 2) ze_int (nomark _)) (zss_cons (zs_set (i:=5) nd rfl (Or.inl rfl) (ze_ix ix_P (ze_lst (za_cons ze_str (za_cons ze_str (za_cons ze_str (za_cons ze_str za_nil))))) (zn 2) (fun _ _=>rfl)))
  (zss_one (zs_ret (ze_tup (za_cons (zn 5) (za_cons (zn 4) za_nil)))))) zss_nil)
  (zss_cons (zs_if (zt_cmpP (op_eqD hu) (zn 2) ze_int (nomark _)) (zss_one (zs_ret (ze_tup (za_cons ze_str (za_cons (zn 4) (za_cons (ze_op op_addP ze_int (ze_fn F_law_take hr (by decide) rfl (za_cons (zn 0) (za_cons (ze_ix ix_P (ze_lst (za_cons ze_int (za_cons ze_int (za_cons ze_int za_nil)))) (ze_fn F_law_take hr (by decide) rfl (za_cons (zn 0) (za_cons ze_int za_nil))) (fun _ _=>rfl)) za_nil)))) za_nil)))))) zss_nil)
  (zss_cons (zs_if (zt_cmpP (op_eqD hu) (zn 2) ze_int (nomark _)) (zss_one (zs_ret (ze_tup (za_cons ze_str za_nil)))) zss_nil)
  (zss_cons (zs_set (i:=6) nd rfl (Or.inl rfl) (ze_op op_addP ze_int (ze_fn F_law_take hr (by decide) rfl (za_cons (zn 0) (za_cons (ze_ix ix_P (ze_lst (za_cons ze_int (za_cons ze_int (za_cons ze_int za_nil)))) (zn 3) (fun _ _=>rfl)) za_nil)))))
  (zss_cons (zs_if (zt_cmpP (op_eqD hu) (zn 2) ze_int (nomark _)) (zss_one (zs_ret (ze_tup (za_cons ze_str (za_cons (zn 6) za_nil))))) zss_nil)
  (zss_cons (zs_setcomp (i:=7) ["_law_rest"] [("_law_spool_here",0)] rfl nd rfl (Or.inl rfl) ⟨rfl,by decide +kernel,by decide +kernel,rfl,rfl⟩ (zi_range1 rfl m_range (za_cons (zn 6) za_nil)) kpg_name (fun _ _ _ _=>zg_name (i:=0) (show List.Nodup (["_law_rest","_law_spool_here"]:List Str) by decide +kernel) rfl (Or.inl rfl)) (fun _ _ _ _=>(zif_one (zt_cmpP (op_eqD hu) (ze_fn F_law_take hr (by decide) rfl (za_cons (zn 1) (za_cons ze_int za_nil))) ze_int (nomark _)))) (fun _ _ _ _=>(zn 0)))
  (zss_one (zs_ret (ze_tup (za_cons ze_str (za_cons (zn 6) (za_cons (ze_ifExp (zt_cmpP (op_neD hu) (zn 7) (ze_lst za_nil) (nomark _)) (zcb_tuple rfl m_tuple (za_cons (zn 7) za_nil) rfl rfl) (ze_tup (za_cons (ze_op op_modP (zn 4) (zn 6)) za_nil))) za_nil))))))))))))))),?_⟩
 refine ⟨a,L,most,n,rfl,hh,by omega,by omega,by omega,fun way H1 w0 w1 st1=>?_⟩
 refine ⟨a,L,3,n+1,rfl,st1.2,by omega,by decide,by decide,fun far H2 f0 f1 st2=>?_⟩
 refine ⟨_,_,rfl,?_⟩
 have t2:=st1.trans st2
 refine ⟨by show 3≤sizeLine;decide,fun d3 hd3=>?_⟩
 have y3:=Same.new hd3 (.lst [V.int 6,.int 30,.int 600])
 obtain ⟨x,ex,x0,x1⟩:=pick3 (a:=6) (b:=30) (c:=600) f0 f1 (lo:=1) (hi:=600) (by decide) (by decide) (by decide)
 refine ⟨_,.inl (SqL.of upd_same),.int x,ex,?_⟩
 refine ⟨a,L,x,n+1+1,rfl,(t2.same y3).2,by omega,by omega,by omega,fun nr H4 n0 n1 st4=>?_⟩
 have t4:=(t2.same y3).trans st4
 have hnum:1≤1+nr∧1+nr≤600:=by omega
 refine iteD (fun c=>?_) (fun c0=>?_)
 · refine ⟨by show 1≤sizeLine;decide,fun d5 hd5=>?_⟩
   exact q d5 _ (.bare (Str.ofString "all")) ((t4.same (Same.new hd5 _)).mono (by omega)) upd_same (.inl rfl)
 refine iteD (fun c=>?_) (fun c4=>?_)
 · refine ⟨by show 4≤sizeLine;decide,fun d5 hd5=>?_⟩
   have y5:=Same.new hd5 (.lst [V.str (Str.ofString "all"),.str (Str.ofString "most"),.str (Str.ofString "few"),.str (Str.ofString "off")])
   have:way=1∨way=2∨way=3:=by
    have:way≠0:=fun z=>c0 (by rw [z])
    omega
   obtain ⟨wd,ewd,hwd⟩:∃ wd:Str,atI [V.str (Str.ofString "all"),.str (Str.ofString "most"),.str (Str.ofString "few"),.str (Str.ofString "off")] way=some (.str wd)∧(wd=Str.ofString "most"∨wd=Str.ofString "few"∨wd=Str.ofString "off"):=by
    rcases this with rfl | rfl | rfl
    · exact ⟨_,rfl,.inl rfl⟩
    · exact ⟨_,rfl,.inr (.inl rfl)⟩
    · exact ⟨_,rfl,.inr (.inr rfl)⟩
   refine ⟨_,.inl (SqL.of upd_same),.str wd,ewd,?_⟩
   refine ⟨by show 2≤sizeLine;decide,fun d6 hd6=>?_⟩
   exact q d6 _ (.one wd (1+nr)) (((t4.same y5).same (Same.new hd6 _)).mono (by omega)) upd_same (.inl ⟨hwd,hnum⟩)
 refine iteD (fun c=>?_) (fun c5=>?_)
 · refine ⟨by show 3≤sizeLine;decide,fun d5 hd5=>?_⟩
   have y5:=Same.new hd5 (.lst [V.int 6,.int 30,.int 600])
   have t5:=t4.same y5
   have ne5:=t4.2.ne hd5
   refine ⟨a,L,3,_,rfl,t5.2,by omega,by decide,by decide,fun far2 H6 g0 g1 st6=>?_⟩
   obtain ⟨u,eu,u0,u1⟩:=pick3 (a:=6) (b:=30) (c:=600) g0 g1 (lo:=1) (hi:=600) (by decide) (by decide) (by decide)
   refine ⟨_,.inl (SqL.of (st6.lst ne5 upd_same)),.int u,eu,?_⟩
   refine ⟨a,L,u,_,rfl,st6.2,by omega,by omega,by omega,fun v H7 v0 v1 st7=>?_⟩
   refine ⟨by show 3≤sizeLine;decide,fun d8 hd8=>?_⟩
   exact q d8 _ (.box (1+nr) (1+v)) ((((t5.trans st6).trans st7).same (Same.new hd8 _)).mono (by omega)) upd_same ⟨hnum,by omega,by omega⟩
 refine iteD (fun c=>?_) (fun c7=>?_)
 · refine ⟨by show 1≤sizeLine;decide,fun d5 hd5=>?_⟩
   exact q d5 _ (.bare (Str.ofString "own")) ((t4.same (Same.new hd5 _)).mono (by omega)) upd_same (.inr rfl)
 refine ⟨by show 3≤sizeLine;decide,fun d5 hd5=>?_⟩
 have y5:=Same.new hd5 (.lst [V.int 4,.int 12,.int 59])
 obtain ⟨z,ez,z0,z1⟩:=pick3 (a:=4) (b:=12) (c:=59) f0 f1 (lo:=1) (hi:=59) (by decide) (by decide) (by decide)
 refine ⟨_,.inl (SqL.of upd_same),.int z,ez,?_⟩
 refine ⟨a,L,z,_,rfl,(t4.same y5).2,by omega,by omega,by omega,fun mr H6 r0 r1 st6=>?_⟩
 have t6:=(t4.same y5).trans st6
 have hm:2≤2+mr∧2+mr≤60:=by omega
 refine iteD (fun c=>?_) (fun c8=>?_)
 · refine ⟨by show 2≤sizeLine;decide,fun d7 hd7=>?_⟩
   exact q d7 _ (.one (Str.ofString "times") (2+mr)) ((t6.same (Same.new hd7 _)).mono (by omega)) upd_same (.inr ⟨rfl,hm⟩)
 refine ⟨(2+mr),rfl,by omega,by omega,cmp_range (fun i ys H'=>Step a L (n+1+1+1+1+i) H H'∧∃ rs:List Int,ys=rs.map V.int∧rs.length≤i∧rs.Pairwise (· < ·)∧∀ r∈rs,0≤r∧r<i) ⟨t6,[],rfl,Nat.zero_le _,List.Pairwise.nil,fun r hr=>(nomatch hr)⟩ ?_ ?_⟩
 · rintro i ys H' hi ⟨st,rs,rfl,rl,rp,rb⟩
   refine ⟨by rw [List.length_map];exact small1000 (by omega),?_⟩
   refine ⟨a,L,2,_,rfl,st.2,by omega,by decide,by decide,fun b H7 b0 b1 st7=>?_⟩
   refine iteD (fun c=>?_) (fun c=>?_)
   · refine ⟨(st.trans st7).mono (by omega),rs++[0+(i:Int)],by rw [List.map_append];rfl,by rw [List.length_append];show rs.length+1≤i+1;omega,?_,fun r hr'=>?_⟩
     · refine List.pairwise_append.mpr ⟨rp,List.pairwise_singleton _ _,fun u hu v hv=>?_⟩
       have:v=0+(i:Int):=by simpa using hv
       have:=rb u hu
       omega
     · rcases List.mem_append.mp hr' with h | h
       · have:=rb r h
         omega
       · have:r=0+(i:Int):=by simpa using h
         omega
   · refine ⟨(st.trans st7).mono (by omega),rs,rfl,by omega,rp,fun r hr'=>?_⟩
     have:=rb r hr'
     omega
 · rintro ys H' ⟨st,rs,rfl,rl,rp,rb⟩ D hD
   have yD:=Same.new hD (.lst (rs.map V.int))
   refine ⟨Nat.zero_le _,fun e he=>?_⟩
   have ye:=Same.new he (.lst [])
   refine ⟨_,_,.lst (ye _ _ upd_same) (DatAll.ints rs),.lst (xs:=[]) upd_same .nil,shaped_list_ints _,shaped_list_ints [],?_⟩
   have hD1:=ye _ _ (show (upd H' D (.lst (rs.map V.int))) D=some (.lst (rs.map V.int)) from upd_same)
   have t7:=(st.same yD).same ye
   have hm':((2+mr).toNat:Int)=2+mr:=Int.toNat_of_nonneg (by omega)
   generalize upd (upd H' D (.lst (rs.map V.int))) e (.lst [])=H7 at hD1 t7
   cases rs with
   | nil=>
     refine ⟨by show (0:Int)<(2+mr);omega,?_⟩
     refine ⟨by show 1≤sizeLine;decide,fun g hg=>?_⟩
     have yg:=Same.new hg (.tup [V.int ((1+nr) % (2+mr))])
     refine ⟨by show 3≤sizeLine;decide,fun c hc=>?_⟩
     have yc:=Same.new hc (.tup [V.str (Str.ofString "rests"),.int (2+mr),.ref g])
     refine q c _ (.rests (2+mr) [(1+nr) % (2+mr)]) (((t7.same yg).same yc).mono (by omega)) ⟨g,upd_same,yc _ _ upd_same⟩ ⟨hm,List.cons_ne_nil _ _,List.pairwise_singleton _ _,fun r hr'=>?_,by show 1≤60;decide⟩
     have:r=(1+nr) % (2+mr):=by simpa using hr'
     rw [this]
     exact ⟨Int.emod_nonneg _ (by omega),Int.emod_lt_of_pos _ (by omega)⟩
   | cons r0 rr=>
     refine ⟨_,.inl (SqL.of hD1),fun g H8 y8 hg=>?_⟩
     refine ⟨by show 3≤sizeLine;decide,fun c hc=>?_⟩
     have yc:=Same.new hc (.tup [V.str (Str.ofString "rests"),.int (2+mr),.ref g])
     refine q c _ (.rests (2+mr) (r0::rr)) (((t7.same y8).same yc).mono (by omega)) ⟨g,upd_same,yc _ _ hg⟩ ⟨hm,List.cons_ne_nil _ _,rp,fun r hr'=>?_,by omega⟩
     have:=rb r hr'
     omega
end
end K70
namespace M69
open PySem M67
theorem fold_list:∀ (l:List (Array Nat)) (a:Array Nat),(l.foldl (·++·) a).toList=a.toList++(l.map (·.toList)).flatten
 | [],a=>by simp
 | x::l,a=>by
   show (l.foldl (·++·) (a++x)).toList=_
   rw [fold_list l,Array.toList_append,List.map_cons,List.flatten_cons,List.append_assoc]
def mulS (z:Str) (n:Nat):Str:=⟨(List.replicate n z.cps).foldl (·++·) #[]⟩
theorem mul_list (z:Str) (n:Nat):(mulS z n).cps.toList=(List.replicate n z.cps.toList).flatten:=by
 unfold mulS
 rw [fold_list,List.map_replicate]
 rfl
theorem hash_is:(Str.ofString "#")=⟨#[35]⟩:=by decide +kernel
theorem nl_is:(Str.ofString "\n")=⟨#[10]⟩:=by decide +kernel
theorem flat_one (c n:Nat):(List.replicate n [c]).flatten=List.replicate n c:=by
 induction n with
 | zero=>rfl
 | succ n ih=>rw [List.replicate_succ,List.flatten_cons,ih,List.replicate_succ];rfl
def bar (n:Int):Str:=mulS (Str.ofString "#") n.toNat
theorem bar_list (n:Int):(bar n).cps.toList=List.replicate n.toNat 35:=by
 unfold bar
 rw [mul_list,hash_is]
 exact flat_one 35 _
theorem bar_len (n:Int):(bar n).length=n.toNat:=by
 show (bar n).cps.size=_
 rw [← Array.length_toList,bar_list,List.length_replicate]
def dr (ns:List Int):Str:=Txt.join (Str.ofString "\n") (ns.map bar)
theorem dr_list (ns:List Int):(dr ns).cps.toList=jl 10 (ns.map fun n=>List.replicate n.toNat 35):=by
 unfold dr
 rw [nl_is,show Txt.join ⟨#[10]⟩ (ns.map bar)=Str.join ⟨#[10]⟩ (ns.map bar) from StrLaws.glued_eq_join _ _,join_list,List.map_map]
 congr 1
 exact List.map_congr_left fun n _=>bar_list n
theorem dr_split {ns:List Int} (hn:ns≠[]):Txt.split (dr ns) (Str.ofString "\n")=ns.map bar:=by
 unfold dr
 rw [nl_is]
 refine split_join (by simpa using hn) fun y hy=>?_
 obtain ⟨n,hn',rfl⟩:=List.mem_map.mp hy
 rw [bar_list]
 intro h
 exact absurd (List.eq_of_mem_replicate h) (by decide)
theorem jl_len (c:Nat):∀ xs:List (List Nat),(jl c xs).length≤(xs.map List.length).sum+xs.length
 | []=>Nat.le_refl _
 | [x]=>by show x.length≤_;simp
 | x::y::r=>by
   have:=jl_len c (y::r)
   show (x++c::jl c (y::r)).length≤_
   rw [List.length_append,List.length_cons]
   simp only [List.map_cons,List.sum_cons,List.length_cons] at this ⊢
   omega
theorem nat_sum:∀ (ns:List Int),(∀ n∈ns,(1:Int)≤n)→(((ns.map fun n=>n.toNat).sum:Nat):Int)=ns.sum
 | [],_=>rfl
 | n::r,h=>by
   have:=nat_sum r fun x hx=>h x (List.mem_cons_of_mem _ hx)
   have:=h n List.mem_cons_self
   simp only [List.map_cons,List.sum_cons]
   omega
theorem dr_len {ns:List Int} (h:∀ n∈ns,(1:Int)≤n):((dr ns).length:Int)≤ns.sum+ns.length:=by
 have h1:=jl_len 10 (ns.map fun n=>List.replicate n.toNat 35)
 have h2:(dr ns).length=(jl 10 (ns.map fun n=>List.replicate n.toNat 35)).length:=by
  rw [← dr_list,Array.length_toList];rfl
 rw [List.map_map,List.length_map] at h1
 have e:(List.length ∘ fun n:Int=>List.replicate n.toNat 35)=fun n:Int=>n.toNat:=by
  funext n
  simp
 rw [e] at h1
 have:=nat_sum ns h
 omega
end M69
namespace M71
open PySem M67 M68 M69
def isNum (l:List Nat):Prop:=(1≤l.length∧l.length≤6)∧(∀ c∈l,48≤c∧c≤57)∧(l[0]?≠some 48∨l=[48])
instance (l:List Nat):Decidable (isNum l):=by unfold isNum;infer_instance
def val (l:List Nat):Nat:=l.foldl (fun a c=>10*a+(c - 48)) 0
theorem val_snoc (l:List Nat) (c:Nat):val (l++[c])=10*val l+(c - 48):=by unfold val;rw [List.foldl_append];rfl
theorem dg:∀ d:Nat,d<10→(Nat.digitChar d).toNat=d+48:=by decide
theorem td_one {d:Nat} (h:d<10):(Nat.toDigits 10 d).map Char.toNat=[d+48]:=by
 revert h;revert d;decide
theorem val_is:∀ (n:Nat) (l:List Nat),l.length=n+1→(∀ c∈l,48≤c∧c≤57)→l[0]?≠some 48→(Nat.toDigits 10 (val l)).map Char.toNat=l∧1≤val l∧val l<10 ^ (n+1)
 | 0,l,hl,hd,h0=>by
   obtain ⟨c,rfl⟩:=List.length_eq_one_iff.mp hl
   have h1:=hd c List.mem_cons_self
   have h2:c≠48:=fun e=>h0 (by rw [e];rfl)
   have e:val [c]=c - 48:=by show 10*0+(c - 48)=_;omega
   rw [e,td_one (by omega)]
   refine ⟨by congr 1;omega,by omega,by omega⟩
 | n+1,l,hl,hd,h0=>by
   have hne:l≠[]:=fun e=>by rw [e] at hl;cases hl
   obtain ⟨r,c,rfl⟩:∃ r c,l=r++[c]:=⟨l.dropLast,l.getLast hne,(List.dropLast_concat_getLast hne).symm⟩
   rw [List.length_append] at hl
   have hr:r.length=n+1:=by simpa using hl
   have hc:=hd c (by simp)
   have h0':r[0]?≠some 48:=fun e=>h0 (by rw [List.getElem?_append_left (by omega)];exact e)
   obtain ⟨e1,e2,e3⟩:=val_is n r hr (fun x hx=>hd x (by simp [hx])) h0'
   rw [val_snoc]
   have hp:10 ^ (n+1+1)=10 ^ (n+1)*10:=Nat.pow_succ _ _
   refine ⟨?_,by omega,by omega⟩
   rw [td_step (by omega),show (10*val r+(c - 48)) / 10=val r by omega,show (10*val r+(c - 48)) % 10=c - 48 by omega,List.map_append,e1]
   congr 1
   show [(Nat.digitChar (c - 48)).toNat]=[c]
   rw [dg _ (by omega)]
   congr 1
   omega
theorem num_nt {z:Str} (h:isNum z.cps.toList):∃ n:Int,0≤n∧n<1000000∧z=nt n:=by
 obtain ⟨⟨h1,h2⟩,hd,h0⟩:=h
 rcases h0 with h0 | h0
 · obtain ⟨k,hk⟩:∃ k,z.cps.toList.length=k+1:=⟨z.cps.toList.length - 1,by omega⟩
   obtain ⟨e1,e2,e3⟩:=val_is k _ hk hd h0
   have h6:10 ^ (k+1)≤10 ^ 6:=Nat.pow_le_pow_right (by decide) (by omega)
   refine ⟨(val z.cps.toList:Nat),by omega,by have:(10:Nat) ^ 6=1000000:=by decide
                                              omega,?_⟩
   refine str_ext ?_
   rw [nt_signs,e1]
 · refine ⟨0,by decide,by decide,str_ext ?_⟩
   rw [h0]
   decide +kernel
theorem nt_num {n:Int} (h0:0≤n) (h1:n<1000000):isNum (nt n).cps.toList:=by
 have hl:=nt_len h0 h1
 refine ⟨hl,nt_digit h0,?_⟩
 by_cases h:n=0
 · subst h
   right
   decide +kernel
 · obtain ⟨c,hc,hn⟩:=nt_first (n:=n) (by omega)
   left
   rw [hc]
   exact fun e=>hn (Option.some.inj e)
theorem nt_inj {a b:Int} (ha:0≤a) (ha1:a<1000000) (hb:0≤b) (hb1:b<1000000) (e:nt a=nt b):a=b:=by
 have h1:=nt_reads ha ha1
 rw [e,nt_reads hb hb1] at h1
 exact (Option.some.inj h1).symm
theorem nums_of:∀ {ws:List Str},(∀ y∈ws,isNum y.cps.toList)→∃ ns:List Int,ws=ns.map nt∧∀ n∈ns,0≤n∧n<1000000
 | [],_=>⟨[],rfl,fun _ h=>by cases h⟩
 | z::ws,h=>by
   obtain ⟨ns,rfl,hn⟩:=nums_of fun y hy=>h y (List.mem_cons_of_mem _ hy)
   obtain ⟨n,h0,h1,rfl⟩:=num_nt (h z List.mem_cons_self)
   exact ⟨n::ns,rfl,fun m hm=>by
    rcases List.mem_cons.mp hm with rfl | hm
    · exact ⟨h0,h1⟩
    · exact hn m hm⟩
theorem all_num {ns:List Int} (h:∀ n∈ns,(0:Int)≤n∧n<1000000):∀ y∈ns.map nt,isNum y.cps.toList:=fun y hy=>by
 obtain ⟨n,hn,rfl⟩:=List.mem_map.mp hy
 exact nt_num (h n hn).1 (h n hn).2
theorem nts_inj:∀ {xs ys:List Int},(∀ n∈xs,(0:Int)≤n∧n<1000000)→(∀ n∈ys,(0:Int)≤n∧n<1000000)→xs.map nt=ys.map nt→xs=ys
 | [],[],_,_,_=>rfl
 | [],_::_,_,_,e=>by cases e
 | _::_,[],_,_,e=>by cases e
 | x::xs,y::ys,hx,hy,e=>by
   obtain ⟨e1,e2⟩:=List.cons.inj e
   have a:=hx x List.mem_cons_self
   have b:=hy y List.mem_cons_self
   rw [nt_inj a.1 a.2 b.1 b.2 e1,nts_inj (fun n hn=>hx n (List.mem_cons_of_mem _ hn)) (fun n hn=>hy n (List.mem_cons_of_mem _ hn)) e2]
theorem glue_cut (z:Str) (c:Nat):Txt.join ⟨#[c]⟩ (Txt.split z ⟨#[c]⟩)=z:=by
 rw [show Txt.join ⟨#[c]⟩ (Txt.split z ⟨#[c]⟩)=Str.join ⟨#[c]⟩ (Txt.split z ⟨#[c]⟩) from StrLaws.glued_eq_join _ _]
 exact StrLaws.join_split z ⟨#[c]⟩
theorem cut_ne (z:Str) (c:Nat):Txt.split z ⟨#[c]⟩≠[]:=fun e=>by
 have:=PyProof.Rows.split_pos z ⟨#[c]⟩
 rw [e] at this
 exact absurd this (by decide)
def shw (ns:List Int):Str:=if ns=[] then Str.ofString "-" else Txt.join (Str.ofString "+") (ns.map nt)
theorem plus_is:(Str.ofString "+")=⟨#[43]⟩:=by decide +kernel
theorem shw_back {z:Str} {ns:List Int} (e:Txt.split z (Str.ofString "+")=ns.map nt):ns≠[]∧shw ns=z:=by
 have hne:ns≠[]:=fun h=>by rw [h,plus_is] at e;exact cut_ne _ _ e
 refine ⟨hne,?_⟩
 unfold shw
 rw [if_neg hne,← e,plus_is]
 exact glue_cut z 43
theorem bar_of {y:Str} (h:∀ c∈y.cps.toList,c=35):y=bar (y.length:Int):=by
 refine str_ext ?_
 rw [bar_list]
 exact (List.eq_replicate_iff.mpr ⟨by rw [Int.toNat_natCast];exact Array.length_toList,h⟩)
theorem bars_of:∀ {ws:List Str},(∀ y∈ws,∀ c∈y.cps.toList,c=35)→ws=(ws.map fun y=>(y.length:Int)).map bar
 | [],_=>rfl
 | y::ws,h=>by
   rw [List.map_cons,List.map_cons,← bars_of fun u hu=>h u (List.mem_cons_of_mem _ hu),← bar_of (h y List.mem_cons_self)]
theorem dr_back {z:Str} (h:∀ y∈Txt.split z (Str.ofString "\n"),∀ c∈y.cps.toList,c=35):dr ((Txt.split z (Str.ofString "\n")).map fun y=>(y.length:Int))=z:=by
 unfold dr
 rw [← bars_of h,nl_is]
 exact glue_cut z 10
theorem words_back {z:Str} {k:Kd} (e:Txt.split z (Str.ofString " ")=k.words):k.text=z:=by
 unfold Kd.text
 rw [← e,sp_is]
 exact glue_cut z 32
theorem rs_back {z:Str} {rs:List Int} (e:Txt.split z (Str.ofString ",")=rs.map nt):Txt.join (Str.ofString ",") (rs.map nt)=z:=by
 rw [← e,comma_is]
 exact glue_cut z 44
theorem jl_head (c:Nat):∀ (x:List Nat) (r:List (List Nat)),x≠[]→(jl c (x::r))[0]? = x[0]?
 | x,[],_=>rfl
 | x,y::r,h=>by
   show (x++c::_)[0]? = _
   rw [List.getElem?_append_left (List.length_pos_iff.mpr h)]
theorem dr_head {ns:List Int} (h:∀ n∈ns,(1:Int)≤n):ns=[]∨(dr ns).cps.toList[0]? = some 35:=by
 cases ns with
 | nil=>exact .inl rfl
 | cons n r=>
   right
   have hn:=h n List.mem_cons_self
   rw [dr_list,List.map_cons,jl_head _ _ _ (fun e=>by have:=congrArg List.length e;rw [List.length_replicate] at this;have:n.toNat=0:=this;omega)]
   obtain ⟨k,hk⟩:∃ k,n.toNat=k+1:=⟨n.toNat - 1,by omega⟩
   rw [hk]
   rfl
theorem dr_nil:(dr []).cps.toList=[]:=by rw [dr_list];rfl
end M71
namespace L2
open PySem PySem.Spec PyProof.Rows
section
variable {κ:Type} [DecidableEq κ]
def valV (kvs:List (κ×V)) (k:κ):Option V:=(kvs.find? fun kv=>decide (kv.1=k)).map (·.2)
def putK (kvs:List (κ×V)) (k:κ) (v:V):List (κ×V):=
 if (kvs.any fun kv=>decide (kv.1=k))=true then kvs.map (fun kv=>if kv.1=k then (kv.1,v) else kv) else kvs++[(k,v)]
theorem valV_pos {p:κ×V} {r:List (κ×V)} {k:κ} (e:p.1=k):valV (p::r) k=some p.2:=by simp [valV,List.find?_cons,e]
theorem valV_neg {p:κ×V} {r:List (κ×V)} {k:κ} (e:¬ p.1=k):valV (p::r) k=valV r k:=by simp [valV,List.find?_cons,e]
theorem length_putK (kvs:List (κ×V)) (k:κ) (v:V):(putK kvs k v).length≤kvs.length+1:=by
 unfold putK
 split
 · rw [List.length_map];omega
 · rw [List.length_append,List.length_cons,List.length_nil];omega
theorem RelO.isSome_eq {o:Option V} {u:Option Value} (r:RelO o u):o.isSome=u.isSome:=by
 cases o with
 | none=>cases u with
   | none=>rfl
   | some _=>exact (show False from r).elim
 | some _=>cases u with
   | none=>exact (show False from r).elim
   | some _=>rfl
theorem KV.val {kvs:List (κ×V)} {vs:List (κ×Value)} (r:KV kvs vs) (k:κ):RelO (valV kvs k) (valueAt vs k):=by
 unfold KV at r
 induction r with
 | nil=>exact True.intro
 | @cons p q ps qs h t ih=>
   obtain ⟨h1,h2⟩:=h
   by_cases e:p.1=k
   · have e':q.1=k:=h1.symm.trans e
     have b:valueAt (q::qs) k=some q.2:=by simp [valueAt,List.find?_cons,e']
     rw [valV_pos e,b];exact h2
   · have e':¬ q.1=k:=fun z=>e (h1.trans z)
     have b:valueAt (q::qs) k=valueAt qs k:=by simp [valueAt,List.find?_cons,e']
     rw [valV_neg e,b];exact ih
theorem KV.any {kvs:List (κ×V)} {vs:List (κ×Value)} (r:KV kvs vs) (k:κ):(kvs.any fun kv=>decide (kv.1=k))=vs.any fun kv=>decide (kv.1=k):=by
 unfold KV at r
 induction r with
 | nil=>rfl
 | cons h t ih=>rw [List.any_cons,List.any_cons,ih,h.1]
theorem KV.repl {kvs:List (κ×V)} {vs:List (κ×Value)} (r:KV kvs vs) (k:κ) {y:V} {u:Value} (ry:RelV y u) :
 KV (kvs.map fun kv=>if kv.1=k then (kv.1,y) else kv) (vs.map fun kv=>if kv.1=k then (kv.1,u) else kv):=by
 unfold KV at r ⊢
 induction r with
 | nil=>exact .nil
 | @cons p q ps qs h t ih=>
   rw [List.map_cons,List.map_cons]
   refine .cons ?_ ih
   obtain ⟨h1,h2⟩:=h
   by_cases e:p.1=k
   · rw [if_pos e,if_pos (h1.symm.trans e)];exact ⟨h1,ry⟩
   · rw [if_neg e,if_neg (fun z=>e (h1.trans z))];exact ⟨h1,h2⟩
theorem KV.put {kvs:List (κ×V)} {vs:List (κ×Value)} (r:KV kvs vs) (k:κ) {y:V} {u:Value} (ry:RelV y u):KV (putK kvs k y) (stored vs k u):=by
 unfold putK stored
 rw [r.any k]
 by_cases e:(vs.any fun kv=>decide (kv.1=k))=true
 · rw [if_pos e,if_pos e];exact r.repl k ry
 · rw [if_neg e,if_neg e];exact Paired.snoc r ⟨rfl,ry⟩
end
theorem kV_is {P:Program} {w:World} {k:Key} {u:Value} (r:RelV (kV k) u):(mixKind P w).is k u=true:=by
 cases k with
 | inl i=>obtain ⟨t,e⟩:=(show ∃ t,u=Value.int i t from r);subst e;exact mixKind_int P w i t
 | inr x=>obtain ⟨t,e⟩:=(show ∃ t,u=Value.str x t from r);subst e;exact mixKind_str P w x t
theorem items_are {P:Program} {w:World}:∀ {ks:List Key} {us:List Value},Vals (ks.map kV) us→ItemsAre (mixKind P w) ks us
 | [],_,r=>by rw [List.map_nil] at r;cases r;exact .nil
 | k::ks,_,r=>by
   rw [List.map_cons] at r
   cases r with
   | cons h t=>exact .cons (kV_is h) (items_are t)
abbrev KT (H:Hp):List (List Key×V)→List (List Key×Addr×Value)→Prop:=Paired fun p q=>p.1=q.1∧H q.2.1=some (.tup (p.1.map kV))∧RelV p.2 q.2.2
theorem KT.val {H:Hp} {kvs:List (List Key×V)} {xs:List (List Key×Addr×Value)} (r:KT H kvs xs) (k:List Key):RelO (valV kvs k) ((atKey xs k).map (·.2)):=by
 induction r with
 | nil=>exact True.intro
 | @cons p q ps qs h t ih=>
   obtain ⟨h1,_,h2⟩:=h
   by_cases e:p.1=k
   · have e':q.1=k:=h1.symm.trans e
     have b:atKey (q::qs) k=some q.2:=by simp [atKey,List.find?_cons,e']
     rw [valV_pos e,b];exact h2
   · have e':¬ q.1=k:=fun z=>e (h1.trans z)
     have b:atKey (q::qs) k=atKey qs k:=by simp [atKey,List.find?_cons,e']
     rw [valV_neg e,b];exact ih
section
variable {P:Program} {w:World} {H:Hp} {h:Heap} {a:Addr}
theorem rd_of {u:HO} (ok:HOk P w H h) (e:Rd H a u):ObjOk P w H h a u:=e.ok ok
theorem dk_rd {kvs:List (Key×V)} (ok:HOk P w H h) (e:Rd H a (.dK kvs)):kvs.length≤sizeLine∧(a == sysModules)=false∧∃ vs,KV kvs vs∧h.DictOf (mixKind P w) a vs:=
 show ObjOk P w H h a (.dK kvs) from rd_of ok e
theorem dk_of {kvs:List (Key×V)} (ok:HOk P w H h) (e:H a=some (.dK kvs)):kvs.length≤sizeLine∧(a == sysModules)=false∧∃ vs,KV kvs vs∧h.DictOf (mixKind P w) a vs:=dk_rd ok (.inl e)
theorem key_of {ks:List Key} (ok:HOk P w H h) (e:H a=some (.tup (ks.map kV))):(tupleKind (mixKind P w)).is h ks a:=by
 obtain ⟨_,its,r,pT⟩:=(show ObjOk P w H h a (.tup (ks.map kV)) from ok a _ e)
 obtain ⟨o,h1,h2,n,h3⟩:=pT.tup
 exact ⟨o,its.toArray,n,h1,h2,h3,by simpa using items_are r⟩
theorem dt_rd {kvs:List (List Key×V)} (ok:HOk P w H h) (e:Rd H a (.dT kvs)):kvs.length≤sizeLine∧(a == sysModules)=false ∧
 ∃ xs,KT H kvs xs∧h.DictOfH (tupleKind (mixKind P w)) a xs:=by
 obtain ⟨z,y,xs,r,o,es,ep,h1,h2,h3,h4,h5⟩:=(show ObjOk P w H h a (.dT kvs) from rd_of ok e)
 refine ⟨z,y,xs,r,o,es,ep,h1,h2,h3,h4,fun x hx=>?_,h5⟩
 have all:∀ {l:List (List Key×V)} {m:List (List Key×Addr×Value)},KT H l m→∀ x∈m,(tupleKind (mixKind P w)).is h x.1 x.2.1:=by
  intro l m q
  induction q with
  | nil=>intro x hx;exact nomatch hx
  | @cons p q ps qs hq t ih=>
    intro x hx
    rcases List.mem_cons.mp hx with e | hx
    · subst e
      exact key_of ok (by rw [← hq.1];exact hq.2.1)
    · exact ih x hx
 exact all r x hx
end
def DGet (H:Hp) (a:Addr) (y:V) (r:Option V):Prop:=
 (∃ kvs k,Rd H a (.dK kvs)∧y=kV k∧r=valV kvs k)∨∃ kvs k b,Rd H a (.dT kvs)∧y=.ref b∧H b=some (.tup (k.map kV))∧r=valV kvs k
theorem DGet.k {H:Hp} {a:Addr} {kvs:List (Key×V)} {k:Key} (e:H a=some (.dK kvs)):DGet H a (kV k) (valV kvs k):=.inl ⟨kvs,k,.inl e,rfl,rfl⟩
section
variable {X:Cx} {pins:List (Addr×Obj)} {σ:St} {H:Hp} {s:Shared} {a:Addr} {y v:V} {u r:Value} {o:Option V} {A:Around} {E:Value→Shared→Prop}
theorem d_getItem {Q:Value→Shared→Prop} (hu:A.units+1<cLine) (I:Inv X pins σ H s) (g:DGet H a y (some v)) (ry:RelV y u) (h:∀ w' s',Inv X pins σ H s'→RelV v w'→Q w' s') :
 wpAny (model X.prog X.w) A (getItem (.ref a) u) Q E s:=by
 rcases g with ⟨kvs,k,e,ey,l⟩ | ⟨kvs,k,b,e,ey,eb,l⟩
 · subst ey
   obtain ⟨z,hd,vs,rel,dd⟩:=dk_rd I.hok e
   obtain ⟨w',hw,rw'⟩:=RelO.some_of (v:=v) (o:=valueAt vs k) (by rw [l];exact rel.val k)
   exact wpAny_getItem_of (kV_is ry) dd.mapOf hw (h w' _ (I.tok _) rw')
 · subst ey
   cases (show u=Value.ref b from ry)
   obtain ⟨z,hd,xs,rel,dd⟩:=dt_rd I.hok e
   obtain ⟨w',hw,rw'⟩:=RelO.some_of (v:=v) (o:=(atKey xs k).map (·.2)) (by rw [l];exact rel.val k)
   obtain ⟨p,hp,hp2⟩:=Option.map_eq_some_iff.mp hw
   refine wpAny_getItem_heap (tupleKind_room_in1 hu) (key_of I.hok eb) dd hp ?_
   rw [hp2]
   exact h w' _ (I.tok _) rw'
theorem d_notIn {Q:Value→Shared→Prop} (hu:A.units+1<cLine) (I:Inv X pins σ H s) (g:DGet H a y o) (ry:RelV y u) (h:∀ s',Inv X pins σ H s'→Q (.bool (!o.isSome)) s') :
 wpAny (model X.prog X.w) A (compareOp .NotIn u (.ref a)) Q E s:=by
 rcases g with ⟨kvs,k,e,ey,l⟩ | ⟨kvs,k,b,e,ey,eb,l⟩
 · subst ey
   obtain ⟨z,hd,vs,rel,dd⟩:=dk_rd I.hok e
   refine wpAny_notIn_of (kV_is ry) hd dd.mapOf ?_
   rw [← (rel.val k).isSome_eq,← l]
   exact h _ (I.tok _)
 · subst ey
   cases (show u=Value.ref b from ry)
   obtain ⟨z,hd,xs,rel,dd⟩:=dt_rd I.hok e
   refine wpAny_notIn_heap (tupleKind_room_in1 hu) (key_of I.hok eb) hd dd ?_
   have q:=(rel.val k).isSome_eq
   rw [Option.isSome_map] at q
   rw [← q,← l]
   exact h _ (I.tok _)
theorem d_write {h':Heap} {t':Nat} {ob:HO} (I:Inv X pins σ H s) (mu:Mut (H a)) (hs:Heap.SameBut a s.heap h') (he:∃ q,h'.get? a=some q) (new:ObjOk X.prog X.w (upd H a ob) h' a ob) :
 Inv X pins σ (upd H a ob) { s with heap:=h',toks:=t' }:=
 I.write (x:=a) (e:=a) mu (.inl rfl) (fun b q hb z=>(hs.2 b hb).trans z) he new
theorem dk_new {P:Program} {w:World} {H':Hp} {h':Heap} {kvs:List (Key×V)} {vs:List (Key×Value)} (z:kvs.length≤sizeLine) (hd:(a == sysModules)=false) (rel:KV kvs vs) (dd:h'.DictOf (mixKind P w) a vs) :
 ObjOk P w H' h' a (.dK kvs):=⟨z,hd,vs,rel,dd⟩
end
def NoSl (i:Expr):Prop:=∀ ov iv,subscripted i false ov iv=operate [ov,iv] (getItem ov iv)
theorem subD_of {prog:Program} {w:World} {A:Around} {E:Value→Shared→Prop} {s:Shared} {env:Env} {value slice:Expr} {pos:Pos} {T id:String} {Q:Value→Shared→Prop}
 (hl:typeLookup (.type T) "__getitem__" = pure (some (.builtin id))) (hs:NoSl slice)
 (h:wpAny (model prog w) A (eval value env) (fun o s₁=>wpAny (model prog w) A (eval slice env) (fun i s₂=>s₂.TypeIs o T∧wpAny (model prog w) A (getItem o i) Q E s₂) E s₁) E s) :
 wpAny (model prog w) A (eval (.Subscript value slice pos) env) Q E s:=by
 refine Subscript_ (wpAny_mono h (fun o s₁ h₁=>wpAny_mono h₁ (fun i s₂ h₂=>?_) fun _ _ x=>x) fun _ _ x=>x)
 obtain ⟨hT,h₂⟩:=h₂
 unfold subscriptTail
 refine wpAny_bind ?_
 rw [getitemInPython_of_ne hT.not_modules]
 refine wpAny_bind (wpAny_specialOf hT hl ?_)
 have fin:wpAny (model prog w) A (subscripted slice false o i) (fun r s₃=>wpAny (model prog w) A (letTemporaryGo value o r >>= fun _=>pure r) Q E s₃) E s₂:=by
  rw [hs o i]
  exact wpAny_operating (wpAny_mono h₂ (fun r s₃ h₃=>wpAny_bind (wpAny_letTemporaryGo (wpAny_pure h₃))) fun _ _ x=>x)
 first
  | exact wpAny_pure (wpAny_bind fin)
  | exact wpAny_bind (wpAny_pure (wpAny_bind fin))
  | exact wpAny_bind fin
theorem dict_typeIs {X:Cx} {pins:List (Addr×Obj)} {σ:St} {H:Hp} {s:Shared} {a:Addr} {y:V} {o:Option V} (I:Inv X pins σ H s) (g:DGet H a y o):s.TypeIs (.ref a) "dict":=by
 rcases g with ⟨kvs,k,e,_,_⟩ | ⟨kvs,k,b,e,_,_,_⟩
 · obtain ⟨_,_,vs,_,dd⟩:=dk_rd I.hok e
   exact dd.typeIs
 · obtain ⟨_,_,xs,_,dd⟩:=dt_rd I.hok e
   exact dd.typeIs
def tDGet (td ty:TE):TE:=fun σ H Q=>td σ H fun x H1=>ty σ H1 fun y H2=>∃ a v,x=.ref a∧DGet H2 a y (some v)∧Q v H2
def tDNotIn (ty td:TE):TE:=fun σ H Q=>ty σ H fun y H1=>td σ H1 fun x H2=>∃ a o,x=.ref a∧DGet H2 a y o∧Q (.bl (!o.isSome)) H2
section
variable {X:Cx} {o i e value:Expr} {pos pos' tpos:Pos} {td ty tv:TE}
theorem pe_dget (hu:X.A.units+1<cLine) (ho:PE X o td) (hi:PE X i ty) (hs:NoSl i):PE X (.Subscript o i pos) (tDGet td ty):=by
 intro pins s σ H Q I h
 refine subD_of PySem.F.slot_dict_getitem.lookup hs (thn (ho pins s σ H _ I h) fun u s1 ⟨x,H1,I1,rx,q1⟩=>thn (hi pins s1 σ H1 _ I1 q1) fun iv s2 ⟨y,H2,I2,ry,a,v,ex,g,q2⟩=>?_)
 subst ex
 obtain rfl:u=Value.ref a:=rx
 exact ⟨dict_typeIs I2 g,d_getItem hu I2 g ry fun w' s3 I3 rw'=>⟨v,H2,I3,rw',q2⟩⟩
theorem ze_dget (hu:X.A.units+1<cLine) (ho:ZE X o td) (hi:ZE X i ty) (hs:NoSl i):ZE X (.Subscript o i pos) (tDGet td ty):=by with_unfolding_all exact pe_dget hu ho hi hs
theorem pc_dnotin (hu:X.A.units+1<cLine) (hi:PE X i ty) (ho:PE X o td):PC X .NotIn i o (tDNotIn ty td):=by
 intro pins s σ H Q I h
 refine thn (hi pins s σ H _ I h) fun iv s1 ⟨y,H1,I1,ry,q1⟩=>thn (ho pins s1 σ H1 _ I1 q1) fun u s2 ⟨x,H2,I2,rx,a,ov,ex,g,q2⟩=>?_
 subst ex
 obtain rfl:u=Value.ref a:=rx
 exact d_notIn hu I2 g ry fun s3 I3=>⟨.bl (!ov.isSome),H2,I3,rfl,q2⟩
theorem zc_dnotin (hu:X.A.units+1<cLine) (hi:ZE X i ty) (ho:ZE X o td):ZC X .NotIn i o (tDNotIn ty td):=by with_unfolding_all exact pc_dnotin hu hi ho
end
def tPairs:List (TE×TE)→St→Hp→(List (V×V)→Hp→Prop)→Prop
 | [],_,H,Q=>Q [] H
 | (tk,tv)::r,σ,H,Q=>tk σ H fun x H1=>tv σ H1 fun y H2=>tPairs r σ H2 fun ps H3=>Q ((x,y)::ps) H3
abbrev VV:List (V×V)→List (Value×Value)→Prop:=Paired fun p q=>RelV p.1 q.1∧RelV p.2 q.2
def PPs (X:Cx) (pos:Pos) (keys:List (Option Expr)) (values:List Expr) (trs:List (TE×TE)):Prop:=
 ∀ (pins:List (Addr×Obj)) (s:Shared) (σ:St) (H:Hp) (Q:List (V×V)→Hp→Prop),Inv X pins σ H s→tPairs trs σ H Q →
   wpAny (model X.prog X.w) X.A (evalPairs (pairTrees keys values X.env pos)) (fun vs s'=>∃ ps H',Inv X pins σ H' s'∧VV ps vs∧Q ps H') X.xe s
@[irreducible] def ZPs (X:Cx) (pos:Pos) (keys:List (Option Expr)) (values:List Expr) (trs:List (TE×TE)):Prop:=PPs X pos keys values trs
theorem pps_nil {X:Cx} {pos:Pos}:PPs X pos [] [] []:=fun pins s σ H Q I h=>pairTrees_nil_walk ⟨[],H,I,.nil,h⟩
theorem zps_nil {X:Cx} {pos:Pos}:ZPs X pos [] [] []:=by with_unfolding_all exact pps_nil
theorem pps_cons {X:Cx} {pos:Pos} {k v:Expr} {ks:List (Option Expr)} {vs:List Expr} {tk tv:TE} {trs:List (TE×TE)} (hk:PE X k tk) (hv:PE X v tv) (hr:PPs X pos ks vs trs) :
 PPs X pos (some k::ks) (v::vs) ((tk,tv)::trs):=fun pins s σ H Q I h=>
 pairTrees_cons_walk (thn (hk pins s σ H _ I h) fun u s1 ⟨x,H1,I1,rx,q1⟩=>thn (hv pins s1 σ H1 _ I1 q1) fun w2 s2 ⟨y,H2,I2,ry,q2⟩=>
  thn (hr pins s2 σ H2 _ I2 q2) fun ws s3 ⟨ps,H3,I3,rel,q3⟩=>⟨(x,y)::ps,H3,I3,.cons ⟨rx,ry⟩ rel,q3⟩)
theorem zps_cons {X:Cx} {pos:Pos} {k v:Expr} {ks:List (Option Expr)} {vs:List Expr} {tk tv:TE} {trs:List (TE×TE)} (hk:ZE X k tk) (hv:ZE X v tv) (hr:ZPs X pos ks vs trs) :
 ZPs X pos (some k::ks) (v::vs) ((tk,tv)::trs):=by with_unfolding_all exact pps_cons hk hv hr
def mergeK (kvs more:List (Key×V)):List (Key×V):=more.foldl (fun acc kv=>putK acc kv.1 kv.2) kvs
theorem KV.merge:∀ {more:List (Key×V)} {rs:List (Key×Value)} {kvs:List (Key×V)} {vs:List (Key×Value)},KV more rs→KV kvs vs→KV (mergeK kvs more) (merged vs rs):=by
 intro more rs kvs vs r
 unfold KV at r
 induction r generalizing kvs vs with
 | nil=>intro q;exact q
 | @cons p q ps qs h t ih=>
   intro r0
   have e:KV (putK kvs p.1 p.2) (stored vs q.1 q.2):=by
    have:=r0.put p.1 h.2
    rw [← h.1];exact this
   exact ih e
theorem length_mergeK:∀ (more kvs:List (Key×V)),(mergeK kvs more).length≤kvs.length+more.length
 | [],kvs=>by show kvs.length≤kvs.length+0;omega
 | p::r,kvs=>by
   have h1:=length_mergeK r (putK kvs p.1 p.2)
   have h2:=length_putK kvs p.1 p.2
   show (mergeK (putK kvs p.1 p.2) r).length≤_
   rw [List.length_cons];omega
theorem carries_of {P:Program} {w:World}:∀ {kvs:List (Key×V)} {ws:List (Value×Value)},VV (kvs.map fun kv=>(kV kv.1,kv.2)) ws→∃ rs,Carries (mixKind P w) ws rs∧KV kvs rs
 | [],_,r=>by rw [List.map_nil] at r;cases r;exact ⟨[],True.intro,.nil⟩
 | p::kvs,_,r=>by
   rw [List.map_cons] at r
   cases r with
   | @cons a b as bs h t=>
     obtain ⟨rs,c,q⟩:=carries_of (P:=P) (w:=w) t
     obtain ⟨b1,b2⟩:=b
     exact ⟨(p.1,b2)::rs,⟨kV_is h.1,rfl,c⟩,.cons ⟨rfl,h.2⟩ q⟩
def tDisp (trs:List (TE×TE)):TE:=fun σ H Q=>∀ p,H p=none→tPairs trs σ (upd H p (.dK [])) fun ps H2=>H2 p=some (.dK [])∧∃ kvs:List (Key×V),ps=kvs.map (fun kv=>(kV kv.1,kv.2))∧kvs.length≤15∧Q (.ref p) (upd H2 p (.dK (mergeK [] kvs)))
theorem pe_disp {X:Cx} {pos:Pos} {keys:List (Option Expr)} {values:List Expr} {trs:List (TE×TE)} (h:PPs X pos keys values trs) (hall:keys.all (·.isSome)=true) (hl:keys.length=values.length) (h0:keys≠[])
 (h15:keys.length≤15):PE X (.Dict keys values pos) (tDisp trs):=by
 intro pins s σ H Q I q
 have hn:=I.hok.fresh (Nat.le_refl s.heap.objs.size)
 have I1:=I.laid (a:=s.heap.objs.size) (o:=.dK []) (h':=s.heap.push { cls:=.type "dict",data:=.dict #[] }) (t':=s.toks) (fun _ _ q=>Heap.get?_push_of_some _ q) (Nat.le_refl _) (dk_empty s.heap I.big)
 refine wpAny_Dict_walk (knd:=mixKind X.prog X.w) hall hl h0 h15 (thn (h pins _ σ _ _ I1 (q _ hn)) fun ws s2 ⟨ps,H2,I2,rel,e,kvs,ep,lk,q2⟩=>?_)
 subst ep
 obtain ⟨rs,c,rk⟩:=carries_of (P:=X.prog) (w:=X.w) rel
 obtain ⟨z,hd,vs0,r0,dd⟩:=dk_of I2.hok e
 cases r0
 refine ⟨rs,c,dd,fun h' dd' hs=>⟨.ref s.heap.objs.size,_,?_,rfl,q2⟩⟩
 have hz:(mergeK [] kvs).length≤sizeLine:=by
  have h1:=length_mergeK kvs []
  rw [List.length_nil] at h1
  rw [sizeLine_eq];omega
 have he:∃ q,h'.get? s.heap.objs.size=some q:=let ⟨q,_,_,hq,_⟩:=dd';⟨q,hq⟩
 exact d_write I2 (by rw [e];exact True.intro) hs he (dk_new hz hd (rk.merge .nil) dd')
theorem ze_disp {X:Cx} {pos:Pos} {keys:List (Option Expr)} {values:List Expr} {trs:List (TE×TE)} (h:ZPs X pos keys values trs) (hall:keys.all (·.isSome)=true) (hl:keys.length=values.length) (h0:keys≠[])
 (h15:keys.length≤15):ZE X (.Dict keys values pos) (tDisp trs):=by with_unfolding_all exact pe_disp h hall hl h0 h15
end L2
namespace L2
open PySem PySem.Spec PyProof.Rows
def FnV (P:Program) (w:World) (K:PySem.W.Frag) (mg:Str→Option Value) (base:Heap) (f:Addr) (k:Nat) (ps:List Str) (sp:Sp):Prop:=∃ fd,FnOk P w K mg base CX0 k f fd ps sp∧Binds K fd ps []∧PySem.W.keepIn K (.ref f)=true
section
variable {X:Cx}
def tGf (P:Program) (w:World) (K:PySem.W.Frag) (mg:Str→Option Value) (base:Heap) (k:Nat) (ps:List Str) (sp:Sp):TE:=fun σ H Q=>∀ f,FnV P w K mg base f k ps sp→Q (.ref f) H
theorem pe_dfv {x:Str} {k:Nat} {ps:List Str} {sp:Sp} {p:Pos} (F:FnA X.prog X.w X.K X.mg X.base x k ps sp) (hg:Gl X x) (hdb:(x == ("__debug__" : Str))=false:=by decide):PE X (.Name x p) (tGf X.prog X.w X.K X.mg X.base k ps sp):=by
 obtain ⟨f,fd,F1,b1,k1,m1⟩:=F.ex
 intro pins s σ H Q I h
 exact pe_glob (v:=.ref f) hg m1 rfl hdb pins s σ H Q I (h f ⟨fd,F1,b1,k1⟩)
theorem ze_dfv {x:Str} {k:Nat} {ps:List Str} {sp:Sp} {p:Pos} (F:FnA X.prog X.w X.K X.mg X.base x k ps sp) (hg:Gl X x) (hdb:(x == ("__debug__" : Str))=false:=by decide):ZE X (.Name x p) (tGf X.prog X.w X.K X.mg X.base k ps sp):=by with_unfolding_all exact pe_dfv F hg hdb
end
end L2
namespace L2
open PySem PySem.Spec PyProof.Rows PySem.W PySem.Builtin PySem.Builtin.ObjectAttr PySem.Builtin.Getset_descriptor
structure ExC (K:PySem.W.Frag) (C:Addr):Prop where
 cls:(clsIn K C).isSome=true
 ga:findIn K (.ref C) "__getattribute__" = some (some (.builtin "BaseException.__getattribute__"))
 gh:findIn K (.ref C) "__getattr__" = some none
 ha:findIn K (.ref C) "__class__" = some (some (.builtin "object.__class__"))
 hn:specialIn K (.builtin "object.__class__") "__get__" = some (some (.builtin "getset_descriptor.__get__"))
 htk:takesIn K (.builtin "object.__class__")=some true
 hm:mroIn K C (.type "object")=some true
 sb:subIn K (.ref C) (.type "BaseException")=some true
def exCB (K:PySem.W.Frag) (C:Addr):Bool:=
 (clsIn K C).isSome&&findIn K (.ref C) "__getattribute__" == some (some (.builtin "BaseException.__getattribute__"))&&findIn K (.ref C) "__getattr__" == some none
   && findIn K (.ref C) "__class__" == some (some (.builtin "object.__class__"))&&specialIn K (.builtin "object.__class__") "__get__" == some (some (.builtin "getset_descriptor.__get__"))
   && takesIn K (.builtin "object.__class__") == some true&&mroIn K C (.type "object") == some true&&subIn K (.ref C) (.type "BaseException") == some true
theorem ExC.of {K:PySem.W.Frag} {C:Addr} (h:exCB K C=true):ExC K C:=by
 unfold exCB at h
 simp only [Bool.and_eq_true,beq_iff_eq] at h
 obtain ⟨⟨⟨⟨⟨⟨⟨a,b⟩,c⟩,d⟩,e⟩,f⟩,g⟩,i⟩:=h
 exact ⟨a,b,c,d,e,f,g,i⟩
def IsX (x C:Addr) (h:Heap):Prop:=∃ ox vs,h.get? x=some ox∧ox.cls=.ref C∧ox.data=.fields vs
theorem IsX.ty {x C:Addr} {h:Heap} {M:Model} (I:IsX x C h):Looks M h (typeOf (.ref x)) (.ref C):=by
 obtain ⟨ox,vs,e,c,_⟩:=I
 have z:Looks M h (typeOf (.ref x)) ox.cls:=(Looks.ld e).andThen .now
 rw [c] at z
 exact z
section
variable {prog:Program} {w:World} {A:Around} {E:Value→Shared→Prop} {s:Shared} {K:Frag} {x C:Addr}
theorem exc_check {M:Model} {nameV:Value} {Q:Unit→Shared→Prop} (L:ExC K C) (X:K.In s.heap) (I:IsX x C s.heap) (hq:Q () s):wpAny M A (checkBuiltinCall "BaseException.__getattribute__" ⟨[.ref x,nameV],[]⟩) Q E s:=by
 have hk1:builtinKind "BaseException.__getattribute__" = some .slot:=by decide +kernel
 have hs1:splitId "BaseException.__getattribute__" = some ("BaseException","__getattribute__"):=by decide +kernel
 have ha:=F.args_bexc_ga (.ref x) nameV
 have LI:Looks M s.heap (isInstance (.ref x) (.type "BaseException")) true:=I.ty.andThen (looks_subIn (M:=M) X L.sb)
 obtain ⟨hh,g,d,t,os⟩:=s
 simp only [checkBuiltinCall,hk1,hs1]
 refine wpAny_bind (LI.at ?_)
 repeat (first | wp_step)
 all_goals exact hq
theorem exc_find {M:Model} {h:Heap} (L:ExC K C) (X:K.In h) (I:IsX x C h):Looks M h (Builtin.ObjectAttr.find (.ref x) (.ref C) "__class__") (.bind (.builtin "getset_descriptor.__get__") (.builtin "object.__class__")):=by
 have L1:=looks_findIn (M:=M) X L.ha
 have L2:Looks M h (Builtin.ObjectAttr.getOf (some (.builtin "object.__class__"))) (some (.builtin "getset_descriptor.__get__")):=looks_specialIn X L.hn
 have L3:=looks_takesIn (M:=M) X L.htk
 intro A Q E s k q
 unfold Builtin.ObjectAttr.find
 refine wpAny_bind (L1 A _ E s k (wpAny_bind (L2 A _ E s k (wpAny_bind ?_))))
 unfold Builtin.ObjectAttr.dataDescriptor?
 refine wpAny_bind (L3 A _ E s k ?_)
 rw [if_pos rfl]
 exact wpAny_pure (wpAny_bind (wpAny_rule (wpAny_pure q)))
theorem exc_cget {R:Result→Shared→Prop} {tp:Value} (L:ExC K C) (X:K.In s.heap) (I:IsX x C s.heap) (h:R (.ok (.ret (.ref C))) s) :
 codeAny (model prog w) A (.call (.builtin "getset_descriptor.__get__") ⟨[.builtin "object.__class__",.ref x,tp],[]⟩) R s:=by
 have M0:=I.ty (M:=model prog w)
 have M1:=looks_mroIn (M:=model prog w) X L.hm
 obtain ⟨hh,g,dr,t,os⟩:=s
 refine codeAny_call_builtin KF.slot_gs.plain KF.entry_gs (KF.slot_gs.check _ _ _ _ _ _ _ _ KF.type_class (KF.args_gs _ _ _) ?_)
 unfold Builtin.«getset_descriptor.__get__» descrGet;rw [dga_obj]
 refine wpAny_bind (wpAny_pure ?_);unfold descrGetter descrCheckInstance descrNameAndClass isInstance;simp only [KF.owner_class]
 repeat lk
 refine ⟨Code.quiet_builtin _ (by decide +kernel),codeAny_builtin KF.entry_class ?_⟩;unfold Builtin.«object.__class__» shownTypeOf
 repeat lk
 exact h
theorem exc_class {Q:Option Value→Shared→Prop} (L:ExC K C) (X:K.In s.heap) (I:IsX x C s.heap) (h:Q (some (.ref C)) { s with toks:=s.toks+1 }):wpAny (model prog w) A (getAttr? (.ref x) "__class__") Q E s:=by
 have M0:=I.ty (M:=model prog w)
 have M1:=looks_findIn (M:=model prog w) X L.ga
 have M2:=looks_findIn (M:=model prog w) X L.gh
 have M3:=exc_find (M:=model prog w) L X I
 obtain ⟨hh,g,d,t,os⟩:=s
 unfold getAttr? getAttrBy? getAttrBy
 refine wpAny_bind (wpAny_mkText (wpAny_bind (wpAny_attempt (wpAny_holding (wpAny_bind (M0.at (wpAny_bind (M1.at ?_))))))))
 have hx2:(Value.builtin "BaseException.__getattribute__" == Value.builtin "object.__getattribute__")=false:=by decide +kernel
 dsimp only
 rw [if_neg (by rw [hx2];simp)]
 unfold getAttrByItsOwn hookBefore
 rw [if_pos (show onTheHeap (Value.ref C)=true from rfl)]
 refine wpAny_bind (M2.at (wpAny_bind (wpAny_attempt (wpAny_holding ?_))))
 unfold callGetattribute
 rw [if_neg (by simp [onTheHeap])]
 unfold boundAndCalled
 refine wpAny_bind (wpAny_of_eq (PySem.F.attrBase_ValueError.ga.bind (.ref x)) ?_)
 refine wpAny_call (codeAny_call_builtin PySem.F.attrBase_ValueError.ga.plain F.entry_bexc_ga (exc_check L X I ?_))
 refine wpAny_bind ?_
 repeat (first | wp_step)
 obtain ⟨ox,vs,hx,hc,hd⟩:=id I
 refine wpAny_loadPart_at hx ?_
 refine wpAny_pure ?_
 rw [hc]
 refine wpAny_bind (M3.at ?_)
 dsimp only
 unfold Builtin.ObjectAttr.bindTo
 refine wpAny_bind (wpAny_holding ?_)
 refine wpAny_call (exc_cget L X I ?_)
 repeat (first | wp_step)
 exact h
theorem kitx_exc (L:ExC K C):KitX K (.ref x) (.ref C) (IsX x C) where
 ty:=fun _ _ _ I=>I.ty
 it:=fun _ _ X _=>by
  have z0:=L.cls
  unfold clsIn at z0
  split at z0
  · rename_i c1 d1 cd1 sl1 ho
    intro A1 Q1 E1 s1 k q
    unfold isType loadHead
    exact wpAny_bind (wpAny_loadPart (k _ _ (X _ _ ho)) (wpAny_pure q))
  · cases z0
 ne:=fun h tp dd its n sl X htp=>by
  have z0:=L.cls
  refine Bool.eq_false_iff.mpr fun q=>?_
  have e:C=tp:=Value.ref.inj (beq_iff_eq.mp q)
  subst e
  unfold clsIn at z0
  split at z0
  · rename_i c1 d1 cd1 sl1 ho
    have z:=(X _ _ ho).symm.trans htp
    cases z
  · cases z0
 ca:=fun X I k=>exc_class L X I k
end
end L2
namespace L2
open PySem PySem.Spec PyProof.Rows PySem.W
theorem ObjOk.has {P:Program} {w:World} {H:Hp} {h:Heap} {a:Addr} {o:HO} (x:ObjOk P w H h a o):∃ ob,h.get? a=some ob:=by
 induction o with
 | lst xs=>obtain ⟨_,_,_,_,e⟩:=x;exact ⟨_,e⟩
 | tup xs=>obtain ⟨_,_,_,_,e⟩:=x;exact ⟨_,e⟩
 | dK kvs=>obtain ⟨_,_,_,_,_,_,_,e,_⟩:=x;exact ⟨_,e⟩
 | dT kvs=>obtain ⟨_,_,_,_,_,_,_,e,_⟩:=x;exact ⟨_,e⟩
 | set S n=>obtain ⟨_,_,_,_,e,_⟩:=x;exact ⟨_,e⟩
 | ins C dx fs=>obtain ⟨_,_,_,e,_⟩:=x;exact ⟨_,e⟩
 | own y=>obtain ⟨_,e⟩:=x;exact ⟨_,e⟩
 | xd fs=>obtain ⟨_,⟨_,_,_,e,_⟩,_⟩:=x;exact ⟨_,e⟩
 | rng lo hi=>obtain ⟨_,_,_,e⟩:=x;exact ⟨_,e⟩
 | frz ob u ih=>obtain ⟨e,_⟩:=x;exact ⟨_,e⟩
 | tbl ps=>exact ⟨_,x⟩
 | met f y=>exact ⟨_,x⟩
 | ext φ=>obtain ⟨_,⟨o,e⟩,_⟩:=x;exact ⟨_,e⟩
def CXF (P:Program) (w:World):CXT:=fun outer H s E v s'=>∃ (e C:Addr) (a0:Value) (B:Heap) (H':Hp),v=.ref e∧s'.os=s.os∧AllBare s'.gens∧Un (frs outer) [] H H' s.heap s'.heap∧HOk P w H' s'.heap ∧
 Heap.FlyingW B outer e (.ref C) a0 s'.heap∧(∀ b u,H' b=some u→∃ o,B.get? b=some o)∧(∀ b o,s.heap.get? b=some o→b∉frs outer→∃ o',B.get? b=some o')∧E (.ref C) none H'
section
variable {X:Cx} {pins:List (Addr×Obj)} {σ:St} {H H1:Hp} {s s1:Shared} {B h':Heap}
theorem hok_fly {P:Program} {w:World} {h:Heap} (ok:HOk P w H h) (bs:B.StaysIn h) (st:B.StaysIn h') (trk:∀ b u,H b=some u→∃ o,B.get? b=some o):HOk P w H h':=fun a u e=>
 (ok a u e).stay (fun b v hb q=>by
   have:∃ o,B.get? b=some o:=by
    rcases hb with z | z
    · rw [z];exact trk a u e
    · exact trk b _ z
   obtain ⟨o,eo⟩:=this
   have z:=bs b o eo
   rw [q] at z
   cases z
   exact st b v eo) (fun _ q=>q) fun _ _ q=>q
theorem frs_of (J:Inv X pins σ H s) {b:Addr} (h1:b≠X.env.locals) (h2:b∉X.fs):b∉frs X.stack:=fun z=>(List.mem_cons.mp (J.stkSub b z)).elim h1 h2
theorem fs_stack (J:Inv X pins σ H s) {b:Addr} (h:b∈X.fs):b∈frs X.stack:=by
 rcases J.ok.stk with e | ⟨e,hf⟩
 · rw [e];exact h
 · rw [e]
   unfold frs
   rw [List.filterMap_cons,hf]
   exact List.mem_cons_of_mem _ h
theorem Inv.fly {t':Nat} (I1:Inv X pins σ H1 s1) (J:Inv X pins σ H s) (bs:B.StaysIn s.heap) (st:B.StaysIn h') (cov:∀ b o,s1.heap.get? b=some o→b∉frs X.stack→∃ o',B.get? b=some o')
 (trk:∀ b u,H b=some u→∃ o,B.get? b=some o) (up:∀ b,b∈frs X.stack→∀ o,s.heap.get? b=some o→(∀ vs,o.data≠.fields vs)→∃ sl,h'.get? b=some { o with slots:=sl }) :
 Inv X pins σ H { s with heap:=h',toks:=t' }:=by
 have key:∀ b o o1,s1.heap.get? b=some o1→s.heap.get? b=some o→b∉frs X.stack→h'.get? b=some o:=fun b o o1 e1 e nf=>by
  obtain ⟨o',eo⟩:=cov b o1 e1 nf
  have z:=bs b o' eo
  rw [e] at z
  cases z
  exact st b o eo
 have any:∀ b o o1,s1.heap.get? b=some o1→s.heap.get? b=some o→(∀ vs,o.data≠.fields vs)→∃ sl,h'.get? b=some { o with slots:=sl }:=fun b o o1 e1 e nd=>by
  by_cases hb:b∈frs X.stack
  · exact up b hb o e nd
  · exact ⟨o.slots,key b o o1 e1 e hb⟩
 have neL:∀ b o,X.s₀.heap.get? b=some o→b≠X.env.locals:=fun b o e=>Nat.ne_of_lt (Nat.lt_of_lt_of_le (Heap.lt_size e) J.ok.above)
 have cellK:∀ x c,X.env.cells.lookup x=some c→∀ v,s.heap.IsCell c v→h'.IsCell c v:=fun x c e v ⟨o,ho,hd⟩=>by
  obtain ⟨v1,o1,e1,_⟩:=I1.cell x c e
  obtain ⟨sl,q⟩:=any c o o1 e1 ho fun vs z=>by rw [hd] at z;cases z
  exact ⟨_,q,hd⟩
 refine ⟨J.ok,J.os,J.bare,⟨fun b o e n hb hx=>?_,fun b o e n hb hx=>?_,J.base.free,fun b o e hx=>?_,J.base.tups,J.base.frzs,J.base.tbls⟩,?_,fun x c e=>?_,J.free,J.freeC,fun p hp=>?_,hok_fly J.hok bs st trk,J.len⟩
 · exact key b o o (I1.base.keep b o e n hb hx) (J.base.keep b o e n hb hx) (frs_of J (neL b o e) hb)
 · obtain ⟨sl,e1⟩:=J.base.slot b o e n hb hx
   obtain ⟨_,o2,e2,d2⟩:=J.ok.funs.mem hb
   rw [e] at e2
   cases e2
   obtain ⟨sl',e3⟩:=up b (fs_stack J hb) _ e1 d2
   exact ⟨sl',e3⟩
 · obtain ⟨o1,e1⟩:=I1.base.there b o e hx
   obtain ⟨o2,e2⟩:=J.base.there b o e hx
   by_cases hb:b∈frs X.stack
   · obtain ⟨_,o3,e3,d3⟩:=J.stack.mem hb
     obtain ⟨sl,e4⟩:=up b hb o3 e3 d3
     exact ⟨_,e4⟩
   · exact ⟨o2,key b o2 o1 e1 e2 hb⟩
 · obtain ⟨m,⟨o,es,ep,ho,hd,r⟩,hl⟩:=J.loc
   obtain ⟨m1,⟨o1,_,_,e1,_⟩,_⟩:=I1.loc
   obtain ⟨sl,q⟩:=any _ o o1 e1 ho fun vs z=>by rw [hd] at z;cases z
   refine ⟨m,⟨_,es,ep,q,hd,r⟩,fun i x v e1 e2 e3=>?_⟩
   obtain ⟨u,r,l⟩:=hl i x v e1 e2 e3
   refine ⟨u,r,?_⟩
   rcases l with l | ⟨k,c,e,z⟩
   · exact .inl l
   · exact .inr ⟨k,c,e,cellK x c e _ z⟩
 · obtain ⟨v,z⟩:=J.cell x c e
   exact ⟨v,cellK x c e v z⟩
 · obtain ⟨e,n,ne,nf,d⟩:=J.pin p hp
   obtain ⟨e1,_⟩:=I1.pin p hp
   exact ⟨key p.1 p.2 p.2 e1 e (frs_of J ne nf),n,ne,nf,d⟩
theorem fly_out {E:XK} {e C:Addr} {a0:Value} (J:Inv X pins σ H s) (hex:X.ex=[]) (bs:B.StaysIn s.heap) (st:B.StaysIn h') (cov:∀ b o,X.s₀.heap.get? b=some o→b∉X.fs→∃ o',B.get? b=some o')
 (trk:∀ b u,H b=some u→∃ o,B.get? b=some o) (up:∀ b,b∈X.fs→∀ o,s.heap.get? b=some o→(∀ vs,o.data≠.fields vs)→∃ sl,h'.get? b=some { o with slots:=sl })
 (fl:Heap.FlyingW B X.outer e (.ref C) a0 h') (q:E (.ref C) none H):CXF X.prog X.w X.outer X.H₀ X.s₀ E (.ref e) { s with heap:=h' }:=by
 have nx:∀ b,b∉X.ex:=fun b z=>by rw [hex] at z;cases z
 refine ⟨e,C,a0,B,H,rfl,J.os,J.bare,⟨fun b o eb n hb _=>?_,fun b o eb n hb _=>?_,fun b o eb n _=>J.base.free b o eb n (nx b),fun b o eb _=>?_,J.base.tups,J.base.frzs,J.base.tbls⟩,hok_fly J.hok bs st trk,fl,trk,cov,q⟩
 · obtain ⟨o',eo⟩:=cov b o eb hb
   have z:=bs b o' eo
   rw [J.base.keep b o eb n hb (nx b)] at z
   cases z
   exact st b o eo
 · obtain ⟨sl,e1⟩:=J.base.slot b o eb n hb (nx b)
   obtain ⟨_,o2,e2,d2⟩:=J.ok.funs.mem hb
   rw [eb] at e2
   cases e2
   obtain ⟨sl',e3⟩:=up b hb _ e1 d2
   exact ⟨sl',e3⟩
 · by_cases hb:b∈X.fs
   · obtain ⟨o2,e2⟩:=J.base.there b o eb (nx b)
     obtain ⟨_,o3,e3,d3⟩:=J.funs.mem hb
     obtain ⟨sl,e4⟩:=up b hb o3 e3 d3
     exact ⟨_,e4⟩
   · obtain ⟨o',eo⟩:=cov b o eb hb
     exact ⟨o',st b o' eo⟩
end
structure RaC (K:PySem.W.Frag) (C:Addr):Prop where
 ex:excIn K C [.type "ValueError",.type "Exception",.type "BaseException",.type "object"] "ValueError.__new__" = true
theorem RaC.obj {K:PySem.W.Frag} {C:Addr} {h:Heap} (R:RaC K C) (X:K.In h):∃ bm N nm q bs hdct sn sub ab col dd k0 k1 k2 k3 k5 mN,h.get? C=some (excClassObj nm q C N bs bm hdct sn sub ab col dd k0 k1 k2 k3 k5 "ValueError.__new__")∧h.Ns N mN∧mN "__init__" = none ∧
 OwnTail h [.type "ValueError",.type "Exception",.type "BaseException",.type "object"] bm:=by
 have z:=R.ex
 unfold excIn at z
 split at z
 · rename_i dd cd sl ho
   split at z
   · rename_i C1 bm k0 k1 k2 k3 n k5 hm hs
     rw [Bool.and_eq_true,Bool.and_eq_true,Bool.and_eq_true,Bool.and_eq_true,Bool.and_eq_true] at z
     obtain ⟨⟨⟨⟨⟨z1,z2⟩,z3⟩,z4⟩,z5⟩,z6⟩:=z
     have y1:=beq_iff_eq.mp z1
     have y2:=beq_iff_eq.mp z2
     have y6:=beq_iff_eq.mp z6
     subst y1 y2
     obtain ⟨nm,bs,mro,ns,qn,hd,sn,sub,ab,col,del⟩:=cd
     have y3:del=false:=by simpa using z3
     have ym:mro=.ref C1::bm:=hm
     subst ym y3
     have hsl:sl=#[k0,k1,k2,k3,some (.builtin "ValueError.__new__"),k5]:=by
      rw [← hs]
     subst hsl
     exact ⟨bm,ns,nm,qn,bs,hd,sn,sub,ab,col,dd,k0,k1,k2,k3,k5,_,X _ _ ho,.of_isNs (isNs_of_in X z5),nsMap_none_of_in X z5 y6,tail_of_in X z4⟩
   · cases z
 · cases z
section
variable {P:Program} {w:World} {K:PySem.W.Frag} {mg:Str→Option Value} {base:Heap} {N:List Str} {qual:Str} {scope:Scope} {f:Addr} {cdv:Value} {A:Around} {outer:List Env} {s0:Shared} {H0:Hp} {E:XK}
def tRaise (C:Addr) (E:XK) (t:TA):TS:=fun _ σ H=>t σ H fun vs H1=>vs.length≤sizeLine∧E (.ref C) none H1
theorem ps_raise {x:Str} {C:Addr} {e:Expr} {es:List Expr} {t:TA} {np cpos pos:Pos} (R:RaC K C) (hm:mg x=some (.ref C)) (hg:Gl (cxOf (CXF P w) P w K mg base N qual scope f cdv A outer s0 H0 E) x)
 (ha:PA (cxOf (CXF P w) P w K mg base N qual scope f cdv A outer s0 H0 E).nox (e::es) t) (hdb:(x == ("__debug__" : Str))=false:=by decide)
 (he:starEach (e::es) (cxOf (CXF P w) P w K mg base N qual scope f cdv A outer s0 H0 E).env=(false,eval e (cxOf (CXF P w) P w K mg base N qual scope f cdv A outer s0 H0 E).env)::starEach es (cxOf (CXF P w) P w K mg base N qual scope f cdv A outer s0 H0 E).env:=by rfl)
 (hpl:(backTo cpos (starEach es (cxOf (CXF P w) P w K mg base N qual scope f cdv A outer s0 H0 E).env)).any (·.1)=false:=by rfl) :
 PS (cxOf (CXF P w) P w K mg base N qual scope f cdv A outer s0 H0 E) (.Raise (some (.Call (.Name x np) (e::es) [] cpos)) none pos) (tRaise C E t):=by
 intro pins s σ H D I h
 obtain ⟨bm,Nn,nm,q,bs,hdct,sn,sub,ab,col,dd,k0,k1,k2,k3,k5,mN,hC,hNs,hni,T⟩:=R.obj I.ok.mod.kin
 refine wpAny_Raise_call_subT (C:=C) (nm:=nm) (q:=q) (N:=Nn) (bs:=bs) (bm:=bm) (hdct:=hdct) (sn:=sn) (sub:=sub) (ab:=ab) (col:=col) (dd:=dd) (k0:=k0) (k1:=k1) (k2:=k2) (k3:=k3) (k5:=k5) PySem.F.excBase_ValueError (mN:=mN) (T.hasType PySem.F.excBase_ValueError.hasBase) (I.ok.hd rfl) (by rw [he];exact (Bool.or_eq_false_iff.mpr ⟨rfl,hpl⟩)) hni (ld_glob I hg hm ⟨rfl,?_⟩ hdb)
 have hA:=ha cpos pins s σ H _ (I.wish _) h
 have he':starEach (e::es) (envOfC qual scope s0.heap.objs.size f cdv)=(false,eval e (envOfC qual scope s0.heap.objs.size f cdv))::starEach es (envOfC qual scope s0.heap.objs.size f cdv):=he
 show wpAny _ _ (evalArgs _ true (backTo cpos (starEach (e::es) (envOfC qual scope s0.heap.objs.size f cdv))) []) _ _ _
 have hA:wpAny (model P w) _ (spliced (backTo cpos (starEach (e::es) (envOfC qual scope s0.heap.objs.size f cdv)))) _ _ _:=hA
 rw [he'] at hA ⊢
 refine Calls.evalArgs_plain (wpAny_mono hA (fun vs s2 ⟨xs,H2,I2,rv,len,q2⟩=>?_) fun _ _ z=>False.elim z)
 have I2:=I2.unwish
 refine ⟨rfl,by rw [← rv.length];exact len,I2.bk _ _ hC,hNs.keeps I2.bk,T.keeps I2.bk,fun h' e' hx=>?_⟩
 have hin:∀ env∈(envOfC qual scope s0.heap.objs.size f cdv::outer),∀ b,env.frame=some b→b∈frs (envOfC qual scope s0.heap.objs.size f cdv::outer):=fun env hen b hb=>List.mem_filterMap.mpr ⟨env,hen,hb⟩
 show wpAny (model P w) (A.deeper (envOfC qual scope s0.heap.objs.size f cdv)) (leaving (envOfC qual scope s0.heap.objs.size f cdv) (.ref e')) _ _ _
 refine wpAny_leaves_madeW (base:=hideAll s2.heap (frs (envOfC qual scope s0.heap.objs.size f cdv::outer))) (h:=s2.heap) (outer:=outer) I2.ok.frames rfl (fun b o z=>of_hideAll _ z) (funFrames_hide I2.stack hin) hx fun h3 t x1 x2 x3 x4=>?_
 have nin:∀ b o,s0.heap.get? b=some o→b∉frs outer→b∉frs (envOfC qual scope s0.heap.objs.size f cdv::outer):=fun b o eb hb=>frs_of I2 (Nat.ne_of_lt (Nat.lt_of_lt_of_le (Heap.lt_size eb) I2.ok.above)) hb
 refine fly_out (X:=cxOf (CXF P w) P w K mg base N qual scope f cdv A outer s0 H0 E) (s:=s2) (h':=h3) (a0:=.ref t) I2 rfl (fun b o z=>of_hideAll _ z) x1.1 (fun b o eb hb=>?_) (fun b u eb=>?_) (fun b hb o eb nd=>?_) x1 q2
 · obtain ⟨o',e1⟩:=I2.base.there b o eb (by intro z;cases z)
   exact ⟨o',hideAll_get _ e1 (nin b o eb hb)⟩
 · obtain ⟨ob,e1⟩:=(I2.hok b u eb).has
   exact ⟨ob,hideAll_get _ e1 fun z=>by have:=I2.stkFree b z;rw [eb] at this;cases this⟩
 · exact x4 b o (hx.keeps b o eb) nd
theorem pass_on:Passes (CXF P w) (cxOf (CXF P w) P w K mg base N qual scope f cdv A outer s0 H0 E) E:=by
 intro pins σ H s v s' I h
 obtain ⟨e,C,a0,B,H',rfl,os,bare,un,hok,fl,trk,cov,q⟩:=h
 have J:Inv (cxOf (CXF P w) P w K mg base N qual scope f cdv A outer s0 H0 E) pins σ H' s':=I.call' os un hok bare (fun b z=>absurd z (by simp))
 show wpAny (model P w) (A.deeper (envOfC qual scope s0.heap.objs.size f cdv)) (leaving (envOfC qual scope s0.heap.objs.size f cdv) (.ref e)) _ _ _
 refine wpAny_leaves_onW (outer:=outer) I.ok.frames rfl fl fun h3 x1 x4=>?_
 have nin:∀ b o,s0.heap.get? b=some o→b∉frs outer→b∉frs (envOfC qual scope s0.heap.objs.size f cdv::outer):=fun b o eb hb=>frs_of I (Nat.ne_of_lt (Nat.lt_of_lt_of_le (Heap.lt_size eb) I.ok.above)) hb
 refine fly_out (X:=cxOf (CXF P w) P w K mg base N qual scope f cdv A outer s0 H0 E) (s:=s') (h':=h3) (a0:=a0) J rfl fl.1 x1.1 (fun b o eb hb=>?_) trk (fun b hb o eb nd=>x4 b o eb nd) x1 q
 obtain ⟨o',e1⟩:=I.base.there b o eb (by intro z;cases z)
 exact cov b o' e1 (nin b o eb hb)
end
structure FnR (P:Program) (w:World) (K:PySem.W.Frag) (mg:Str→Option Value) (base:Heap) (x:Str) (k:Nat) (ps:List Str) (sp:Sp):Prop where
 ex:∃ f fd,FnOk P w K mg base (CXF P w) k f fd ps sp∧Binds K fd ps []∧PySem.W.keepIn K (.ref f)=true∧mg x=some (.ref f)
theorem FnOk.toX {P:Program} {w:World} {K:PySem.W.Frag} {mg:Str→Option Value} {base:Heap} {CX:CXT} {k:Nat} {f:Addr} {fd:FuncData} {ps:List Str} {sp:Sp} (F:FnOk P w K mg base CX0 k f fd ps sp):FnOk P w K mg base CX k f fd ps sp:=
 ⟨F.len,fun A outer s H args us vs Q E hr e0 hb r h=>codeAny_mono (F.run A outer s H args us vs Q E hr e0 hb r h) fun r s' hq=>by
  cases r with
  | ok fl=>cases fl <;> exact hq
  | error e=>exact False.elim hq⟩
theorem FnOk.both {P:Program} {w:World} {K:PySem.W.Frag} {mg:Str→Option Value} {base:Heap} {CX:CXT} {k:Nat} {f:Addr} {fd:FuncData} {ps:List Str} {sp sp':Sp} (F:FnOk P w K mg base CX k f fd ps sp) (G:FnOk P w K mg base CX k f fd ps sp') :
 FnOk P w K mg base CX k f fd ps (fun vs H Q E=>sp vs H Q E∨sp' vs H Q E):=
 ⟨fun vs H Q E h=>h.elim (F.len vs H Q E) (G.len vs H Q E),fun A outer s H args us vs Q E hr e0 hb r h=>h.elim (F.run A outer s H args us vs Q E hr e0 hb r) (G.run A outer s H args us vs Q E hr e0 hb r)⟩
section
variable {P:Program} {w:World} {K:PySem.W.Frag} {mg:Str→Option Value} {base:Heap}
theorem Fun.okx {x qual:Str} {st:Stmt} {f:Addr} {fd:FuncData} {N ps:List Str} {k:Nat} {sp:Sp} (F:Fun K x qual st f fd) (S:FnScope N ps (defScope st)) (len:∀ vs H Q E,sp vs H Q E→vs.length=ps.length)
 (hbody:∀ (cdv:Value) (A:Around) (outer:List Env) (s:Shared) (H:Hp) (vs:List V) (Q:VK) (E:XK),Room k (A.deeper (envOfC qual (defScope st) s.heap.objs.size f cdv))→sp vs H Q E →
   ∃ t,ZSs (cxOf (CXF P w) P w K mg base N qual (defScope st) f cdv A outer s H E) (defBody st) t∧t { nx:=fun _ H'=>Q .non H',rt:=Q } (start N vs) H):FnOk P w K mg base (CXF P w) (k+1) f fd ps sp:=by
 obtain ⟨oc,od,kV,doc,pm,an,cdv,ct,osl,rfl,lk,hcd⟩:=F.ex
 refine fn_of lk hcd S len fun A outer s H vs Q E hr hsp=>?_
 obtain ⟨t,h,q⟩:=hbody cdv A outer s H vs Q E hr hsp
 exact ⟨t,h.p,q⟩
end
section
variable {P:Program} {w:World} {K:PySem.W.Frag} {mg:Str→Option Value} {base:Heap} {N:List Str} {qual:Str} {scope:Scope} {f:Addr} {cdv:Value} {A:Around} {outer:List Env} {s0:Shared} {H0:Hp} {E:XK}
theorem zs_raise {x:Str} {C:Addr} {e:Expr} {es:List Expr} {t:TA} {np cpos pos:Pos} (R:RaC K C) (hm:mg x=some (.ref C)) (hg:Gl (cxOf (CXF P w) P w K mg base N qual scope f cdv A outer s0 H0 E) x)
 (ha:ZA (cxOf (CXF P w) P w K mg base N qual scope f cdv A outer s0 H0 E).nox (e::es) t) (hdb:(x == ("__debug__" : Str))=false:=by decide)
 (he:starEach (e::es) (cxOf (CXF P w) P w K mg base N qual scope f cdv A outer s0 H0 E).env=(false,eval e (cxOf (CXF P w) P w K mg base N qual scope f cdv A outer s0 H0 E).env)::starEach es (cxOf (CXF P w) P w K mg base N qual scope f cdv A outer s0 H0 E).env:=by rfl)
 (hpl:(backTo cpos (starEach es (cxOf (CXF P w) P w K mg base N qual scope f cdv A outer s0 H0 E).env)).any (·.1)=false:=by rfl) :
 ZS (cxOf (CXF P w) P w K mg base N qual scope f cdv A outer s0 H0 E) (.Raise (some (.Call (.Name x np) (e::es) [] cpos)) none pos) (tRaise C E t):=by with_unfolding_all exact ps_raise R hm hg ha hdb he hpl
end
section
variable {X:Cx}
def tFnX (sp:Sp) (E:XK) (t:TA):TE:=fun σ H Q=>t σ H fun vs H1=>sp vs H1 Q E
theorem pe_fnX {E:XK} {x:Str} {k k':Nat} {ps:List Str} {sp:Sp} {e:Expr} {es:List Expr} {t:TA} {p pos:Pos} (F:FnR X.prog X.w X.K X.mg X.base x k ps sp) (hr:Room k' X.A) (hk:k≤k') (hx:Passes (CXF X.prog X.w) X E) (hg:Gl X x)
 (ha:PA X (e::es) t) (hdb:(x == ("__debug__" : Str))=false:=by decide) (he:starEach (e::es) X.env=(false,eval e X.env)::starEach es X.env:=by rfl) (hpl:(backTo pos (starEach es X.env)).any (·.1)=false:=by rfl) :
 PE X (.Call (.Name x p) (e::es) [] pos) (tFnX sp E t):=by
 obtain ⟨f,fd,F1,b1,k1,m1⟩:=F.ex
 refine (pe_call (F1.mono hk) hr hg m1 k1 b1 .nil hx ha hdb he hpl).imp fun σ H Q h=>?_
 have e:(fun (vs:List V) (H1:Hp)=>sp (vs++[]) H1 Q E)=fun vs H1=>sp vs H1 Q E:=by
  funext vs H1
  rw [List.append_nil]
 show t σ H fun vs H1=>sp (vs++[]) H1 Q E
 rw [e]
 exact h
theorem ze_fnX {E:XK} {x:Str} {k k':Nat} {ps:List Str} {sp:Sp} {e:Expr} {es:List Expr} {t:TA} {p pos:Pos} (F:FnR X.prog X.w X.K X.mg X.base x k ps sp) (hr:Room k' X.A) (hk:k≤k') (hx:Passes (CXF X.prog X.w) X E) (hg:Gl X x)
 (ha:ZA X (e::es) t) (hdb:(x == ("__debug__" : Str))=false:=by decide) (he:starEach (e::es) X.env=(false,eval e X.env)::starEach es X.env:=by rfl) (hpl:(backTo pos (starEach es X.env)).any (·.1)=false:=by rfl) :
 ZE X (.Call (.Name x p) (e::es) [] pos) (tFnX sp E t):=by with_unfolding_all exact pe_fnX F hr hk hx hg ha hdb he hpl
abbrev TX:=St→Hp→VK→XK→Prop
def PX (X:Cx) (e:Expr) (t:TX):Prop:=∀ (xe:Value→Shared→Prop) (pins:List (Addr×Obj)) (s:Shared) (σ:St) (H:Hp) (Q:VK) (E:XK),Inv X pins σ H s→t σ H Q E →
 (∀ H1 s1 v s2,Inv X pins σ H1 s1→CXF X.prog X.w X.stack H1 s1 E v s2→xe v s2)→wpAny (model X.prog X.w) X.A (eval e X.env) (EP X pins σ Q) xe s
abbrev TXS:=Ends→(St→XK)→St→Hp→Prop
def PXS (X:Cx) (st:List Stmt) (t:TXS):Prop:=∀ (xe:Value→Shared→Prop) (pins:List (Addr×Obj)) (s:Shared) (σ:St) (H:Hp) (D:Ends) (E:St→XK),Inv X pins σ H s→t D E σ H →
 (∀ σ1 H1 s1 v s2,Inv X pins σ1 H1 s1→CXF X.prog X.w X.stack H1 s1 (E σ1) v s2→xe v s2)→wpAny (model X.prog X.w) X.A (execs st X.env) (SP X pins D) xe s
def tXfn (sp:Sp) (t:TA):TX:=fun σ H Q E=>t σ H fun vs H1=>sp vs H1 Q E
theorem px_call {x:Str} {k k':Nat} {ps:List Str} {sp:Sp} {e:Expr} {es:List Expr} {t:TA} {p pos:Pos} (F:FnR X.prog X.w X.K X.mg X.base x k ps sp) (hr:Room k' X.A) (hk:k≤k') (hg:Gl X x)
 (ha:PA X.nox (e::es) t) (hdb:(x == ("__debug__" : Str))=false:=by decide) (he:starEach (e::es) X.env=(false,eval e X.env)::starEach es X.env:=by rfl) (hpl:(backTo pos (starEach es X.env)).any (·.1)=false:=by rfl) :
 PX X (.Call (.Name x p) (e::es) [] pos) (tXfn sp t):=by
 intro xe pins s σ H Q E I h pass
 obtain ⟨f,fd,F1,b1,k1,m1⟩:=F.ex
 refine wpAny_Call_Name_kw (ld_glob I hg m1 ?_ hdb)
 refine PySem.W.callWith_K (h₀:=X.base) I.ok.mod.kin k1 (wpAny_mono (ha pos pins s σ H _ (I.wish _) h) (fun us s1 ⟨vs,H1,I1,r,q⟩=>⟨I1.kIn,?_⟩) fun _ _ z=>False.elim z) he hpl
 have I1:=I1.unwish
 have hl:us.length=ps.length:=by rw [← r.length];exact F1.len _ _ _ _ q
 refine wpAny_call (codeAny_mono ((F1.mono hk).run X.A X.stack s1 H1 ⟨us,[]⟩ us vs Q E hr I1.env0 (by have:=b1 s1 us I1.kIn (by rw [List.append_nil];exact hl);rw [List.append_nil] at this;exact this) r q) fun r s' hq=>?_)
 cases r with
 | error e=>exact pass H1 s1 e s' I1 hq
 | ok fl=>
   cases fl with
   | ret u=>exact I1.after hq
   | next=>exact False.elim hq
   | brk=>exact False.elim hq
   | cont=>exact False.elim hq
def tXset (i:Nat) (tx:TX):TXS:=fun D E σ H=>tx σ H (fun v H1=>D.nx (σ.set i (some v)) H1) (E σ)
theorem pxs_set {i:Nat} {x:Str} {e:Expr} {te:TX} {pos pos':Pos} (hN:X.N.Nodup) (hi:X.N[i]? = some x) (hx:Loc X.env.scope x) (he:PX X e te) (hs:swapsWith e (some (.Name x pos')) pos.line X.env=pure false:=by rfl) (hf:X.fn x=true∨X.env.scope.names.lookup x=some .local:=by first | exact .inl rfl | exact .inr rfl | assumption) :
 PXS X [.Assign [.Name x pos'] e pos] (tXset i te):=by
 intro xe pins s σ H D E I h pass
 refine wpAny_execs_cons (wpAny_Assign_Name (thn (he xe pins s σ H _ _ I h fun H1 s1 v s2=>pass σ H1 s1 v s2) fun v s1 ⟨y,H1,I1,r1,q1⟩=>?_) hs)
 exact store_ok I1 hN hi hx r1 (fun s2 I2=>wpAny_execs_nil ⟨_,H1,I2,q1⟩) hf
abbrev Cx.inx (X:Cx) (a:Addr):Cx:={ X with A:=X.A.mark (some (.ref a)),calm:=false,xe:=fun _ _=>False }
theorem Cx.Ok.inx {X:Cx} (ok:X.Ok) (a:Addr):(X.inx a).Ok:=
 ⟨ok.mod,ok.kind,ok.glob,ok.blt,ok.above,ok.inj,ok.has,ok.cab,(fun z=>by cases z),ok.frames,ok.stk,ok.exf,ok.bs,ok.bsz,ok.noex,ok.exfs,ok.funs,ok.frf⟩
theorem Inv.inx {pins:List (Addr×Obj)} {σ:St} {H:Hp} {s:Shared} (I:Inv X pins σ H s) (a:Addr):Inv (X.inx a) pins σ H s:=⟨I.ok.inx a,I.os,I.bare,I.base,I.loc,I.cell,I.free,I.freeC,I.pin,I.hok,I.len⟩
theorem Inv.outx {pins:List (Addr×Obj)} {σ:St} {H:Hp} {s:Shared} {a:Addr} (ok:X.Ok) (I:Inv (X.inx a) pins σ H s):Inv X pins σ H s:=⟨ok,I.os,I.bare,I.base,I.loc,I.cell,I.free,I.freeC,I.pin,I.hok,I.len⟩
def dropN (i:Nat) (D:Ends):Ends:={ nx:=fun σ H=>D.nx (σ.set i none) H,rt:=D.rt,bk:=fun σ H=>D.bk (σ.set i none) H,ct:=fun σ H=>D.ct (σ.set i none) H }
def tTry (K:PySem.W.Frag) (PC:Addr) (i:Nat) (tx:TXS) (u:TS):TS:=fun D σ H=>tx D (fun σ1 c _ H1=>∃ C,c=.ref C∧exmOne K (.ref C) (.ref PC)=some true∧∀ a,H1 a=none→u (dropN i D) (σ1.set i (some (.ref a))) (upd H1 a (.ext (IsX a C)))) σ H
theorem Inv.drop {pins:List (Addr×Obj)} {σ:St} {H:Hp} {s:Shared} {i:Nat} {n:Str} {h':Heap} {v:Option Value} {t':Nat} {m:Str→Option Value} (I:Inv X pins σ H s) (hN:X.N.Nodup) (hi:X.N[i]? = some n) (hk:X.env.scope.names.lookup n=some .local)
 (hm:s.heap.Ns X.env.locals m) (hl:∀ (i:Nat) (x:Str) (v:V),X.N[i]? = some x→σ[i]? = some (some v)→Vis X.env.scope x→∃ u,RelV v u∧Look X.env s.heap m x u)
 (hn:h'.Ns X.env.locals (fun x=>if x=n then v else m x)) (hs:Heap.SameBut X.env.locals s.heap h'):Inv X pins (σ.set i none) H { s with heap:=h',toks:=t' }:=by
 have neL:∀ b o,X.s₀.heap.get? b=some o→b≠X.env.locals:=fun b o e=>Nat.ne_of_lt (Nat.lt_of_lt_of_le (Heap.lt_size e) I.ok.above)
 refine ⟨I.ok,I.os,I.bare,⟨fun b o e n hb hx=>(hs.2 b (neL b o e)).trans (I.base.keep b o e n hb hx),fun b o e n hb hx=>?_,I.base.free,fun b o e hx=>?_,I.base.tups,I.base.frzs,I.base.tbls⟩,⟨_,hn,fun j y v' e1 e2 e3=>?_⟩,fun y c e=>?_,I.free,I.freeC,fun p hp=>?_,fun b u e=>?_,by rw [List.length_set];exact I.len⟩
 · obtain ⟨sl,e1⟩:=I.base.slot b o e n hb hx
   exact ⟨sl,(hs.2 b (neL b o e)).trans e1⟩
 · obtain ⟨o',e1⟩:=I.base.there b o e hx
   exact ⟨o',(hs.2 b (neL b o e)).trans e1⟩
 · by_cases hj:j=i
   · subst hj
     by_cases hlt:j<σ.length
     · rw [List.getElem?_set_self hlt] at e2;cases e2
     · rw [List.getElem?_eq_none (by rw [List.length_set];omega)] at e2;cases e2
   · rw [List.getElem?_set_ne (Ne.symm hj)] at e2
     obtain ⟨u',r',q⟩:=hl j y v' e1 e2 e3
     refine ⟨u',r',?_⟩
     rcases q with ⟨k,e⟩ | ⟨k,c,e,z⟩
     · refine .inl ⟨k,?_⟩
       have ne:y≠n:=fun e=>hj (nodup_ix hN e1 (e▸hi))
       show (if y=n then v else m y)=_
       rw [if_neg ne]
       exact e
     · exact .inr ⟨k,c,e,z.sameBut hs (I.cne y c e)⟩
 · obtain ⟨w',z⟩:=I.cell y c e
   exact ⟨w',z.sameBut hs (I.cne y c e)⟩
 · obtain ⟨e,n,ne,nf,d⟩:=I.pin p hp
   exact ⟨(hs.2 p.1 ne).trans e,n,ne,nf,d⟩
 · refine (I.hok b u e).stay (fun c w' hc q=>(hs.2 c ?_).trans q) (fun _ q=>q) fun _ _ q=>q
   rintro rfl
   have fr:=I.free
   rcases hc with z | z
   · rw [← z,fr] at e;cases e
   · rw [fr] at z;cases z
theorem ps_try {PC:Addr} {i:Nat} {tx:TXS} {u:TS} {n pn:Str} {body:List Stmt} {b0:Stmt} {suite:List Stmt} {np hpos pos:Pos} (hb:PXS X body tx) (hu:∀ a,PSs (X.inx a) (b0::suite) u) (hst:X.stack=X.env::X.outer) (hfr:X.env.frame=some X.env.locals) (hN:X.N.Nodup) (hi:X.N[i]? = some n)
 (hn:X.env.scope.names.lookup n=some .local) (hg:Gl X pn) (hm:X.mg pn=some (.ref PC)) (hdb:(pn == ("__debug__" : Str))=false:=by decide) :
 PS X (.Try body [.ExceptHandler (some (.Name pn np)) (some n) (b0::suite) hpos] [] [] pos) (tTry X.K PC i tx u):=by
 intro pins s σ H D I h
 refine wpAny_Try_except (wpAny_mono (hb _ pins s σ H D _ I h fun σ1 H1 s1 v s2 I1 hx=>?_) (fun f s1 q=>?_) fun _ _ z=>z)
 · obtain ⟨e,C,a0,B,H',rfl,os,bare,un,hok,fl,trk,cov,C',ec,mt,q⟩:=hx
   cases ec
   have J:Inv X pins σ1 H' s2:=I1.call' os un hok bare (fun b z=>absurd z (by simp))
   have fr:=I.ok.frames
   rw [hst] at fr fl
   have eB:B.get? e=none:=fl.2.1
   have eH:H' e=none:=by
    cases z:H' e with
    | none=>rfl
    | some u0=>
      obtain ⟨o,eo⟩:=trk e u0 z
      rw [eB] at eo;cases eo
   have cov':∀ b o,s1.heap.get? b=some o→b∉frs X.stack→∃ o',B.get? b=some o':=cov
   refine wpAny_looks_onW fr hfr fl fun h4 hheld4 sm4=>?_
   refine wpAny_landsW hheld4 fun h5 fl5 sm5=>?_
   have J5:Inv X pins σ1 H' { s2 with heap:=h5 }:=I1.fly (t':=s2.toks) J fl.1 fl5.1 cov' trk fun b hb o eo nd=>by
    obtain ⟨sl,e1⟩:=sm4 b o eo nd
    obtain ⟨sl2,e2⟩:=sm5 b _ e1 nd
    exact ⟨sl2,e2⟩
   have LT:Looks (model X.prog X.w) h5 (typeOf (.ref e)) (.ref C):=by
    obtain ⟨ob,eo,oc⟩:=fl5.there
    have z:Looks (model X.prog X.w) h5 (typeOf (.ref e)) ob.cls:=(Looks.ld eo).andThen .now
    rw [oc] at z
    exact z
   refine wpAny_handleBy_cons (codeAny_handlers_test (ld_glob (X:=X.inx e) (J5.inx e) hg hm ((exm_one J5.kIn LT mt).here ?_) hdb)) (by intro z;cases z)
   refine codeAny_handlers_suite_as ?_
   refine lands_againW fl5 fun h6 fl6 sm6=>?_
   have J6:Inv X pins σ1 H' { s2 with heap:=h6 }:=I1.fly (s:={ s2 with heap:=h5 }) (t':=s2.toks) J5 fl5.1 fl6.1 cov' trk fun b hb o eo nd=>sm6 b o eo nd
   have IX:IsX e C h6:=by
    obtain ⟨oe,ws,hoe,hoec,hoed,_⟩:=fl6.first
    exact ⟨oe,ws,hoe,hoec,hoed⟩
   have J7:Inv X pins σ1 (upd H' e (.ext (IsX e C))) { s2 with heap:=h6 }:=by
    have nn:∀ b u0,H' b=some u0→b≠e:=fun b u0 z y=>by rw [y,eH] at z;cases z
    have old:∀ b o,X.s₀.heap.get? b=some o→b∉X.ex→b≠e:=fun b o z hx y=>by
     obtain ⟨o1,e1⟩:=I1.base.there b o z hx
     by_cases hf:b∈frs X.stack
     · obtain ⟨_,o2,e2,d2⟩:=J6.stack.mem hf
       obtain ⟨oe,ws,hoe,_,hoed⟩:=IX
       rw [y] at e2
       have e2':h6.get? e=some o2:=e2
       rw [hoe] at e2'
       cases e2'
       exact d2 _ hoed
     · obtain ⟨o3,e3⟩:=cov' b o1 e1 hf
       rw [y,eB] at e3;cases e3
    have nd0:∀ b o,s1.heap.get? b=some o→b∉frs X.stack→b≠e:=fun b o z hf y=>by
     obtain ⟨o3,e3⟩:=cov' b o z hf
     rw [y,eB] at e3;cases e3
    have dF:∀ b,b∈frs X.stack→b≠e:=fun b hf y=>by
     obtain ⟨_,o2,e2,d2⟩:=J6.stack.mem hf
     obtain ⟨oe,ws,hoe,_,hoed⟩:=IX
     rw [y] at e2
     have e2':h6.get? e=some o2:=e2
     rw [hoe] at e2'
     cases e2'
     exact d2 _ hoed
    have any:∀ b o,s1.heap.get? b=some o→b≠e:=fun b o z=>by
     by_cases hf:b∈frs X.stack
     · exact dF b hf
     · exact nd0 b o z hf
    refine ⟨J6.ok,J6.os,J6.bare,⟨J6.base.keep,J6.base.slot,fun b o z n0 hx=>?_,J6.base.there,fun b xs z=>?_,fun b o u0 z=>?_,fun b ps z=>?_⟩,J6.loc,J6.cell,?_,fun x c z=>?_,fun p hp=>?_,fun b u0 z=>?_,J6.len⟩
    · rw [upd_ne (old b o z hx)];exact J6.base.free b o z n0 hx
    · have y:=J6.base.tups b xs z
      rw [upd_ne (nn b _ y)];exact y
    · have y:=J6.base.frzs b o u0 z
      rw [upd_ne (nn b _ y)];exact y
    · obtain ⟨more,y⟩:=J6.base.tbls b ps z
      exact ⟨more,by rw [upd_ne (nn b _ y)];exact y⟩
    · obtain ⟨m1,⟨o1,_,_,e1,_⟩,_⟩:=I1.loc
      rw [upd_ne (any _ o1 e1)];exact J6.free
    · obtain ⟨v1,o1,e1,_⟩:=I1.cell x c z
      rw [upd_ne (any c o1 e1)];exact J6.freeC x c z
    · obtain ⟨e1,n1,ne,nf,d⟩:=J6.pin p hp
      obtain ⟨y1,_⟩:=I1.pin p hp
      exact ⟨e1,by rw [upd_ne (any p.1 p.2 y1)];exact n1,ne,nf,d⟩
    · by_cases hbe:b=e
      · subst hbe
        rw [upd_same] at z
        cases z
        obtain ⟨oe,ws,hoe,hoec,hoed⟩:=id IX
        refine ⟨IX,⟨oe,hoe⟩,fun h1 h2 p1 k1=>?_⟩
        obtain ⟨o1,w1,x1,x2,x3⟩:=p1
        exact ⟨o1,w1,k1 _ x1,x2,x3⟩
      · rw [upd_ne hbe] at z
        exact (J6.hok b u0 z).stay (fun _ _ _ y=>y) (fun c y=>by rw [upd_ne (nn c _ y)];exact y) fun c xs y=>by rw [upd_ne (nn c _ y)];exact y
   refine store_ok (X:=X.inx e) (J7.inx e) hN hi (.inl hn) (show RelV (.ref e) (.ref e) from rfl) (fun s7 I7=>?_) (.inr hn)
   refine wpAny_mono (hu e pins s7 _ _ (dropN i D) I7 (q e eH)) (fun f s8 q8=>?_) fun _ _ z=>False.elim z
   have fin:∀ {σ8:St} {H8:Hp} {Qf:Unit→Shared→Prop},Inv (X.inx e) pins σ8 H8 s8→(∀ s9,Inv X pins (σ8.set i none) H8 s9→Qf () s9)→wpAny (model X.prog X.w) X.A (do bindName X.env n .none;unbindBehindTheSuite X.env n hpos) Qf X.xe s8:=fun {σ8 H8 Qf} I8 k=>by
    have I8:=I8.outx I.ok
    obtain ⟨m8,hm8,hl8⟩:=id I8.loc
    exact wpAny_nameGoes_keeps (show X.env.kindOf n=some .local from hn) hm8 (by rw [I8.ok.kind];rfl) fun h9 v9 hn9 hs9=>k _ (I8.drop hN hi hn hm8 hl8 hn9 hs9)
   cases f with
   | next=>
     obtain ⟨σ8,H8,I8,q9⟩:=q8
     exact fin I8 fun s9 I9=>⟨_,H8,I9,q9⟩
   | brk=>
     obtain ⟨σ8,H8,I8,q9⟩:=q8
     exact fin I8 fun s9 I9=>⟨_,H8,I9,q9⟩
   | cont=>
     obtain ⟨σ8,H8,I8,q9⟩:=q8
     exact fin I8 fun s9 I9=>⟨_,H8,I9,q9⟩
   | ret v8=>
     obtain ⟨v,σ8,H8,I8,r8,q9⟩:=q8
     exact fin I8 fun s9 I9=>⟨v,_,H8,I9,r8,q9⟩
 · cases f with
   | next=>exact wpAny_execs_nil q
   | ret v=>exact q
   | brk=>exact q
   | cont=>exact q
end
section
variable {X:Cx}
theorem zx_call {x:Str} {k k':Nat} {ps:List Str} {sp:Sp} {e:Expr} {es:List Expr} {t:TA} {p pos:Pos} (F:FnR X.prog X.w X.K X.mg X.base x k ps sp) (hr:Room k' X.A) (hk:k≤k') (hg:Gl X x)
 (ha:ZA X.nox (e::es) t) (hdb:(x == ("__debug__" : Str))=false:=by decide) (he:starEach (e::es) X.env=(false,eval e X.env)::starEach es X.env:=by rfl) (hpl:(backTo pos (starEach es X.env)).any (·.1)=false:=by rfl) :
 PX X (.Call (.Name x p) (e::es) [] pos) (tXfn sp t):=by with_unfolding_all exact px_call F hr hk hg ha hdb he hpl
theorem zs_try {PC:Addr} {i:Nat} {tx:TXS} {u:TS} {n pn:Str} {body:List Stmt} {b0:Stmt} {suite:List Stmt} {np hpos pos:Pos} (hb:PXS X body tx) (hu:∀ a,ZSs (X.inx a) (b0::suite) u) (hst:X.stack=X.env::X.outer) (hfr:X.env.frame=some X.env.locals) (hN:X.N.Nodup) (hi:X.N[i]? = some n)
 (hn:X.env.scope.names.lookup n=some .local) (hg:Gl X pn) (hm:X.mg pn=some (.ref PC)) (hdb:(pn == ("__debug__" : Str))=false:=by decide) :
 ZS X (.Try body [.ExceptHandler (some (.Name pn np)) (some n) (b0::suite) hpos] [] [] pos) (tTry X.K PC i tx u):=by with_unfolding_all exact ps_try hb (fun a=>hu a) hst hfr hN hi hn hg hm hdb
def clV:V→Option Value
 | .ref D=>some (.ref D)
 | .ty n=>some (.type n)
 | _=>none
def rIsiE (K:PySem.W.Frag):List V→Hp→VK→Prop:=fun xs H Q=>match xs with
 | [.ref x,c]=>∃ C b y,H x=some (.ext (IsX x C))∧ExC K C∧clV c=some y∧kitOne K (.ref C) y=some b∧Q (.bl b) H
 | _=>False
theorem call_isiE:CallR X (.builtin "isinstance") (rIsiE X.K):=by
 intro pins s σ H xs us Q I r h
 unfold rIsiE at h
 split at h
 · rename_i x c
   obtain ⟨C,b,y,hx,L,ey,kk,q⟩:=h
   obtain ⟨u,w',rfl,r1,r2⟩:=vals2 r
   cases r1
   have e2:w'=y:=by
    cases c with
    | ref D=>cases ey;exact r2
    | ty n=>cases ey;exact r2
    | non=>cases ey
    | bl b=>cases ey
    | int i=>cases ey
    | str x=>cases ey
    | byt b=>cases ey
    | flt b=>cases ey
   subst e2
   obtain ⟨p,_,_⟩:=I.hok x _ hx
   exact kia_one (kitx_exc L) I.kIn p kk (fun z=>nomatch z) fun tk=>⟨.bl _,H,I.tok tk,rfl,q⟩
 · exact h.elim
theorem zcb_isiE {p pos:Pos} {e:Expr} {es:List Expr} {t:TA} (hg:Gl X "isinstance") (hm:X.mg "isinstance" = none) (ha:ZA X (e::es) t) (he:starEach (e::es) X.env=(false,eval e X.env)::starEach es X.env) (hpl:(backTo pos (starEach es X.env)).any (·.1)=false) :
 ZE X (.Call (.Name "isinstance" p) (e::es) [] pos) (tCB (rIsiE X.K) t):=by with_unfolding_all exact pe_callB call_isiE hg hm boot_isinstance ha (by decide) (by decide) he hpl
theorem ze_cls {x:Str} {C:Addr} {pos:Pos} (hg:Gl X x) (hm:X.mg x=some (.ref C)) (hd:(x == ("__debug__" : Str))=false:=by decide):ZE X (.Name x pos) (tC (.ref C)):=by with_unfolding_all exact pe_glob hg hm (show RelV (.ref C) (.ref C) from rfl) hd
theorem boot_ValueError:bootBuiltins "ValueError" = some (.type "ValueError"):=by decide +kernel
theorem zty_ValueError {pos:Pos} (hg:Gl X "ValueError") (hm:X.mg "ValueError" = none):ZE X (.Name "ValueError" pos) (tC (.ty "ValueError")):=by with_unfolding_all exact pe_ty hg hm boot_ValueError (by decide) (by decide)
end
def errB (K:PySem.W.Frag) (p C:Addr) (os:List Addr):Bool:=
 exCB K C&&excIn K C [.type "ValueError",.type "Exception",.type "BaseException",.type "object"] "ValueError.__new__"&&exmOne K (.ref C) (.ref p) == some true&&kitOne K (.ref C) (.type "ValueError") == some true
  && kitOne K (.ref C) (.ref C) == some true&&os.all fun D=>kitOne K (.ref C) (.ref D) == some false
structure ErrK (K:PySem.W.Frag) (p C:Addr) (os:List Addr):Prop where
 cls:ExC K C
 ra:RaC K C
 mt:exmOne K (.ref C) (.ref p)=some true
 vE:kitOne K (.ref C) (.type "ValueError")=some true
 me:kitOne K (.ref C) (.ref C)=some true
 ot:∀ D∈os,kitOne K (.ref C) (.ref D)=some false
theorem ErrK.of {K:PySem.W.Frag} {p C:Addr} {os:List Addr} (h:errB K p C os=true):ErrK K p C os:=by
 unfold errB at h
 simp only [Bool.and_eq_true,beq_iff_eq,List.all_eq_true] at h
 obtain ⟨⟨⟨⟨⟨a,b⟩,c⟩,d⟩,e⟩,g⟩:=h
 exact ⟨.of a,⟨b⟩,c,d,e,g⟩
section
variable {X:Cx}
theorem kit_none {K:PySem.W.Frag} {t:Value}:∀ {cs:List Value},(∀ c∈cs,kitOne K t c=some false)→kitAny K t cs=some false
 | [],_=>rfl
 | c::cs,h=>by
   unfold kitAny
   rw [h c List.mem_cons_self]
   exact kit_none fun d hd=>h d (List.mem_cons_of_mem c hd)
theorem vals_refs:∀ {Ds:List Addr} {us:List Value},Vals (Ds.map V.ref) us→us=Ds.map Value.ref
 | [],_,.nil=>rfl
 | D::Ds,_,.cons a b=>by
   have e1:=show _=Value.ref D from a
   have e2:=vals_refs (Ds:=Ds) b
   rw [e1,e2]
   rfl
def rIsiM (K:PySem.W.Frag):List V→Hp→VK→Prop:=fun xs H Q=>match xs with
 | [.ref x,.ref a]=>∃ (C:Addr) (Ds:List Addr),H x=some (.ext (IsX x C))∧ExC K C∧H a=some (.tup (Ds.map V.ref))∧(∀ D∈Ds,kitOne K (.ref C) (.ref D)=some false)∧Q (.bl false) H
 | _=>False
theorem call_isiM:CallR X (.builtin "isinstance") (rIsiM X.K):=by
 intro pins s σ H xs us Q I r h
 unfold rIsiM at h
 split at h
 · rename_i x a
   obtain ⟨C,Ds,hx,L,ha,kk,q⟩:=h
   obtain ⟨u,w',rfl,r1,r2⟩:=vals2 r
   cases r1
   cases r2
   obtain ⟨_,its,rv,n,ht⟩:=I.hok a _ ha
   have eits:=vals_refs rv
   subst eits
   obtain ⟨p,_,_⟩:=I.hok x _ hx
   exact kia_tup (kitx_exc L) I.kIn p ht (kit_none fun c hc=>by obtain ⟨D,hD,rfl⟩:=List.mem_map.mp hc;exact kk D hD) (fun z=>nomatch z) fun tk=>⟨.bl _,H,I.tok tk,rfl,q⟩
 · exact h.elim
theorem zcb_isiM {p pos:Pos} {e:Expr} {es:List Expr} {t:TA} (hg:Gl X "isinstance") (hm:X.mg "isinstance" = none) (ha:ZA X (e::es) t) (he:starEach (e::es) X.env=(false,eval e X.env)::starEach es X.env) (hpl:(backTo pos (starEach es X.env)).any (·.1)=false) :
 ZE X (.Call (.Name "isinstance" p) (e::es) [] pos) (tCB (rIsiM X.K) t):=by with_unfolding_all exact pe_callB call_isiM hg hm boot_isinstance ha (by decide) (by decide) he hpl
theorem zcb_isiE' {K:PySem.W.Frag} {p pos:Pos} {e:Expr} {es:List Expr} {t:TA} (hK:X.K=K) (hg:Gl X "isinstance") (hm:X.mg "isinstance" = none) (ha:ZA X (e::es) t) (he:starEach (e::es) X.env=(false,eval e X.env)::starEach es X.env) (hpl:(backTo pos (starEach es X.env)).any (·.1)=false) :
 ZE X (.Call (.Name "isinstance" p) (e::es) [] pos) (tCB (rIsiE K) t):=by subst hK;exact zcb_isiE hg hm ha he hpl
theorem zcb_isiM' {K:PySem.W.Frag} {p pos:Pos} {e:Expr} {es:List Expr} {t:TA} (hK:X.K=K) (hg:Gl X "isinstance") (hm:X.mg "isinstance" = none) (ha:ZA X (e::es) t) (he:starEach (e::es) X.env=(false,eval e X.env)::starEach es X.env) (hpl:(backTo pos (starEach es X.env)).any (·.1)=false) :
 ZE X (.Call (.Name "isinstance" p) (e::es) [] pos) (tCB (rIsiM K) t):=by subst hK;exact zcb_isiM hg hm ha he hpl
end
section
variable {X:Cx}
theorem px_lst1 {e:Expr} {te:TX} {pos:Pos} (h:PX X e te) (hs:starEach [e] X.env=(false,eval e X.env)::starEach [] X.env:=by rfl):PX X (.List [e] pos) (fun σ H Q E=>te σ H (fun v H1=>∀ p,H1 p=none→Q (.ref p) (upd H1 p (.lst [v]))) E):=by
 intro xe pins s σ H Q E I hq pass
 refine wpAny_List_spliced ?_
 rw [hs]
 show wpAny _ _ (spliced ((false,eval e X.env)::backTo pos (starEach [] X.env))) _ _ s
 refine Calls.spliced_cons (thn (h xe pins s σ H _ E I hq pass) fun u s1 ⟨x,H1,I1,r1,q⟩=>?_)
 refine Calls.spliced_nil ⟨by show 1≤sizeLine;decide,?_⟩
 have hf:H1 s1.heap.objs.size=none:=I1.hok.fresh (Nat.le_refl _)
 refine ⟨.ref s1.heap.objs.size,upd H1 s1.heap.objs.size (.lst [x]),I1.laid (t':=s1.toks) (fun b u e=>Heap.get?_push_of_some _ e) (Nat.le_refl _) ?_,rfl,q _ hf⟩
 exact ⟨by show 1≤sizeLine;decide,[u],0,.cons r1 .nil,Heap.get?_push_size _ rfl⟩
def tXif (tc:TT) (ta tb:TXS):TXS:=fun D E σ H=>tc σ H fun g H1=>if g=true then ta D E σ H1 else tb D E σ H1
theorem pxs_if {c:Expr} {a b:List Stmt} {tc:TT} {ta tb:TXS} {pos:Pos} (hc:ZT X.nox c tc) (h1:PXS X a ta) (h2:PXS X b tb):PXS X [.If c a b pos] (tXif tc ta tb):=by
 intro xe pins s σ H D E I h pass
 refine wpAny_execs_cons (wpAny_If (wpAny_mono (hc.p pins s σ H _ (I.wish _) h) (fun g s1 ⟨H1,I1,q⟩=>?_) fun _ _ z=>False.elim z))
 have I1:=I1.unwish
 have fin:∀ (st:List Stmt) (t:TXS),PXS X st t→t D E σ H1→wpAny (model X.prog X.w) X.A (execs st X.env) (fun f s'=>match f with | .next=>wpAny (model X.prog X.w) X.A (execs [] X.env) (SP X pins D) xe s' | f=>SP X pins D f s') xe s1:=fun st t hst ht=>
  wpAny_mono (hst xe pins s1 σ H1 D E I1 ht pass) (fun f s2 q2=>by
   cases f with
   | next=>exact wpAny_execs_nil q2
   | ret v=>exact q2
   | brk=>exact q2
   | cont=>exact q2) fun _ _ z=>z
 cases g with
 | true=>
   rw [if_pos rfl] at q
   exact fin a ta h1 q
 | false=>
   rw [if_neg (by decide)] at q
   exact fin b tb h2 q
end
end L2
namespace L2
open PySem PySem.Spec PyProof.Rows
section
variable {X:Cx} {e:Expr} {es:List Expr} {t:TA} {p pos:Pos} {o:Expr} {to:TE} {apos cpos:Pos}
def rStripC:V→List V→Hp→VK→Prop:=fun x vs H Q=>match x,vs with
 | .str z,[.str y]=>z.length≤sizeLine∧Q (.str (Txt.stripChars z y)) H
 | _,_=>False
theorem mt_stripC:MtR X "str.strip" rStripC:=by
 intro pins s σ H x xs v us Q I rx rs h
 unfold rStripC at h
 split at h
 · obtain ⟨hz,q⟩:=h
   obtain ⟨tk,rfl⟩:=rx
   obtain ⟨u,rfl,ru⟩:=vals1 rs
   obtain ⟨tk2,rfl⟩:=ru
   exact SC.stripChars (fun t' k=>⟨.str _,H,I.tok k,⟨_,rfl⟩,q⟩) hz
 · exact h.elim
theorem pm_stripC (ho:PE X o to) (ha:PA X (e::es) t) (hbase:attributeBase o "strip" X.env (eval o X.env)=eval o X.env:=by rfl)
 (hfew:((backTo cpos (starEach (e::es) X.env)).all (fun x=>!x.1)&&(backToKw cpos (keywordEach [] X.env)).all (fun x=>x.1.isSome)
   && decide ((e::es).length+([]:List Keyword).length+(if ([]:List Keyword).isEmpty then 0 else 1)<30))=true:=by rfl)
 (hline:(apos.endLine == cpos.line)=true:=by rfl) (hs:starEach (e::es) X.env=(false,eval e X.env)::starEach es X.env:=by rfl) (hplain:(backTo cpos (starEach es X.env)).any (·.1)=false:=by rfl) :
 PE X (.Call (.Attribute o "strip" apos) (e::es) [] cpos) (fun σ H Q=>to σ H fun x H1=>tyV X.K "str" x H1∧t σ H1 fun xs H2=>rStripC x xs H2 Q):=
 pe_bm PySem.F.plainAttrs_str PySem.F.slot_str_strip PySem.F.type_str_strip mt_stripC ho ha hbase hfew hline hs hplain
theorem zm_stripC (ho:ZE X o to) (ha:ZA X (e::es) t) (hbase:attributeBase o "strip" X.env (eval o X.env)=eval o X.env:=by rfl)
 (hfew:((backTo cpos (starEach (e::es) X.env)).all (fun x=>!x.1)&&(backToKw cpos (keywordEach [] X.env)).all (fun x=>x.1.isSome)
   && decide ((e::es).length+([]:List Keyword).length+(if ([]:List Keyword).isEmpty then 0 else 1)<30))=true:=by rfl)
 (hline:(apos.endLine == cpos.line)=true:=by rfl) (hs:starEach (e::es) X.env=(false,eval e X.env)::starEach es X.env:=by rfl) (hplain:(backTo cpos (starEach es X.env)).any (·.1)=false:=by rfl) :
 ZE X (.Call (.Attribute o "strip" apos) (e::es) [] cpos) (fun σ H Q=>to σ H fun x H1=>tyV X.K "str" x H1∧t σ H1 fun xs H2=>rStripC x xs H2 Q):=by with_unfolding_all exact pm_stripC ho ha hbase hfew hline hs hplain
theorem zm_stripC' {K:PySem.W.Frag} (ho:ZE X o to) (ha:ZA X (e::es) t) (hK:X.K=K) (hbase:attributeBase o "strip" X.env (eval o X.env)=eval o X.env:=by rfl)
 (hfew:((backTo cpos (starEach (e::es) X.env)).all (fun x=>!x.1)&&(backToKw cpos (keywordEach [] X.env)).all (fun x=>x.1.isSome)
   && decide ((e::es).length+([]:List Keyword).length+(if ([]:List Keyword).isEmpty then 0 else 1)<30))=true:=by rfl)
 (hline:(apos.endLine == cpos.line)=true:=by rfl) (hs:starEach (e::es) X.env=(false,eval e X.env)::starEach es X.env:=by rfl) (hplain:(backTo cpos (starEach es X.env)).any (·.1)=false:=by rfl) :
 ZE X (.Call (.Attribute o "strip" apos) (e::es) [] cpos) (fun σ H Q=>to σ H fun x H1=>tyV K "str" x H1∧t σ H1 fun xs H2=>rStripC x xs H2 Q):=by subst hK;exact zm_stripC ho ha hbase hfew hline hs hplain
def rSlS:V→Option Int→Option Int→Hp→VK→Prop:=fun x lo hi H Q=>match x with
 | .str z=>z.length≤sizeLine∧Q (.str (Txt.slice z lo hi)) H
 | _=>False
theorem sl_S:SlR X rSlS:=by
 intro pins s σ H x v vl vu lo hi sl Q I rx hs pl pu h
 unfold rSlS at h
 split at h
 · rename_i z
   obtain ⟨hz,q⟩:=h
   obtain ⟨tk,rfl⟩:=rx
   have fin:∀ t' k,EP X pins σ Q (.str (Txt.slice z lo hi) t') { s with toks:=k }:=fun t' k=>⟨.str _,H,I.tok k,⟨_,rfl⟩,q⟩
   refine ⟨"str",_,F.slot_str_getitem.lookup,typeIs_str _ _ _,?_⟩
   obtain ⟨ob,h1,h2,h3⟩:=hs
   cases pl with
   | none=>
     cases pu with
     | none=>exact wpAny_getItem_str_slice (l:=none) (u:=none) (st:=none) ⟨ob,h1,h2,h3⟩ rfl (post_val_or_str ⟨Nat.le_trans (Txt.slice_le z _ _) hz,fin⟩)
     | int j uj=>exact wpAny_getItem_str_slice (l:=none) (u:=some (j,uj)) (st:=none) ⟨ob,h1,h2,h3⟩ rfl (post_val_or_str ⟨Nat.le_trans (Txt.slice_le z _ _) hz,fin⟩)
   | int i ui=>
     cases pu with
     | none=>exact wpAny_getItem_str_slice (l:=some (i,ui)) (u:=none) (st:=none) ⟨ob,h1,h2,h3⟩ rfl (post_val_or_str ⟨Nat.le_trans (Txt.slice_le z _ _) hz,fin⟩)
     | int j uj=>exact wpAny_getItem_str_slice (l:=some (i,ui)) (u:=some (j,uj)) (st:=none) ⟨ob,h1,h2,h3⟩ rfl (post_val_or_str ⟨Nat.le_trans (Txt.slice_le z _ _) hz,fin⟩)
 · exact h.elim
def rNotInT:R2:=fun x y H Q=>match x,y with
 | .str i,.str j=>Q (.bl (!inT i j)) H
 | _,_=>False
theorem op_notInT:OpR X (compareOp .NotIn) rNotInT:=op_notIn_str.imp fun x y H Q h=>by
 unfold rNotInT at h
 split at h
 · exact ⟨_,_,rfl,rfl,h⟩
 · exact h.elim
def tCallI (P:Program) (w:World) (K:PySem.W.Frag) (mg:Str→Option Value) (base:Heap) (k':Nat) (tf:TE) (t:TA):TE:=fun σ H Q=>tf σ H fun v H0=>∃ f k ps sp,v=.ref f∧k≤k'∧FnV P w K mg base f k ps sp∧t σ H0 fun vs H1=>sp vs H1 Q E0
theorem pe_callI {a b:Expr} {sp:Pos} {k':Nat} {tf:TE} (hr:Room k' X.A) (hf:PE X (.Subscript a b sp) tf) (ha:PA X (e::es) t) (he:starEach (e::es) X.env=(false,eval e X.env)::starEach es X.env:=by rfl) (hpl:(backTo pos (starEach es X.env)).any (·.1)=false:=by rfl) :
 PE X (.Call (.Subscript a b sp) (e::es) [] pos) (tCallI X.prog X.w X.K X.mg X.base k' tf t):=by
 intro pins s σ H Q I h
 show wpAny _ _ (do callWith pos (← eval (.Subscript a b sp) X.env) [] (backTo pos (starEach (e::es) X.env)) (backToKw pos (keywordEach [] X.env))) _ _ s
 refine wpAny_bind (thn (hf pins s σ H _ I h) fun v s1 ⟨y,H0,I0,r0,f,k,ps,sp,ey,hk,⟨fd,F1,b1,k1⟩,q⟩=>?_)
 subst ey
 obtain rfl:v=Value.ref f:=r0
 refine PySem.W.callWith_K (h₀:=X.base) I0.ok.mod.kin k1 (thn (ha pos pins s1 σ H0 _ I0 q) fun us s2 ⟨vs,H1,I1,r,q1⟩=>⟨I1.kIn,?_⟩) he hpl
 refine run_fn (dvs:=[]) (F1.mono hk) hr b1 .nil pass0 I1 r ?_
 rw [List.append_nil]
 exact q1
theorem ze_callI {a b:Expr} {sp:Pos} {k':Nat} {tf:TE} (hr:Room k' X.A) (hf:ZE X (.Subscript a b sp) tf) (ha:ZA X (e::es) t) (he:starEach (e::es) X.env=(false,eval e X.env)::starEach es X.env:=by rfl) (hpl:(backTo pos (starEach es X.env)).any (·.1)=false:=by rfl) :
 ZE X (.Call (.Subscript a b sp) (e::es) [] pos) (tCallI X.prog X.w X.K X.mg X.base k' tf t):=by with_unfolding_all exact pe_callI hr hf ha he hpl
end
section
variable {X:Cx} {a b:Expr} {rest:List Expr} {ta tb:TE} {pos:Pos}
def tOrN (ta tb:TE):TE:=fun σ H Q=>ta σ H fun x H1=>match x with
 | .int n=>if n=0 then tb σ H1 Q else Q (.int n) H1
 | .non=>tb σ H1 Q
 | _=>False
theorem pe_orN (ha:PE X a ta) (hb:PE X (.BoolOp .Or (b::rest) pos) tb):PE X (.BoolOp .Or (a::b::rest) pos) (tOrN ta tb):=by
 intro pins s σ H Q I h
 refine BoolOp_or (thn (ha pins s σ H _ I h) fun v s1 ⟨x,H1,I1,r1,q1⟩=>?_)
 cases x with
 | int n=>
   obtain ⟨tk,rfl⟩:=r1
   refine truthy_int ?_
   have q1:if n=0 then tb σ H1 Q else Q (.int n) H1:=q1
   by_cases hn:n=0
   · rw [if_pos hn] at q1
     rw [show (n != 0)=false by rw [hn];rfl]
     exact hb pins s1 σ H1 Q I1 q1
   · rw [if_neg hn] at q1
     rw [show (n != 0)=true by simpa using hn]
     exact ⟨.int n,H1,I1,⟨_,rfl⟩,q1⟩
 | non=>
   cases r1
   refine truthy_none ?_
   exact hb pins s1 σ H1 Q I1 q1
 | _=>exact q1.elim
theorem ze_orN (ha:ZE X a ta) (hb:ZE X (.BoolOp .Or (b::rest) pos) tb):ZE X (.BoolOp .Or (a::b::rest) pos) (tOrN ta tb):=by with_unfolding_all exact pe_orN ha hb
end
end L2
namespace M70
open PySem M67 M68 M69 M71
theorem val_lt:∀ (n:Nat) (l:List Nat),l.length=n→(∀ c∈l,48≤c∧c≤57)→val l<10 ^ n
 | 0,l,hl,_=>by
   rw [List.length_eq_zero_iff.mp hl]
   decide
 | n+1,l,hl,hd=>by
   have hne:l≠[]:=fun e=>by rw [e] at hl;cases hl
   obtain ⟨r,c,rfl⟩:∃ r c,l=r++[c]:=⟨l.dropLast,l.getLast hne,(List.dropLast_concat_getLast hne).symm⟩
   rw [List.length_append] at hl
   have hr:r.length=n:=by simpa using hl
   have hc:=hd c (by simp)
   have ih:=val_lt n r hr fun x hx=>hd x (by simp [hx])
   rw [val_snoc]
   have hp:10 ^ (n+1)=10 ^ n*10:=Nat.pow_succ _ _
   omega
theorem val_dv (l:List Nat):NumText.digitsVal l=val l:=by
 unfold NumText.digitsVal val
 congr 1
 funext a c
 omega
theorem reads {z:Str} (h1:1≤z.length) (h2:z.length≤6) (hd:∀ c∈z.cps.toList,48≤c∧c≤57):intText? z=some ((val z.cps.toList:Nat):Int)∧val z.cps.toList<1000000:=by
 have hl:z.cps.toList.length=z.length:=Array.length_toList
 have e:=intText_digits (x:=z) (fun c hc=>hd c hc) (fun e=>by rw [e] at hl;have:0=z.length:=hl;omega) (by omega)
 rw [val_dv] at e
 refine ⟨e,?_⟩
 have h3:=val_lt _ _ hl hd
 have h4:10 ^ z.length≤10 ^ 6:=Nat.pow_le_pow_right (by decide) h2
 have:(10:Nat) ^ 6=1000000:=by decide
 omega
theorem num_is {z:Str} (h1:1≤z.length) (h2:z.length≤6) (hd:∀ c∈z.cps.toList,48≤c∧c≤57):nt ((val z.cps.toList:Nat):Int)=z↔isNum z.cps.toList:=by
 obtain ⟨e,hv⟩:=reads h1 h2 hd
 refine ⟨fun h=>?_,fun h=>?_⟩
 · have:=nt_num (n:=((val z.cps.toList:Nat):Int)) (by omega) (by omega)
   rw [h] at this
   exact this
 · obtain ⟨n,n0,n1,rfl⟩:=num_nt h
   rw [nt_reads n0 n1] at e
   rw [← Option.some.inj e]
def nmo (lo hi:Int) (z:Str):Option Int:=if isNum z.cps.toList∧lo≤((val z.cps.toList:Nat):Int)∧((val z.cps.toList:Nat):Int)≤hi then some ((val z.cps.toList:Nat):Int) else none
theorem val_nt {n:Int} (h0:0≤n) (h1:n<1000000):((val (nt n).cps.toList:Nat):Int)=n:=by
 have hl:=nt_len h0 h1
 have hd:=nt_digit h0
 obtain ⟨e,hv⟩:=reads hl.1 hl.2 hd
 rw [nt_reads h0 h1] at e
 exact (Option.some.inj e).symm
theorem nmo_nt {lo hi n:Int} (h0:0≤n) (h1:n<1000000):nmo lo hi (nt n)=if lo≤n∧n≤hi then some n else none:=by
 unfold nmo
 rw [val_nt h0 h1]
 by_cases h:lo≤n∧n≤hi
 · rw [if_pos h,if_pos ⟨nt_num h0 h1,h⟩]
 · rw [if_neg h,if_neg fun z=>h z.2]
theorem nmo_some {lo hi n:Int} {z:Str} (h:nmo lo hi z=some n):z=nt n∧(0≤n∧n<1000000)∧lo≤n∧n≤hi:=by
 unfold nmo at h
 split at h
 · rename_i hh
   obtain ⟨m,m0,m1,rfl⟩:=num_nt hh.1
   rw [val_nt m0 m1] at h hh
   cases Option.some.inj h
   exact ⟨rfl,⟨m0,m1⟩,hh.2⟩
 · cases h
theorem slice_to {z:Str} {k:Int} (h:0≤k∧k≤z.length):(Txt.slice z none (some k)).cps.toList=z.cps.toList.take k.toNat:=by
 have hl:z.cps.toList.length=z.length:=Array.length_toList
 show (StrLaws.sliceText z none (some k)).cps.toList=_
 rw [StrLaws.sliceText_to ⟨h.1,by omega⟩]
 show (((z.cps.toList.drop 0).take (k - 0).toNat).toArray).toList=_
 rw [List.drop_zero,Int.sub_zero]
theorem idx_far {i:Int} {n:Nat} (h:(n:Int)≤i):Builtin.Str.strSliceIndices (some i) none 1 n=Builtin.Str.strSliceIndices (some (n:Int)) none 1 n:=by
 have a:¬ i<0:=by omega
 have b:¬ (n:Int)<0:=by omega
 have e:min i (n:Int)=n:=by omega
 simp [Builtin.Str.strSliceIndices,a,b,e]
theorem slice_from {z:Str} {k:Int} (h:0≤k):(Txt.slice z (some k) none).cps.toList=z.cps.toList.drop k.toNat:=by
 have hl:z.cps.toList.length=z.length:=Array.length_toList
 have near:∀ k:Int,0≤k→k≤z.length→(Txt.slice z (some k) none).cps.toList=z.cps.toList.drop k.toNat:=fun k h h2=>by
  show (StrLaws.sliceText z (some k) none).cps.toList=_
  rw [StrLaws.sliceText_from ⟨h,by omega⟩]
  show (((z.cps.toList.drop k.toNat).take ((z.cps.toList.length:Int) - k).toNat).toArray).toList=_
  exact List.take_of_length_le (by rw [List.length_drop];omega)
 by_cases h2:k≤z.length
 · exact near k h h2
 · have e:Txt.slice z (some k) none=Txt.slice z (some (z.length:Int)) none:=by
    unfold Txt.slice
    rw [idx_far (by omega)]
   rw [e,near _ (by omega) (Int.le_refl _),List.drop_of_length_le (by omega),List.drop_of_length_le (by omega)]
theorem jl_count (c:Nat):∀ (xs:List (List Nat)),xs.length≤(jl c xs).count c+1
 | []=>by simp
 | [x]=>by show 1≤_;omega
 | x::y::r=>by
   have ih:=jl_count c (y::r)
   show (y::r).length+1≤(x++c::jl c (y::r)).count c+1
   rw [List.count_append,List.count_cons_self]
   omega
theorem cut_many (z:Str) (c:Nat):(Txt.split z ⟨#[c]⟩).length≤z.cps.toList.count c+1:=by
 have e:=glue_cut z c
 rw [show Txt.join ⟨#[c]⟩ (Txt.split z ⟨#[c]⟩)=Str.join ⟨#[c]⟩ (Txt.split z ⟨#[c]⟩) from StrLaws.glued_eq_join _ _] at e
 have e2:=congrArg (fun s:Str=>s.cps.toList) e
 rw [M67.join_list c] at e2
 have h:=jl_count c ((Txt.split z ⟨#[c]⟩).map fun y=>y.cps.toList)
 rw [List.length_map,e2] at h
 exact h
theorem tw_all {g:Nat→Bool}:∀ {l:List Nat},(∀ c∈l,g c=true)→l.takeWhile g=l
 | [],_=>rfl
 | x::r,h=>by rw [List.takeWhile_cons,if_pos (h x List.mem_cons_self),tw_all fun c hc=>h c (List.mem_cons_of_mem _ hc)]
theorem tw_lt {g:Nat→Bool}:∀ {l:List Nat},(∃ c∈l,g c=false)→(l.takeWhile g).length<l.length
 | [],h=>by obtain ⟨c,hc,_⟩:=h;cases hc
 | x::r,h=>by
   rw [List.takeWhile_cons]
   by_cases hx:g x=true
   · rw [if_pos hx]
     have:∃ c∈r,g c=false:=by
      obtain ⟨c,hc,e⟩:=h
      rcases List.mem_cons.mp hc with rfl | hc
      · rw [hx] at e;cases e
      · exact ⟨c,hc,e⟩
     have:=tw_lt this
     simp only [List.length_cons]
     omega
   · rw [if_neg hx]
     simp
theorem tw_next {g:Nat→Bool}:∀ {l:List Nat},(∃ c∈l,g c=false)→∃ c r,l.drop (l.takeWhile g).length=c::r∧g c=false
 | [],h=>by obtain ⟨c,hc,_⟩:=h;cases hc
 | x::r,h=>by
   rw [List.takeWhile_cons]
   by_cases hx:g x=true
   · rw [if_pos hx]
     have:∃ c∈r,g c=false:=by
      obtain ⟨c,hc,e⟩:=h
      rcases List.mem_cons.mp hc with rfl | hc
      · rw [hx] at e;cases e
      · exact ⟨c,hc,e⟩
     obtain ⟨c,r',e,hc⟩:=tw_next this
     exact ⟨c,r',by rw [List.length_cons,List.drop_succ_cons];exact e,hc⟩
   · rw [if_neg hx]
     exact ⟨x,r,rfl,by simpa using hx⟩
theorem bare_iff (z:Str):Txt.stripChars z (Str.ofString "#")=Str.ofString ""↔∀ c∈z.cps.toList,c=35:=by
 have hl:z.cps.toList.length=z.length:=Array.length_toList
 have hg:∀ c:Nat,(Str.ofString "#").cps.contains c=decide (c=35):=fun c=>by
  rw [hash_is]
  show (#[35]:Array Nat).contains c=_
  rw [Bool.eq_iff_iff]
  simp
 rw [Txt.stripChars,W.stripBy_eq]
 unfold W.stripped
 dsimp only
 rw [if_pos rfl,if_pos rfl]
 generalize (Str.ofString "#").cps.contains=g at hg
 have e0:(Str.ofString "").cps.toList=[]:=by decide +kernel
 constructor
 · intro e
   refine Classical.byContradiction fun hn=>?_
   have hx:∃ c∈z.cps.toList,g c=false:=by
    refine Classical.byContradiction fun h=>hn fun c hc=>Classical.byContradiction fun h2=>h ⟨c,hc,by rw [hg];exact decide_eq_false h2⟩
   have h1:=tw_lt hx
   obtain ⟨c,r,ec,hc⟩:=tw_next hx
   have h2:=tw_lt (l:=(z.cps.toList.drop (z.cps.toList.takeWhile g).length).reverse) (g:=g) ⟨c,by rw [ec];simp,hc⟩
   rw [List.length_reverse,List.length_drop] at h2
   have e2:=congrArg (fun s:Str=>s.cps.toList.length) e
   rw [e0] at e2
   have e3:(z.cps.extract (z.cps.toList.takeWhile g).length (z.length - ((z.cps.toList.drop (z.cps.toList.takeWhile g).length).reverse.takeWhile g).length)).toList.length=0:=e2
   rw [Array.length_toList,Array.size_extract] at e3
   have hs:z.cps.size=z.length:=rfl
   omega
 · intro h
   refine str_ext ?_
   rw [e0]
   have ht:=tw_all (g:=g) (l:=z.cps.toList) fun c hc=>by rw [hg,h c hc];rfl
   show (z.cps.extract (z.cps.toList.takeWhile g).length _).toList=[]
   rw [ht]
   refine List.length_eq_zero_iff.mp ?_
   rw [Array.length_toList,Array.size_extract]
   have hs:z.cps.size=z.length:=rfl
   omega
end M70
namespace L2
open PySem PySem.Spec PyProof.Rows
section
variable {X:Cx} {e:Expr} {t:TA} {p pos:Pos}
def rSortQ (K:PySem.W.Frag):List V→Hp→VK→Prop:=fun xs H Q=>match xs with
 | [.ref p]=>∃ ns:List Int,SqL K H p (ns.map V.int)∧ns.length<64∧∀ l ns',H l=none→List.Perm ns' ns→Ordered true ns'→Q (.ref l) (upd H l (.lst (ns'.map V.int)))
 | _=>False
theorem sort_few (pins:List (Addr×Obj)) (s:Shared) (σ:St) (H:Hp) (xs:List V) (us:List Value) (Q:VK) (I:Inv X pins σ H s) (r:Vals xs us) (h:rSortQ X.K xs H Q) :
 wpAny (model X.prog X.w) X.A (call (.builtin "sorted") us [(Str.ofString "reverse",.bool true)]) (EP X pins σ Q) X.xe s:=by
 unfold rSortQ at h
 split at h
 · rename_i p
   obtain ⟨ns,hq,h64,q⟩:=h
   obtain ⟨u,rfl,rx⟩:=vals1 r
   cases rx
   obtain ⟨its,rv,pl,hz⟩:=I.list hq
   have hI:=intsAre_of rv
   have hlen:its.length=ns.length:=by rw [← rv.length,List.length_map]
   refine sorted_ints_rev pl.isList hI (by omega) fun out ns' a1 a2 a3=>?_
   obtain ⟨e,he⟩:=sortedAll_at s.heap its out
   refine ⟨.ref (s.heap.objs.size+1),_,I.laid (t':=s.toks) (a:=s.heap.objs.size+1) (o:=.lst (ns'.map V.int)) (fun c ob q=>sortedAll_old q) (Nat.le_succ _) ?_,rfl,q _ ns' (I.hok.fresh (Nat.le_succ _)) a2 a3⟩
   refine ⟨?_,out.toList,e,vals_ints a1,he⟩
   rw [List.length_map,a2.length_eq]
   rw [List.length_map] at hz
   exact hz
 · exact h.elim
theorem pcb_sortQ {k:Nat} {p2 p3:Pos} (hg:Gl X "sorted") (hm:X.mg "sorted" = none) (ha:PA X [e] t) (he:starEach [e] X.env=[(false,eval e X.env)]) :
 PE X (.Call (.Name "sorted" p) [e] [⟨some "reverse",.Constant (.bool true) k p2,p3⟩] pos) (tCB (rSortQ X.K) t):=by
 intro pins s σ H Q I h
 refine wpAny_Call_Name_kw (ld_blt I hg hm boot_sorted' ?_ (by decide) (by decide))
 refine callWith_kw (thn (ha pos pins s σ H _ I h) fun us s1 ⟨vs,H1,I1,r1,q1⟩=>?_) ?_ ?_ rfl rfl
 · exact kws_cons (wpAny_Constant_bool (kws_nil (sort_few pins s1 σ H1 vs us Q I1 r1 q1)))
 · rw [he]
   rfl
 · rw [he]
   rfl
theorem zcb_sortQ {k:Nat} {p2 p3:Pos} (hg:Gl X "sorted") (hm:X.mg "sorted" = none) (ha:ZA X [e] t) (he:starEach [e] X.env=[(false,eval e X.env)]) :
 ZE X (.Call (.Name "sorted" p) [e] [⟨some "reverse",.Constant (.bool true) k p2,p3⟩] pos) (tCB (rSortQ X.K) t):=by with_unfolding_all exact pcb_sortQ hg hm ha he
end
end L2
namespace K70
open PySem L2 M67 M68 M69 M71
theorem fig_is (c:Nat):inT ⟨#[c]⟩ (Str.ofString "0123456789")=decide (48≤c∧c≤57):=by
 unfold inT
 rw [StrLaws.found_one]
 have e:(Str.ofString "0123456789").cps.toList=[48,49,50,51,52,53,54,55,56,57]:=by decide +kernel
 rw [e]
 refine decide_eq_decide.mpr ?_
 simp only [List.mem_cons,List.not_mem_nil,or_false]
 omega
theorem zero_is:(Str.ofString "0")=⟨#[48]⟩:=by decide +kernel
theorem atN {l:List Nat} {c:Nat} (h:l[0]? = some c):atI l 0=some c:=by
 cases l with
 | nil=>cases h
 | cons x r=>
   unfold atI ixN
   rw [if_pos (Int.le_refl _),if_pos (by show (0:Int)<((r.length+1:Nat):Int);omega)]
   exact h
def figs (z:Str) (i:Nat):List Bool:=(z.cps.toList.take i).map fun c=>decide (48≤c∧c≤57)
theorem figs_succ {z:Str} {i c:Nat} (h:z.cps[i]? = some c):figs z (i+1)=figs z i++[decide (48≤c∧c≤57)]:=by
 unfold figs
 rw [← Array.getElem?_toList] at h
 rw [List.take_succ,h,List.map_append]
 rfl
section
variable {P:Program} {w:World} {K:PySem.W.Frag} {mg:Str→Option Value} {base:Heap} {f:Addr} {fd:FuncData}
theorem sc_text:FnScope ["thing"] ["thing"] (defScope (top 29)):=⟨rfl,rfl,rfl,by decide +kernel,rfl,by decide +kernel,by decide +kernel⟩
def sp_text:Sp:=fun vs H Q _=>∃ z:Str,vs=[.str z]∧z.length≤2000∧Q (.bl true) H
theorem ok_text (F:Fun K "is_text" "is_text" (top 29) f fd) (m_isinstance:mg "isinstance" = none) (m_len:mg "len" = none) (m_str:mg "str" = none) (g_MOST_SIGNS:IntG mg "MOST_SIGNS" 2000):FnOk P w K mg base CX0 1 f fd ["thing"] sp_text:=by
 refine F.okz sc_text (fun vs H Q E h=>?_) (fun cdv A outer s H vs Q E hr h=>?_)
 · obtain ⟨z,rfl,_⟩:=h;rfl
 obtain ⟨z,rfl,hz,q⟩:=h
 have nd:=sc_text.nd
 refine ⟨_,(zss_one (zs_ret (ze_andP (zcb_isinstance rfl m_isinstance (za_cons (zn 0) (za_cons (zty_str rfl m_str) za_nil)) rfl rfl) (ze_one (ze_cmpR op_leP (zcb_lenT rfl m_len (za_cons (zn 0) za_nil) rfl rfl) (ze_ig rfl g_MOST_SIGNS) (nomark _)))))),?_⟩
 refine ⟨"str",rfl,rfl,?_⟩
 refine iteB (fun _=>?_) (fun c=>absurd c (by decide))
 refine ⟨Nat.le_of_lt (Nat.lt_of_le_of_lt hz (by rw [sizeLine_eq];decide)),?_⟩
 show Q (.bl (decide ((z.length:Int)≤2000))) H
 rw [decide_eq_true (by omega)]
 exact q
def sp_textn:Sp:=fun vs H Q _=>∃ (v:V) (t:String),vs=[v]∧tyName H v=some t∧subTy t "str" = false∧Q (.bl false) H
theorem ok_textn (F:Fun K "is_text" "is_text" (top 29) f fd) (m_isinstance:mg "isinstance" = none) (m_len:mg "len" = none) (m_str:mg "str" = none) (g_MOST_SIGNS:IntG mg "MOST_SIGNS" 2000):FnOk P w K mg base CX0 1 f fd ["thing"] sp_textn:=by
 refine F.okz sc_text (fun vs H Q E h=>?_) (fun cdv A outer s H vs Q E hr h=>?_)
 · obtain ⟨v,t,rfl,_⟩:=h;rfl
 obtain ⟨v,t,rfl,ht,hs,q⟩:=h
 have nd:=sc_text.nd
 refine ⟨_,(zss_one (zs_ret (ze_andP (zcb_isinstance rfl m_isinstance (za_cons (zn 0) (za_cons (zty_str rfl m_str) za_nil)) rfl rfl) (ze_one (ze_cmpR op_leP (zcb_lenT rfl m_len (za_cons (zn 0) za_nil) rfl rfl) (ze_ig rfl g_MOST_SIGNS) (nomark _)))))),?_⟩
 refine ⟨t,ht,rfl,?_⟩
 rw [hs]
 exact q
def sp_text2:Sp:=fun vs H Q E=>sp_text vs H Q E∨sp_textn vs H Q E
theorem ok_text2 (F:Fun K "is_text" "is_text" (top 29) f fd) (m_isinstance:mg "isinstance" = none) (m_len:mg "len" = none) (m_str:mg "str" = none) (g_MOST_SIGNS:IntG mg "MOST_SIGNS" 2000):FnOk P w K mg base CX0 1 f fd ["thing"] sp_text2:=(ok_text F m_isinstance m_len m_str g_MOST_SIGNS).both (ok_textn F m_isinstance m_len m_str g_MOST_SIGNS)
theorem sc_number:FnScope ["text"] ["text"] (defScope (top 30)):=⟨rfl,rfl,rfl,by decide +kernel,rfl,by decide +kernel,by decide +kernel⟩
def sp_number:Sp:=fun vs H Q _=>∃ z:Str,vs=[.str z]∧z.length≤2000∧∀ H',Same H H'→Q (.bl (decide (isNum z.cps.toList))) H'
theorem ok_number (F:Fun K "is_number" "is_number" (top 30) f fd) (m_all:mg "all" = none) (m_len:mg "len" = none) (g_MOST_FIGURES:IntG mg "MOST_FIGURES" 6) (g_FIGURES:StrG mg "FIGURES" "0123456789"):FnOk P w K mg base CX0 1 f fd ["text"] sp_number:=by
 refine F.okz sc_number (fun vs H Q E h=>?_) (fun cdv A outer s H vs Q E hr h=>?_)
 · obtain ⟨z,rfl,_⟩:=h;rfl
 obtain ⟨z,rfl,hz,q⟩:=h
 have nd:=sc_number.nd
 have hu:=hr.units
 have sl:z.length≤sizeLine:=Nat.le_trans hz (by rw [sizeLine_eq];decide)
 have hsz:z.cps.toList.length=z.length:=Array.length_toList
 have no:¬ isNum z.cps.toList→∀ H',Same H H'→Q (.bl false) H':=fun h H' y=>by
  have:=q H' y
  rw [decide_eq_false h] at this
  exact this
 have yes:isNum z.cps.toList→∀ H',Same H H'→Q (.bl true) H':=fun h H' y=>by
  have:=q H' y
  rw [decide_eq_true h] at this
  exact this
 refine ⟨_,(zss_cons (zs_if (ZW.zt (zw_or (zt_cmpP (op_eqD hu) (zcb_lenT rfl m_len (za_cons (zn 0) za_nil) rfl rfl) ze_int (nomark _)) (zw_or1 (zt_cmpP op_gtP (zcb_lenT rfl m_len (za_cons (zn 0) za_nil) rfl rfl) (ze_ig rfl g_MOST_FIGURES) (nomark _))))) (zss_one (zs_ret ze_bl)) zss_nil)
  (zss_cons (zs_if (zt_not (zt_valP (zcb_all rfl rfl m_all (za_cons (ze_comp ["sign"] [] rfl ⟨rfl,by decide +kernel,by decide +kernel,rfl,rfl⟩ (zi_str (zn 0)) kpg_name (fun _ _ _ _=>zg_name (i:=0) (show List.Nodup (["sign"]:List Str) by decide +kernel) rfl (Or.inl rfl)) (fun _ _ _ _=>zif_nil) (fun _ _ _ _=>(ze_cmpR op_inT (zn 0) (ze_sg rfl g_FIGURES) (by with_unfolding_all rfl)))) za_nil) rfl rfl))) (zss_one (zs_ret ze_bl)) zss_nil)
  (zss_one (zs_ret (ze_orP (ze_cmpR (op_neD hu) (ze_ix ix_T (zn 0) ze_int (fun _ _=>rfl)) ze_str (nomark _)) (ze_one (ze_cmpR (op_eqD hu) (zn 0) ze_str (nomark _)))))))),?_⟩
 refine ⟨sl,?_⟩
 refine iteD (fun c=>?_) (fun c0=>?_)
 · have c1:((z.length:Nat):Int)=0:=V.int.inj c
   exact no (fun h=>by have:=h.1.1;omega) H (Same.refl H)
 have c0':z.length≠0:=fun e=>c0 (by rw [e];rfl)
 refine ⟨sl,?_⟩
 refine iteD (fun c=>?_) (fun c6=>?_)
 · exact no (fun h=>by have:=h.1.2;omega) H (Same.refl H)
 refine cmp_str (fun i zs H'=>H'=H∧zs=(figs z i).map V.bl) ⟨rfl,rfl⟩ ?_ ?_
 · rintro i c zs H' hx ⟨rfl,rfl⟩
   have hi:=(Array.getElem?_eq_some_iff.mp hx).1
   have hi':z.cps.size=z.length:=rfl
   refine ⟨by rw [List.length_map];unfold figs;rw [List.length_map,List.length_take];exact small1000 (by omega),?_⟩
   refine ⟨rfl,?_⟩
   rw [fig_is,figs_succ hx,List.map_append]
   rfl
 · rintro zs H' ⟨rfl,rfl⟩ D hD
   refine ⟨_,SqL.of upd_same,?_⟩
   have hn0:z.cps.toList≠[]:=fun e=>by rw [e] at hsz;exact c0' hsz.symm
   obtain ⟨c,hc⟩:∃ c,z.cps.toList[0]? = some c:=⟨_,List.getElem?_eq_getElem (List.length_pos_iff.mpr hn0)⟩
   have fl:∀ k,z.cps.toList.length≤k→((figs z k).all id=true↔∀ c∈z.cps.toList,48≤c∧c≤57):=fun k hk=>by
    unfold figs
    rw [List.take_of_length_le hk,List.all_map,List.all_eq_true]
    exact ⟨fun h c hc=>of_decide_eq_true (h c hc),fun h c hc=>decide_eq_true (h c hc)⟩
   by_cases ha:∀ c∈z.cps.toList,48≤c∧c≤57
   · rw [(fl _ (by rw [hsz];exact Nat.le_refl _)).mpr ha]
     refine iteB (fun c=>absurd c (by decide)) (fun _=>?_)
     refine ⟨c,sl,atN hc,?_⟩
     have ec:decide (V.str ⟨#[c]⟩=V.str (Str.ofString "0"))=decide (c=48):=decide_eq_decide.mpr ⟨fun e=>by
      have:=congrArg (fun s:Str=>s.cps.toList) (V.str.inj e)
      rw [zero_is] at this
      exact (List.cons.inj this).1,fun e=>by rw [e,zero_is]⟩
     refine iteB (fun e=>?_) (fun e=>?_)
     · have e1:(!decide (V.str ⟨#[c]⟩=V.str (Str.ofString "0")))=true:=e
       rw [ec] at e1
       refine yes ⟨⟨by omega,by omega⟩,ha,.inl fun e2=>?_⟩ _ (Same.new hD _)
       rw [hc] at e2
       have:=Option.some.inj e2
       rw [this] at e1
       exact absurd e1 (by decide)
     · have e1:(!decide (V.str ⟨#[c]⟩=V.str (Str.ofString "0")))=false:=e
       rw [ec] at e1
       have c48:c=48:=by simpa using e1
       subst c48
       show Q (.bl (decide (V.str z=V.str (Str.ofString "0")))) _
       have ez:decide (V.str z=V.str (Str.ofString "0"))=decide (isNum z.cps.toList):=decide_eq_decide.mpr ⟨fun e=>⟨⟨by omega,by omega⟩,ha,.inr (by rw [V.str.inj e,zero_is])⟩,fun h=>by
        rcases h.2.2 with h | h
        · exact absurd hc h
        · exact congrArg V.str (str_ext (by rw [h,zero_is]))⟩
       rw [ez]
       exact q _ (Same.new hD _)
   · have:(figs z z.cps.size).all id=false:=by
      cases e:(figs z z.cps.size).all id with
      | false=>rfl
      | true=>exact absurd ((fl _ (by rw [hsz];exact Nat.le_refl _)).mp e) ha
     rw [this]
     refine iteB (fun _=>?_) (fun c=>absurd c (by decide))
     exact no (fun h=>ha h.2.1) _ (Same.new hD _)
end
theorem log_small {n:Int} (h0:0≤n) (h1:n<1000000):n.natAbs.log2<1920:=by
 by_cases h:n.natAbs=0
 · rw [h];decide
 · have:n.natAbs.log2<20:=(Nat.log2_lt h).mpr (by
    have:(2:Nat) ^ 20=1048576:=by decide
    omega)
   omega
theorem Same.updD {H H':Hp} {D:Addr} {o:HO} (y:Same H H') (hD:H D=none):Same H (upd H' D o):=fun c o' e=>by
 rw [upd_ne (fun z=>by rw [z,hD] at e;cases e)]
 exact y c o' e
theorem none_of {H H':Hp} {D:Addr} (y:Same H H') (h:H' D=none):H D=none:=by
 cases e:H D with
 | none=>rfl
 | some o=>rw [y _ _ e] at h;cases h
def Nm (ns:List Int):Prop:=∀ n∈ns,(0:Int)≤n∧n<1000000
theorem numsT {K:PySem.W.Frag} {x:Str} {ix:List (Str×Nat)} {σ:St} {H:Hp} {a:Addr} {ns:List Int} {Fin:List V→Hp→Prop} (ha:SqT K H a (ns.map V.int)) (hn:Nm ns) (hl:ns.length≤1000) (fin:Fin ((ns.map nt).map V.str) H) :
 CmpW [x] ix (gName 0) tYes (tCB rStrP (tCons (tV 0) tNil)) σ (Itt K a) Fin H:=by
 refine cmp_tup (xs:=ns.map V.int) (fun j ys H'=>H'=H∧ys=((ns.take j).map nt).map V.str) ⟨rfl,by rw [List.take_zero];rfl⟩ ?_ ?_ ?_
 · rintro j ys H' _ ⟨rfl,_⟩
   exact ha
 · rintro j x ys H' hx ⟨rfl,rfl⟩
   have hj:j<ns.length:=by
    have:=(List.getElem?_eq_some_iff.mp hx).1
    rw [List.length_map] at this
    exact this
   have ex:x=.int ns[j]:=by rw [getI hj] at hx;exact (Option.some.inj hx).symm
   subst ex
   have hj1:=hn _ (List.getElem_mem hj)
   refine ⟨by rw [List.length_map,List.length_map,List.length_take];exact small1000 (by omega),?_⟩
   refine ⟨log_small hj1.1 hj1.2,?_⟩
   refine ⟨rfl,?_⟩
   rw [List.take_succ,List.getElem?_eq_getElem hj,List.map_append,List.map_append]
   rfl
 · rintro ys H' ⟨rfl,rfl⟩
   rw [List.length_map,List.take_of_length_le (Nat.le_refl _)]
   exact fin
theorem cut_tail (x:V) (xs:List V):cutV (x::xs) (some 1) none=xs:=by
 cases xs with
 | nil=>rfl
 | cons y r=>
   unfold cutV
   simp [HT.sIx]
section
variable {P:Program} {w:World} {K:PySem.W.Frag} {mg:Str→Option Value} {base:Heap} {f:Addr} {fd:FuncData}
def sp_show:Sp:=fun vs H Q _=>∃ (c:Addr) (k:Kd),vs=[.ref c]∧KdAt H c k∧k.Ok∧∀ H',Same H H'→Q (.str k.text) H'
theorem rs_nm {m:Int} {rs:List Int} (h:(Kd.rests m rs).Ok):Nm rs∧rs.length≤60∧0≤m∧m<1000000:=by
 obtain ⟨⟨h1,h2⟩,h3,h4,h5,h6⟩:=h
 refine ⟨fun r hr=>?_,h6,by omega,by omega⟩
 have:=h5 r hr
 omega
theorem sc_kt:FnScope ["_law_kind_here","_law_words"] ["_law_kind_here"] (defScope (top 42)):=⟨rfl,rfl,rfl,by decide +kernel,rfl,by decide +kernel,by decide +kernel⟩
theorem ok_kt (F:Fun K "_law_kind_text" "_law_kind_text" (top 42) f fd) (m_str:mg "str" = none):FnOk P w K mg base CX0 1 f fd ["_law_kind_here"] sp_show:=by
 refine F.okz sc_kt (fun vs H Q E h=>?_) (fun cdv A outer s H vs Q E hr h=>?_)
 · obtain ⟨a,rs,rfl,_⟩:=h;rfl
 obtain ⟨c,k,rfl,hc,hk,q⟩:=h
 have nd:=sc_kt.nd
 have hu:=hr.units
 have fit:=join_fits hk
 refine ⟨_,(zss_cons (zs_set (i:=1) nd rfl (Or.inl rfl) (ze_op op_addP (ze_lst (za_cons (ze_ix ix_P (zn 0) ze_int (fun _ _=>rfl)) za_nil)) (ze_comp ["_law_number_here"] [] rfl ⟨rfl,by decide +kernel,by decide +kernel,rfl,rfl⟩ (zi_tup (ze_slice sl_P (zn 0) (zo_some ze_int) (zo_some ze_int))) kpg_name (fun _ _ _ _=>zg_name (i:=0) (show List.Nodup (["_law_number_here"]:List Str) by decide +kernel) rfl (Or.inl rfl)) (fun _ _ _ _=>zif_nil) (fun _ _ _ _=>(zcb_str rfl m_str (za_cons (zn 0) za_nil) rfl rfl)))))
  (zss_cons (zs_if (zt_cmpP (op_eqD hu) (ze_ix ix_P (zn 0) ze_int (fun _ _=>rfl)) ze_str (nomark _)) (zss_one (zs_expr (zm_append (zn 1) (za_cons (zm_join ze_str (za_cons (ze_comp ["_law_rest"] [] rfl ⟨rfl,by decide +kernel,by decide +kernel,rfl,rfl⟩ (zi_tup (ze_ix ix_P (zn 0) ze_int (fun _ _=>rfl))) kpg_name (fun _ _ _ _=>zg_name (i:=0) (show List.Nodup (["_law_rest"]:List Str) by decide +kernel) rfl (Or.inl rfl)) (fun _ _ _ _=>zif_nil) (fun _ _ _ _=>(zcb_str rfl m_str (za_cons (zn 0) za_nil) rfl rfl))) za_nil)) za_nil)))) zss_nil)
  (zss_cons (zs_if (zt_cmpP (op_eqD hu) (ze_ix ix_P (zn 0) ze_int (fun _ _=>rfl)) ze_str (nomark _)) (zss_one (zs_expr (zm_append (zn 1) (za_cons (zcb_str rfl m_str (za_cons (ze_ix ix_P (zn 0) ze_int (fun _ _=>rfl)) za_nil) rfl rfl) za_nil)))) zss_nil)
  (zss_one (zs_ret (zm_join ze_str (za_cons (zn 1) za_nil))))))),?_⟩
 cases k with
 | bare w=>
   have e:H c=some (.tup [.str w]):=hc
   have w1:w≠Str.ofString "rests":=by rcases hk with rfl | rfl <;> decide +kernel
   have w2:w≠Str.ofString "box":=by rcases hk with rfl | rfl <;> decide +kernel
   refine ⟨_,.inr e,.str w,rfl,?_⟩
   refine ⟨by show 1≤sizeLine;decide,fun d1 hd1=>?_⟩
   have y1:=Same.new hd1 (.lst [V.str w])
   refine ⟨1,rfl,2,rfl,c,rfl,.inl ⟨_,y1 _ _ e,fun r H2 y2 hr2=>?_⟩⟩
   refine ⟨r,rfl,⟨_,SqT.of hr2⟩,numsT (ns:=[]) (SqT.of hr2) (fun n hn=>(nomatch hn)) (by decide) fun D hD=>?_⟩
   have y3:=Same.new hD (.lst [])
   refine .inl ⟨_,_,y3 _ _ (y2 _ _ upd_same),upd_same,by show 1≤sizeLine;decide,fun p hp=>?_⟩
   have yp:=((y1.trans y2).trans y3).trans (Same.new hp (.lst [V.str w]))
   refine ⟨_,.inr (yp _ _ e),.str w,rfl,?_⟩
   refine iteD (fun z=>absurd (V.str.inj z) w1) (fun _=>?_)
   refine ⟨_,.inr (yp _ _ e),.str w,rfl,?_⟩
   refine iteD (fun z=>absurd (V.str.inj z) w2) (fun _=>?_)
   refine ⟨rfl,?_⟩
   exact ⟨[w],SqL.of upd_same,fit,q _ yp⟩
 | one w n=>
   have e:H c=some (.tup [.str w,.int n]):=hc
   have w1:w≠Str.ofString "rests":=by rcases hk with ⟨rfl | rfl | rfl,_⟩ | ⟨rfl,_⟩ <;> decide +kernel
   have w2:w≠Str.ofString "box":=by rcases hk with ⟨rfl | rfl | rfl,_⟩ | ⟨rfl,_⟩ <;> decide +kernel
   have hn:Nm [n]:=fun z hz=>by
    have:z=n:=by simpa using hz
    rcases hk with ⟨_,h1,h2⟩ | ⟨_,h1,h2⟩ <;> omega
   refine ⟨_,.inr e,.str w,rfl,?_⟩
   refine ⟨by show 1≤sizeLine;decide,fun d1 hd1=>?_⟩
   have y1:=Same.new hd1 (.lst [V.str w])
   refine ⟨1,rfl,2,rfl,c,rfl,.inl ⟨_,y1 _ _ e,fun r H2 y2 hr2=>?_⟩⟩
   refine ⟨r,rfl,⟨_,SqT.of hr2⟩,numsT (ns:=[n]) (SqT.of hr2) hn (by show 1≤1000;decide) fun D hD=>?_⟩
   have y3:=Same.new hD (.lst (([n].map nt).map V.str))
   refine .inl ⟨_,_,y3 _ _ (y2 _ _ upd_same),upd_same,by show 2≤sizeLine;decide,fun p hp=>?_⟩
   have yp:=((y1.trans y2).trans y3).trans (Same.new hp (.lst [V.str w,.str (nt n)]))
   refine ⟨_,.inr (yp _ _ e),.str w,rfl,?_⟩
   refine iteD (fun z=>absurd (V.str.inj z) w1) (fun _=>?_)
   refine ⟨_,.inr (yp _ _ e),.str w,rfl,?_⟩
   refine iteD (fun z=>absurd (V.str.inj z) w2) (fun _=>?_)
   refine ⟨rfl,?_⟩
   exact ⟨[w,nt n],SqL.of upd_same,fit,q _ yp⟩
 | box a b=>
   have e:H c=some (.tup [.str (Str.ofString "box"),.int a,.int b]):=hc
   obtain ⟨⟨a0,a1⟩,b0,b1⟩:=hk
   have hn:Nm [a]:=fun z hz=>by
    have:z=a:=by simpa using hz
    omega
   refine ⟨_,.inr e,.str (Str.ofString "box"),rfl,?_⟩
   refine ⟨by show 1≤sizeLine;decide,fun d1 hd1=>?_⟩
   have y1:=Same.new hd1 (.lst [V.str (Str.ofString "box")])
   refine ⟨1,rfl,2,rfl,c,rfl,.inl ⟨_,y1 _ _ e,fun r H2 y2 hr2=>?_⟩⟩
   refine ⟨r,rfl,⟨_,SqT.of hr2⟩,numsT (ns:=[a]) (SqT.of hr2) hn (by show 1≤1000;decide) fun D hD=>?_⟩
   have y3:=Same.new hD (.lst (([a].map nt).map V.str))
   refine .inl ⟨_,_,y3 _ _ (y2 _ _ upd_same),upd_same,by show 2≤sizeLine;decide,fun p hp=>?_⟩
   have y4:=(y1.trans y2).trans y3
   have yp:=y4.trans (Same.new hp (.lst [V.str (Str.ofString "box"),.str (nt a)]))
   refine ⟨_,.inr (yp _ _ e),.str (Str.ofString "box"),rfl,?_⟩
   refine ⟨_,.inr (yp _ _ e),.str (Str.ofString "box"),rfl,?_⟩
   refine ⟨tyL upd_same,?_⟩
   refine ⟨_,.inr (yp _ _ e),.int b,rfl,?_⟩
   refine ⟨log_small (by omega) (by omega),?_⟩
   refine ⟨_,upd_same,by show 2<sizeLine;decide,?_⟩
   refine ⟨rfl,?_⟩
   refine ⟨[Str.ofString "box",nt a,nt b],SqL.of upd_same,fit,?_⟩
   exact q _ (Same.updD yp (none_of y4 hp))
 | rests m rs=>
   obtain ⟨d,e,ed⟩:=hc
   obtain ⟨rn,rl,m0,m1⟩:=rs_nm hk
   have hn:Nm [m]:=fun z hz=>by
    have:z=m:=by simpa using hz
    omega
   refine ⟨_,.inr e,.str (Str.ofString "rests"),rfl,?_⟩
   refine ⟨by show 1≤sizeLine;decide,fun d1 hd1=>?_⟩
   have y1:=Same.new hd1 (.lst [V.str (Str.ofString "rests")])
   refine ⟨1,rfl,2,rfl,c,rfl,.inl ⟨_,y1 _ _ e,fun r H2 y2 hr2=>?_⟩⟩
   refine ⟨r,rfl,⟨_,SqT.of hr2⟩,numsT (ns:=[m]) (SqT.of hr2) hn (by show 1≤1000;decide) fun D hD=>?_⟩
   have y3:=Same.new hD (.lst (([m].map nt).map V.str))
   refine .inl ⟨_,_,y3 _ _ (y2 _ _ upd_same),upd_same,by show 2≤sizeLine;decide,fun p hp=>?_⟩
   have y4:=(y1.trans y2).trans y3
   have yn:=Same.new hp (.lst [V.str (Str.ofString "rests"),.str (nt m)])
   have yp:=y4.trans yn
   refine ⟨_,.inr (yp _ _ e),.str (Str.ofString "rests"),rfl,?_⟩
   refine ⟨tyL upd_same,?_⟩
   refine ⟨rfl,?_⟩
   refine ⟨_,.inr (yp _ _ e),.ref d,rfl,?_⟩
   refine ⟨d,rfl,⟨_,SqT.of (yp _ _ ed)⟩,numsT (SqT.of (yp _ _ ed)) rn (by omega) fun D2 hD2=>?_⟩
   refine ⟨_,SqL.of upd_same,rs_fits rn rl,?_⟩
   have y5:=Same.new hD2 (.lst ((rs.map nt).map V.str))
   refine ⟨_,y5 _ _ upd_same,by show 2<sizeLine;decide,?_⟩
   have y6:=Same.updD (o:=.lst [V.str (Str.ofString "rests"),.str (nt m),.str (Txt.join (Str.ofString ",") (rs.map nt))]) (yp.trans y5) (none_of y4 hp)
   refine ⟨_,.inr (y6 _ _ e),.str (Str.ofString "rests"),rfl,?_⟩
   refine ⟨rfl,?_⟩
   exact ⟨[Str.ofString "rests",nt m,Txt.join (Str.ofString ",") (rs.map nt)],SqL.of upd_same,fit,q _ y6⟩
end
end K70
namespace K70
open PySem L2
section
variable {P:Program} {w:World} {K:PySem.W.Frag} {mg:Str→Option Value} {base:Heap} {f:Addr} {fd:FuncData}
def Prt (ns:List Int):Prop:=(∀ n∈ns,(1:Int)≤n)∧ns.Pairwise (·≥·)
theorem pick4 {k a b c d:Int} (h0:0≤k) (h1:k<4) {lo hi:Int} (ha:lo≤a∧a≤hi) (hb:lo≤b∧b≤hi) (hc:lo≤c∧c≤hi) (hd:lo≤d∧d≤hi):∃ m:Int,atI [V.int a,.int b,.int c,.int d] k=some (.int m)∧lo≤m∧m≤hi:=by
 have:k=0∨k=1∨k=2∨k=3:=by omega
 rcases this with rfl | rfl | rfl | rfl
 · exact ⟨a,rfl,ha⟩
 · exact ⟨b,rfl,hb⟩
 · exact ⟨c,rfl,hc⟩
 · exact ⟨d,rfl,hd⟩
theorem sc_parting:FnScope ["_law_spool_here","_law_most","_law_left","_law_way","_law_parts","_law_far","_law_part","_law_again"] ["_law_spool_here","_law_most"] (defScope (top 40)):=⟨rfl,rfl,rfl,by decide +kernel,rfl,by decide +kernel,by decide +kernel⟩
def sp_parting:Sp:=fun vs H Q _=>∃ (a L:Addr) (most:Int) (n:Nat),vs=[.ref a,.int most]∧Hand H a L n∧n<900000000∧0≤most∧most≤300 ∧
 ∀ r H' (ns:List Int),Step a L (n+1000) H H'→H' r=some (.tup (ns.map V.int))→Prt ns→ns.sum≤most→Q (.ref r) H'
theorem ok_parting (F:Fun K "_law_parting" "_law_parting" (top 40) f fd) (m_max:mg "max" = none) (m_min:mg "min" = none) (m_sorted:mg "sorted" = none) (m_tuple:mg "tuple" = none) (F_law_take:FnA P w K mg base "_law_take" 1 ["_law_spool_here","_law_many"] sp_take):FnOk P w K mg base CX0 2 f fd ["_law_spool_here","_law_most"] sp_parting:=by
 refine F.okz sc_parting (fun vs H Q E h=>?_) (fun cdv A outer s H vs Q E hr h=>?_)
 · obtain ⟨a,L,most,n,rfl,_⟩:=h;rfl
 obtain ⟨a,L,most,n,rfl,hh,hn,f0,f1,q⟩:=h
 have nd:=sc_parting.nd
 have hu:=hr.units
 refine ⟨_,(zss_cons (zs_par3 (i:=2) (j:=3) (k:=4) rfl nd rfl rfl rfl (by decide) (by decide) (by decide) rfl rfl rfl (za_cons (ze_fn F_law_take hr (by decide) rfl (za_cons (zn 0) (za_cons (ze_op op_addP (zn 1) ze_int) za_nil))) (za_cons (ze_fn F_law_take hr (by decide) rfl (za_cons (zn 0) (za_cons ze_int za_nil))) (za_cons (ze_lst za_nil) za_nil))) rfl)
  (zss_cons (zs_while PassesOwn.never (zt_cmpP op_gtP (zn 2) ze_int (nomark _)) (zss_cons (zs_set (i:=5) nd rfl (Or.inl rfl) (ze_ix ix_P (ze_lst (za_cons (zn 2) (za_cons (zcb_min rfl rfl m_min (za_cons (zn 2) (za_cons ze_int za_nil)) rfl rfl) (za_cons (zcb_min rfl rfl m_min (za_cons (zn 2) (za_cons ze_int za_nil)) rfl rfl) (za_cons (zcb_max rfl rfl m_max (za_cons ze_int (za_cons (ze_op op_fdivP (zn 2) ze_int) za_nil)) rfl rfl) za_nil))))) (zn 3) (fun _ _=>rfl)))
  (zss_cons (zs_set (i:=6) nd rfl (Or.inl rfl) (ze_op op_addP ze_int (ze_fn F_law_take hr (by decide) rfl (za_cons (zn 0) (za_cons (zn 5) za_nil)))))
  (zss_cons (zs_set (i:=7) nd rfl (Or.inl rfl) (zcb_min rfl rfl m_min (za_cons (ze_op op_fdivP (zn 2) (zn 6)) (za_cons (ze_op op_addP ze_int (ze_fn F_law_take hr (by decide) rfl (za_cons (zn 0) (za_cons (ze_ix ix_P (ze_lst (za_cons ze_int (za_cons ze_int (za_cons ze_int (za_cons ze_int za_nil))))) (zn 3) (fun _ _=>rfl)) za_nil)))) za_nil)) rfl rfl))
  (zss_cons (zs_expr (zm_extend (zn 4) (za_cons (ze_op op_mulQ (ze_lst (za_cons (zn 6) za_nil)) (zn 7)) za_nil)))
  (zss_one (zs_set (i:=2) nd rfl (Or.inl rfl) (ze_op op_subP (zn 2) (ze_op op_mulQ (zn 6) (zn 7))))))))))
  (zss_one (zs_ret (zcb_tuple rfl m_tuple (za_cons (zcb_sortR rfl m_sorted (za_cons (zn 4) za_nil) rfl) za_nil) rfl rfl))))),?_⟩
 refine ⟨a,L,most+1,n,rfl,hh,by omega,by omega,by omega,fun left H1 l0 l1 s1=>?_⟩
 refine ⟨a,L,4,n+1,rfl,s1.2,by omega,by decide,by decide,fun way H2 w0 w1 s2=>?_⟩
 have st2:=s1.trans s2
 refine ⟨Nat.zero_le _,fun D hD=>?_⟩
 have Dne:=st2.2.ne hD
 have Dnone:H D=none:=st2.none Dne hD
 have st4:Step a L (n+2) H (upd H2 D (.lst [])):=st2.same (Same.new hD _)
 have hD4:(upd H2 D (.lst [])) D=some (.lst (([]:List Int).map V.int)):=upd_same
 generalize upd H2 D (.lst [])=H4 at st4 hD4
 refine while_by2 (fun m σ H'=>∃ (lf:Int) (ns:List Int) (p5 p6 p7:Option V),Step a L (n+2+2*(left - lf).toNat) H H'∧H' D=some (.lst (ns.map V.int))∧σ=[some (.ref a),some (.int most),some (.int lf),some (.int way),some (.ref D),p5,p6,p7]∧m=lf.toNat∧0≤lf∧lf≤left∧(∀ x∈ns,(1:Int)≤x)∧ns.sum+lf≤most)
  left.toNat ⟨left,[],none,none,none,st4.mono (by omega),hD4,rfl,rfl,l0,Int.le_refl _,by simp,by simp;omega⟩ ?_
 rintro m σ H' ⟨lf,ns,p5,p6,p7,st,hDn,rfl,rfl,lf0,lfl,h1,hsum⟩
 have hlen:=sum_ge_len h1
 refine iteD (fun c=>?_) (fun c=>?_)
 · refine ⟨fun σ' H'=>∃ (lf':Int) (ns:List Int) (p5 p6 p7:Option V),Step a L (n+2+2*(left - lf').toNat) H H'∧H' D=some (.lst (ns.map V.int))∧σ'=[some (.ref a),some (.int most),some (.int lf'),some (.int way),some (.ref D),p5,p6,p7]∧lf' < lf∧0≤lf'∧lf'≤left∧(∀ x∈ns,(1:Int)≤x)∧ns.sum+lf'≤most,?_,?_⟩
   · rintro σ' H' ⟨lf',ns,p5,p6,p7,st,hDn,rfl,hlt,r⟩
     exact ⟨lf'.toNat,by omega,lf',ns,p5,p6,p7,st,hDn,rfl,rfl,r⟩
   refine ⟨⟨by decide,by decide⟩,?_⟩
   refine ⟨by show 4≤sizeLine;decide,fun d5 hd5=>?_⟩
   have hhalf:lf / 2≤lf∧0≤lf / 2:=by omega
   obtain ⟨fr,ef,fr0,fr1⟩:=pick4 (k:=way) (a:=lf) (b:=if 6<lf then 6 else lf) (c:=if 2<lf then 2 else lf) (d:=if lf / 2 > 1 then lf / 2 else 1) (lo:=1) (hi:=lf) w0 w1 (by omega) (by split <;> omega) (by split <;> omega) (by split <;> omega)
   have y5:=Same.new hd5 (.lst [V.int lf,.int (if 6<lf then 6 else lf),.int (if 2<lf then 2 else lf),.int (if lf / 2 > 1 then lf / 2 else 1)])
   refine ⟨_,.inl (SqL.of upd_same),.int fr,ef,?_⟩
   have st5:=st.same y5
   have hD5:=y5 _ _ hDn
   generalize upd H' d5 (.lst [V.int lf,.int (if 6<lf then 6 else lf),.int (if 2<lf then 2 else lf),.int (if lf / 2 > 1 then lf / 2 else 1)])=H5 at st5 hD5
   refine ⟨a,L,fr,_,rfl,st5.2,by omega,by omega,by omega,fun pr H6 pr0 pr1 st6=>?_⟩
   have hD6:=st6.lst Dne hD5
   refine ⟨⟨by omega,by omega⟩,?_⟩
   refine ⟨by show 4≤sizeLine;decide,fun d7 hd7=>?_⟩
   obtain ⟨tm,et,tm0,tm1⟩:=pick4 (k:=way) (a:=1) (b:=2) (c:=9) (d:=2) (lo:=1) (hi:=9) w0 w1 (by decide) (by decide) (by decide) (by decide)
   have y7:=Same.new hd7 (.lst [V.int 1,.int 2,.int 9,.int 2])
   refine ⟨_,.inl (SqL.of upd_same),.int tm,et,?_⟩
   have st7:=(st5.trans st6).same y7
   have hD7:=y7 _ _ hD6
   generalize upd H6 d7 (.lst [V.int 1,.int 2,.int 9,.int 2])=H7 at st7 hD7
   refine ⟨a,L,tm,_,rfl,st7.2,by omega,by omega,by omega,fun ag H8 ag0 ag1 st8=>?_⟩
   have hD8:=st8.lst Dne hD7
   have st9:=st7.trans st8
   have hdiv1:1≤lf / (1+pr):=(Int.le_ediv_iff_mul_le (by omega)).mpr (by omega)
   have hdiv2:(1+pr)*(lf / (1+pr))≤lf:=Int.mul_ediv_self_le (by omega)
   have hA:1≤(if 1+ag<lf / (1+pr) then 1+ag else lf / (1+pr))∧(if 1+ag<lf / (1+pr) then 1+ag else lf / (1+pr))≤lf / (1+pr):=by split <;> omega
   have hA9:(if 1+ag<lf / (1+pr) then 1+ag else lf / (1+pr))≤10:=by split <;> omega
   have eA:∃ A':Int,A'=(if 1+ag<lf / (1+pr) then 1+ag else lf / (1+pr)):=⟨_,rfl⟩
   obtain ⟨A',eA⟩:=eA
   rw [← eA] at hA hA9
   have hmul:(1+pr)*A'≤lf:=Int.le_trans (Int.mul_le_mul_of_nonneg_left hA.2 (by omega)) hdiv2
   have hmul0:1≤(1+pr)*A':=by
    have:=Int.mul_le_mul (show (1:Int)≤1+pr by omega) hA.1 (by decide) (by omega)
    omega
   refine ⟨tyL hD8,by show 1≤sizeLine;decide,fun d9 hd9=>?_⟩
   have y9:=Same.new hd9 (.lst [V.int (1+pr)])
   have eN:((if 1+ag<lf / (1+pr) then 1+ag else lf / (1+pr)):Int).toNat=A'.toNat:=by rw [eA]
   refine ⟨⟨by rw [← eA];omega,by rw [← eA];omega⟩,.inl ⟨_,upd_same,le_line (by rw [eN];show 1*A'.toNat≤1000;omega),fun d10 hd10=>?_⟩⟩
   rw [eN,rep_flat]
   have y10:=Same.new hd10 (.lst ((List.replicate A'.toNat (1+pr)).map V.int))
   refine ⟨_,_,y10 _ _ (y9 _ _ hD8),upd_same,le_line (by rw [List.length_map,List.length_map,List.length_replicate];omega),?_⟩
   refine ⟨mulR (by rw [← eA];omega) (by rw [← eA];omega),?_⟩
   have e8:ns.map V.int++(List.replicate A'.toNat (1+pr)).map V.int=(ns++List.replicate A'.toNat (1+pr)).map V.int:=by rw [List.map_append]
   rw [e8]
   refine ⟨lf - (1+pr)*A',ns++List.replicate A'.toNat (1+pr),some (.int fr),some (.int (1+pr)),some (.int (if 1+ag<lf / (1+pr) then 1+ag else lf / (1+pr))),(((st9.same y9).same y10).updN Dne Dnone).mono (by omega),upd_same,?_,by omega,by omega,by omega,fun x hx=>?_,?_⟩
   · rw [eA]
     rfl
   · rcases List.mem_append.mp hx with hx | hx
     · exact h1 x hx
     · have:=List.eq_of_mem_replicate hx
       omega
   · rw [List.sum_append,List.sum_replicate_int]
     have:((A'.toNat:Nat):Int)=A':=by omega
     rw [this,Int.mul_comm A' (1+pr)]
     omega
 · refine ⟨ns,.inl (SqL.of hDn),fun l ns' hl perm ord=>?_⟩
   refine ⟨_,.inl (SqL.of upd_same),fun r H9 y9 hr9=>?_⟩
   refine q r H9 ns' (((st.mono (by omega)).same (Same.new hl _)).same y9) hr9 ⟨fun x hx=>h1 x (perm.mem_iff.mp hx),ord⟩ ?_
   have:ns'.sum=ns.sum:=perm_sum perm
   omega
end
end K70
namespace K70
open PySem L2 M67 M68 M69 M71
def Num (ns:List Int):Prop:=∀ n∈ns,(1:Int)≤n∧n<1000000
theorem nts_sum {ns:List Int} {k:Nat} (h:∀ n∈ns,(nt n).length≤k):((ns.map nt).map (·.length)).sum≤ns.length*k:=by
 induction ns with
 | nil=>simp
 | cons x r ih=>
   have:=ih fun n hn=>h n (List.mem_cons_of_mem _ hn)
   have:=h x List.mem_cons_self
   simp only [List.map_cons,List.sum_cons,List.length_cons]
   rw [Nat.add_mul,Nat.one_mul]
   omega
theorem one_len (x:Nat):(⟨#[x]⟩:Str).length=1:=rfl
theorem app_len (a b:Str):(a++b).length=a.length+b.length:=by
 show (a.cps++b.cps).size=_
 rw [Array.size_append]
 rfl
theorem join_len (c:Nat):∀ ys:List Str,(Str.join ⟨#[c]⟩ ys).length≤(ys.map (·.length)).sum+ys.length
 | []=>Nat.zero_le _
 | [x]=>by show x.length≤_;simp
 | x::y::r=>by
   have:=join_len c (y::r)
   show ((x++⟨#[c]⟩++Str.join ⟨#[c]⟩ (y::r):Str)).length≤_
   rw [app_len,app_len,one_len]
   simp only [List.map_cons,List.sum_cons,List.length_cons] at this ⊢
   omega
theorem shw_len {ns:List Int} {k:Nat} (h:∀ n∈ns,(nt n).length≤k):(shw ns).length≤ns.length*(k+1)+1:=by
 unfold shw
 split
 · show (Str.ofString "-").length≤_
   have:(Str.ofString "-").length=1:=by decide +kernel
   omega
 · rw [plus_is,show Txt.join ⟨#[43]⟩ (ns.map nt)=Str.join ⟨#[43]⟩ (ns.map nt) from StrLaws.glued_eq_join _ _]
   have h1:=join_len 43 (ns.map nt)
   have h2:=nts_sum h
   rw [List.length_map] at h1
   rw [Nat.mul_add,Nat.mul_one]
   omega
theorem shw_split {ns:List Int} (hn:ns≠[]) (h:Num ns):Txt.split (shw ns) (Str.ofString "+")=ns.map nt:=by
 unfold shw
 rw [if_neg hn,plus_is]
 refine split_join (by simpa using hn) fun y hy=>?_
 obtain ⟨n,hn',rfl⟩:=List.mem_map.mp hy
 exact nt_nosep (by have:=(h n hn').1;omega) (by decide)
theorem shw_dash {ns:List Int} (hn:ns≠[]) (h:Num ns):shw ns≠Str.ofString "-":=fun z=>by
 unfold shw at z
 rw [if_neg hn,plus_is,show Txt.join ⟨#[43]⟩ (ns.map nt)=Str.join ⟨#[43]⟩ (ns.map nt) from StrLaws.glued_eq_join _ _] at z
 have e:=congrArg (fun s:Str=>s.cps.toList) z
 rw [M67.join_list 43] at e
 have e2:(Str.ofString "-").cps.toList=[45]:=by decide +kernel
 rw [e2] at e
 cases ns with
 | nil=>exact hn rfl
 | cons n r=>
   have hh:=h n List.mem_cons_self
   have hl:=nt_len (show 0≤n by omega) hh.2
   obtain ⟨c,hc,_⟩:=nt_first hh.1
   have hd:=nt_digit (show 0≤n by omega) c (List.mem_of_getElem? hc)
   have:(jl 43 ((nt n::r.map nt).map fun y=>y.cps.toList))[0]? = some c:=by
    cases r with
    | nil=>exact hc
    | cons m r'=>
      show ((nt n).cps.toList++43::_)[0]? = some c
      rw [List.getElem?_append_left (by rw [Array.length_toList];exact hl.1)]
      exact hc
   rw [show (jl 43 ((nt n::r.map nt).map fun y=>y.cps.toList))=[45] from e] at this
   have:=Option.some.inj this
   omega
theorem hash_len:(Str.ofString "#").length=1:=by decide +kernel
theorem nl_len:(Str.ofString "\n").length=1:=by decide +kernel
section
variable {P:Program} {w:World} {K:PySem.W.Frag} {mg:Str→Option Value} {base:Heap} {f:Addr} {fd:FuncData}
def sp_shp:Sp:=fun vs H Q _=>∃ (a:Addr) (ns:List Int),vs=[.ref a]∧H a=some (.tup (ns.map V.int))∧ns.length≤1000∧Num ns∧∀ H',Same H H'→Q (.str (shw ns)) H'
theorem join_ok {ns:List Int} (hl:ns.length≤1000) (h:Num ns):((ns.map nt).map (·.length)).sum+(ns.map nt).length*(Str.ofString "+").length≤16777216:=by
 have h2:=nts_sum (ns:=ns) (k:=6) fun n hn=>(nt_len (by have:=(h n hn).1;omega) (h n hn).2).2
 have h3:(Str.ofString "+").length=1:=by decide +kernel
 rw [h3,List.length_map]
 omega
theorem sc_ltext:FnScope ["_law_parting_here"] ["_law_parting_here"] (defScope (top 41)):=⟨rfl,rfl,rfl,by decide +kernel,rfl,by decide +kernel,by decide +kernel⟩
theorem eqv_nilT (ds:List PyData):PyData.eqv (.tuple ds) (.tuple [])=ds.isEmpty:=by cases ds <;> simp [PyData.eqv,PyData.eqvAll]
theorem ok_ltext (F:Fun K "_law_text" "_law_text" (top 41) f fd) (m_str:mg "str" = none):FnOk P w K mg base CX0 1 f fd ["_law_parting_here"] sp_shp:=by
 refine F.okz sc_ltext (fun vs H Q E h=>?_) (fun cdv A outer s H vs Q E hr h=>?_)
 · obtain ⟨a,ns,rfl,_⟩:=h;rfl
 obtain ⟨a,ns,rfl,ha,hl,hn,q⟩:=h
 have nd:=sc_ltext.nd
 have hu:=hr.units
 refine ⟨_,(zss_one (zs_ret (ze_ifExp (zt_cmpP (op_neD hu) (zn 0) (ze_tup za_nil) (nomark _)) (zm_join ze_str (za_cons (ze_comp ["_law_part"] [] rfl ⟨rfl,by decide +kernel,by decide +kernel,rfl,rfl⟩ (zi_tup (zn 0)) kpg_name (fun _ _ _ _=>zg_name (i:=0) (show List.Nodup (["_law_part"]:List Str) by decide +kernel) rfl (Or.inl rfl)) (fun _ _ _ _=>zif_nil) (fun _ _ _ _=>(zcb_str rfl m_str (za_cons (zn 0) za_nil) rfl rfl))) za_nil)) ze_str))),?_⟩
 refine ⟨Nat.zero_le _,fun d hd=>?_⟩
 have y1:=Same.new hd (.tup [])
 have ha1:=y1 _ _ ha
 refine ⟨_,_,.ints ha1,.ints (ns:=[]) upd_same,shaped_ints _,shaped_ints [],?_⟩
 generalize upd H d (.tup [])=H1 at y1 ha1
 show if (!PyData.eqv (.tuple (ns.map PyData.int)) (.tuple []))=true then _ else _
 rw [eqv_nilT]
 cases ns with
 | nil=>exact q H1 y1
 | cons n0 r0=>
   refine iteT ?_
   refine ⟨rfl,?_⟩
   refine ⟨a,rfl,⟨_,SqT.of ha1⟩,cmp_tup (xs:=(n0::r0).map V.int) (fun j ys H'=>H'=H1∧ys=(((n0::r0).take j).map nt).map V.str) ⟨rfl,by rw [List.take_zero];rfl⟩ ?_ ?_ ?_⟩
   · rintro j ys H' _ ⟨rfl,_⟩
     exact SqT.of ha1
   · rintro j x ys H' hx ⟨rfl,rfl⟩
     have hj:j<(n0::r0).length:=by
      have:=(List.getElem?_eq_some_iff.mp hx).1
      rw [List.length_map] at this
      exact this
     have ex:x=.int (n0::r0)[j]:=by rw [getI hj] at hx;exact (Option.some.inj hx).symm
     subst ex
     have hj1:=hn _ (List.getElem_mem hj)
     refine ⟨by rw [List.length_map,List.length_map,List.length_take];exact small1000 (by omega),?_⟩
     refine ⟨log_small (by omega) hj1.2,?_⟩
     refine ⟨rfl,?_⟩
     rw [List.take_succ,List.getElem?_eq_getElem hj,List.map_append,List.map_append]
     rfl
   · rintro ys H' ⟨rfl,rfl⟩ D hD
     rw [List.length_map,List.take_of_length_le (Nat.le_refl _)]
     refine ⟨_,SqL.of upd_same,join_ok hl hn,?_⟩
     have:=q _ (y1.trans (Same.new hD (.lst (((n0::r0).map nt).map V.str))))
     unfold shw at this
     rw [if_neg (List.cons_ne_nil _ _)] at this
     exact this
def NumD (ns:List Int):Prop:=∀ n∈ns,(1:Int)≤n∧n≤2000
theorem bars_sumD {ns:List Int} (h:NumD ns):((ns.map bar).map (·.length)).sum≤ns.length*2000:=by
 induction ns with
 | nil=>simp
 | cons x r ih=>
   have:=ih fun n hn=>h n (List.mem_cons_of_mem _ hn)
   have:=h x List.mem_cons_self
   simp only [List.map_cons,List.sum_cons,List.length_cons]
   rw [bar_len,Nat.add_mul,Nat.one_mul]
   omega
theorem join_okD {ns:List Int} (hl:ns.length≤1000) (h:NumD ns):((ns.map bar).map (·.length)).sum+(ns.map bar).length*(Str.ofString "\n").length≤16777216:=by
 have h2:=bars_sumD h
 rw [nl_len,List.length_map]
 omega
end
theorem pw_of:∀ {ns:List Int},(∀ j (hj:j+1<ns.length),ns[j+1]≤ns[j])→ns.Pairwise (·≥·)
 | [],_=>.nil
 | [x],_=>List.pairwise_singleton _ _
 | x::y::r,h=>by
   have ih:=pw_of (ns:=y::r) fun j hj=>h (j+1) (by show j+1+1<(y::r).length+1;omega)
   have h0:y≤x:=h 0 (by show 0+1<r.length+1+1;omega)
   refine List.pairwise_cons.mpr ⟨fun z hz=>?_,ih⟩
   rcases List.mem_cons.mp hz with rfl | hz
   · exact h0
   · have:=(List.pairwise_cons.mp ih).1 z hz
     have:z≤y:=this
     show z≤x
     omega
theorem up_len:∀ {rs:List Int} {a m:Int},rs.Pairwise (· < ·)→(∀ r∈rs,a≤r∧r<m)→rs≠[]→(rs.length:Int)≤m - a
 | [],_,_,_,_,h=>absurd rfl h
 | [x],a,m,_,hb,_=>by have:=hb x List.mem_cons_self;show ((0+1:Nat):Int)≤_;omega
 | x::y::r,a,m,hp,hb,_=>by
   have h1:=List.pairwise_cons.mp hp
   have ih:=up_len (rs:=y::r) (a:=x+1) (m:=m) h1.2 (fun z hz=>⟨by have:=h1.1 z hz;omega,(hb z (List.mem_cons_of_mem _ hz)).2⟩) (List.cons_ne_nil _ _)
   have:=hb x List.mem_cons_self
   have e:((x::y::r).length:Int)=((y::r).length:Int)+1:=by show (((y::r).length+1:Nat):Int)=_;omega
   omega
def RsOk (m:Int) (rs:List Int):Prop:=rs≠[]∧rs.Pairwise (· < ·)∧∀ r∈rs,0≤r∧r<m
theorem RsOk.ok {m:Int} {rs:List Int} (h:RsOk m rs) (h2:2≤m∧m≤60):(Kd.rests m rs).Ok:=⟨h2,h.1,h.2.1,h.2.2,by have:=up_len h.2.1 h.2.2 h.1;omega⟩
theorem rsok_of {m:Int} {rs:List Int} (h:(Kd.rests m rs).Ok):(2≤m∧m≤60)∧RsOk m rs:=⟨h.1,h.2.1,h.2.2.1,h.2.2.2.1⟩
def OkA (w:Str) (ns:List Int):Prop:=((w=Str.ofString "all"∨w=Str.ofString "own")∧ns=[])∨((w=Str.ofString "most"∨w=Str.ofString "few"∨w=Str.ofString "off")∧∃ n,ns=[n]∧1≤n∧n≤600)∨(w=Str.ofString "box"∧∃ a b,ns=[a,b]∧(1≤a∧a≤600)∧1≤b∧b≤600)∨(w=Str.ofString "times"∧∃ n,ns=[n]∧2≤n∧n≤60)
section
variable {P:Program} {w:World} {K:PySem.W.Frag} {mg:Str→Option Value} {base:Heap} {f:Addr} {fd:FuncData}
theorem sc_whole:FnScope ["thing"] ["thing"] (defScope (top 12)):=⟨rfl,rfl,rfl,by decide +kernel,rfl,by decide +kernel,by decide +kernel⟩
def sp_whole:Sp:=fun vs H Q _=>∃ i:Int,vs=[.int i]∧Q (.bl true) H
theorem ok_whole (F:Fun K "is_whole" "is_whole" (top 12) f fd) (m_bool:mg "bool" = none) (m_int:mg "int" = none) (m_isinstance:mg "isinstance" = none):FnOk P w K mg base CX0 1 f fd ["thing"] sp_whole:=by
 refine F.okz sc_whole (fun vs H Q E h=>?_) (fun cdv A outer s H vs Q E hr h=>?_)
 · obtain ⟨i,rfl,_⟩:=h;rfl
 obtain ⟨i,rfl,q⟩:=h
 have nd:=sc_whole.nd
 refine ⟨_,(zss_one (zs_ret (ze_andP (zcb_isinstance rfl m_isinstance (za_cons (zn 0) (za_cons (zty_int rfl m_int) za_nil)) rfl rfl) (ze_one (ze_notP (zcb_isinstance rfl m_isinstance (za_cons (zn 0) (za_cons (zty_bool rfl m_bool) za_nil)) rfl rfl)))))),?_⟩
 refine ⟨"int",rfl,rfl,?_⟩
 refine iteB (fun _=>?_) (fun c=>absurd c (by decide))
 refine ⟨"int",rfl,rfl,?_⟩
 exact q
theorem sc_within:FnScope ["thing","least","most"] ["thing","least","most"] (defScope (top 13)):=⟨rfl,rfl,rfl,by decide +kernel,rfl,by decide +kernel,by decide +kernel⟩
def sp_within:Sp:=fun vs H Q _=>∃ i lo hi:Int,vs=[.int i,.int lo,.int hi]∧Q (.bl (decide (lo≤i∧i≤hi))) H
theorem ok_within (F:Fun K "is_within" "is_within" (top 13) f fd)  (F_is_whole:FnA P w K mg base "is_whole" 1 ["thing"] sp_whole):FnOk P w K mg base CX0 2 f fd ["thing","least","most"] sp_within:=by
 refine F.okz sc_within (fun vs H Q E h=>?_) (fun cdv A outer s H vs Q E hr h=>?_)
 · obtain ⟨i,lo,hi,rfl,_⟩:=h;rfl
 obtain ⟨i,lo,hi,rfl,q⟩:=h
 have nd:=sc_within.nd
 refine ⟨_,(zss_one (zs_ret (ze_andP (ze_fn F_is_whole hr (by decide) rfl (za_cons (zn 0) za_nil)) (ze_one (ze_chain op_leP op_leP (zn 1) (zn 0) (zn 2)))))),?_⟩
 refine ⟨i,rfl,?_⟩
 refine ⟨_,rfl,?_⟩
 by_cases h1:lo≤i
 · rw [decide_eq_true h1]
   show Q (.bl (decide (i≤hi))) H
   rw [show decide (i≤hi)=decide (lo≤i∧i≤hi) from decide_eq_decide.mpr ⟨fun h=>⟨h1,h⟩,fun h=>h.2⟩]
   exact q
 · rw [decide_eq_false h1]
   show Q (.bl false) H
   rw [decide_eq_false (fun h=>h1 h.1)] at q
   exact q
theorem sc_size:FnScope ["thing"] ["thing"] (defScope (top 20)):=⟨rfl,rfl,rfl,by decide +kernel,rfl,by decide +kernel,by decide +kernel⟩
def sp_size:Sp:=fun vs H Q _=>∃ i:Int,vs=[.int i]∧Q (.bl (decide (1≤i∧i≤600))) H
theorem ok_size (F:Fun K "is_size" "is_size" (top 20) f fd)  (g_MOST_SIZE:IntG mg "MOST_SIZE" 600) (F_is_within:FnA P w K mg base "is_within" 2 ["thing","least","most"] sp_within):FnOk P w K mg base CX0 3 f fd ["thing"] sp_size:=by
 refine F.okz sc_size (fun vs H Q E h=>?_) (fun cdv A outer s H vs Q E hr h=>?_)
 · obtain ⟨i,rfl,_⟩:=h;rfl
 obtain ⟨i,rfl,q⟩:=h
 have nd:=sc_size.nd
 refine ⟨_,(zss_one (zs_ret (ze_fn F_is_within hr (by decide) rfl (za_cons (zn 0) (za_cons ze_int (za_cons (ze_ig rfl g_MOST_SIZE) za_nil)))))),?_⟩
 exact ⟨i,1,600,rfl,q⟩
theorem sc_div:FnScope ["thing"] ["thing"] (defScope (top 21)):=⟨rfl,rfl,rfl,by decide +kernel,rfl,by decide +kernel,by decide +kernel⟩
def sp_div:Sp:=fun vs H Q _=>∃ i:Int,vs=[.int i]∧Q (.bl (decide (2≤i∧i≤60))) H
theorem ok_div (F:Fun K "is_divisor" "is_divisor" (top 21) f fd)  (g_LEAST_DIVISOR:IntG mg "LEAST_DIVISOR" 2) (g_MOST_DIVISOR:IntG mg "MOST_DIVISOR" 60) (F_is_within:FnA P w K mg base "is_within" 2 ["thing","least","most"] sp_within):FnOk P w K mg base CX0 3 f fd ["thing"] sp_div:=by
 refine F.okz sc_div (fun vs H Q E h=>?_) (fun cdv A outer s H vs Q E hr h=>?_)
 · obtain ⟨i,rfl,_⟩:=h;rfl
 obtain ⟨i,rfl,q⟩:=h
 have nd:=sc_div.nd
 refine ⟨_,(zss_one (zs_ret (ze_fn F_is_within hr (by decide) rfl (za_cons (zn 0) (za_cons (ze_ig rfl g_LEAST_DIVISOR) (za_cons (ze_ig rfl g_MOST_DIVISOR) za_nil)))))),?_⟩
 exact ⟨i,2,60,rfl,q⟩
theorem sc_is:FnScope ["thing","part","at"] ["thing"] (defScope (top 15)):=⟨rfl,rfl,rfl,by decide +kernel,rfl,by decide +kernel,by decide +kernel⟩
def sp_is:Sp:=fun vs H Q _=>∃ (a:Addr) (ns:List Int),vs=[.ref a]∧H a=some (.tup (ns.map V.int))∧ns.length≤100000∧(Prt ns→Q (.bl true) H)∧(¬ Prt ns→Q (.bl false) H)
theorem ok_is (F:Fun K "is_parting" "is_parting" (top 15) f fd) (m_isinstance:mg "isinstance" = none) (m_len:mg "len" = none) (m_range:mg "range" = none) (m_tuple:mg "tuple" = none) (F_is_whole:FnA P w K mg base "is_whole" 1 ["thing"] sp_whole):FnOk P w K mg base CX0 2 f fd ["thing"] sp_is:=by
 refine F.okz sc_is (fun vs H Q E h=>?_) (fun cdv A outer s H vs Q E hr h=>?_)
 · obtain ⟨a,ns,rfl,_⟩:=h;rfl
 obtain ⟨a,ns,rfl,ha,hl,qt,qf⟩:=h
 have nd:=sc_is.nd
 have hu:=hr.units
 refine ⟨_,(zss_cons (zs_if (zt_not (zt_valP (zcb_isinstance rfl m_isinstance (za_cons (zn 0) (za_cons (zty_tuple rfl m_tuple) za_nil)) rfl rfl))) (zss_one (zs_ret ze_bl)) zss_nil)
  (zss_cons (zs_for PassesOwn.never rfl (zi_tup (zn 0)) (zg_name (i:=1) nd rfl (Or.inl rfl)) (zss_one (zs_if (ZW.zt (zw_or (zt_not (zt_valP (ze_fn F_is_whole hr (by decide) rfl (za_cons (zn 1) za_nil)))) (zw_or1 (zt_cmpP op_ltP (zn 1) ze_int (nomark _))))) (zss_one (zs_ret ze_bl)) zss_nil)))
  (zss_cons (zs_for PassesOwn.never rfl (zi_range2 rfl m_range (za_cons ze_int (za_cons (zcb_len rfl m_len (za_cons (zn 0) za_nil) rfl rfl) za_nil))) (zg_name (i:=2) nd rfl (Or.inl rfl)) (zss_one (zs_if (zt_cmpP op_ltP (ze_ix ix_P (zn 0) (ze_op op_subP (zn 2) ze_int) (fun _ _=>rfl)) (ze_ix ix_P (zn 0) (zn 2) (fun _ _=>rfl)) (nomark _)) (zss_one (zs_ret ze_bl)) zss_nil)))
  (zss_one (zs_ret ze_bl))))),?_⟩
 refine ⟨"tuple",(SqK.tup ha).ty,rfl,?_⟩
 refine iteB (fun c=>absurd c (by decide)) (fun _=>?_)
 refine ⟨a,rfl,⟨_,SqT.of ha⟩,for_tup (xs:=ns.map V.int) (fun i σ H'=>H=H'∧(∀ j (hj:j<ns.length),j<i→(1:Int)≤ns[j])∧∃ p1,σ=[some (.ref a),p1,none]) ⟨rfl,fun _ _ h=>absurd h (Nat.not_lt_zero _),none,rfl⟩ ?_ ?_ ?_⟩
 · rintro i σ H' _ ⟨rfl,_⟩
   exact SqT.of ha
 · rintro i x σ H' hx ⟨rfl,hp,p1,rfl⟩
   have hi:i<ns.length:=by
    have:=(List.getElem?_eq_some_iff.mp hx).1
    rw [List.length_map] at this
    exact this
   have ex:x=.int ns[i]:=by rw [getI hi] at hx;exact (Option.some.inj hx).symm
   subst ex
   refine ⟨_,rfl,?_⟩
   refine iteD (fun c=>?_) (fun c=>?_)
   · exact qf fun h=>by have:=h.1 _ (List.getElem_mem hi);omega
   · refine ⟨rfl,fun j hj hji=>?_,_,rfl⟩
     rcases Nat.lt_or_ge j i with h | h
     · exact hp j hj h
     · have:j=i:=by omega
       subst this
       omega
 · rintro σ H' ⟨rfl,hp,p1,rfl⟩
   rw [List.length_map] at hp
   refine ⟨_,.inr ha,?_⟩
   rw [List.length_map]
   refine ⟨1,ns.length,rfl,⟨by decide,by decide,by omega,by omega⟩,for_range (fun i σ H'=>H=H'∧(∀ j (hj:j+1<ns.length),j<i→ns[j+1]≤ns[j])∧∃ p2,σ=[some (.ref a),p1,p2]) ⟨rfl,fun _ _ h=>absurd h (Nat.not_lt_zero _),none,rfl⟩ ?_ ?_⟩
   · rintro i σ H' hi ⟨rfl,hw,p2,rfl⟩
     have hi1:i+1<ns.length:=by omega
     refine ⟨_,.inr ha,.int ns[i],atI_of (j:=i) (by omega) (getI (by omega)),?_⟩
     refine ⟨_,.inr ha,.int ns[i+1],atI_of (j:=i+1) (by omega) (getI hi1),?_⟩
     refine iteD (fun c=>?_) (fun c=>?_)
     · exact qf fun h=>by
        have:=List.pairwise_iff_getElem.mp h.2 i (i+1) (by omega) hi1 (by omega)
        have:ns[i+1]≤ns[i]:=this
        omega
     · refine ⟨rfl,fun j hj hji=>?_,_,rfl⟩
       rcases Nat.lt_or_ge j i with h | h
       · exact hw j hj h
       · have:j=i:=by omega
         subst this
         omega
   · rintro σ H' ⟨rfl,hw,p2,rfl⟩
     exact qt ⟨fun n hn=>by
      obtain ⟨j,hj,rfl⟩:=List.getElem_of_mem hn
      exact hp j hj hj,pw_of fun j hj=>hw j hj (by omega)⟩
theorem sc_rests:FnScope ["thing","m","least","rest"] ["thing","m"] (defScope (top 22)):=⟨rfl,rfl,rfl,by decide +kernel,rfl,by decide +kernel,by decide +kernel⟩
def sp_rests:Sp:=fun vs H Q _=>∃ (a:Addr) (rs:List Int) (m:Int),vs=[.ref a,.int m]∧H a=some (.tup (rs.map V.int))∧(RsOk m rs→Q (.bl true) H)∧(¬ RsOk m rs→Q (.bl false) H)
theorem ok_rests (F:Fun K "are_rests" "are_rests" (top 22) f fd) (m_isinstance:mg "isinstance" = none) (m_len:mg "len" = none) (m_tuple:mg "tuple" = none) (F_is_within:FnA P w K mg base "is_within" 2 ["thing","least","most"] sp_within):FnOk P w K mg base CX0 3 f fd ["thing","m"] sp_rests:=by
 refine F.okz sc_rests (fun vs H Q E h=>?_) (fun cdv A outer s H vs Q E hr h=>?_)
 · obtain ⟨a,rs,m,rfl,_⟩:=h;rfl
 obtain ⟨a,rs,m,rfl,ha,qt,qf⟩:=h
 have nd:=sc_rests.nd
 have hu:=hr.units
 refine ⟨_,(zss_cons (zs_if (ZW.zt (zw_or (zt_not (zt_valP (zcb_isinstance rfl m_isinstance (za_cons (zn 0) (za_cons (zty_tuple rfl m_tuple) za_nil)) rfl rfl))) (zw_or1 (zt_cmpP (op_eqD hu) (zcb_len rfl m_len (za_cons (zn 0) za_nil) rfl rfl) ze_int (nomark _))))) (zss_one (zs_ret ze_bl)) zss_nil)
  (zss_cons (zs_set (i:=2) nd rfl (Or.inl rfl) ze_int)
  (zss_cons (zs_for PassesOwn.never rfl (zi_tup (zn 0)) (zg_name (i:=3) nd rfl (Or.inl rfl)) (zss_cons (zs_if (zt_not (zt_valP (ze_fn F_is_within hr (by decide) rfl (za_cons (zn 3) (za_cons (zn 2) (za_cons (ze_op op_subP (zn 1) ze_int) za_nil)))))) (zss_one (zs_ret ze_bl)) zss_nil)
  (zss_one (zs_set (i:=2) nd rfl (Or.inl rfl) (ze_op op_addP (zn 3) ze_int)))))
  (zss_one (zs_ret ze_bl))))),?_⟩
 refine ⟨"tuple",(SqK.tup ha).ty,rfl,?_⟩
 refine iteB (fun c=>absurd c (by decide)) (fun _=>?_)
 refine ⟨_,.inr ha,?_⟩
 rw [List.length_map]
 refine iteD (fun c=>?_) (fun c0=>?_)
 · exact qf fun h=>h.1 (List.length_eq_zero_iff.mp (by have:=V.int.inj c;omega))
 have r0:rs≠[]:=fun e=>c0 (by rw [e];rfl)
 refine ⟨a,rfl,⟨_,SqT.of ha⟩,for_tup (xs:=rs.map V.int) (fun i σ H'=>H=H'∧∃ (l:Int) (p3:Option V),σ=[some (.ref a),some (.int m),some (.int l),p3]∧0≤l∧(rs.take i).Pairwise (· < ·)∧(∀ r∈rs.take i,0≤r∧r<m∧r<l)∧(l=0∨∃ j,∃ hj:j<rs.length,j<i∧rs[j]=l - 1)) ⟨rfl,0,none,rfl,Int.le_refl _,.nil,fun r hr=>(nomatch hr),.inl rfl⟩ ?_ ?_ ?_⟩
 · rintro i σ H' _ ⟨rfl,_⟩
   exact SqT.of ha
 · rintro i x σ H' hx ⟨rfl,l,p3,rfl,l0,hp,hb,hl⟩
   have hi:i<rs.length:=by
    have:=(List.getElem?_eq_some_iff.mp hx).1
    rw [List.length_map] at this
    exact this
   have ex:x=.int rs[i]:=by rw [getI hi] at hx;exact (Option.some.inj hx).symm
   subst ex
   refine ⟨_,l,m - 1,rfl,?_⟩
   have et:rs.take (i+1)=rs.take i++[rs[i]]:=by rw [List.take_succ,List.getElem?_eq_getElem hi];rfl
   by_cases hc:l≤rs[i]∧rs[i]≤m - 1
   · rw [decide_eq_true hc]
     refine ⟨rfl,rs[i]+1,_,rfl,by omega,?_,fun r hr'=>?_,.inr ⟨i,hi,by omega,by omega⟩⟩
     · rw [et]
       refine List.pairwise_append.mpr ⟨hp,List.pairwise_singleton _ _,fun u hu v hv=>?_⟩
       rw [List.mem_singleton.mp hv]
       have:=hb u hu
       omega
     · rw [et] at hr'
       rcases List.mem_append.mp hr' with h | h
       · have:=hb r h
         omega
       · rw [List.mem_singleton.mp h]
         omega
   · rw [decide_eq_false hc]
     refine qf fun h=>?_
     have h2:=h.2.2 _ (List.getElem_mem hi)
     rcases hl with rfl | ⟨j,hj,hji,ej⟩
     · omega
     · have:=List.pairwise_iff_getElem.mp h.2.1 j i hj hi hji
       omega
 · rintro σ H' ⟨rfl,l,p3,rfl,l0,hp,hb,hl⟩
   rw [List.length_map,List.take_of_length_le (Nat.le_refl _)] at hp hb
   exact qt ⟨r0,hp,fun r hr'=>⟨(hb r hr').1,(hb r hr').2.1⟩⟩
end
theorem in2 {w a b:Str}:(inV (.str w) [.str a,.str b]=true→w=a∨w=b)∧(inV (.str w) [.str a,.str b]=false→w≠a∧w≠b):=by
 unfold inV
 simp only [List.any_cons,List.any_nil,eqV,Bool.or_false]
 constructor
 · intro h
   rcases Bool.or_eq_true_iff.mp h with h | h
   · exact .inl (by simpa using h:a=w).symm
   · exact .inr (by simpa using h:b=w).symm
 · intro h
   obtain ⟨h1,h2⟩:=Bool.or_eq_false_iff.mp h
   exact ⟨fun z=>by subst z;simp at h1,fun z=>by subst z;simp at h2⟩
theorem in3 {w a b c:Str}:(inV (.str w) [.str a,.str b,.str c]=true→w=a∨w=b∨w=c)∧(inV (.str w) [.str a,.str b,.str c]=false→w≠a∧w≠b∧w≠c):=by
 unfold inV
 simp only [List.any_cons,List.any_nil,eqV,Bool.or_false]
 constructor
 · intro h
   rcases Bool.or_eq_true_iff.mp h with h | h
   · exact .inl (by simpa using h:a=w).symm
   · rcases Bool.or_eq_true_iff.mp h with h | h
     · exact .inr (.inl (by simpa using h:b=w).symm)
     · exact .inr (.inr (by simpa using h:c=w).symm)
 · intro h
   obtain ⟨h1,h2⟩:=Bool.or_eq_false_iff.mp h
   obtain ⟨h2,h3⟩:=Bool.or_eq_false_iff.mp h2
   exact ⟨fun z=>by subst z;simp at h1,fun z=>by subst z;simp at h2,fun z=>by subst z;simp at h3⟩
section
variable {P:Program} {w:World} {K:PySem.W.Frag} {mg:Str→Option Value} {base:Heap} {f:Addr} {fd:FuncData}
theorem sc_fits:FnScope ["word","given"] ["word","given"] (defScope (top 23)):=⟨rfl,rfl,rfl,by decide +kernel,rfl,by decide +kernel,by decide +kernel⟩
def Two (p:Prop) (Q:V→Hp→Prop) (H:Hp):Prop:=(p→∀ H',Same H H'→Q (.bl true) H')∧(¬ p→∀ H',Same H H'→Q (.bl false) H')
def sp_fits:Sp:=fun vs H Q _=>(∃ (g:Addr) (wd:Str) (ns:List Int),vs=[.str wd,.ref g]∧H g=some (.tup (ns.map V.int))∧(wd=Str.ofString "rests"→ns.length≠2)∧Two (OkA wd ns) Q H)∨(∃ (g d:Addr) (m:Int) (rs:List Int),vs=[.str (Str.ofString "rests"),.ref g]∧H g=some (.tup [.int m,.ref d])∧H d=some (.tup (rs.map V.int))∧Two ((Kd.rests m rs).Ok) Q H)
theorem ok_fits (F:Fun K "fits_word" "fits_word" (top 23) f fd) (m_len:mg "len" = none) (F_is_size:FnA P w K mg base "is_size" 3 ["thing"] sp_size) (F_is_divisor:FnA P w K mg base "is_divisor" 3 ["thing"] sp_div) (F_are_rests:FnA P w K mg base "are_rests" 3 ["thing","m"] sp_rests):FnOk P w K mg base CX0 4 f fd ["word","given"] sp_fits:=by
 refine F.okz sc_fits (fun vs H Q E h=>?_) (fun cdv A outer s H vs Q E hr h=>?_)
 · rcases h with ⟨g,wd,ns,rfl,_⟩ | ⟨g,d,m,rs,rfl,_⟩ <;> rfl
 have nd:=sc_fits.nd
 have hu:=hr.units
 rcases h with ⟨g,wd,ns,rfl,hg,hr2,qt,qf⟩ | ⟨g,d,m,rs,rfl,hg,hd,qt,qf⟩
 · refine ⟨_,(zss_cons (zs_if (zt_cmpP op_in_seq (zn 0) (ze_tup (za_cons ze_str (za_cons ze_str za_nil))) (by with_unfolding_all rfl)) (zss_one (zs_ret (ze_cmpR (op_eqD hu) (zcb_len rfl m_len (za_cons (zn 1) za_nil) rfl rfl) ze_int (nomark _)))) zss_nil)
    (zss_cons (zs_if (zt_cmpP op_in_seq (zn 0) (ze_tup (za_cons ze_str (za_cons ze_str (za_cons ze_str za_nil)))) (by with_unfolding_all rfl)) (zss_one (zs_ret (ze_andP (ze_cmpR (op_eqD hu) (zcb_len rfl m_len (za_cons (zn 1) za_nil) rfl rfl) ze_int (nomark _)) (ze_one (ze_fn F_is_size hr (by decide) rfl (za_cons (ze_ix ix_P (zn 1) ze_int (fun _ _=>rfl)) za_nil)))))) zss_nil)
    (zss_cons (zs_if (zt_cmpP (op_eqD hu) (zn 0) ze_str (nomark _)) (zss_one (zs_ret (ze_andP (ze_cmpR (op_eqD hu) (zcb_len rfl m_len (za_cons (zn 1) za_nil) rfl rfl) ze_int (nomark _)) (ze_andP (ze_fn F_is_size hr (by decide) rfl (za_cons (ze_ix ix_P (zn 1) ze_int (fun _ _=>rfl)) za_nil)) (ze_one (ze_fn F_is_size hr (by decide) rfl (za_cons (ze_ix ix_P (zn 1) ze_int (fun _ _=>rfl)) za_nil))))))) zss_nil)
    (zss_cons (zs_if (zt_cmpP (op_eqD hu) (zn 0) ze_str (nomark _)) (zss_one (zs_ret (ze_andP (ze_cmpR (op_eqD hu) (zcb_len rfl m_len (za_cons (zn 1) za_nil) rfl rfl) ze_int (nomark _)) (ze_one (ze_fn F_is_divisor hr (by decide) rfl (za_cons (ze_ix ix_P (zn 1) ze_int (fun _ _=>rfl)) za_nil)))))) zss_nil)
    (zss_cons (zs_if (zt_cmpP (op_eqD hu) (zn 0) ze_str (nomark _)) (zss_one (zs_ret (ze_andP (ze_cmpR (op_eqD hu) (zcb_len rfl m_len (za_cons (zn 1) za_nil) rfl rfl) ze_int (nomark _)) (ze_andP (ze_fn F_is_divisor hr (by decide) rfl (za_cons (ze_ix ix_P (zn 1) ze_int (fun _ _=>rfl)) za_nil)) (ze_one (ze_fn F_are_rests hr (by decide) rfl (za_cons (ze_ix ix_P (zn 1) ze_int (fun _ _=>rfl)) (za_cons (ze_ix ix_P (zn 1) ze_int (fun _ _=>rfl)) za_nil)))))))) zss_nil)
    (zss_one (zs_ret ze_bl))))))),?_⟩
   refine ⟨by show 2≤sizeLine;decide,fun d1 hd1=>?_⟩
   have y1:=Same.new hd1 (.tup [V.str (Str.ofString "all"),.str (Str.ofString "own")])
   refine ⟨_,_,rfl,.inr (SqT.of upd_same),rfl,rfl,?_⟩
   have hg1:=y1 _ _ hg
   generalize upd H d1 (.tup [V.str (Str.ofString "all"),.str (Str.ofString "own")])=H1 at y1 hg1
   have off:∀ {k:Nat} {j:Int},(k:Int)≠j→¬ (V.int (k:Int)=V.int j):=fun h e=>h (V.int.inj e)
   refine iteB (fun c=>?_) (fun c1=>?_)
   · refine ⟨_,.inr hg1,?_⟩
     have hw:=in2.1 (show inV (.str wd) [.str (Str.ofString "all"),.str (Str.ofString "own")]=true from c)
     show Q (.bl (decide (V.int (((ns.map V.int).length:Nat):Int)=V.int 0))) H1
     cases ns with
     | nil=>exact qt (.inl ⟨hw,rfl⟩) H1 y1
     | cons n r=>
       rw [decide_eq_false (off (by rw [List.length_map];show ((r.length+1:Nat):Int)≠0;omega))]
       refine qf (fun h=>?_) H1 y1
       rcases h with ⟨_,h⟩ | ⟨h,_⟩ | ⟨h,_⟩ | ⟨h,_⟩
       · cases h
       · rcases hw with rfl | rfl <;> rcases h with h | h | h <;> exact absurd h (by decide +kernel)
       · rcases hw with rfl | rfl <;> exact absurd h (by decide +kernel)
       · rcases hw with rfl | rfl <;> exact absurd h (by decide +kernel)
   have n1:=in2.2 (show inV (.str wd) [.str (Str.ofString "all"),.str (Str.ofString "own")]=false from c1)
   refine ⟨by show 3≤sizeLine;decide,fun d2 hd2=>?_⟩
   have y2:=y1.trans (Same.new hd2 (.tup [V.str (Str.ofString "most"),.str (Str.ofString "few"),.str (Str.ofString "off")]))
   have hg2:=y2 _ _ hg
   refine ⟨_,_,rfl,.inr (SqT.of upd_same),rfl,rfl,?_⟩
   generalize upd H1 d2 (.tup [V.str (Str.ofString "most"),.str (Str.ofString "few"),.str (Str.ofString "off")])=H2 at y2 hg2
   refine iteB (fun c=>?_) (fun c2=>?_)
   · refine ⟨_,.inr hg2,?_⟩
     have hw:=in3.1 (show inV (.str wd) [.str (Str.ofString "most"),.str (Str.ofString "few"),.str (Str.ofString "off")]=true from c)
     have no:(∀ n,ns=[n]→¬ (1≤n∧n≤600))→¬ OkA wd ns:=fun hn h=>by
      rcases h with ⟨h,_⟩ | ⟨_,n,e,h⟩ | ⟨h,_⟩ | ⟨h,_⟩
      · rcases h with h | h
        · exact n1.1 h
        · exact n1.2 h
      · exact hn n e h
      · rcases hw with rfl | rfl | rfl <;> exact absurd h (by decide +kernel)
      · rcases hw with rfl | rfl | rfl <;> exact absurd h (by decide +kernel)
     rcases ns with _ | ⟨n,_ | ⟨m,r⟩⟩
     · exact qf (no fun n e=>by cases e) H2 y2
     · refine ⟨_,.inr hg2,.int n,rfl,?_⟩
       refine ⟨n,rfl,?_⟩
       by_cases hn:1≤n∧n≤600
       · rw [decide_eq_true hn]
         exact qt (.inr (.inl ⟨hw,n,rfl,hn⟩)) H2 y2
       · rw [decide_eq_false hn]
         exact qf (no fun k e=>by cases e;exact hn) H2 y2
     · exact qf (no fun k e=>by cases e) H2 y2
   have n2:=in3.2 (show inV (.str wd) [.str (Str.ofString "most"),.str (Str.ofString "few"),.str (Str.ofString "off")]=false from c2)
   refine iteD (fun c=>?_) (fun c3=>?_)
   · have hw:=V.str.inj c
     refine ⟨_,.inr hg2,?_⟩
     have no:(∀ a b,ns=[a,b]→¬ ((1≤a∧a≤600)∧1≤b∧b≤600))→¬ OkA wd ns:=fun hn h=>by
      rcases h with ⟨h,_⟩ | ⟨h,_⟩ | ⟨_,a,b,e,h⟩ | ⟨h,_⟩
      · rcases h with h | h
        · exact n1.1 h
        · exact n1.2 h
      · rcases h with h | h | h
        · exact n2.1 h
        · exact n2.2.1 h
        · exact n2.2.2 h
      · exact hn a b e h
      · rw [hw] at h;exact absurd h (by decide +kernel)
     rcases ns with _ | ⟨n,_ | ⟨m,_ | ⟨l,r⟩⟩⟩
     · exact qf (no fun n b e=>by cases e) H2 y2
     · exact qf (no fun n b e=>by cases e) H2 y2
     · refine ⟨_,.inr hg2,.int n,rfl,?_⟩
       refine ⟨n,rfl,?_⟩
       by_cases hn:1≤n∧n≤600
       · rw [decide_eq_true hn]
         refine ⟨_,.inr hg2,.int m,rfl,?_⟩
         refine ⟨m,rfl,?_⟩
         by_cases hm:1≤m∧m≤600
         · rw [decide_eq_true hm]
           exact qt (.inr (.inr (.inl ⟨hw,n,m,rfl,hn,hm⟩))) H2 y2
         · rw [decide_eq_false hm]
           exact qf (no fun a b e=>by cases e;exact fun h=>hm h.2) H2 y2
       · rw [decide_eq_false hn]
         exact qf (no fun a b e=>by cases e;exact fun h=>hn h.1) H2 y2
     · exact qf (no fun a b e=>by cases e) H2 y2
   have n3:wd≠Str.ofString "box":=fun e=>c3 (by rw [e])
   refine iteD (fun c=>?_) (fun c4=>?_)
   · have hw:=V.str.inj c
     refine ⟨_,.inr hg2,?_⟩
     have no:(∀ n,ns=[n]→¬ (2≤n∧n≤60))→¬ OkA wd ns:=fun hn h=>by
      rcases h with ⟨h,_⟩ | ⟨h,_⟩ | ⟨h,_⟩ | ⟨_,n,e,h⟩
      · rcases h with h | h
        · exact n1.1 h
        · exact n1.2 h
      · rcases h with h | h | h
        · exact n2.1 h
        · exact n2.2.1 h
        · exact n2.2.2 h
      · exact n3 h
      · exact hn n e h
     rcases ns with _ | ⟨n,_ | ⟨m,r⟩⟩
     · exact qf (no fun n e=>by cases e) H2 y2
     · refine ⟨_,.inr hg2,.int n,rfl,?_⟩
       refine ⟨n,rfl,?_⟩
       by_cases hn:2≤n∧n≤60
       · rw [decide_eq_true hn]
         exact qt (.inr (.inr (.inr ⟨hw,n,rfl,hn⟩))) H2 y2
       · rw [decide_eq_false hn]
         exact qf (no fun k e=>by cases e;exact hn) H2 y2
     · exact qf (no fun k e=>by cases e) H2 y2
   have n4:wd≠Str.ofString "times":=fun e=>c4 (by rw [e])
   have no:¬ OkA wd ns:=fun h=>by
    rcases h with ⟨h,_⟩ | ⟨h,_⟩ | ⟨h,_⟩ | ⟨h,_⟩
    · rcases h with h | h
      · exact n1.1 h
      · exact n1.2 h
    · rcases h with h | h | h
      · exact n2.1 h
      · exact n2.2.1 h
      · exact n2.2.2 h
    · exact n3 h
    · exact n4 h
   refine iteD (fun c=>?_) (fun c5=>?_)
   · have hw:=V.str.inj c
     refine ⟨_,.inr hg2,?_⟩
     have hf:decide (V.int (((ns.map V.int).length:Nat):Int)=V.int 2)=false:=decide_eq_false (off (by rw [List.length_map];have:=hr2 hw;omega))
     refine iteB (fun c=>absurd (hf.symm.trans c) (by decide)) (fun _=>?_)
     exact qf no H2 y2
   · exact qf no H2 y2
 · generalize hw:Str.ofString "rests" = wd
   refine ⟨_,(zss_cons (zs_if (zt_cmpP op_in_seq (zn 0) (ze_tup (za_cons ze_str (za_cons ze_str za_nil))) (by with_unfolding_all rfl)) (zss_one (zs_ret (ze_cmpR (op_eqD hu) (zcb_len rfl m_len (za_cons (zn 1) za_nil) rfl rfl) ze_int (nomark _)))) zss_nil)
    (zss_cons (zs_if (zt_cmpP op_in_seq (zn 0) (ze_tup (za_cons ze_str (za_cons ze_str (za_cons ze_str za_nil)))) (by with_unfolding_all rfl)) (zss_one (zs_ret (ze_andP (ze_cmpR (op_eqD hu) (zcb_len rfl m_len (za_cons (zn 1) za_nil) rfl rfl) ze_int (nomark _)) (ze_one (ze_fn F_is_size hr (by decide) rfl (za_cons (ze_ix ix_P (zn 1) ze_int (fun _ _=>rfl)) za_nil)))))) zss_nil)
    (zss_cons (zs_if (zt_cmpP (op_eqD hu) (zn 0) ze_str (nomark _)) (zss_one (zs_ret (ze_andP (ze_cmpR (op_eqD hu) (zcb_len rfl m_len (za_cons (zn 1) za_nil) rfl rfl) ze_int (nomark _)) (ze_andP (ze_fn F_is_size hr (by decide) rfl (za_cons (ze_ix ix_P (zn 1) ze_int (fun _ _=>rfl)) za_nil)) (ze_one (ze_fn F_is_size hr (by decide) rfl (za_cons (ze_ix ix_P (zn 1) ze_int (fun _ _=>rfl)) za_nil))))))) zss_nil)
    (zss_cons (zs_if (zt_cmpP (op_eqD hu) (zn 0) ze_str (nomark _)) (zss_one (zs_ret (ze_andP (ze_cmpR (op_eqD hu) (zcb_len rfl m_len (za_cons (zn 1) za_nil) rfl rfl) ze_int (nomark _)) (ze_one (ze_fn F_is_divisor hr (by decide) rfl (za_cons (ze_ix ix_P (zn 1) ze_int (fun _ _=>rfl)) za_nil)))))) zss_nil)
    (zss_cons (zs_if (zt_cmpP (op_eqD hu) (zn 0) ze_str (nomark _)) (zss_one (zs_ret (ze_andP (ze_cmpR (op_eqD hu) (zcb_len rfl m_len (za_cons (zn 1) za_nil) rfl rfl) ze_int (nomark _)) (ze_andP (ze_fn F_is_divisor hr (by decide) rfl (za_cons (ze_ix ix_P (zn 1) ze_int (fun _ _=>rfl)) za_nil)) (ze_one (ze_fn F_are_rests hr (by decide) rfl (za_cons (ze_ix ix_P (zn 1) ze_int (fun _ _=>rfl)) (za_cons (ze_ix ix_P (zn 1) ze_int (fun _ _=>rfl)) za_nil)))))))) zss_nil)
    (zss_one (zs_ret ze_bl))))))),?_⟩
   refine ⟨by show 2≤sizeLine;decide,fun d1 hd1=>?_⟩
   have y1:=Same.new hd1 (.tup [V.str (Str.ofString "all"),.str (Str.ofString "own")])
   refine ⟨_,_,rfl,.inr (SqT.of upd_same),rfl,rfl,?_⟩
   generalize upd H d1 (.tup [V.str (Str.ofString "all"),.str (Str.ofString "own")])=H1 at y1
   refine iteB (fun c=>absurd c (by rw [← hw];decide +kernel)) (fun _=>?_)
   refine ⟨by show 3≤sizeLine;decide,fun d2 hd2=>?_⟩
   have y2:=y1.trans (Same.new hd2 (.tup [V.str (Str.ofString "most"),.str (Str.ofString "few"),.str (Str.ofString "off")]))
   refine ⟨_,_,rfl,.inr (SqT.of upd_same),rfl,rfl,?_⟩
   generalize upd H1 d2 (.tup [V.str (Str.ofString "most"),.str (Str.ofString "few"),.str (Str.ofString "off")])=H2 at y2
   have hg2:=y2 _ _ hg
   refine iteB (fun c=>absurd c (by rw [← hw];decide +kernel)) (fun _=>?_)
   refine iteD (fun c=>absurd (V.str.inj c) (by rw [← hw];decide +kernel)) (fun _=>?_)
   refine iteD (fun c=>absurd (V.str.inj c) (by rw [← hw];decide +kernel)) (fun _=>?_)
   refine iteD (fun _=>?_) (fun c=>absurd (by rw [← hw]) c)
   refine ⟨_,.inr hg2,?_⟩
   refine ⟨_,.inr hg2,.int m,rfl,?_⟩
   refine ⟨m,rfl,?_⟩
   by_cases hm:2≤m∧m≤60
   · rw [decide_eq_true hm]
     refine ⟨_,.inr hg2,.ref d,rfl,?_⟩
     refine ⟨_,.inr hg2,.int m,rfl,?_⟩
     exact ⟨d,rs,m,rfl,y2 _ _ hd,fun h=>qt (h.ok hm) H2 y2,fun h=>qf (fun z=>h (rsok_of z).2) H2 y2⟩
   · rw [decide_eq_false hm]
     exact qf (fun z=>hm z.1) H2 y2
theorem sc_isk:FnScope ["thing"] ["thing"] (defScope (top 24)):=⟨rfl,rfl,rfl,by decide +kernel,rfl,by decide +kernel,by decide +kernel⟩
def sp_isk:Sp:=fun vs H Q _=>(∃ (c:Addr) (wd:Str) (ns:List Int),vs=[.ref c]∧H c=some (.tup (.str wd::ns.map V.int))∧(wd=Str.ofString "rests"→ns.length≠2)∧Two (OkA wd ns) Q H)∨(∃ (c:Addr) (m:Int) (rs:List Int),vs=[.ref c]∧KdAt H c (.rests m rs)∧Two ((Kd.rests m rs).Ok) Q H)
theorem ok_isk (F:Fun K "is_kind" "is_kind" (top 24) f fd) (m_isinstance:mg "isinstance" = none) (m_len:mg "len" = none) (m_str:mg "str" = none) (m_tuple:mg "tuple" = none) (F_fits_word:FnA P w K mg base "fits_word" 4 ["word","given"] sp_fits):FnOk P w K mg base CX0 5 f fd ["thing"] sp_isk:=by
 refine F.okz sc_isk (fun vs H Q E h=>?_) (fun cdv A outer s H vs Q E hr h=>?_)
 · rcases h with ⟨c,wd,ns,rfl,_⟩ | ⟨c,m,rs,rfl,_⟩ <;> rfl
 have nd:=sc_isk.nd
 have hu:=hr.units
 rcases h with ⟨c,wd,ns,rfl,e,hr2,qt,qf⟩ | ⟨c,m,rs,rfl,⟨d,e,hd⟩,qt,qf⟩
 · refine ⟨_,(zss_cons (zs_if (ZW.zt (zw_or (zt_not (zt_valP (zcb_isinstance rfl m_isinstance (za_cons (zn 0) (za_cons (zty_tuple rfl m_tuple) za_nil)) rfl rfl))) (zw_or1 (zt_cmpP (op_eqD hu) (zcb_len rfl m_len (za_cons (zn 0) za_nil) rfl rfl) ze_int (nomark _))))) (zss_one (zs_ret ze_bl)) zss_nil)
    (zss_one (zs_ret (ze_andP (zcb_isinstance rfl m_isinstance (za_cons (ze_ix ix_P (zn 0) ze_int (fun _ _=>rfl)) (za_cons (zty_str rfl m_str) za_nil)) rfl rfl) (ze_one (ze_fn F_fits_word hr (by decide) rfl (za_cons (ze_ix ix_P (zn 0) ze_int (fun _ _=>rfl)) (za_cons (ze_slice sl_P (zn 0) (zo_some ze_int) zo_none) za_nil)))))))),?_⟩
   refine ⟨"tuple",(SqK.tup e).ty,rfl,?_⟩
   refine iteB (fun c=>absurd c (by decide)) (fun _=>?_)
   refine ⟨_,.inr e,?_⟩
   refine ⟨_,.inr e,.str wd,atI_of (j:=0) rfl rfl,?_⟩
   refine ⟨"str",rfl,rfl,?_⟩
   refine iteB (fun _=>?_) (fun c=>absurd c (by decide))
   refine ⟨_,.inr e,.str wd,atI_of (j:=0) rfl rfl,?_⟩
   refine ⟨1,rfl,c,rfl,.inl ⟨_,e,fun r H2 y2 hr3=>?_⟩⟩
   rw [cut_tail] at hr3
   exact .inl ⟨r,wd,ns,rfl,hr3,hr2,fun h H3 y3=>qt h H3 (y2.trans y3),fun h H3 y3=>qf h H3 (y2.trans y3)⟩
 · refine ⟨_,(zss_cons (zs_if (ZW.zt (zw_or (zt_not (zt_valP (zcb_isinstance rfl m_isinstance (za_cons (zn 0) (za_cons (zty_tuple rfl m_tuple) za_nil)) rfl rfl))) (zw_or1 (zt_cmpP (op_eqD hu) (zcb_len rfl m_len (za_cons (zn 0) za_nil) rfl rfl) ze_int (nomark _))))) (zss_one (zs_ret ze_bl)) zss_nil)
    (zss_one (zs_ret (ze_andP (zcb_isinstance rfl m_isinstance (za_cons (ze_ix ix_P (zn 0) ze_int (fun _ _=>rfl)) (za_cons (zty_str rfl m_str) za_nil)) rfl rfl) (ze_one (ze_fn F_fits_word hr (by decide) rfl (za_cons (ze_ix ix_P (zn 0) ze_int (fun _ _=>rfl)) (za_cons (ze_slice sl_P (zn 0) (zo_some ze_int) zo_none) za_nil)))))))),?_⟩
   refine ⟨"tuple",(SqK.tup e).ty,rfl,?_⟩
   refine iteB (fun c=>absurd c (by decide)) (fun _=>?_)
   refine ⟨_,.inr e,?_⟩
   refine ⟨_,.inr e,.str (Str.ofString "rests"),atI_of (j:=0) rfl rfl,?_⟩
   refine ⟨"str",rfl,rfl,?_⟩
   refine iteB (fun _=>?_) (fun c=>absurd c (by decide))
   refine ⟨_,.inr e,.str (Str.ofString "rests"),atI_of (j:=0) rfl rfl,?_⟩
   refine ⟨1,rfl,c,rfl,.inl ⟨_,e,fun r H2 y2 hr3=>?_⟩⟩
   rw [cut_tail] at hr3
   exact .inr ⟨r,d,m,rs,rfl,hr3,y2 _ _ hd,fun h H3 y3=>qt h H3 (y2.trans y3),fun h H3 y3=>qf h H3 (y2.trans y3)⟩
end
theorem joinL (c:Nat):∀ ys:List Str,ys≠[]→(Str.join ⟨#[c]⟩ ys).length+1=(ys.map (·.length)).sum+ys.length
 | [],h=>absurd rfl h
 | [x],_=>by show x.length+1=_;simp
 | x::y::r,_=>by
   have:=joinL c (y::r) (List.cons_ne_nil _ _)
   show ((x++⟨#[c]⟩++Str.join ⟨#[c]⟩ (y::r):Str)).length+1=_
   rw [app_len,app_len,one_len]
   simp only [List.map_cons,List.sum_cons,List.length_cons] at this ⊢
   omega
theorem mem_sum {y:Str}:∀ {ys:List Str},y∈ys→y.length≤(ys.map (·.length)).sum
 | x::r,h=>by
   simp only [List.map_cons,List.sum_cons]
   rcases List.mem_cons.mp h with rfl | h
   · omega
   · have:=mem_sum h
     omega
theorem cut_len (z:Str) (c:Nat):(Txt.split z ⟨#[c]⟩).length≤z.length+1∧∀ y∈Txt.split z ⟨#[c]⟩,y.length≤z.length:=by
 have h:=joinL c _ (cut_ne z c)
 have e:=glue_cut z c
 rw [show Txt.join ⟨#[c]⟩ (Txt.split z ⟨#[c]⟩)=Str.join ⟨#[c]⟩ (Txt.split z ⟨#[c]⟩) from StrLaws.glued_eq_join _ _] at e
 rw [e] at h
 have hp:0<(Txt.split z ⟨#[c]⟩).length:=List.length_pos_iff.mpr (cut_ne z c)
 refine ⟨by omega,fun y hy=>?_⟩
 have:=mem_sum hy
 omega
theorem all_nums {ws:List Str}:(ws.map fun y=>decide (isNum y.cps.toList)).all id=true↔∀ y∈ws,isNum y.cps.toList:=by
 rw [List.all_map,List.all_eq_true]
 exact ⟨fun h y hy=>of_decide_eq_true (h y hy),fun h y hy=>decide_eq_true (h y hy)⟩
theorem str_at {ws:List Str} {i:Nat} {x:V} (hx:(ws.map V.str)[i]? = some x):∃ hi:i<ws.length,x=.str ws[i]:=by
 have hi:i<ws.length:=by
  have:=(List.getElem?_eq_some_iff.mp hx).1
  rw [List.length_map] at this
  exact this
 refine ⟨hi,?_⟩
 rw [List.getElem?_map,List.getElem?_eq_getElem hi] at hx
 exact (Option.some.inj hx).symm
theorem take_snoc {α:Type} {ws:List α} {i:Nat} (hi:i<ws.length):ws.take (i+1)=ws.take i++[ws[i]]:=by rw [List.take_succ,List.getElem?_eq_getElem hi];rfl
section
variable {P:Program} {w:World} {K:PySem.W.Frag} {mg:Str→Option Value} {base:Heap} {f:Addr} {fd:FuncData}
def sp_nx (C:Addr):Sp:=fun vs H _ E=>∃ (v:V) (t:String),vs=[v]∧tyName H v=some t∧subTy t "str" = false∧∀ H',Same H H'→E (.ref C) none H'
def sp_no:Sp:=fun _ _ _ _=>False
theorem sc_read:FnScope ["words"] ["words"] (defScope (top 31)):=⟨rfl,rfl,rfl,by decide +kernel,rfl,by decide +kernel,by decide +kernel⟩
theorem ok_nr0 (F:Fun K "numbers_read" "numbers_read" (top 31) f fd) (m_all:mg "all" = none) (m_int:mg "int" = none) (m_tuple:mg "tuple" = none):FnOk P w K mg base CX0 2 f fd ["words"] sp_no:=⟨fun _ _ _ _ h=>h.elim,fun _ _ _ _ _ _ _ _ _ _ _ _ _ h=>h.elim⟩
def sp_nr (C:Addr):Sp:=fun vs H Q E=>∃ (a:Addr) (ws:List Str),vs=[.ref a]∧H a=some (.lst (ws.map V.str))∧ws.length≤1000∧(∀ y∈ws,y.length≤2000)∧(∀ ns,ws=ns.map nt→Nm ns→∀ r H',Same H H'→H' r=some (.tup (ns.map V.int))→Q (.ref r) H')∧((∃ y∈ws,¬ isNum y.cps.toList)→∀ H',Same H H'→E (.ref C) none H')
theorem ok_nr {C:Addr} (R_NoText:RaC K C) (g_NoText:mg "NoText" = some (.ref C)) (m_all:mg "all" = none) (m_int:mg "int" = none) (m_tuple:mg "tuple" = none) (F:Fun K "numbers_read" "numbers_read" (top 31) f fd) (F_is_number:FnA P w K mg base "is_number" 1 ["text"] sp_number):FnOk P w K mg base (CXF P w) 2 f fd ["words"] (sp_nr C):=by
 refine F.okx sc_read (fun vs H Q E h=>?_) (fun cdv A outer s H vs Q E hr h=>?_)
 · obtain ⟨a,ws,rfl,_⟩:=h;rfl
 obtain ⟨a,ws,rfl,ha,hl,hy,q1,q0⟩:=h
 have nd:=sc_read.nd
 have hu:=hr.units
 refine ⟨_,(zss_cons (zs_if (zt_not (zt_valP (zcb_all rfl rfl m_all (za_cons (ze_comp ["word"] [] rfl ⟨rfl,by decide +kernel,by decide +kernel,rfl,rfl⟩ (zi_list (zn 0)) kpg_name (fun _ _ _ _=>zg_name (i:=0) (show List.Nodup (["word"]:List Str) by decide +kernel) rfl (Or.inl rfl)) (fun _ _ _ _=>zif_nil) (fun _ _ _ _=>(ze_fn F_is_number hr (by decide) rfl (za_cons (zn 0) za_nil)))) za_nil) rfl rfl))) (zss_one (zs_raise R_NoText g_NoText rfl (za_cons ze_str za_nil))) zss_nil)
  (zss_one (zs_ret (zcb_tuple rfl m_tuple (za_cons (ze_comp ["word"] [] rfl ⟨rfl,by decide +kernel,by decide +kernel,rfl,rfl⟩ (zi_list (zn 0)) kpg_name (fun _ _ _ _=>zg_name (i:=0) (show List.Nodup (["word"]:List Str) by decide +kernel) rfl (Or.inl rfl)) (fun _ _ _ _=>zif_nil) (fun _ _ _ _=>(zcb_intT rfl m_int (za_cons (zn 0) za_nil) rfl rfl))) za_nil) rfl rfl)))),?_⟩
 refine ⟨a,rfl,⟨_,SqL.of ha⟩,cmp_list (xs:=ws.map V.str) (fun i zs H'=>Same H H'∧zs=((ws.take i).map fun y=>decide (isNum y.cps.toList)).map V.bl) ⟨Same.refl _,by rw [List.take_zero];rfl⟩ ?_ ?_ ?_⟩
 · rintro i zs H' _ ⟨y,_⟩
   exact SqL.of (y _ _ ha)
 · rintro i x zs H' hx ⟨y,rfl⟩
   obtain ⟨hi,rfl⟩:=str_at hx
   refine ⟨by rw [List.length_map,List.length_map,List.length_take];exact small1000 (by omega),?_⟩
   refine ⟨_,rfl,hy _ (List.getElem_mem hi),fun H2 y2=>⟨y.trans y2,?_⟩⟩
   rw [take_snoc hi,List.map_append,List.map_append]
   rfl
 · rintro zs H' ⟨y,rfl⟩ D hD
   rw [List.length_map,List.take_of_length_le (Nat.le_refl _)]
   refine ⟨_,SqL.of upd_same,?_⟩
   have yD:=y.trans (Same.new hD (.lst ((ws.map fun y=>decide (isNum y.cps.toList)).map V.bl)))
   generalize upd H' D (.lst ((ws.map fun y=>decide (isNum y.cps.toList)).map V.bl))=H1 at yD
   by_cases hn:∀ y∈ws,isNum y.cps.toList
   · rw [all_nums.mpr hn]
     refine iteB (fun c=>absurd c (by decide)) (fun _=>?_)
     obtain ⟨ns,rfl,hN⟩:=nums_of hn
     rw [List.length_map] at hl
     refine ⟨a,rfl,⟨_,SqL.of (yD _ _ ha)⟩,cmp_list (xs:=(ns.map nt).map V.str) (fun i zs H'=>H'=H1∧zs=(ns.take i).map V.int) ⟨rfl,by rw [List.take_zero];rfl⟩ ?_ ?_ ?_⟩
     · rintro i zs H' _ ⟨rfl,_⟩
       exact SqL.of (yD _ _ ha)
     · rintro i x zs H' hx ⟨rfl,rfl⟩
       obtain ⟨hi',rfl⟩:=str_at hx
       have hi:i<ns.length:=by rw [List.length_map] at hi';exact hi'
       rw [List.getElem_map]
       have hh:=hN _ (List.getElem_mem hi)
       refine ⟨by rw [List.length_map,List.length_take];exact small1000 (by omega),?_⟩
       have hl6:=nt_len (show 0≤ns[i] by omega) hh.2
       refine ⟨_,nt_reads (by omega) hh.2,by omega,?_⟩
       refine ⟨rfl,?_⟩
       rw [take_snoc hi,List.map_append]
       rfl
     · rintro zs H' ⟨rfl,rfl⟩ D2 hD2
       rw [List.length_map,List.length_map,List.take_of_length_le (Nat.le_refl _)]
       refine ⟨_,.inl (SqL.of upd_same),fun r H2 y2 hr2=>?_⟩
       exact q1 ns rfl hN r H2 ((yD.trans (Same.new hD2 _)).trans y2) hr2
   · have hb:(ws.map fun y=>decide (isNum y.cps.toList)).all id=false:=by
      cases e:(ws.map fun y=>decide (isNum y.cps.toList)).all id with
      | false=>rfl
      | true=>exact absurd (all_nums.mp e) hn
     rw [hb]
     refine iteB (fun _=>?_) (fun c=>absurd c (by decide))
     refine ⟨by show 1≤sizeLine;decide,q0 ?_ _ yD⟩
     exact Classical.byContradiction fun h=>hn fun y hy'=>Classical.byContradiction fun h2=>h ⟨y,hy',h2⟩
theorem sc_rp:FnScope ["thing","parting"] ["thing"] (defScope (top 32)):=⟨rfl,rfl,rfl,by decide +kernel,rfl,by decide +kernel,by decide +kernel⟩
theorem ok_rp0 (F:Fun K "read_parting" "read_parting" (top 32) f fd)  : FnOk P w K mg base CX0 3 f fd ["thing"] sp_no:=⟨fun _ _ _ _ h=>h.elim,fun _ _ _ _ _ _ _ _ _ _ _ _ _ h=>h.elim⟩
def sp_rp (C:Addr):Sp:=fun vs H Q E=>∃ z:Str,vs=[.str z]∧z.length≤900∧(∀ ns,z=shw ns→Num ns→Prt ns→ns.length≤901→∀ r H',Same H H'→H' r=some (.tup (ns.map V.int))→Q (.ref r) H')∧((∀ ns,Num ns→Prt ns→ns.length≤901→z≠shw ns)→∀ H',Same H H'→E (.ref C) none H')
theorem ok_rp {C:Addr} (R_NoText:RaC K C) (g_NoText:mg "NoText" = some (.ref C))  (F:Fun K "read_parting" "read_parting" (top 32) f fd) (F_is_text:FnA P w K mg base "is_text" 1 ["thing"] sp_text2) (F_is_parting:FnA P w K mg base "is_parting" 2 ["thing"] sp_is) (R_numbers_read:FnR P w K mg base "numbers_read" 2 ["words"] (fun vs H Q E=>sp_no vs H Q E∨sp_nr C vs H Q E)):FnOk P w K mg base (CXF P w) 3 f fd ["thing"] (sp_rp C):=by
 refine F.okx sc_rp (fun vs H Q E h=>?_) (fun cdv A outer s H vs Q E hr h=>?_)
 · obtain ⟨z,rfl,_⟩:=h;rfl
 obtain ⟨z,rfl,hz,q1,q0⟩:=h
 have nd:=sc_rp.nd
 have hu:=hr.units
 refine ⟨_,(zss_cons (zs_if (zt_not (zt_valP (ze_fn F_is_text hr (by decide) rfl (za_cons (zn 0) za_nil)))) (zss_one (zs_raise R_NoText g_NoText rfl (za_cons ze_str za_nil))) zss_nil)
  (zss_cons (zs_if (zt_cmpP (op_eqD hu) (zn 0) ze_str (nomark _)) (zss_one (zs_ret (ze_tup za_nil))) zss_nil)
  (zss_cons (zs_set (i:=1) nd rfl (Or.inl rfl) (ze_fnX R_numbers_read hr (by decide) pass_on rfl (za_cons (zm_split (zn 0) (za_cons ze_str za_nil)) za_nil)))
  (zss_cons (zs_if (zt_not (zt_valP (ze_fn F_is_parting hr (by decide) rfl (za_cons (zn 1) za_nil)))) (zss_one (zs_raise R_NoText g_NoText rfl (za_cons ze_str za_nil))) zss_nil)
  (zss_one (zs_ret (zn 1))))))),?_⟩
 refine .inl ⟨_,rfl,by omega,?_⟩
 refine iteD (fun c=>?_) (fun c=>?_)
 · have ez:=V.str.inj c
   refine ⟨Nat.zero_le _,fun d hd=>?_⟩
   refine q1 [] (by rw [ez];rfl) (fun n hn=>(nomatch hn)) ⟨fun n hn=>(nomatch hn),.nil⟩ (by decide) d _ (Same.new hd _) upd_same
 have nz:z≠Str.ofString "-":=fun e=>c (by rw [e])
 have cl:=cut_len z 43
 rw [← M71.plus_is] at cl
 refine ⟨rfl,by omega,by decide +kernel,fun d hd=>?_⟩
 have yd:=Same.new hd (.lst ((Txt.split z (Str.ofString "+")).map V.str))
 have back:∀ ms,Num ms→z=shw ms→Txt.split z (Str.ofString "+")=ms.map nt:=fun ms hm e=>by
  have h0:ms≠[]:=fun h=>nz (by rw [e,h];rfl)
  rw [e]
  exact shw_split h0 hm
 refine .inr ⟨d,_,rfl,upd_same,by omega,fun y hy=>by have:=cl.2 y hy;omega,fun ns e hn r H2 y2 hr2=>?_,fun ⟨y,hy,hn⟩ H2 y2=>?_⟩
 · have hln:ns.length≤901:=by
    have:=congrArg List.length e
    rw [List.length_map] at this
    omega
   refine ⟨r,ns,rfl,hr2,by omega,fun hp=>?_,fun hp=>?_⟩
   · exact q1 ns (shw_back e).2.symm (fun n hn'=>⟨hp.1 n hn',(hn n hn').2⟩) hp hln r H2 (yd.trans y2) hr2
   · refine ⟨by show 1≤sizeLine;decide,q0 (fun ms hm hp' _ ez=>hp ?_) _ (yd.trans y2)⟩
     have:=(back ms hm ez).symm.trans e
     rw [← nts_inj (fun n hn'=>⟨by have:=(hm n hn').1;omega,(hm n hn').2⟩) hn this]
     exact hp'
 · refine q0 (fun ms hm hp' _ ez=>hn ?_) _ (yd.trans y2)
   rw [back ms hm ez] at hy
   exact all_num (fun n hn'=>⟨by have:=(hm n hn').1;omega,(hm n hn').2⟩) y hy
theorem cmp_two {nv:List Str} {ix:List (Str×Nat)} {σ:St} {H:Hp} {g1 g2:TG} {ti1 ti2:TT} {wi2:TI} {te:TE} {Fin:List V→Hp→Prop} {a:Addr} {xs:List V} (Pv:Nat→List V→Hp→Prop) (h0:Pv 0 [] H) (hl:∀ i ys H,i≤xs.length→Pv i ys H→SqL K H a xs)
 (hs:∀ i x ys H,xs[i]? = some x→Pv i ys H→g1 x (st0 nv ix σ) H fun σ1 H2=>ti1 σ1 H2 fun b H3=>if b=true then wi2 σ1 H3 fun J2 H4=>CmpI g2 ti2 te σ1 J2 ys (Pv (i+1)) H4 else Pv (i+1) ys H3)
 (hd:∀ ys H,Pv xs.length ys H→Fin ys H):CmpW2 nv ix g1 ti1 wi2 g2 ti2 te σ (Itl K a) Fin H:=by
 refine ⟨fun i m ys H=>m=xs.length - i∧i≤xs.length∧Pv i ys H,⟨xs.length,by simp,Nat.zero_le _,h0⟩,?_⟩
 rintro i m ys H ⟨rfl,hi,p⟩
 have q:=hl i ys H hi p
 by_cases hlt:i<xs.length
 · refine .inr ⟨⟨xs,xs[i],q,by simp [hlt]⟩,Pv (i+1),fun σ' H' p'=>⟨xs.length - (i+1),by omega,rfl,hlt,p'⟩,fun x H' y=>?_⟩
   obtain ⟨e',y⟩:=y
   subst e'
   exact hs i x ys _ (y xs q) p
 · have e:i=xs.length:=by omega
   subst e
   exact .inl ⟨⟨xs,q,Nat.le_refl _⟩,hd ys H p⟩
theorem cmpi_str {σ:St} {H:Hp} {g:TG} {ti:TT} {te:TE} {ys:List V} {Fin:List V→Hp→Prop} {z:Str} (Pv:Nat→List V→Hp→Prop) (h0:Pv 0 ys H)
 (hs:∀ i c zs H,z.cps[i]? = some c→Pv i zs H→zs.length<sizeLine∧g (.str ⟨#[c]⟩) σ H fun σ2 H2=>ti σ2 H2 fun b H3=>if b=true then te σ2 H3 fun y H4=>Pv (i+1) (zs++[y]) H4 else Pv (i+1) zs H3)
 (hd:∀ zs H,Pv z.cps.size zs H→Fin zs H):CmpI g ti te σ (ItS z) ys Fin H:=by
 refine ⟨fun i m zs H=>m=z.cps.size - i∧i≤z.cps.size∧Pv i zs H,⟨_,rfl,Nat.zero_le _,h0⟩,?_⟩
 rintro i m zs H ⟨rfl,hi,p⟩
 by_cases hlt:i<z.cps.size
 · refine .inr ⟨hlt,(hs i z.cps[i] zs H (by simp [hlt]) p).1,Pv (i+1),fun σ' H' p'=>⟨_,by omega,rfl,hlt,p'⟩,fun x H' y=>?_⟩
   obtain ⟨rfl,c,hc,rfl⟩:=y
   exact (hs i c zs _ hc p).2
 · have e:i=z.cps.size:=by omega
   subst e
   exact .inl ⟨Nat.le_refl _,hd zs H p⟩
theorem sc_rd:FnScope ["thing","rows","parting"] ["thing"] (defScope (top 35)):=⟨rfl,rfl,rfl,by decide +kernel,rfl,by decide +kernel,by decide +kernel⟩
theorem ok_rd0 (F:Fun K "read_drawn" "read_drawn" (top 35) f fd) (m_all:mg "all" = none) (m_len:mg "len" = none) (m_tuple:mg "tuple" = none):FnOk P w K mg base CX0 3 f fd ["thing"] sp_no:=⟨fun _ _ _ _ h=>h.elim,fun _ _ _ _ _ _ _ _ _ _ _ _ _ h=>h.elim⟩
def sp_rd (C:Addr):Sp:=fun vs H Q E=>∃ z:Str,vs=[.str z]∧z.length≤900∧(∀ ns,z=dr ns→Prt ns→NumD ns→ns.length≤901→∀ r H',Same H H'→H' r=some (.tup (ns.map V.int))→Q (.ref r) H')∧((∀ ns,Prt ns→NumD ns→ns.length≤901→z≠dr ns)→∀ H',Same H H'→E (.ref C) none H')
theorem ok_rd {C:Addr} (R_NoText:RaC K C) (g_NoText:mg "NoText" = some (.ref C)) (m_all:mg "all" = none) (m_len:mg "len" = none) (m_tuple:mg "tuple" = none) (F:Fun K "read_drawn" "read_drawn" (top 35) f fd) (F_is_parting:FnA P w K mg base "is_parting" 2 ["thing"] sp_is) (F_is_text:FnA P w K mg base "is_text" 1 ["thing"] sp_text2):FnOk P w K mg base (CXF P w) 3 f fd ["thing"] (sp_rd C):=by
 refine F.okx sc_rd (fun vs H Q E h=>?_) (fun cdv A outer s H vs Q E hr h=>?_)
 · obtain ⟨z,rfl,_⟩:=h;rfl
 obtain ⟨z,rfl,hz,q1,q0⟩:=h
 have nd:=sc_rd.nd
 have hu:=hr.units
 refine ⟨_,(zss_cons (zs_if (zt_not (zt_valP (ze_fn F_is_text hr (by decide) rfl (za_cons (zn 0) za_nil)))) (zss_one (zs_raise R_NoText g_NoText rfl (za_cons ze_str za_nil))) zss_nil)
  (zss_cons (zs_if (zt_cmpP (op_eqD hu) (zn 0) ze_str (nomark _)) (zss_one (zs_ret (ze_tup za_nil))) zss_nil)
  (zss_cons (zs_set (i:=1) nd rfl (Or.inl rfl) (zm_split (zn 0) (za_cons ze_str za_nil)))
  (zss_cons (zs_set (i:=2) nd rfl (Or.inl rfl) (zcb_tuple rfl m_tuple (za_cons (ze_comp ["row"] [] rfl ⟨rfl,by decide +kernel,by decide +kernel,rfl,rfl⟩ (zi_list (zn 1)) kpg_name (fun _ _ _ _=>zg_name (i:=0) (show List.Nodup (["row"]:List Str) by decide +kernel) rfl (Or.inl rfl)) (fun _ _ _ _=>zif_nil) (fun _ _ _ _=>(zcb_lenT rfl m_len (za_cons (zn 0) za_nil) rfl rfl))) za_nil) rfl rfl))
  (zss_cons (zs_if (ZW.zt (zw_or (zt_not (zt_valP (zcb_all rfl rfl m_all (za_cons (ze_two ["row","sign"] [] rfl ⟨rfl,by decide +kernel,by decide +kernel,rfl,rfl⟩ (zi_list (zn 1)) kpg2_names (fun _ _ _ _=>zg_name (i:=0) (show List.Nodup (["row","sign"]:List Str) by decide +kernel) rfl (Or.inl rfl)) (fun _ _ _ _=>zif_nil) (fun _ _ _ _=>(zi_str (zn 0))) (fun _ _ _ _=>zg_name (i:=1) (show List.Nodup (["row","sign"]:List Str) by decide +kernel) rfl (Or.inl rfl)) (fun _ _ _ _=>zif_nil) (fun _ _ _ _=>(ze_cmpR (op_eqD hu) (zn 1) ze_str (nomark _)))) za_nil) rfl rfl))) (zw_or1 (zt_not (zt_valP (ze_fn F_is_parting hr (by decide) rfl (za_cons (zn 2) za_nil))))))) (zss_one (zs_raise R_NoText g_NoText rfl (za_cons ze_str za_nil))) zss_nil)
  (zss_one (zs_ret (zn 2)))))))),?_⟩
 refine .inl ⟨_,rfl,by omega,?_⟩
 have en:Str.ofString "" = dr []:=str_ext (by rw [dr_nil];decide +kernel)
 refine iteD (fun c=>?_) (fun c=>?_)
 · have ez:=V.str.inj c
   refine ⟨Nat.zero_le _,fun d hd=>?_⟩
   exact q1 [] (by rw [ez,en]) ⟨fun n hn=>(nomatch hn),.nil⟩ (fun n hn=>(nomatch hn)) (by decide) d _ (Same.new hd _) upd_same
 have nz:z≠dr []:=fun e=>c (by rw [e,en])
 have cl:=cut_len z 10
 rw [← nl_is] at cl
 refine ⟨rfl,by omega,by decide +kernel,fun d hd=>?_⟩
 have back:∀ ms,z=dr ms→Txt.split z (Str.ofString "\n")=ms.map bar:=fun ms e=>by
  have h0:ms≠[]:=fun h=>nz (by rw [e,h])
  rw [e]
  exact dr_split h0
 have gl:=@dr_back z
 generalize Txt.split z (Str.ofString "\n")=ws at cl back gl
 have yd:=Same.new hd (.lst (ws.map V.str))
 have hd1:(upd H d (.lst (ws.map V.str))) d=some (.lst (ws.map V.str)):=upd_same
 generalize upd H d (.lst (ws.map V.str))=H1 at yd hd1
 refine ⟨d,rfl,⟨_,SqL.of hd1⟩,cmp_list (xs:=ws.map V.str) (fun i zs H'=>H'=H1∧zs=((ws.take i).map fun y=>(y.length:Int)).map V.int) ⟨rfl,by rw [List.take_zero];rfl⟩ ?_ ?_ ?_⟩
 · rintro i zs H' _ ⟨rfl,_⟩
   exact SqL.of hd1
 · rintro i x zs H' hx ⟨rfl,rfl⟩
   obtain ⟨hi,rfl⟩:=str_at hx
   have hh:=cl.2 _ (List.getElem_mem hi)
   refine ⟨by rw [List.length_map,List.length_map,List.length_take];exact small1000 (by omega),?_⟩
   refine ⟨by rw [sizeLine_eq];omega,?_⟩
   refine ⟨rfl,?_⟩
   rw [take_snoc hi,List.map_append,List.map_append]
   rfl
 · rintro zs H' ⟨rfl,rfl⟩ D hD
   rw [List.length_map,List.take_of_length_le (Nat.le_refl _)]
   refine ⟨_,.inl (SqL.of upd_same),fun r H2 y2 hr2=>?_⟩
   have z2:=(Same.new hD (.lst ((ws.map fun y=>(y.length:Int)).map V.int))).trans y2
   have hd2:=z2 _ _ hd1
   refine ⟨d,rfl,⟨_,SqL.of hd2⟩,cmp_two (xs:=ws.map V.str) (fun i zs H'=>H'=H2∧∃ bs:List Bool,zs=bs.map V.bl∧bs.length≤i*900∧(bs.all id=true↔∀ y∈ws.take i,∀ c∈y.cps.toList,c=35)) ⟨rfl,[],rfl,Nat.zero_le _,⟨fun _ y hy=>(by rw [List.take_zero] at hy;cases hy),fun _=>rfl⟩⟩ ?_ ?_ ?_⟩
   · rintro i zs H' _ ⟨rfl,_⟩
     exact SqL.of hd2
   · rintro i x zs H' hx ⟨rfl,bs,rfl,hb,hall⟩
     obtain ⟨hi,rfl⟩:=str_at hx
     have hh:=cl.2 _ (List.getElem_mem hi)
     have hsz:ws[i].cps.size=ws[i].length:=rfl
     refine cmpi_str (fun j zs H''=>H''=H'∧∃ cs:List Bool,zs=cs.map V.bl∧cs.length≤i*900+j∧(cs.all id=true↔(∀ y∈ws.take i,∀ c∈y.cps.toList,c=35)∧∀ c∈ws[i].cps.toList.take j,c=35)) ⟨rfl,bs,rfl,by omega,⟨fun h=>⟨hall.mp h,fun c hc=>(by rw [List.take_zero] at hc;cases hc)⟩,fun h=>hall.mpr h.1⟩⟩ ?_ ?_
     · rintro j c zs H'' hc ⟨rfl,cs,rfl,hcs,hca⟩
       have hj:=(Array.getElem?_eq_some_iff.mp hc).1
       have hj2:j<ws[i].cps.toList.length:=by rw [Array.length_toList];exact hj
       refine ⟨by rw [List.length_map,sizeLine_eq];omega,?_⟩
       refine ⟨rfl,cs++[decide (c=35)],?_,by rw [List.length_append];show cs.length+1≤_;omega,?_⟩
       · rw [List.map_append]
         show _++[V.bl (decide (V.str ⟨#[c]⟩=V.str (Str.ofString "#")))]=_++[V.bl (decide (c=35))]
         rw [show decide (V.str ⟨#[c]⟩=V.str (Str.ofString "#"))=decide (c=35) from decide_eq_decide.mpr ⟨fun e=>by
          have:=congrArg (fun s:Str=>s.cps.toList) (V.str.inj e)
          rw [hash_is] at this
          exact (List.cons.inj this).1,fun e=>by rw [e,hash_is]⟩]
       · have ec:ws[i].cps.toList[j]=c:=by
          rw [← Array.getElem?_toList,List.getElem?_eq_getElem hj2] at hc
          exact Option.some.inj hc
         rw [take_snoc hj2,ec,List.all_append]
         simp only [List.all_cons,List.all_nil,Bool.and_true,id,Bool.and_eq_true,decide_eq_true_eq,List.mem_append,List.mem_singleton]
         rw [hca]
         constructor
         · rintro ⟨⟨h1,h2⟩,h3⟩
           exact ⟨h1,fun u hu=>hu.elim (h2 u) fun e=>by rw [e];exact h3⟩
         · rintro ⟨h1,h2⟩
           exact ⟨⟨h1,fun u hu=>h2 u (.inl hu)⟩,h2 c (.inr rfl)⟩
     · rintro zs H'' ⟨rfl,cs,rfl,hcs,hca⟩
       refine ⟨rfl,cs,rfl,by rw [hsz] at hcs;rw [Nat.add_mul,Nat.one_mul];omega,?_⟩
       have et:ws[i].cps.toList.take ws[i].cps.size=ws[i].cps.toList:=List.take_of_length_le (by rw [Array.length_toList];exact Nat.le_refl _)
       rw [hca,take_snoc hi,et]
       constructor
       · rintro ⟨h1,h2⟩ y hy
         rcases List.mem_append.mp hy with hy | hy
         · exact h1 y hy
         · rw [List.mem_singleton.mp hy];exact h2
       · intro h
         exact ⟨fun y hy=>h y (List.mem_append_left _ hy),h _ (List.mem_append_right _ (List.mem_singleton.mpr rfl))⟩
   · rintro zs H' ⟨rfl,bs,rfl,hb,hall⟩ D3 hD3
     rw [List.length_map,List.take_of_length_le (Nat.le_refl _)] at hall
     refine ⟨_,SqL.of upd_same,?_⟩
     have y3:=Same.new hD3 (.lst (bs.map V.bl))
     have z3:=(yd.trans z2).trans y3
     have hr3:=y3 _ _ hr2
     generalize upd H' D3 (.lst (bs.map V.bl))=H3 at y3 z3 hr3
     refine iteB (fun c=>?_) (fun c=>?_)
     · have hf:¬ ∀ y∈ws,∀ c∈y.cps.toList,c=35:=fun h=>by
        have c':(!bs.all id)=true:=c
        rw [hall.mpr h] at c'
        cases c'
       refine ⟨by show 1≤sizeLine;decide,q0 (fun ms hm _ _ ez=>hf fun y hy=>?_) _ z3⟩
       rw [back ms ez] at hy
       obtain ⟨n,hn,rfl⟩:=List.mem_map.mp hy
       intro c hc
       rw [bar_list] at hc
       exact List.eq_of_mem_replicate hc
     · have ht:∀ y∈ws,∀ c∈y.cps.toList,c=35:=by
        have c':(!bs.all id)=false:=c
        exact hall.mp (by simpa using c')
       have gz:=gl ht
       refine ⟨r,_,rfl,hr3,by rw [List.length_map];omega,fun hp=>?_,fun hp=>?_⟩
       · refine q1 _ gz.symm hp (fun n hn=>⟨hp.1 n hn,?_⟩) (by rw [List.length_map];omega) r H3 z3 hr3
         obtain ⟨y,hy,rfl⟩:=List.mem_map.mp hn
         have:=cl.2 y hy
         omega
       · refine ⟨by show 1≤sizeLine;decide,q0 (fun ms hm _ _ ez=>hp ?_) _ z3⟩
         have e2:=back ms ez
         have:ws.map (fun y=>(y.length:Int))=ms:=by
          rw [e2,List.map_map]
          refine (List.map_congr_left fun n hn=>?_).trans (List.map_id ms)
          show ((bar n).length:Int)=n
          have:=hm.1 n hn
          rw [bar_len]
          omega
         rw [this]
         exact hm
theorem ok_rpn {C:Addr} (R_NoText:RaC K C) (g_NoText:mg "NoText" = some (.ref C))  (F:Fun K "read_parting" "read_parting" (top 32) f fd) (F_is_text:FnA P w K mg base "is_text" 1 ["thing"] sp_text2) (F_is_parting:FnA P w K mg base "is_parting" 2 ["thing"] sp_is) (R_numbers_read:FnR P w K mg base "numbers_read" 2 ["words"] (fun vs H Q E=>sp_no vs H Q E∨sp_nr C vs H Q E)):FnOk P w K mg base (CXF P w) 3 f fd ["thing"] (sp_nx C):=by
 refine F.okx sc_rp (fun vs H Q E h=>?_) (fun cdv A outer s H vs Q E hr h=>?_)
 · obtain ⟨v,t,rfl,_⟩:=h;rfl
 obtain ⟨v,t,rfl,ht,hs,q⟩:=h
 have nd:=sc_rp.nd
 have hu:=hr.units
 refine ⟨_,(zss_cons (zs_if (zt_not (zt_valP (ze_fn F_is_text hr (by decide) rfl (za_cons (zn 0) za_nil)))) (zss_one (zs_raise R_NoText g_NoText rfl (za_cons ze_str za_nil))) zss_nil)
  (zss_cons (zs_if (zt_cmpP (op_eqD hu) (zn 0) ze_str (nomark _)) (zss_one (zs_ret (ze_tup za_nil))) zss_nil)
  (zss_cons (zs_set (i:=1) nd rfl (Or.inl rfl) (ze_fnX R_numbers_read hr (by decide) pass_on rfl (za_cons (zm_split (zn 0) (za_cons ze_str za_nil)) za_nil)))
  (zss_cons (zs_if (zt_not (zt_valP (ze_fn F_is_parting hr (by decide) rfl (za_cons (zn 1) za_nil)))) (zss_one (zs_raise R_NoText g_NoText rfl (za_cons ze_str za_nil))) zss_nil)
  (zss_one (zs_ret (zn 1))))))),?_⟩
 refine .inr ⟨v,t,rfl,ht,hs,?_⟩
 exact ⟨by show 1≤sizeLine;decide,q _ (Same.refl _)⟩
def sp_rp2 (C:Addr):Sp:=fun vs H Q E=>sp_rp C vs H Q E∨sp_nx C vs H Q E
theorem ok_rp2 {C:Addr} (R_NoText:RaC K C) (g_NoText:mg "NoText" = some (.ref C))  (F:Fun K "read_parting" "read_parting" (top 32) f fd) (F_is_text:FnA P w K mg base "is_text" 1 ["thing"] sp_text2) (F_is_parting:FnA P w K mg base "is_parting" 2 ["thing"] sp_is) (R_numbers_read:FnR P w K mg base "numbers_read" 2 ["words"] (fun vs H Q E=>sp_no vs H Q E∨sp_nr C vs H Q E)):FnOk P w K mg base (CXF P w) 3 f fd ["thing"] (sp_rp2 C):=(ok_rp R_NoText g_NoText  F F_is_text F_is_parting R_numbers_read).both (ok_rpn R_NoText g_NoText  F F_is_text F_is_parting R_numbers_read)
theorem ok_rdn {C:Addr} (R_NoText:RaC K C) (g_NoText:mg "NoText" = some (.ref C)) (m_all:mg "all" = none) (m_len:mg "len" = none) (m_tuple:mg "tuple" = none) (F:Fun K "read_drawn" "read_drawn" (top 35) f fd) (F_is_parting:FnA P w K mg base "is_parting" 2 ["thing"] sp_is) (F_is_text:FnA P w K mg base "is_text" 1 ["thing"] sp_text2):FnOk P w K mg base (CXF P w) 3 f fd ["thing"] (sp_nx C):=by
 refine F.okx sc_rd (fun vs H Q E h=>?_) (fun cdv A outer s H vs Q E hr h=>?_)
 · obtain ⟨v,t,rfl,_⟩:=h;rfl
 obtain ⟨v,t,rfl,ht,hs,q⟩:=h
 have nd:=sc_rd.nd
 have hu:=hr.units
 refine ⟨_,(zss_cons (zs_if (zt_not (zt_valP (ze_fn F_is_text hr (by decide) rfl (za_cons (zn 0) za_nil)))) (zss_one (zs_raise R_NoText g_NoText rfl (za_cons ze_str za_nil))) zss_nil)
  (zss_cons (zs_if (zt_cmpP (op_eqD hu) (zn 0) ze_str (nomark _)) (zss_one (zs_ret (ze_tup za_nil))) zss_nil)
  (zss_cons (zs_set (i:=1) nd rfl (Or.inl rfl) (zm_split (zn 0) (za_cons ze_str za_nil)))
  (zss_cons (zs_set (i:=2) nd rfl (Or.inl rfl) (zcb_tuple rfl m_tuple (za_cons (ze_comp ["row"] [] rfl ⟨rfl,by decide +kernel,by decide +kernel,rfl,rfl⟩ (zi_list (zn 1)) kpg_name (fun _ _ _ _=>zg_name (i:=0) (show List.Nodup (["row"]:List Str) by decide +kernel) rfl (Or.inl rfl)) (fun _ _ _ _=>zif_nil) (fun _ _ _ _=>(zcb_lenT rfl m_len (za_cons (zn 0) za_nil) rfl rfl))) za_nil) rfl rfl))
  (zss_cons (zs_if (ZW.zt (zw_or (zt_not (zt_valP (zcb_all rfl rfl m_all (za_cons (ze_two ["row","sign"] [] rfl ⟨rfl,by decide +kernel,by decide +kernel,rfl,rfl⟩ (zi_list (zn 1)) kpg2_names (fun _ _ _ _=>zg_name (i:=0) (show List.Nodup (["row","sign"]:List Str) by decide +kernel) rfl (Or.inl rfl)) (fun _ _ _ _=>zif_nil) (fun _ _ _ _=>(zi_str (zn 0))) (fun _ _ _ _=>zg_name (i:=1) (show List.Nodup (["row","sign"]:List Str) by decide +kernel) rfl (Or.inl rfl)) (fun _ _ _ _=>zif_nil) (fun _ _ _ _=>(ze_cmpR (op_eqD hu) (zn 1) ze_str (nomark _)))) za_nil) rfl rfl))) (zw_or1 (zt_not (zt_valP (ze_fn F_is_parting hr (by decide) rfl (za_cons (zn 2) za_nil))))))) (zss_one (zs_raise R_NoText g_NoText rfl (za_cons ze_str za_nil))) zss_nil)
  (zss_one (zs_ret (zn 2)))))))),?_⟩
 refine .inr ⟨v,t,rfl,ht,hs,?_⟩
 exact ⟨by show 1≤sizeLine;decide,q _ (Same.refl _)⟩
def sp_rd2 (C:Addr):Sp:=fun vs H Q E=>sp_rd C vs H Q E∨sp_nx C vs H Q E
theorem ok_rd2 {C:Addr} (R_NoText:RaC K C) (g_NoText:mg "NoText" = some (.ref C)) (m_all:mg "all" = none) (m_len:mg "len" = none) (m_tuple:mg "tuple" = none) (F:Fun K "read_drawn" "read_drawn" (top 35) f fd) (F_is_parting:FnA P w K mg base "is_parting" 2 ["thing"] sp_is) (F_is_text:FnA P w K mg base "is_text" 1 ["thing"] sp_text2):FnOk P w K mg base (CXF P w) 3 f fd ["thing"] (sp_rd2 C):=(ok_rd R_NoText g_NoText m_all m_len m_tuple F F_is_parting F_is_text).both (ok_rdn R_NoText g_NoText m_all m_len m_tuple F F_is_parting F_is_text)
end
def FmA (ws:List Str) (wd:Str) (ns:List Int):Prop:=(wd=Str.ofString "rests"→ns.length≠2)∧ws=wd::ns.map nt∧Nm ns
def FmB (ws:List Str) (m:Int) (rs:List Int):Prop:=Nm [m]∧Nm rs∧rs≠[]∧ws=[Str.ofString "rests",nt m,Txt.join (Str.ofString ",") (rs.map nt)]
theorem okA_kd {wd:Str} {ns:List Int} (h:OkA wd ns):∃ k:Kd,k.Ok∧k.words=wd::ns.map nt∧∀ (H:Hp) c,H c=some (.tup (.str wd::ns.map V.int))→KdAt H c k:=by
 rcases h with ⟨h,rfl⟩ | ⟨h,n,rfl,hn⟩ | ⟨rfl,a,b,rfl,ha,hb⟩ | ⟨h,n,rfl,hn⟩
 · exact ⟨.bare wd,h,rfl,fun H c e=>e⟩
 · exact ⟨.one wd n,.inl ⟨h,hn⟩,rfl,fun H c e=>e⟩
 · exact ⟨.box a b,⟨ha,hb⟩,rfl,fun H c e=>e⟩
 · exact ⟨.one wd n,.inr ⟨h,hn⟩,rfl,fun H c e=>e⟩
theorem kd_form {k:Kd} (h:k.Ok):(∃ wd ns,FmA k.words wd ns∧OkA wd ns)∨∃ m rs,FmB k.words m rs∧(Kd.rests m rs).Ok:=by
 cases k with
 | bare w=>exact .inl ⟨w,[],⟨fun _=>by decide,rfl,fun n hn=>(nomatch hn)⟩,.inl ⟨h,rfl⟩⟩
 | one w n=>
   refine .inl ⟨w,[n],⟨fun _=>by show 1≠2;decide,rfl,fun z hz=>?_⟩,?_⟩
   · rw [List.mem_singleton.mp hz]
     rcases h with ⟨_,h1,h2⟩ | ⟨_,h1,h2⟩ <;> omega
   · rcases h with ⟨h,hn⟩ | ⟨h,hn⟩
     · exact .inr (.inl ⟨h,n,rfl,hn⟩)
     · exact .inr (.inr (.inr ⟨h,n,rfl,hn⟩))
 | box a b=>
   refine .inl ⟨_,[a,b],⟨fun e=>absurd e (by decide +kernel),rfl,fun z hz=>?_⟩,.inr (.inr (.inl ⟨rfl,a,b,rfl,h⟩))⟩
   obtain ⟨⟨h1,h2⟩,h3,h4⟩:=h
   have:z=a∨z=b:=by simpa using hz
   omega
 | rests m rs=>
   obtain ⟨rn,rl,m0,m1⟩:=rs_nm h
   exact .inr ⟨m,rs,⟨fun z hz=>by rw [List.mem_singleton.mp hz];omega,rn,h.2.1,rfl⟩,h⟩
theorem fmA_one {ws:List Str} {wd wd':Str} {ns ns':List Int} (h:FmA ws wd ns) (h':FmA ws wd' ns'):wd=wd'∧ns=ns':=by
 have e:=h.2.1.symm.trans h'.2.1
 exact ⟨(List.cons.inj e).1,nts_inj h.2.2 h'.2.2 (List.cons.inj e).2⟩
theorem fmB_one {ws:List Str} {m m':Int} {rs rs':List Int} (h:FmB ws m rs) (h':FmB ws m' rs'):m=m'∧rs=rs':=by
 have e:=h.2.2.2.symm.trans h'.2.2.2
 have e1:=(List.cons.inj (List.cons.inj e).2).1
 have e2:=(List.cons.inj (List.cons.inj (List.cons.inj e).2).2).1
 refine ⟨nt_inj (h.1 _ List.mem_cons_self).1 (h.1 _ List.mem_cons_self).2 (h'.1 _ List.mem_cons_self).1 (h'.1 _ List.mem_cons_self).2 e1,?_⟩
 have e3:=rs_split h.2.2.1 fun r hr=>(h.2.1 r hr).1
 rw [e2,rs_split h'.2.2.1 fun r hr=>(h'.2.1 r hr).1] at e3
 exact (nts_inj h'.2.1 h.2.1 e3).symm
theorem fm_not {ws:List Str} {wd:Str} {ns:List Int} {m:Int} {rs:List Int} (h:FmA ws wd ns) (h':FmB ws m rs):False:=by
 have e:=h.2.1.symm.trans h'.2.2.2
 have hl:=congrArg List.length e
 refine h.1 (List.cons.inj e).1 ?_
 have hl:ns.length+1=3:=by simpa using hl
 omega
theorem ws_at {ws rest:List Str} {wd:Str} (e:ws=wd::rest):atI (ws.map V.str) 0=some (.str wd):=by rw [e];exact atI_of (j:=0) rfl rfl
section
variable {P:Program} {w:World} {K:PySem.W.Frag} {mg:Str→Option Value} {base:Heap} {f:Addr} {fd:FuncData}
theorem sc_kow:FnScope ["words"] ["words"] (defScope (top 33)):=⟨rfl,rfl,rfl,by decide +kernel,rfl,by decide +kernel,by decide +kernel⟩
theorem ok_kw0 (F:Fun K "kind_of_words" "kind_of_words" (top 33) f fd) (m_len:mg "len" = none):FnOk P w K mg base CX0 3 f fd ["words"] sp_no:=⟨fun _ _ _ _ h=>h.elim,fun _ _ _ _ _ _ _ _ _ _ _ _ _ h=>h.elim⟩
def sp_kow (C:Addr):Sp:=fun vs H Q E=>∃ (a:Addr) (ws:List Str),vs=[.ref a]∧H a=some (.lst (ws.map V.str))∧ws≠[]∧ws.length≤901∧(∀ y∈ws,y.length≤900) ∧
 (∀ wd ns,FmA ws wd ns→∀ c H',Same H H'→H' c=some (.tup (.str wd::ns.map V.int))→Q (.ref c) H') ∧
 (∀ m rs,FmB ws m rs→∀ c H',Same H H'→KdAt H' c (.rests m rs)→Q (.ref c) H') ∧
 ((∀ wd ns,¬ FmA ws wd ns)→(∀ m rs,¬ FmB ws m rs)→∀ H',Same H H'→E (.ref C) none H')
theorem ok_kow {C:Addr} (m_len:mg "len" = none) (F:Fun K "kind_of_words" "kind_of_words" (top 33) f fd) (R_numbers_read:FnR P w K mg base "numbers_read" 2 ["words"] (fun vs H Q E=>sp_no vs H Q E∨sp_nr C vs H Q E)):FnOk P w K mg base (CXF P w) 3 f fd ["words"] (sp_kow C):=by
 refine F.okx sc_kow (fun vs H Q E h=>?_) (fun cdv A outer s H vs Q E hr h=>?_)
 · obtain ⟨a,ws,rfl,_⟩:=h;rfl
 obtain ⟨a,ws,rfl,ha,hne,hl,hy,qA,qB,q0⟩:=h
 have nd:=sc_kow.nd
 have hu:=hr.units
 obtain ⟨wd,rest,ew⟩:∃ wd rest,ws=wd::rest:=by
  cases ws with
  | nil=>exact absurd rfl hne
  | cons x r=>exact ⟨x,r,rfl⟩
 have hlr:ws.length=rest.length+1:=by rw [ew];rfl
 refine ⟨_,(zss_cons (zs_if (ZW.zt (zw_and (zt_cmpP (op_eqD hu) (zcb_len rfl m_len (za_cons (zn 0) za_nil) rfl rfl) ze_int (nomark _)) (zw_and1 (zt_cmpP (op_eqD hu) (ze_ix ix_P (zn 0) ze_int (fun _ _=>rfl)) ze_str (nomark _))))) (zss_one (zs_ret (ze_op op_addP (ze_op op_addP (ze_tup (za_cons ze_str za_nil)) (ze_fnX R_numbers_read hr (by decide) pass_on rfl (za_cons (ze_slice sl_P (zn 0) (zo_some ze_int) (zo_some ze_int)) za_nil))) (ze_tup (za_cons (ze_fnX R_numbers_read hr (by decide) pass_on rfl (za_cons (zm_split (ze_ix ix_P (zn 0) ze_int (fun _ _=>rfl)) (za_cons ze_str za_nil)) za_nil)) za_nil))))) zss_nil)
  (zss_one (zs_ret (ze_op op_addP (ze_tup (za_cons (ze_ix ix_P (zn 0) ze_int (fun _ _=>rfl)) za_nil)) (ze_fnX R_numbers_read hr (by decide) pass_on rfl (za_cons (ze_slice sl_P (zn 0) (zo_some ze_int) zo_none) za_nil)))))),?_⟩
 refine ⟨_,.inl (SqL.of ha),?_⟩
 refine iteD (fun c=>?a) (fun c=>?b)
 case' a=>
  refine ⟨_,.inl (SqL.of ha),.str wd,ws_at ew,?_⟩
  refine iteD (fun c2=>?c) (fun c2=>?d)
 case' b=>have hr2:wd=Str.ofString "rests"→rest.length≠2:=fun _ h=>c (by rw [List.length_map,hlr,h];rfl)
 case' d=>have hr2:wd=Str.ofString "rests"→rest.length≠2:=fun h _=>c2 (by rw [h])
 case c=>
  have ewd:=V.str.inj c2
  have hl3:rest.length=2:=by
   have:=V.int.inj c
   rw [List.length_map,hlr] at this
   omega
  obtain ⟨x,y,er⟩:∃ x y,rest=[x,y]:=by
   rcases rest with _ | ⟨x,_ | ⟨y,_ | ⟨u,r⟩⟩⟩
   · cases hl3
   · cases hl3
   · exact ⟨x,y,rfl⟩
   · have:r.length+1+1+1=2:=hl3
     omega
  have ew2:ws=[Str.ofString "rests",x,y]:=by rw [ew,ewd,er]
  subst ew2
  have hx:=hy x (by simp)
  have hyy:=hy y (by simp)
  refine ⟨by show 1≤sizeLine;decide,fun d1 hd1=>?_⟩
  have y1:=Same.new hd1 (.tup [V.str (Str.ofString "rests")])
  refine ⟨1,rfl,2,rfl,a,rfl,.inr ⟨_,SqL.of (y1 _ _ ha),fun p hp=>?_⟩⟩
  have y2:=Same.new hp (.lst ([x].map V.str))
  have no:∀ wd ns,¬ FmA [Str.ofString "rests",x,y] wd ns:=fun wd ns h=>by
   refine h.1 (List.cons.inj h.2.1).1.symm ?_
   have:=congrArg List.length (List.cons.inj h.2.1).2
   rw [List.length_map] at this
   exact this.symm
  refine .inr ⟨p,[x],rfl,upd_same,by show 1≤1000;decide,fun u hu=>by rw [List.mem_singleton.mp hu];omega,fun ns e hn r H3 y3 hr3=>?_,fun ⟨u,hu,hn⟩ H3 y3=>?_⟩
  · obtain ⟨m,rfl⟩:∃ m,ns=[m]:=by
     have:=congrArg List.length e
     rw [List.length_map] at this
     exact List.length_eq_one_iff.mp this.symm
    have ex:x=nt m:=(List.cons.inj e).1
    refine .inr ⟨_,_,y3 _ _ (y2 _ _ upd_same),hr3,by show 2≤sizeLine;decide,fun r4 H4 y4 hr4=>?_⟩
    have z4:=((y1.trans y2).trans y3).trans y4
    refine ⟨_,.inl (SqL.of (z4 _ _ ha)),.str y,rfl,?_⟩
    have cl:=cut_len y 44
    rw [← comma_is] at cl
    refine ⟨rfl,by omega,by decide +kernel,fun d5 hd5=>?_⟩
    have y5:=Same.new hd5 (.lst ((Txt.split y (Str.ofString ",")).map V.str))
    refine .inr ⟨d5,_,rfl,upd_same,by omega,fun u hu=>by have:=cl.2 u hu;omega,fun rs e6 rn r6 H6 y6 hr6=>?_,fun ⟨u,hu,hn6⟩ H6 y6=>?_⟩
    · refine ⟨by show 1≤sizeLine;decide,fun d7 hd7=>?_⟩
      have y7:=Same.new hd7 (.tup [V.ref r6])
      have z7:=(y5.trans y6).trans y7
      refine .inr ⟨_,_,z7 _ _ hr4,upd_same,by show 3≤sizeLine;decide,fun r8 H8 y8 hr8=>?_⟩
      have rne:rs≠[]:=fun h=>by rw [h,comma_is] at e6;exact cut_ne _ _ e6
      exact qB m rs ⟨hn,rn,rne,by rw [ex,rs_back e6]⟩ r8 H8 ((z4.trans z7).trans y8) ⟨r6,hr8,y8 _ _ (y7 _ _ hr6)⟩
    · refine q0 no (fun m' rs h=>hn6 ?_) _ ((z4.trans y5).trans y6)
      have ey:y=Txt.join (Str.ofString ",") (rs.map nt):=(List.cons.inj (List.cons.inj (List.cons.inj h.2.2.2).2).2).1
      rw [ey,rs_split h.2.2.1 fun r hr=>(h.2.1 r hr).1] at hu
      exact all_num h.2.1 u hu
  · refine q0 no (fun m' rs h=>hn ?_) _ ((y1.trans y2).trans y3)
    rw [List.mem_singleton.mp hu,(List.cons.inj (List.cons.inj h.2.2.2).2).1]
    exact nt_num (h.1 _ List.mem_cons_self).1 (h.1 _ List.mem_cons_self).2
 all_goals
  refine ⟨_,.inl (SqL.of ha),.str wd,ws_at ew,?_⟩
  refine ⟨by show 1≤sizeLine;decide,fun d1 hd1=>?_⟩
  have y1:=Same.new hd1 (.tup [V.str wd])
  refine ⟨1,rfl,a,rfl,.inr ⟨_,SqL.of (y1 _ _ ha),fun p hp=>?_⟩⟩
  have ect:cutV (ws.map V.str) (some 1) none=rest.map V.str:=by rw [ew];exact cut_tail _ _
  rw [ect]
  have y2:=Same.new hp (.lst (rest.map V.str))
  refine .inr ⟨p,rest,rfl,upd_same,by omega,fun u hu=>by have:=hy u (by rw [ew];exact List.mem_cons_of_mem _ hu);omega,fun ns e hn r H3 y3 hr3=>?_,fun ⟨u,hu,hn⟩ H3 y3=>?_⟩
  · have hln:ns.length=rest.length:=by rw [e,List.length_map]
    refine .inr ⟨_,_,y3 _ _ (y2 _ _ upd_same),hr3,by rw [List.length_map];show 1+ns.length≤sizeLine;exact Nat.le_of_lt (small1000 (by omega)),fun r4 H4 y4 hr4=>?_⟩
    exact qA wd ns ⟨fun h=>by rw [hln];exact hr2 h,by rw [ew,e],hn⟩ r4 H4 (((y1.trans y2).trans y3).trans y4) hr4
  · refine q0 (fun wd' ns h=>hn ?_) (fun m' rs h=>?_) _ ((y1.trans y2).trans y3)
    · rw [(List.cons.inj (ew.symm.trans h.2.1)).2] at hu
      exact all_num h.2.2 u hu
    · have e:=ew.symm.trans h.2.2.2
      refine hr2 (List.cons.inj e).1 ?_
      rw [(List.cons.inj e).2]
      rfl
theorem sc_rk:FnScope ["thing","kind"] ["thing"] (defScope (top 34)):=⟨rfl,rfl,rfl,by decide +kernel,rfl,by decide +kernel,by decide +kernel⟩
theorem ok_rk0 (F:Fun K "read_kind" "read_kind" (top 34) f fd)  : FnOk P w K mg base CX0 6 f fd ["thing"] sp_no:=⟨fun _ _ _ _ h=>h.elim,fun _ _ _ _ _ _ _ _ _ _ _ _ _ h=>h.elim⟩
def sp_rk (C:Addr):Sp:=fun vs H Q E=>∃ z:Str,vs=[.str z]∧z.length≤900∧(∀ k:Kd,k.Ok→z=k.text→∀ c H',Same H H'→KdAt H' c k→Q (.ref c) H')∧((∀ k:Kd,k.Ok→z≠k.text)→∀ H',Same H H'→E (.ref C) none H')
theorem ok_rk {C:Addr} (R_NoText:RaC K C) (g_NoText:mg "NoText" = some (.ref C))  (F:Fun K "read_kind" "read_kind" (top 34) f fd) (F_is_text:FnA P w K mg base "is_text" 1 ["thing"] sp_text2) (F_is_kind:FnA P w K mg base "is_kind" 5 ["thing"] sp_isk) (R_kind_of_words:FnR P w K mg base "kind_of_words" 3 ["words"] (fun vs H Q E=>sp_no vs H Q E∨sp_kow C vs H Q E)):FnOk P w K mg base (CXF P w) 6 f fd ["thing"] (sp_rk C):=by
 refine F.okx sc_rk (fun vs H Q E h=>?_) (fun cdv A outer s H vs Q E hr h=>?_)
 · obtain ⟨z,rfl,_⟩:=h;rfl
 obtain ⟨z,rfl,hz,q1,q0⟩:=h
 have nd:=sc_rk.nd
 have hu:=hr.units
 refine ⟨_,(zss_cons (zs_if (zt_not (zt_valP (ze_fn F_is_text hr (by decide) rfl (za_cons (zn 0) za_nil)))) (zss_one (zs_raise R_NoText g_NoText rfl (za_cons ze_str za_nil))) zss_nil)
  (zss_cons (zs_set (i:=1) nd rfl (Or.inl rfl) (ze_fnX R_kind_of_words hr (by decide) pass_on rfl (za_cons (zm_split (zn 0) (za_cons ze_str za_nil)) za_nil)))
  (zss_cons (zs_if (zt_not (zt_valP (ze_fn F_is_kind hr (by decide) rfl (za_cons (zn 1) za_nil)))) (zss_one (zs_raise R_NoText g_NoText rfl (za_cons ze_str za_nil))) zss_nil)
  (zss_one (zs_ret (zn 1)))))),?_⟩
 refine .inl ⟨_,rfl,by omega,?_⟩
 have cl:=cut_len z 32
 have cn:=cut_ne z 32
 rw [← M68.sp_is] at cl cn
 refine ⟨rfl,by omega,by decide +kernel,fun d hd=>?_⟩
 have yd:=Same.new hd (.lst ((Txt.split z (Str.ofString " ")).map V.str))
 have back:∀ k:Kd,k.Ok→z=k.text→Txt.split z (Str.ofString " ")=k.words:=fun k hk e=>by rw [e];exact text_split hk
 have forth:=@words_back z
 refine .inr ⟨d,_,rfl,upd_same,cn,by omega,fun y hy=>Nat.le_trans (cl.2 y hy) hz,fun wd ns hA c H2 y2 hc=>?_,fun m rs hB c H2 y2 hc=>?_,fun nA nB H2 y2=>?_⟩
 · refine .inl ⟨c,wd,ns,rfl,hc,hA.1,fun ok H3 y3=>?_,fun ok H3 y3=>?_⟩
   · obtain ⟨k,hk,ek,at'⟩:=okA_kd ok
     exact q1 k hk (forth (hA.2.1.trans ek.symm)).symm c H3 ((yd.trans y2).trans y3) (at' H3 c (y3 _ _ hc))
   · refine ⟨by show 1≤sizeLine;decide,q0 (fun k hk ez=>ok ?_) _ ((yd.trans y2).trans y3)⟩
     have e:=back k hk ez
     rw [e] at hA
     rcases kd_form hk with ⟨wd',ns',hA',ok'⟩ | ⟨m,rs,hB,_⟩
     · obtain ⟨rfl,rfl⟩:=fmA_one hA hA'
       exact ok'
     · exact (fm_not hA hB).elim
 · refine .inr ⟨c,m,rs,rfl,hc,fun ok H3 y3=>?_,fun ok H3 y3=>?_⟩
   · exact q1 (.rests m rs) ok (forth (k:=.rests m rs) hB.2.2.2).symm c H3 ((yd.trans y2).trans y3) (hc.same y3)
   · refine ⟨by show 1≤sizeLine;decide,q0 (fun k hk ez=>ok ?_) _ ((yd.trans y2).trans y3)⟩
     have e:=back k hk ez
     rw [e] at hB
     rcases kd_form hk with ⟨wd',ns',hA',_⟩ | ⟨m',rs',hB',ok'⟩
     · exact (fm_not hA' hB).elim
     · obtain ⟨rfl,rfl⟩:=fmB_one hB hB'
       exact ok'
 · refine q0 (fun k hk ez=>?_) _ (yd.trans y2)
   have e:=back k hk ez
   rw [e] at nA nB
   rcases kd_form hk with ⟨wd',ns',hA',_⟩ | ⟨m',rs',hB',_⟩
   · exact nA _ _ hA'
   · exact nB _ _ hB'
theorem ok_rkn {C:Addr} (R_NoText:RaC K C) (g_NoText:mg "NoText" = some (.ref C))  (F:Fun K "read_kind" "read_kind" (top 34) f fd) (F_is_text:FnA P w K mg base "is_text" 1 ["thing"] sp_text2) (F_is_kind:FnA P w K mg base "is_kind" 5 ["thing"] sp_isk) (R_kind_of_words:FnR P w K mg base "kind_of_words" 3 ["words"] (fun vs H Q E=>sp_no vs H Q E∨sp_kow C vs H Q E)):FnOk P w K mg base (CXF P w) 6 f fd ["thing"] (sp_nx C):=by
 refine F.okx sc_rk (fun vs H Q E h=>?_) (fun cdv A outer s H vs Q E hr h=>?_)
 · obtain ⟨v,t,rfl,_⟩:=h;rfl
 obtain ⟨v,t,rfl,ht,hs,q⟩:=h
 have nd:=sc_rk.nd
 have hu:=hr.units
 refine ⟨_,(zss_cons (zs_if (zt_not (zt_valP (ze_fn F_is_text hr (by decide) rfl (za_cons (zn 0) za_nil)))) (zss_one (zs_raise R_NoText g_NoText rfl (za_cons ze_str za_nil))) zss_nil)
  (zss_cons (zs_set (i:=1) nd rfl (Or.inl rfl) (ze_fnX R_kind_of_words hr (by decide) pass_on rfl (za_cons (zm_split (zn 0) (za_cons ze_str za_nil)) za_nil)))
  (zss_cons (zs_if (zt_not (zt_valP (ze_fn F_is_kind hr (by decide) rfl (za_cons (zn 1) za_nil)))) (zss_one (zs_raise R_NoText g_NoText rfl (za_cons ze_str za_nil))) zss_nil)
  (zss_one (zs_ret (zn 1)))))),?_⟩
 refine .inr ⟨v,t,rfl,ht,hs,?_⟩
 exact ⟨by show 1≤sizeLine;decide,q _ (Same.refl _)⟩
def sp_rk2 (C:Addr):Sp:=fun vs H Q E=>sp_rk C vs H Q E∨sp_nx C vs H Q E
theorem ok_rk2 {C:Addr} (R_NoText:RaC K C) (g_NoText:mg "NoText" = some (.ref C))  (F:Fun K "read_kind" "read_kind" (top 34) f fd) (F_is_text:FnA P w K mg base "is_text" 1 ["thing"] sp_text2) (F_is_kind:FnA P w K mg base "is_kind" 5 ["thing"] sp_isk) (R_kind_of_words:FnR P w K mg base "kind_of_words" 3 ["words"] (fun vs H Q E=>sp_no vs H Q E∨sp_kow C vs H Q E)):FnOk P w K mg base (CXF P w) 6 f fd ["thing"] (sp_rk2 C):=(ok_rk R_NoText g_NoText  F F_is_text F_is_kind R_kind_of_words).both (ok_rkn R_NoText g_NoText  F F_is_text F_is_kind R_kind_of_words)
end
end K70
namespace K70
open PySem L2 M67 M68 M69 M71 M70
structure Errs (mg:Str→Option Value) (c0 c1 c2 c3 c4 c5 c6 c7 c8 c9:Addr):Prop where
 g0:mg "PartError" = some (.ref c0)
 g1:mg "NoRow" = some (.ref c1)
 g2:mg "NoCore" = some (.ref c2)
 g3:mg "NoTurn" = some (.ref c3)
 g4:mg "NoPair" = some (.ref c4)
 g5:mg "NoList" = some (.ref c5)
 g6:mg "NoPlace" = some (.ref c6)
 g7:mg "NoText" = some (.ref c7)
 g8:mg "NoLine" = some (.ref c8)
 g9:mg "NotSo" = some (.ref c9)
structure Nine (K:PySem.W.Frag) (C c1 c2 c3 c4 c5 c6 c7 c8 c9:Addr):Prop where
 cls:ExC K C
 vE:PySem.W.kitOne K (.ref C) (.type "ValueError")=some true
 ex:∃ b1 b2 b3 b4 b5 b6 b7 b8 b9,PySem.W.kitOne K (.ref C) (.ref c1)=some b1∧PySem.W.kitOne K (.ref C) (.ref c2)=some b2∧PySem.W.kitOne K (.ref C) (.ref c3)=some b3∧PySem.W.kitOne K (.ref C) (.ref c4)=some b4∧PySem.W.kitOne K (.ref C) (.ref c5)=some b5∧PySem.W.kitOne K (.ref C) (.ref c6)=some b6∧PySem.W.kitOne K (.ref C) (.ref c7)=some b7∧PySem.W.kitOne K (.ref C) (.ref c8)=some b8∧PySem.W.kitOne K (.ref C) (.ref c9)=some b9∧[b1,b2,b3,b4,b5,b6,b7,b8,b9].count true=1
inductive Th where
 | prt (ns:List Int)
 | knd (k:Kd)
 | drw (ns:List Int)
def Th.way:Th→Int
 | .prt _=>0
 | .knd _=>1
 | .drw _=>2
def Th.text:Th→Str
 | .prt ns=>shw ns
 | .knd k=>k.text
 | .drw ns=>dr ns
def Th.Ok:Th→Prop
 | .prt ns=>Num ns∧Prt ns∧ns.length≤901
 | .knd k=>k.Ok
 | .drw ns=>Prt ns∧NumD ns∧ns.length≤901
def Th.At (H:Hp) (r:Addr):Th→Prop
 | .prt ns=>H r=some (.tup (ns.map V.int))
 | .knd k=>KdAt H r k
 | .drw ns=>H r=some (.tup (ns.map V.int))
theorem Th.At.same {H H':Hp} {r:Addr} {t:Th} (h:t.At H r) (y:Same H H'):t.At H' r:=by
 cases t with
 | prt ns=>exact y _ _ h
 | knd k=>exact KdAt.same h y
 | drw ns=>exact y _ _ h
def kdD:Kd→PyData
 | .bare w=>.tuple [.str w]
 | .one w n=>.tuple [.str w,.int n]
 | .box a b=>.tuple [.str (Str.ofString "box"),.int a,.int b]
 | .rests m rs=>.tuple [.str (Str.ofString "rests"),.int m,.tuple (rs.map PyData.int)]
theorem KdAt.dat {H:Hp} {c:Addr} {k:Kd} (h:KdAt H c k):DatV H (.ref c) (kdD k):=by
 cases k with
 | bare w=>exact .tup h (.cons (.str w) .nil)
 | one w n=>exact .tup h (.cons (.str w) (.cons (.int n) .nil))
 | box a b=>exact .tup h (.cons (.str _) (.cons (.int a) (.cons (.int b) .nil)))
 | rests m rs=>
   obtain ⟨d,h1,h2⟩:=h
   exact .tup h1 (.cons (.str _) (.cons (.int m) (.cons (.ints h2) .nil)))
def thD:Th→PyData
 | .prt ns=>.tuple (ns.map PyData.int)
 | .knd k=>kdD k
 | .drw ns=>.tuple (ns.map PyData.int)
theorem Th.At.dat {H:Hp} {r:Addr} {t:Th} (h:t.At H r):DatV H (.ref r) (thD t):=by
 cases t with
 | prt ns=>exact .ints h
 | knd k=>exact KdAt.dat h
 | drw ns=>exact .ints h
def wds:List String:=["all","own","most","few","off","times","box","rests"]
theorem shaped_l0:SeqAt.shaped (.list [])=true:=shaped_list_ints []
theorem bars_inj:∀ {xs ys:List Int},(∀ n∈xs,(1:Int)≤n)→(∀ n∈ys,(1:Int)≤n)→xs.map bar=ys.map bar→xs=ys
 | [],[],_,_,_=>rfl
 | [],_::_,_,_,e=>by cases e
 | _::_,[],_,_,e=>by cases e
 | x::xs,y::ys,hx,hy,e=>by
   obtain ⟨e1,e2⟩:=List.cons.inj e
   have a:=hx x List.mem_cons_self
   have b:=hy y List.mem_cons_self
   have el:=congrArg Str.length e1
   rw [bar_len,bar_len] at el
   rw [bars_inj (fun n hn=>hx n (List.mem_cons_of_mem _ hn)) (fun n hn=>hy n (List.mem_cons_of_mem _ hn)) e2,show x=y by omega]
theorem kd_num {k:Kd} (h:k.Ok):match k with | .bare _=>True | .one _ n=>0≤n∧n<1000000 | .box a b=>(0≤a∧a<1000000)∧0≤b∧b<1000000 | .rests m rs=>(0≤m∧m<1000000)∧Nm rs:=by
 cases k with
 | bare w=>trivial
 | one w n=>rcases h with ⟨_,h1,h2⟩ | ⟨_,h1,h2⟩ <;> exact ⟨by omega,by omega⟩
 | box a b=>
   obtain ⟨⟨h1,h2⟩,h3,h4⟩:=h
   exact ⟨⟨by omega,by omega⟩,by omega,by omega⟩
 | rests m rs=>
   obtain ⟨rn,rl,m0,m1⟩:=rs_nm h
   exact ⟨⟨m0,m1⟩,rn⟩
theorem kd_inj {k l:Kd} (hk:k.Ok) (hl:l.Ok) (e:k.text=l.text):kdD k=kdD l:=by
 have ew:k.words=l.words:=by rw [← text_split hk,← text_split hl,e]
 have nk:=kd_num hk
 have nl:=kd_num hl
 cases k with
 | bare w=>
   cases l with
   | bare w'=>
     rw [show w=w' from (List.cons.inj ew).1]
   | one w' n'=>
     exact absurd (congrArg List.length ew) (by show 1≠2;decide)
   | box a' b'=>
     exact absurd (congrArg List.length ew) (by show 1≠3;decide)
   | rests m' rs'=>
     exact absurd (congrArg List.length ew) (by show 1≠3;decide)
 | one w n=>
   cases l with
   | bare w'=>
     exact absurd (congrArg List.length ew) (by show 2≠1;decide)
   | one w' n'=>
     rw [show w=w' from (List.cons.inj ew).1,show n=n' from nt_inj nk.1 nk.2 nl.1 nl.2 (List.cons.inj (List.cons.inj ew).2).1]
   | box a' b'=>
     exact absurd (congrArg List.length ew) (by show 2≠3;decide)
   | rests m' rs'=>
     exact absurd (congrArg List.length ew) (by show 2≠3;decide)
 | box a b=>
   cases l with
   | bare w'=>
     exact absurd (congrArg List.length ew) (by show 3≠1;decide)
   | one w' n'=>
     exact absurd (congrArg List.length ew) (by show 3≠2;decide)
   | box a' b'=>
     have e1:=(List.cons.inj ew).2
     rw [show a=a' from nt_inj nk.1.1 nk.1.2 nl.1.1 nl.1.2 (List.cons.inj e1).1,show b=b' from nt_inj nk.2.1 nk.2.2 nl.2.1 nl.2.2 (List.cons.inj (List.cons.inj e1).2).1]
   | rests m' rs'=>
     exact absurd (List.cons.inj ew).1 (by decide +kernel)
 | rests m rs=>
   cases l with
   | bare w'=>
     exact absurd (congrArg List.length ew) (by show 3≠1;decide)
   | one w' n'=>
     exact absurd (congrArg List.length ew) (by show 3≠2;decide)
   | box a' b'=>
     exact absurd (List.cons.inj ew).1 (by decide +kernel)
   | rests m' rs'=>
     have hB:FmB (Kd.rests m rs).words m rs:=⟨fun z hz=>by rw [List.mem_singleton.mp hz];exact nk.1,nk.2,hk.2.1,rfl⟩
     have hB':FmB (Kd.rests m rs).words m' rs':=⟨fun z hz=>by rw [List.mem_singleton.mp hz];exact nl.1,nl.2,hl.2.1,ew⟩
     obtain ⟨rfl,rfl⟩:=fmB_one hB hB'
     rfl
theorem Th.inj {t u:Th} (ht:t.Ok) (hu:u.Ok) (hw:t.way=u.way) (e:t.text=u.text):thD t=thD u:=by
 cases t with
 | prt ns=>
   cases u with
   | knd k=>cases hw
   | drw ms=>cases hw
   | prt ms=>
     have e:shw ns=shw ms:=e
     have:ns=ms:=by
      by_cases h1:ns=[]
      · by_cases h2:ms=[]
        · rw [h1,h2]
        · rw [h1] at e
          exact absurd e.symm (shw_dash h2 hu.1)
      · by_cases h2:ms=[]
        · rw [h2] at e
          exact absurd e (shw_dash h1 ht.1)
        · have:=shw_split h1 ht.1
          rw [e,shw_split h2 hu.1] at this
          exact (nts_inj (fun n hn=>⟨by have:=(hu.1 n hn).1;omega,(hu.1 n hn).2⟩) (fun n hn=>⟨by have:=(ht.1 n hn).1;omega,(ht.1 n hn).2⟩) this).symm
     rw [this]
 | knd k=>
   cases u with
   | prt _=>cases hw
   | drw _=>cases hw
   | knd l=>exact kd_inj ht hu e
 | drw ns=>
   cases u with
   | prt _=>cases hw
   | knd _=>cases hw
   | drw ms=>
     have e:dr ns=dr ms:=e
     have nn:∀ {xs:List Int},(∀ n∈xs,(1:Int)≤n)→xs≠[]→dr xs≠dr []:=fun {xs} h h2 e=>by
      rcases dr_head h with h3 | h3
      · exact h2 h3
      · rw [e,dr_nil] at h3
        cases h3
     have:ns=ms:=by
      by_cases h1:ns=[]
      · by_cases h2:ms=[]
        · rw [h1,h2]
        · rw [h1] at e
          exact absurd e.symm (nn hu.1.1 h2)
      · by_cases h2:ms=[]
        · rw [h2] at e
          exact absurd e (nn ht.1.1 h1)
        · have:=dr_split h1
          rw [e,dr_split h2] at this
          exact (bars_inj hu.1.1 ht.1.1 this).symm
     rw [this]
def ovn:Option Int→V
 | some n=>.int n
 | none=>.non
section
variable {P:Program} {w:World} {K:PySem.W.Frag} {mg:Str→Option Value} {base:Heap} {f:Addr} {fd:FuncData} {c0 c1 c2 c3 c4 c5 c6 c7 c8 c9:Addr}
theorem sc_td:FnScope ["_law_way","_law_text_here","_law_found","error","_law_odd"] ["_law_way","_law_text_here"] (defScope (top 43)):=⟨rfl,rfl,rfl,by decide +kernel,rfl,by decide +kernel,by decide +kernel⟩
def Due (wy:Int) (z:Str) (Q:V→Hp→Prop) (H:Hp):Prop:=(∀ t:Th,t.way=wy→t.Ok→t.text=z→∀ p r H',Same H H'→H' p=some (.lst [.ref r])→t.At H' r→Q (.ref p) H')∧((∀ t:Th,t.way=wy→t.Ok→t.text≠z)→∀ H',Same H H'→Q (.str (Str.ofString "none")) H')
def sp_td:Sp:=fun vs H Q _=>(∃ (z:Str) (wy:Int),vs=[.int wy,.str z]∧(wy=0∨wy=1∨wy=2)∧z.length≤900∧Due wy z Q H)∨(∃ (v:V) (t:String) (wy:Int),vs=[.int wy,v]∧(wy=0∨wy=1∨wy=2)∧tyName H v=some t∧subTy t "str" = false∧∀ H',Same H H'→Q (.str (Str.ofString "none")) H')
theorem ok_td (ke:ErrK K c0 c7 [c1,c2,c3,c4,c5,c6,c8,c9]) (G:Errs mg c0 c1 c2 c3 c4 c5 c6 c7 c8 c9) (F:Fun K "_law_told" "_law_told" (top 43) f fd) (m_ValueError:mg "ValueError" = none) (m_isinstance:mg "isinstance" = none) (R_read_drawn:FnR P w K mg base "read_drawn" 3 ["thing"] (fun vs H Q E=>sp_no vs H Q E∨sp_rd2 c7 vs H Q E)) (R_read_kind:FnR P w K mg base "read_kind" 6 ["thing"] (fun vs H Q E=>sp_no vs H Q E∨sp_rk2 c7 vs H Q E)) (R_read_parting:FnR P w K mg base "read_parting" 3 ["thing"] (fun vs H Q E=>sp_no vs H Q E∨sp_rp2 c7 vs H Q E)):FnOk P w K mg base CX0 7 f fd ["_law_way","_law_text_here"] sp_td:=by
 obtain ⟨g_PartError,g_NoRow,g_NoCore,g_NoTurn,g_NoPair,g_NoList,g_NoPlace,g_NoText,g_NoLine,g_NotSo⟩:=G
 refine F.okz sc_td (fun vs H Q E h=>?_) (fun cdv A outer s H vs Q E hr h=>?_)
 · rcases h with ⟨z,wy,rfl,_⟩ | ⟨v,t,wy,rfl,_⟩ <;> rfl
 have nd:=sc_td.nd
 have hu:=hr.units
 rcases h with ⟨z,wy,rfl,hw,hz,q1,q0⟩ | ⟨v,t,wy,rfl,hw,ht,hs,q0⟩
 · refine ⟨_,(zss_cons (zs_set (i:=2) nd rfl (Or.inl rfl) ze_non)
    (zss_cons (zs_try (pxs_if (zt_cmpP (op_eqD hu) (zn 0) ze_int (nomark _)) (pxs_set (i:=2) nd rfl (Or.inl rfl) (px_lst1 (zx_call R_read_parting hr (by decide) rfl (za_cons (zn 1) za_nil)))) (pxs_if (zt_cmpP (op_eqD hu) (zn 0) ze_int (nomark _)) (pxs_set (i:=2) nd rfl (Or.inl rfl) (px_lst1 (zx_call R_read_kind hr (by decide) rfl (za_cons (zn 1) za_nil)))) (pxs_set (i:=2) nd rfl (Or.inl rfl) (px_lst1 (zx_call R_read_drawn hr (by decide) rfl (za_cons (zn 1) za_nil)))))) (fun _=>(zss_cons (zs_set (i:=4) nd rfl (Or.inl rfl) (zcb_isiM' (K:=K) rfl rfl m_isinstance (za_cons (zn 3) (za_cons (ze_tup (za_cons (ze_cls rfl g_NoCore) (za_cons (ze_cls rfl g_NoLine) (za_cons (ze_cls rfl g_NoList) (za_cons (ze_cls rfl g_NoPair) (za_cons (ze_cls rfl g_NoPlace) (za_cons (ze_cls rfl g_NoRow) (za_cons (ze_cls rfl g_NotSo) (za_cons (ze_cls rfl g_NoTurn) za_nil))))))))) za_nil)) rfl rfl))
    (zss_one (zs_set (i:=2) nd rfl (Or.inl rfl) (ze_ifExp (ZW.zt (zw_and (zt_valP (zcb_isiE' (K:=K) rfl rfl m_isinstance (za_cons (zn 3) (za_cons (ze_cls rfl g_NoText) za_nil)) rfl rfl)) (zw_and (zt_valP (zcb_isiE' (K:=K) rfl rfl m_isinstance (za_cons (zn 3) (za_cons (zty_ValueError rfl m_ValueError) za_nil)) rfl rfl)) (zw_and1 (zt_not (zt_valP (zn 4))))))) ze_str ze_str))))) rfl rfl nd (i:=3) rfl rfl rfl g_PartError)
    (zss_one (zs_ret (zn 2))))),?_⟩
   rcases hw with rfl | rfl | rfl
   · refine .inr (.inl ⟨z,rfl,hz,fun ns e hn hp hl r H2 y2 hr2=>fun p hp2=>?_,fun hno H2 y2=>⟨c7,rfl,ke.mt,fun e he=>?_⟩⟩)
     · have y3:=Same.new hp2 (.lst [V.ref r])
       exact q1 (.prt ns) rfl ⟨hn,hp,hl⟩ e.symm p r _ (y2.trans y3) upd_same (y3 _ _ hr2)
     · have y3:=Same.new he (.ext (IsX e c7))
       have he3:upd H2 e (.ext (IsX e c7)) e=some (.ext (IsX e c7)):=upd_same
       have z3:=y2.trans y3
       generalize upd H2 e (.ext (IsX e c7))=H3 at he3 z3
       refine ⟨by show 8≤sizeLine;decide,fun d hd=>?_⟩
       have y4:=Same.new hd (.tup [V.ref c2,.ref c8,.ref c5,.ref c4,.ref c6,.ref c1,.ref c9,.ref c3])
       refine ⟨c7,[c2,c8,c5,c4,c6,c1,c9,c3],y4 _ _ he3,ke.cls,upd_same,fun D hD=>ke.ot D (by simp only [List.mem_cons,List.not_mem_nil,or_false] at hD ⊢;grind),?_⟩
       refine ⟨c7,true,_,y4 _ _ he3,ke.cls,rfl,ke.me,?_⟩
       refine ⟨c7,true,_,y4 _ _ he3,ke.cls,rfl,ke.vE,?_⟩
       refine q0 (fun t ht ok e=>?_) _ (z3.trans y4)
       cases t with
       | prt ns=>exact hno ns ok.1 ok.2.1 ok.2.2 e.symm
       | knd k=>cases ht
       | drw ns=>cases ht
   · refine .inr (.inl ⟨z,rfl,hz,fun k hk e r H2 y2 hr2=>fun p hp2=>?_,fun hno H2 y2=>⟨c7,rfl,ke.mt,fun e he=>?_⟩⟩)
     · have y3:=Same.new hp2 (.lst [V.ref r])
       exact q1 (.knd k) rfl hk e.symm p r _ (y2.trans y3) upd_same (hr2.same y3)
     · have y3:=Same.new he (.ext (IsX e c7))
       have he3:upd H2 e (.ext (IsX e c7)) e=some (.ext (IsX e c7)):=upd_same
       have z3:=y2.trans y3
       generalize upd H2 e (.ext (IsX e c7))=H3 at he3 z3
       refine ⟨by show 8≤sizeLine;decide,fun d hd=>?_⟩
       have y4:=Same.new hd (.tup [V.ref c2,.ref c8,.ref c5,.ref c4,.ref c6,.ref c1,.ref c9,.ref c3])
       refine ⟨c7,[c2,c8,c5,c4,c6,c1,c9,c3],y4 _ _ he3,ke.cls,upd_same,fun D hD=>ke.ot D (by simp only [List.mem_cons,List.not_mem_nil,or_false] at hD ⊢;grind),?_⟩
       refine ⟨c7,true,_,y4 _ _ he3,ke.cls,rfl,ke.me,?_⟩
       refine ⟨c7,true,_,y4 _ _ he3,ke.cls,rfl,ke.vE,?_⟩
       refine q0 (fun t ht ok e=>?_) _ (z3.trans y4)
       cases t with
       | prt ns=>cases ht
       | knd k=>exact hno k ok e.symm
       | drw ns=>cases ht
   · refine .inr (.inl ⟨z,rfl,hz,fun ns e hp hn hl r H2 y2 hr2=>fun p hp2=>?_,fun hno H2 y2=>⟨c7,rfl,ke.mt,fun e he=>?_⟩⟩)
     · have y3:=Same.new hp2 (.lst [V.ref r])
       exact q1 (.drw ns) rfl ⟨hp,hn,hl⟩ e.symm p r _ (y2.trans y3) upd_same (y3 _ _ hr2)
     · have y3:=Same.new he (.ext (IsX e c7))
       have he3:upd H2 e (.ext (IsX e c7)) e=some (.ext (IsX e c7)):=upd_same
       have z3:=y2.trans y3
       generalize upd H2 e (.ext (IsX e c7))=H3 at he3 z3
       refine ⟨by show 8≤sizeLine;decide,fun d hd=>?_⟩
       have y4:=Same.new hd (.tup [V.ref c2,.ref c8,.ref c5,.ref c4,.ref c6,.ref c1,.ref c9,.ref c3])
       refine ⟨c7,[c2,c8,c5,c4,c6,c1,c9,c3],y4 _ _ he3,ke.cls,upd_same,fun D hD=>ke.ot D (by simp only [List.mem_cons,List.not_mem_nil,or_false] at hD ⊢;grind),?_⟩
       refine ⟨c7,true,_,y4 _ _ he3,ke.cls,rfl,ke.me,?_⟩
       refine ⟨c7,true,_,y4 _ _ he3,ke.cls,rfl,ke.vE,?_⟩
       refine q0 (fun t ht ok e=>?_) _ (z3.trans y4)
       cases t with
       | prt ns=>cases ht
       | knd k=>cases ht
       | drw ns=>exact hno ns ok.1 ok.2.1 ok.2.2 e.symm
 · refine ⟨_,(zss_cons (zs_set (i:=2) nd rfl (Or.inl rfl) ze_non)
    (zss_cons (zs_try (pxs_if (zt_cmpP (op_eqD hu) (zn 0) ze_int (nomark _)) (pxs_set (i:=2) nd rfl (Or.inl rfl) (px_lst1 (zx_call R_read_parting hr (by decide) rfl (za_cons (zn 1) za_nil)))) (pxs_if (zt_cmpP (op_eqD hu) (zn 0) ze_int (nomark _)) (pxs_set (i:=2) nd rfl (Or.inl rfl) (px_lst1 (zx_call R_read_kind hr (by decide) rfl (za_cons (zn 1) za_nil)))) (pxs_set (i:=2) nd rfl (Or.inl rfl) (px_lst1 (zx_call R_read_drawn hr (by decide) rfl (za_cons (zn 1) za_nil)))))) (fun _=>(zss_cons (zs_set (i:=4) nd rfl (Or.inl rfl) (zcb_isiM' (K:=K) rfl rfl m_isinstance (za_cons (zn 3) (za_cons (ze_tup (za_cons (ze_cls rfl g_NoCore) (za_cons (ze_cls rfl g_NoLine) (za_cons (ze_cls rfl g_NoList) (za_cons (ze_cls rfl g_NoPair) (za_cons (ze_cls rfl g_NoPlace) (za_cons (ze_cls rfl g_NoRow) (za_cons (ze_cls rfl g_NotSo) (za_cons (ze_cls rfl g_NoTurn) za_nil))))))))) za_nil)) rfl rfl))
    (zss_one (zs_set (i:=2) nd rfl (Or.inl rfl) (ze_ifExp (ZW.zt (zw_and (zt_valP (zcb_isiE' (K:=K) rfl rfl m_isinstance (za_cons (zn 3) (za_cons (ze_cls rfl g_NoText) za_nil)) rfl rfl)) (zw_and (zt_valP (zcb_isiE' (K:=K) rfl rfl m_isinstance (za_cons (zn 3) (za_cons (zty_ValueError rfl m_ValueError) za_nil)) rfl rfl)) (zw_and1 (zt_not (zt_valP (zn 4))))))) ze_str ze_str))))) rfl rfl nd (i:=3) rfl rfl rfl g_PartError)
    (zss_one (zs_ret (zn 2))))),?_⟩
   rcases hw with rfl | rfl | rfl
   · refine .inr (.inr ⟨v,t,rfl,ht,hs,fun H2 y2=>⟨c7,rfl,ke.mt,fun e he=>?_⟩⟩)
     have y3:=Same.new he (.ext (IsX e c7))
     have he3:upd H2 e (.ext (IsX e c7)) e=some (.ext (IsX e c7)):=upd_same
     have z3:=y2.trans y3
     generalize upd H2 e (.ext (IsX e c7))=H3 at he3 z3
     refine ⟨by show 8≤sizeLine;decide,fun d hd=>?_⟩
     have y4:=Same.new hd (.tup [V.ref c2,.ref c8,.ref c5,.ref c4,.ref c6,.ref c1,.ref c9,.ref c3])
     refine ⟨c7,[c2,c8,c5,c4,c6,c1,c9,c3],y4 _ _ he3,ke.cls,upd_same,fun D hD=>ke.ot D (by simp only [List.mem_cons,List.not_mem_nil,or_false] at hD ⊢;grind),?_⟩
     refine ⟨c7,true,_,y4 _ _ he3,ke.cls,rfl,ke.me,?_⟩
     refine ⟨c7,true,_,y4 _ _ he3,ke.cls,rfl,ke.vE,?_⟩
     exact q0 _ (z3.trans y4)
   · refine .inr (.inr ⟨v,t,rfl,ht,hs,fun H2 y2=>⟨c7,rfl,ke.mt,fun e he=>?_⟩⟩)
     have y3:=Same.new he (.ext (IsX e c7))
     have he3:upd H2 e (.ext (IsX e c7)) e=some (.ext (IsX e c7)):=upd_same
     have z3:=y2.trans y3
     generalize upd H2 e (.ext (IsX e c7))=H3 at he3 z3
     refine ⟨by show 8≤sizeLine;decide,fun d hd=>?_⟩
     have y4:=Same.new hd (.tup [V.ref c2,.ref c8,.ref c5,.ref c4,.ref c6,.ref c1,.ref c9,.ref c3])
     refine ⟨c7,[c2,c8,c5,c4,c6,c1,c9,c3],y4 _ _ he3,ke.cls,upd_same,fun D hD=>ke.ot D (by simp only [List.mem_cons,List.not_mem_nil,or_false] at hD ⊢;grind),?_⟩
     refine ⟨c7,true,_,y4 _ _ he3,ke.cls,rfl,ke.me,?_⟩
     refine ⟨c7,true,_,y4 _ _ he3,ke.cls,rfl,ke.vE,?_⟩
     exact q0 _ (z3.trans y4)
   · refine .inr (.inr ⟨v,t,rfl,ht,hs,fun H2 y2=>⟨c7,rfl,ke.mt,fun e he=>?_⟩⟩)
     have y3:=Same.new he (.ext (IsX e c7))
     have he3:upd H2 e (.ext (IsX e c7)) e=some (.ext (IsX e c7)):=upd_same
     have z3:=y2.trans y3
     generalize upd H2 e (.ext (IsX e c7))=H3 at he3 z3
     refine ⟨by show 8≤sizeLine;decide,fun d hd=>?_⟩
     have y4:=Same.new hd (.tup [V.ref c2,.ref c8,.ref c5,.ref c4,.ref c6,.ref c1,.ref c9,.ref c3])
     refine ⟨c7,[c2,c8,c5,c4,c6,c1,c9,c3],y4 _ _ he3,ke.cls,upd_same,fun D hD=>ke.ot D (by simp only [List.mem_cons,List.not_mem_nil,or_false] at hD ⊢;grind),?_⟩
     refine ⟨c7,true,_,y4 _ _ he3,ke.cls,rfl,ke.me,?_⟩
     refine ⟨c7,true,_,y4 _ _ he3,ke.cls,rfl,ke.vE,?_⟩
     exact q0 _ (z3.trans y4)
end
end K70
namespace L2
open PySem PySem.Spec PyProof.Rows
theorem zt_chain {X:Cx} {a b c:Expr} {pos:Pos} {ta tb tc:TE} {op op':CmpOp} {r r':R2} (ho:OpR X (compareOp op) r) (ho':OpR X (compareOp op') r') (ha:ZE X a ta) (hb:ZE X b tb) (hc:ZE X c tc)
 (hm:lastMarks [op,op'] [b,c]=false:=by with_unfolding_all rfl):ZT X (.Compare a [op,op'] [b,c] pos) (tTest (tChain r r' ta tb tc)):=by with_unfolding_all exact pt_chain ho ho' ha hb hc hm
end L2
namespace K70
open PySem L2 M67 M68 M69 M71 M70
theorem sok:∀ c:Nat,c<128→PyData.canLay0 (.str ⟨#[c]⟩)=true:=by decide +kernel
theorem dat_signs {H:Hp}:∀ cs:List Nat,DatAll H (cs.map fun c=>V.str ⟨#[c]⟩) (cs.map fun c=>PyData.str ⟨#[c]⟩)
 | []=>.nil
 | c::r=>.cons (.str _) (dat_signs r)
theorem can_signs:∀ {cs:List Nat},(∀ c∈cs,c<128)→PyData.canLayAll0 (cs.map fun c=>PyData.str ⟨#[c]⟩)=true∧PyData.depthAll (cs.map fun c=>PyData.str ⟨#[c]⟩)≤1
 | [],_=>⟨by simp [PyData.canLayAll0],by simp [PyData.depthAll]⟩
 | c::r,h=>by
   obtain ⟨h1,h2⟩:=can_signs (cs:=r) fun x hx=>h x (List.mem_cons_of_mem _ hx)
   have h3:=sok c (h c List.mem_cons_self)
   refine ⟨by simp only [List.map_cons,PyData.canLayAll0,h3,h1,Bool.and_self],?_⟩
   simp only [List.map_cons,PyData.depthAll,PyData.depth]
   omega
theorem shaped_signs {cs:List Nat} (h:∀ c∈cs,c<128):SeqAt.shaped (.list (cs.map fun c=>PyData.str ⟨#[c]⟩))=true:=by
 obtain ⟨h1,h2⟩:=can_signs h
 unfold SeqAt.shaped
 rw [Bool.and_eq_true]
 exact ⟨by simp only [PyData.canLay0];exact h1,decide_eq_true (by simp only [PyData.depth];omega)⟩
def odd (z:Str) (i:Nat):List Nat:=(z.cps.toList.take i).filter fun c=>!decide (48≤c∧c≤57)
theorem odd_succ {z:Str} {i c:Nat} (h:z.cps[i]? = some c):odd z (i+1)=if decide (48≤c∧c≤57)=true then odd z i else odd z i++[c]:=by
 unfold odd
 rw [← Array.getElem?_toList] at h
 rw [List.take_succ,h,List.filter_append]
 by_cases hc:48≤c∧c≤57
 · rw [if_pos (decide_eq_true hc)]
   simp [hc]
 · rw [if_neg (by simpa using hc)]
   congr 1
   simp only [Option.toList_some,List.filter_cons,List.filter_nil]
   rw [decide_eq_false hc]
   rfl
theorem odd_nil {z:Str}:odd z z.cps.size=[]↔∀ c∈z.cps.toList,48≤c∧c≤57:=by
 unfold odd
 rw [List.take_of_length_le (by rw [Array.length_toList];exact Nat.le_refl _),List.filter_eq_nil_iff]
 constructor
 · intro h c hc
   have:=h c hc
   simpa using this
 · intro h c hc
   simpa using h c hc
section
variable {P:Program} {w:World} {K:PySem.W.Frag} {mg:Str→Option Value} {base:Heap} {f:Addr} {fd:FuncData}
theorem sc_nm:FnScope ["_law_word","_law_least","_law_most","_law_number_here"] ["_law_word","_law_least","_law_most"] (defScope (top 44)):=⟨rfl,rfl,rfl,by decide +kernel,rfl,by decide +kernel,by decide +kernel⟩
def sp_nm:Sp:=fun vs H Q _=>∃ (z:Str) (lo hi:Int),vs=[.str z,.int lo,.int hi]∧z.length≤2000∧(∀ c∈z.cps.toList,c<128)∧∀ H',Same H H'→Q (ovn (nmo lo hi z)) H'
theorem ok_nm (F:Fun K "_law_number" "_law_number" (top 44) f fd) (m_int:mg "int" = none) (m_len:mg "len" = none) (m_str:mg "str" = none):FnOk P w K mg base CX0 1 f fd ["_law_word","_law_least","_law_most"] sp_nm:=by
 refine F.okz sc_nm (fun vs H Q E h=>?_) (fun cdv A outer s H vs Q E hr h=>?_)
 · obtain ⟨z,lo,hi,rfl,_⟩:=h;rfl
 obtain ⟨z,lo,hi,rfl,hz,ha,q⟩:=h
 have nd:=sc_nm.nd
 have hu:=hr.units
 have sl:z.length≤sizeLine:=Nat.le_trans hz (by rw [sizeLine_eq];decide)
 have hsz:z.cps.toList.length=z.length:=Array.length_toList
 have no:¬ isNum z.cps.toList→∀ H',Same H H'→Q .non H':=fun h H' y=>by
  have:=q H' y
  rw [show nmo lo hi z=none from if_neg fun hh=>h hh.1] at this
  exact this
 refine ⟨_,(zss_cons (zs_if (ZW.zt (zw_or (zt_not (zt_chain op_ltP op_ltP ze_int (zcb_lenT rfl m_len (za_cons (zn 0) za_nil) rfl rfl) ze_int)) (zw_or1 (zt_cmpP (op_neD hu) (ze_comp ["_law_sign"] [] rfl ⟨rfl,by decide +kernel,by decide +kernel,rfl,rfl⟩ (zi_str (zn 0)) kpg_name (fun _ _ _ _=>zg_name (i:=0) (show List.Nodup (["_law_sign"]:List Str) by decide +kernel) rfl (Or.inl rfl)) (fun _ _ _ _=>(zif_one (zt_cmpP op_notInT (zn 0) ze_str (by with_unfolding_all rfl)))) (fun _ _ _ _=>(zn 0))) (ze_lst za_nil) (nomark _))))) (zss_one (zs_ret ze_non)) zss_nil)
  (zss_cons (zs_set (i:=3) nd rfl (Or.inl rfl) (zcb_intT rfl m_int (za_cons (zn 0) za_nil) rfl rfl))
  (zss_one (zs_ret (ze_ifExp (ZW.zt (zw_and (zt_cmpP (op_eqD hu) (zcb_str rfl m_str (za_cons (zn 3) za_nil) rfl rfl) (zn 0) (nomark _)) (zw_and1 (zt_chain op_leP op_leP (zn 1) (zn 3) (zn 2))))) (zn 3) ze_non))))),?_⟩
 refine ⟨sl,?_⟩
 refine ⟨_,rfl,?_⟩
 by_cases h0:(0:Int)<(z.length:Int)
 case neg=>
  rw [decide_eq_false h0,if_neg (by decide)]
  refine ⟨_,rfl,?_⟩
  exact no (fun h=>by have:=h.1.1;omega) H (Same.refl H)
 rw [decide_eq_true h0,if_pos rfl]
 refine ⟨_,rfl,?_⟩
 by_cases h7:(z.length:Int)<7
 case neg=>
  rw [decide_eq_false h7]
  exact no (fun h=>by have:=h.1.2;omega) H (Same.refl H)
 rw [decide_eq_true h7]
 refine cmp_str (fun i zs H'=>H'=H∧zs=(odd z i).map fun c=>V.str ⟨#[c]⟩) ⟨rfl,rfl⟩ ?_ ?_
 · rintro i c zs H' hx ⟨rfl,rfl⟩
   have hi:=(Array.getElem?_eq_some_iff.mp hx).1
   have hi':z.cps.size=z.length:=rfl
   refine ⟨by rw [List.length_map];unfold odd;exact Nat.lt_of_le_of_lt (List.length_filter_le _ _) (by rw [List.length_take];exact small1000 (by omega)),?_⟩
   rw [odd_succ hx]
   show if (!inT ⟨#[c]⟩ (Str.ofString "0123456789"))=true then _ else _
   rw [fig_is]
   by_cases hc:48≤c∧c≤57
   · rw [decide_eq_true hc,if_neg (by decide)]
     exact ⟨rfl,rfl⟩
   · rw [decide_eq_false hc,if_pos (by decide)]
     refine ⟨rfl,?_⟩
     rw [if_neg (by decide),List.map_append]
     rfl
 · rintro zs H' ⟨rfl,rfl⟩ D hD
   have yD:=Same.new hD (.lst ((odd z z.cps.size).map fun c=>V.str ⟨#[c]⟩))
   refine ⟨Nat.zero_le _,fun d hd=>?_⟩
   have yd:=Same.new hd (.lst [])
   have ho:∀ c∈odd z z.cps.size,c<128:=fun c hc=>ha c (List.mem_of_mem_take (List.mem_filter.mp hc).1)
   refine ⟨_,_,.lst (yd _ _ upd_same) (dat_signs _),.lst (xs:=[]) upd_same .nil,shaped_signs ho,shaped_l0,?_⟩
   have y2:=yD.trans yd
   generalize upd (upd H' D (.lst ((odd z z.cps.size).map fun c=>V.str ⟨#[c]⟩))) d (.lst [])=H2 at y2
   show if (!PyData.eqv (.list ((odd z z.cps.size).map fun c=>PyData.str ⟨#[c]⟩)) (.list []))=true then _ else _
   rw [eqv_list_nil]
   by_cases hd:∀ c∈z.cps.toList,48≤c∧c≤57
   case neg=>
    have hne:odd z z.cps.size≠[]:=fun e=>hd (odd_nil.mp e)
    rw [show ((odd z z.cps.size).map fun c=>PyData.str ⟨#[c]⟩).isEmpty=false by
     cases e:odd z z.cps.size with
     | nil=>exact absurd e hne
     | cons _ _=>rfl]
    exact no (fun h=>hd h.2.1) H2 y2
   rw [odd_nil.mpr hd]
   obtain ⟨er,ev⟩:=reads (z:=z) (by omega) (by omega) hd
   have nis:=num_is (z:=z) (by omega) (by omega) hd
   refine ⟨_,er,by omega,?_⟩
   refine ⟨log_small (by omega) (by omega),?_⟩
   have q2:=q H2 y2
   unfold nmo at q2
   by_cases hn:isNum z.cps.toList
   case neg=>
    rw [if_neg fun hh=>hn hh.1] at q2
    refine iteD (fun c=>absurd (nis.mp (V.str.inj c)) hn) (fun _=>?_)
    exact q2
   refine iteD (fun _=>?_) (fun c=>absurd (congrArg V.str (nis.mpr hn)) c)
   refine ⟨_,rfl,?_⟩
   by_cases h1:lo≤((val z.cps.toList:Nat):Int)
   case neg=>
    rw [decide_eq_false h1,if_neg (by decide)]
    refine ⟨_,rfl,?_⟩
    rw [if_neg fun hh=>h1 hh.2.1] at q2
    exact q2
   rw [decide_eq_true h1,if_pos rfl]
   refine ⟨_,rfl,?_⟩
   by_cases h2:((val z.cps.toList:Nat):Int)≤hi
   case neg=>
    rw [decide_eq_false h2]
    rw [if_neg fun hh=>h2 hh.2.2] at q2
    exact q2
   rw [decide_eq_true h2]
   rw [if_pos ⟨hn,h1,h2⟩] at q2
   exact q2
end
theorem eqv_ints:∀ (as bs:List Int),PyData.eqvAll (as.map PyData.int) (bs.map PyData.int)=decide (as=bs)
 | [],[]=>by simp [PyData.eqvAll]
 | [],b::bs=>by simp [PyData.eqvAll]
 | a::as,[]=>by simp [PyData.eqvAll]
 | a::as,b::bs=>by
   have ih:=eqv_ints as bs
   simp only [List.map_cons,PyData.eqvAll,ih,PyData.eqv]
   by_cases h:a=b
   · subst h
     simp
   · simp [h]
theorem eqv_li (as bs:List Int):PyData.eqv (.list (as.map PyData.int)) (.list (bs.map PyData.int))=decide (as=bs):=by
 simp only [PyData.eqv]
 exact eqv_ints as bs
structure Bd (z:Str):Prop where
 len:z.length≤900
 asc:∀ c∈z.cps.toList,c<128
 plus:z.cps.toList.count 43≤60
 rows:z.cps.toList.count 10≤60
theorem jl_sub (c:Nat) {x:List Nat} {d:Nat} (hd:d∈x):∀ {xs:List (List Nat)},x∈xs→d∈jl c xs
 | [y],h=>by rw [List.mem_singleton.mp h] at hd;exact hd
 | y::u::r,h=>by
   show d∈y++c::jl c (u::r)
   rcases List.mem_cons.mp h with rfl | h
   · exact List.mem_append_left _ hd
   · exact List.mem_append_right _ (List.mem_cons_of_mem _ (jl_sub c hd h))
theorem cut_sub (z:Str) (c:Nat):∀ y∈Txt.split z ⟨#[c]⟩,∀ d∈y.cps.toList,d∈z.cps.toList:=fun y hy d hd=>by
 have e:=glue_cut z c
 rw [show Txt.join ⟨#[c]⟩ (Txt.split z ⟨#[c]⟩)=Str.join ⟨#[c]⟩ (Txt.split z ⟨#[c]⟩) from StrLaws.glued_eq_join _ _] at e
 have e2:=congrArg (fun s:Str=>s.cps.toList) e
 rw [M67.join_list c] at e2
 rw [← e2]
 exact jl_sub c hd (List.mem_map.mpr ⟨y,hy,rfl⟩)
theorem flat_ovn (os:List (Option Int)):(os.map ovn).all flatV=true:=by
 rw [List.all_map,List.all_eq_true]
 intro o _
 cases o <;> rfl
theorem in_ovn:∀ os:List (Option Int),inV .non (os.map ovn)=decide (none∈os)
 | []=>rfl
 | o::r=>by
   show (eqV (ovn o) .non||inV .non (r.map ovn))=_
   rw [in_ovn r]
   cases o with
   | none=>simp [ovn,eqV]
   | some n=>simp [ovn,eqV]
theorem all_some {lo hi:Int}:∀ {ws:List Str},none∉ws.map (nmo lo hi)→∃ ns:List Int,ws=ns.map nt∧(ws.map (nmo lo hi)).map ovn=ns.map V.int∧∀ n∈ns,(0≤n∧n<1000000)∧lo≤n∧n≤hi
 | [],_=>⟨[],rfl,rfl,fun n hn=>(nomatch hn)⟩
 | z::r,h=>by
   rw [List.map_cons] at h
   have h1:none≠nmo lo hi z:=fun e=>h (List.mem_cons.mpr (.inl e))
   have h2:none∉r.map (nmo lo hi):=fun e=>h (List.mem_cons_of_mem _ e)
   obtain ⟨ns,rfl,e2,hn⟩:=all_some h2
   cases e:nmo lo hi z with
   | none=>exact absurd e.symm h1
   | some n=>
     obtain ⟨rfl,hh⟩:=nmo_some e
     refine ⟨n::ns,rfl,?_,fun m hm=>?_⟩
     · rw [List.map_cons,List.map_cons,e,e2]
       rfl
     · rcases List.mem_cons.mp hm with rfl | hm
       · exact hh
       · exact hn m hm
def rw1 (y:Str):Int:=if ∀ c∈y.cps.toList,c=35 then (y.length:Int) else 0
theorem rw1_bar {m:Int} (h:1≤m):rw1 (bar m)=m:=by
 unfold rw1
 rw [if_pos (fun c hc=>by rw [bar_list] at hc;exact List.eq_of_mem_replicate hc),bar_len]
 omega
theorem emp_len {y:Str}:y=Str.ofString ""↔y.length=0:=by
 have e0:(Str.ofString "").length=0:=by decide +kernel
 have e1:(Str.ofString "").cps.toList=[]:=by decide +kernel
 refine ⟨fun h=>by rw [h,e0],fun h=>str_ext ?_⟩
 rw [e1]
 exact List.length_eq_zero_iff.mp (by rw [Array.length_toList];exact h)
theorem flat_ints (ns:List Int):(ns.map V.int).all flatV=true:=by
 rw [List.all_map,List.all_eq_true]
 intro o _
 rfl
theorem in_ints (p:Int) (ns:List Int):inV (.int p) (ns.map V.int)=decide (p∈ns):=by
 unfold inV
 rw [List.any_map]
 induction ns with
 | nil=>rfl
 | cons n r ih=>
   rw [List.any_cons,ih]
   show (n == p||decide (p∈r))=_
   by_cases h:n=p
   · subst h;simp
   · have:(n == p)=false:=by simpa using h
     rw [this,Bool.false_or]
     have h':¬ p=n:=fun e=>h e.symm
     simp [h']
section
variable {P:Program} {w:World} {K:PySem.W.Frag} {mg:Str→Option Value} {base:Heap} {f:Addr} {fd:FuncData}
def sp_dw (wy:Int):Sp:=fun vs H Q _=>∃ z:Str,vs=[.str z]∧Bd z∧Due wy z Q H
theorem sc_pd:FnScope ["_law_text_here","_law_parts"] ["_law_text_here"] (defScope (top 45)):=⟨rfl,rfl,rfl,by decide +kernel,rfl,by decide +kernel,by decide +kernel⟩
theorem ok_pd (F:Fun K "_law_parted" "_law_parted" (top 45) f fd) (m_sorted:mg "sorted" = none) (m_tuple:mg "tuple" = none) (F_law_number:FnA P w K mg base "_law_number" 1 ["_law_word","_law_least","_law_most"] sp_nm):FnOk P w K mg base CX0 2 f fd ["_law_text_here"] (sp_dw 0):=by
 refine F.okz sc_pd (fun vs H Q E h=>?_) (fun cdv A outer s H vs Q E hr h=>?_)
 · obtain ⟨z,rfl,_⟩:=h;rfl
 obtain ⟨z,rfl,hb,q1,q0⟩:=h
 have nd:=sc_pd.nd
 have hu:=hr.units
 refine ⟨_,(zss_cons (zs_if (zt_cmpP (op_eqD hu) (zn 0) ze_str (nomark _)) (zss_one (zs_ret (ze_lst (za_cons (ze_tup za_nil) za_nil)))) zss_nil)
  (zss_cons (zs_setcomp (i:=1) ["_law_word"] [] rfl nd rfl (Or.inl rfl) ⟨rfl,by decide +kernel,by decide +kernel,rfl,rfl⟩ (zi_list (zm_split (zn 0) (za_cons ze_str za_nil))) kpg_name (fun _ _ _ _=>zg_name (i:=0) (show List.Nodup (["_law_word"]:List Str) by decide +kernel) rfl (Or.inl rfl)) (fun _ _ _ _=>zif_nil) (fun _ _ _ _=>(ze_fn F_law_number hr (by decide) rfl (za_cons (zn 0) (za_cons ze_int (za_cons ze_int za_nil))))))
  (zss_one (zs_ret (ze_ifExp (ZW.zt (zw_and (zt_cmpP op_notIn_seq ze_non (zn 1) (by with_unfolding_all rfl)) (zw_and1 (zt_cmpP (op_eqD hu) (zn 1) (zcb_sortQ rfl m_sorted (za_cons (zn 1) za_nil) rfl) (nomark _))))) (ze_lst (za_cons (zcb_tuple rfl m_tuple (za_cons (zn 1) za_nil) rfl rfl) za_nil)) ze_str))))),?_⟩
 have hlen:=hb.len
 refine iteD (fun c=>?_) (fun c=>?_)
 · have ez:=V.str.inj c
   refine ⟨Nat.zero_le _,fun d hd=>?_⟩
   have yd:=Same.new hd (.tup [])
   refine ⟨by show 1≤sizeLine;decide,fun p hp=>?_⟩
   have yp:=Same.new hp (.lst [V.ref d])
   exact q1 (.prt []) rfl ⟨fun n hn=>(nomatch hn),⟨fun n hn=>(nomatch hn),.nil⟩,by decide⟩ (by rw [ez];rfl) p d _ (yd.trans yp) upd_same (yp _ _ upd_same)
 have nz:z≠Str.ofString "-":=fun e=>c (by rw [e])
 have cl:=cut_len z 43
 have cm:=cut_many z 43
 have cs:=cut_sub z 43
 rw [← M71.plus_is] at cl cm cs
 have hp43:=hb.plus
 refine ⟨rfl,by omega,by decide +kernel,fun d hd=>?_⟩
 have back:∀ ms,Num ms→z=shw ms→Txt.split z (Str.ofString "+")=ms.map nt:=fun ms hm e=>by
  have h0:ms≠[]:=fun h=>nz (by rw [e,h];rfl)
  rw [e]
  exact shw_split h0 hm
 have forth:=@shw_back z
 generalize Txt.split z (Str.ofString "+")=ws at cl cm cs back forth
 have yd:=Same.new hd (.lst (ws.map V.str))
 have hd1:upd H d (.lst (ws.map V.str)) d=some (.lst (ws.map V.str)):=upd_same
 generalize upd H d (.lst (ws.map V.str))=H1 at yd hd1
 refine ⟨d,rfl,⟨_,SqL.of hd1⟩,cmp_list (xs:=ws.map V.str) (fun i zs H'=>Same H1 H'∧zs=((ws.take i).map (nmo 1 999999)).map ovn) ⟨Same.refl _,by rw [List.take_zero];rfl⟩ ?_ ?_ ?_⟩
 · rintro i zs H' _ ⟨y,_⟩
   exact SqL.of (y _ _ hd1)
 · rintro i x zs H' hx ⟨y,rfl⟩
   obtain ⟨hi,rfl⟩:=str_at hx
   have hm:=List.getElem_mem hi
   refine ⟨by rw [List.length_map,List.length_map,List.length_take];exact small1000 (by omega),?_⟩
   refine ⟨_,1,999999,rfl,by have:=cl.2 _ hm;omega,fun d hd=>hb.asc d (cs _ hm d hd),fun H2 y2=>⟨y.trans y2,?_⟩⟩
   rw [take_snoc hi,List.map_append,List.map_append]
   rfl
 rintro zs H' ⟨y,rfl⟩ D hD
 rw [List.length_map,List.take_of_length_le (Nat.le_refl _)]
 have yD:=Same.new hD (.lst ((ws.map (nmo 1 999999)).map ovn))
 have hD1:upd H' D (.lst ((ws.map (nmo 1 999999)).map ovn)) D=some (.lst ((ws.map (nmo 1 999999)).map ovn)):=upd_same
 have z1:=(yd.trans y).trans yD
 generalize upd H' D (.lst ((ws.map (nmo 1 999999)).map ovn))=H2 at hD1 z1
 refine ⟨D,_,rfl,.inl (SqL.of hD1),rfl,flat_ovn _,?_⟩
 show if (!inV .non ((ws.map (nmo 1 999999)).map ovn))=true then _ else _
 rw [in_ovn]
 by_cases hn:none∈ws.map (nmo 1 999999)
 · rw [decide_eq_true hn]
   refine q0 (fun t tw tok tz=>?_) _ z1
   cases t with
   | knd k=>cases tw
   | drw ms=>cases tw
   | prt ms=>
     have ew:=back ms tok.1 tz.symm
     rw [ew,List.map_map] at hn
     obtain ⟨m,hm,e⟩:=List.mem_map.mp hn
     have hh:=tok.1 m hm
     have e:nmo 1 999999 (nt m)=none:=e
     rw [nmo_nt (by omega) hh.2,if_pos ⟨hh.1,by omega⟩] at e
     cases e
 rw [decide_eq_false hn]
 refine iteT ?_
 obtain ⟨ns,rfl,ev,hns⟩:=all_some hn
 rw [ev] at hD1
 rw [List.length_map] at cm
 refine ⟨ns,SqL.of hD1,by omega,fun l ns' hl hperm hord=>?_⟩
 have yl:=Same.new hl (.lst (ns'.map V.int))
 refine ⟨_,_,.lst (yl _ _ hD1) (DatAll.ints ns),.lst upd_same (DatAll.ints ns'),shaped_list_ints _,shaped_list_ints _,?_⟩
 have hD2:=yl _ _ hD1
 have z2:=z1.trans yl
 generalize upd H2 l (.lst (ns'.map V.int))=H3 at hD2 z2
 have hord:ns'.Pairwise (·≥·):=hord
 have hN:Num ns:=fun n hn'=>⟨(hns n hn').2.1,(hns n hn').1.2⟩
 show if PyData.eqv (.list (ns.map PyData.int)) (.list (ns'.map PyData.int))=true then _ else _
 rw [eqv_li]
 by_cases he:ns=ns'
 · rw [decide_eq_true he]
   refine iteT ?_
   rw [← he] at hord
   refine ⟨_,.inl (SqL.of hD2),fun r H4 y4 hr4=>?_⟩
   refine ⟨by show 1≤sizeLine;decide,fun p hp=>?_⟩
   have yp:=Same.new hp (.lst [V.ref r])
   exact q1 (.prt ns) rfl ⟨hN,⟨fun n hn'=>(hN n hn').1,hord⟩,by omega⟩ (forth rfl).2 p r _ ((z2.trans y4).trans yp) upd_same (yp _ _ hr4)
 · rw [decide_eq_false he]
   refine q0 (fun t tw tok tz=>he ?_) _ z2
   cases t with
   | knd k=>cases tw
   | drw ms=>cases tw
   | prt ms=>
     have ew:=back ms tok.1 tz.symm
     have em:ms=ns:=nts_inj (fun n hn'=>⟨by have:=(tok.1 n hn').1;omega,(tok.1 n hn').2⟩) (fun n hn'=>(hns n hn').1) ew.symm
     rw [em] at tok
     exact hperm.symm.eq_of_pairwise (le:=(·≥·)) (fun a b _ _ h3 h4=>Int.le_antisymm h4 h3) tok.2.1.2 hord
theorem sc_dn:FnScope ["_law_text_here","_law_rows"] ["_law_text_here"] (defScope (top 47)):=⟨rfl,rfl,rfl,by decide +kernel,rfl,by decide +kernel,by decide +kernel⟩
theorem ok_dn (F:Fun K "_law_drawn" "_law_drawn" (top 47) f fd) (m_len:mg "len" = none) (m_sorted:mg "sorted" = none) (m_tuple:mg "tuple" = none):FnOk P w K mg base CX0 2 f fd ["_law_text_here"] (sp_dw 2):=by
 refine F.okz sc_dn (fun vs H Q E h=>?_) (fun cdv A outer s H vs Q E hr h=>?_)
 · obtain ⟨z,rfl,_⟩:=h;rfl
 obtain ⟨z,rfl,hb,q1,q0⟩:=h
 have nd:=sc_dn.nd
 have hu:=hr.units
 refine ⟨_,(zss_cons (zs_if (zt_cmpP (op_eqD hu) (zn 0) ze_str (nomark _)) (zss_one (zs_ret (ze_lst (za_cons (ze_tup za_nil) za_nil)))) zss_nil)
  (zss_cons (zs_setcomp (i:=1) ["_law_row"] [] rfl nd rfl (Or.inl rfl) ⟨rfl,by decide +kernel,by decide +kernel,rfl,rfl⟩ (zi_list (zm_split (zn 0) (za_cons ze_str za_nil))) kpg_name (fun _ _ _ _=>zg_name (i:=0) (show List.Nodup (["_law_row"]:List Str) by decide +kernel) rfl (Or.inl rfl)) (fun _ _ _ _=>zif_nil) (fun _ _ _ _=>(ze_ifExp (ZW.zt (zw_and (zt_cmpP (op_neD hu) (zn 0) ze_str (nomark _)) (zw_and1 (zt_cmpP (op_eqD hu) (zm_stripC' (zn 0) (za_cons ze_str za_nil) rfl) ze_str (nomark _))))) (zcb_lenT rfl m_len (za_cons (zn 0) za_nil) rfl rfl) ze_int)))
  (zss_one (zs_ret (ze_ifExp (ZW.zt (zw_and (zt_cmpP op_notIn_seq ze_int (zn 1) (by with_unfolding_all rfl)) (zw_and1 (zt_cmpP (op_eqD hu) (zn 1) (zcb_sortQ rfl m_sorted (za_cons (zn 1) za_nil) rfl) (nomark _))))) (ze_lst (za_cons (zcb_tuple rfl m_tuple (za_cons (zn 1) za_nil) rfl rfl) za_nil)) ze_str))))),?_⟩
 have hlen:=hb.len
 have en:Str.ofString "" = dr []:=str_ext (by rw [dr_nil];decide +kernel)
 refine iteD (fun c=>?_) (fun c=>?_)
 · have ez:=V.str.inj c
   refine ⟨Nat.zero_le _,fun d hd=>?_⟩
   have yd:=Same.new hd (.tup [])
   refine ⟨by show 1≤sizeLine;decide,fun p hp=>?_⟩
   have yp:=Same.new hp (.lst [V.ref d])
   exact q1 (.drw []) rfl ⟨⟨fun n hn=>(nomatch hn),.nil⟩,fun n hn=>(nomatch hn),by decide⟩ (by rw [ez,en];rfl) p d _ (yd.trans yp) upd_same (yp _ _ upd_same)
 have nz:z≠dr []:=fun e=>c (by rw [e,en])
 have cl:=cut_len z 10
 have cm:=cut_many z 10
 rw [← nl_is] at cl cm
 have hp10:=hb.rows
 refine ⟨rfl,by omega,by decide +kernel,fun d hd=>?_⟩
 have back:∀ ms,z=dr ms→Txt.split z (Str.ofString "\n")=ms.map bar:=fun ms e=>by
  have h0:ms≠[]:=fun h=>nz (by rw [e,h])
  rw [e]
  exact dr_split h0
 have gl:=@dr_back z
 generalize Txt.split z (Str.ofString "\n")=ws at cl cm back gl
 have yd:=Same.new hd (.lst (ws.map V.str))
 have hd1:upd H d (.lst (ws.map V.str)) d=some (.lst (ws.map V.str)):=upd_same
 generalize upd H d (.lst (ws.map V.str))=H1 at yd hd1
 refine ⟨d,rfl,⟨_,SqL.of hd1⟩,cmp_list (xs:=ws.map V.str) (fun i zs H'=>H'=H1∧zs=((ws.take i).map rw1).map V.int) ⟨rfl,by rw [List.take_zero];rfl⟩ ?_ ?_ ?_⟩
 · rintro i zs H' _ ⟨rfl,_⟩
   exact SqL.of hd1
 · rintro i x zs H' hx ⟨rfl,rfl⟩
   obtain ⟨hi,rfl⟩:=str_at hx
   have hm:=cl.2 _ (List.getElem_mem hi)
   have sl:ws[i].length≤sizeLine:=by rw [sizeLine_eq];omega
   refine ⟨by rw [List.length_map,List.length_map,List.length_take];exact small1000 (by omega),?_⟩
   rw [take_snoc hi,List.map_append,List.map_append]
   generalize ws[i]=y at hm sl
   have fin:∀ n:Int,n=rw1 y→(H'=H'∧((ws.take i).map rw1).map V.int++[V.int n]=((ws.take i).map rw1).map V.int++([y].map rw1).map V.int):=fun n e=>⟨rfl,by rw [e];rfl⟩
   refine iteB (fun c1=>?_) (fun c1=>?_)
   · refine ⟨rfl,sl,?_⟩
     refine iteD (fun c2=>?_) (fun c2=>?_)
     · refine ⟨sl,?_⟩
       refine fin _ ?_
       unfold rw1
       rw [if_pos ((bare_iff y).mp (V.str.inj c2))]
     · refine fin 0 ?_
       unfold rw1
       rw [if_neg fun h=>c2 (congrArg V.str ((bare_iff y).mpr h))]
   · have e1:(!decide (V.str y=V.str (Str.ofString "")))=false:=c1
     have e2:y=Str.ofString "":=by simpa using e1
     refine fin 0 ?_
     unfold rw1
     rw [emp_len.mp e2]
     split <;> rfl
 rintro zs H' ⟨rfl,rfl⟩ D hD
 rw [List.length_map,List.take_of_length_le (Nat.le_refl _)]
 have yD:=Same.new hD (.lst ((ws.map rw1).map V.int))
 have hD1:upd H' D (.lst ((ws.map rw1).map V.int)) D=some (.lst ((ws.map rw1).map V.int)):=upd_same
 have z1:=yd.trans yD
 generalize upd H' D (.lst ((ws.map rw1).map V.int))=H2 at hD1 z1
 have bk:∀ ms,Prt ms→z=dr ms→ws.map rw1=ms:=fun ms hm e=>by
  rw [back ms e,List.map_map]
  exact (List.map_congr_left fun n hn=>rw1_bar (hm.1 n hn)).trans (List.map_id ms)
 refine ⟨D,_,rfl,.inl (SqL.of hD1),rfl,flat_ints _,?_⟩
 show if (!inV (.int 0) ((ws.map rw1).map V.int))=true then _ else _
 rw [in_ints]
 by_cases hn:(0:Int)∈ws.map rw1
 · rw [decide_eq_true hn]
   refine q0 (fun t tw tok tz=>?_) _ z1
   cases t with
   | knd k=>cases tw
   | prt ms=>cases tw
   | drw ms=>
     rw [bk ms tok.1 tz.symm] at hn
     have:=tok.1.1 0 hn
     omega
 rw [decide_eq_false hn]
 refine iteT ?_
 have hrow:∀ y∈ws,(∀ c∈y.cps.toList,c=35)∧rw1 y=(y.length:Int)∧(1:Int)≤y.length:=fun y hy=>by
  have h1:rw1 y≠0:=fun e=>hn (List.mem_map.mpr ⟨y,hy,e⟩)
  unfold rw1 at h1 ⊢
  split at h1
  · rename_i hh
    rw [if_pos hh]
    exact ⟨hh,rfl,by omega⟩
  · exact absurd rfl h1
 have gz:=gl fun y hy=>(hrow y hy).1
 have em:ws.map rw1=ws.map fun y=>(y.length:Int):=List.map_congr_left fun y hy=>(hrow y hy).2.1
 obtain ⟨ns,ens⟩:∃ ns,ns=ws.map rw1:=⟨_,rfl⟩
 rw [← em] at gz
 rw [← ens] at hD1 gz bk
 have hln:ns.length=ws.length:=by rw [ens,List.length_map]
 have hpos:∀ n∈ns,(1:Int)≤n∧n≤2000:=fun n hn'=>by
  rw [ens] at hn'
  obtain ⟨y,hy,rfl⟩:=List.mem_map.mp hn'
  have h1:=hrow y hy
  have h2:=cl.2 y hy
  rw [h1.2.1]
  omega
 refine ⟨ns,SqL.of hD1,by omega,fun l ns' hl hperm hord=>?_⟩
 have yl:=Same.new hl (.lst (ns'.map V.int))
 refine ⟨_,_,.lst (yl _ _ hD1) (DatAll.ints ns),.lst upd_same (DatAll.ints ns'),shaped_list_ints _,shaped_list_ints _,?_⟩
 have hD2:=yl _ _ hD1
 have z2:=z1.trans yl
 generalize upd H2 l (.lst (ns'.map V.int))=H3 at hD2 z2
 have hord:ns'.Pairwise (·≥·):=hord
 show if PyData.eqv (.list (ns.map PyData.int)) (.list (ns'.map PyData.int))=true then _ else _
 rw [eqv_li]
 by_cases he:ns=ns'
 · rw [decide_eq_true he]
   refine iteT ?_
   rw [← he] at hord
   refine ⟨_,.inl (SqL.of hD2),fun r H4 y4 hr4=>?_⟩
   refine ⟨by show 1≤sizeLine;decide,fun p hp=>?_⟩
   have yp:=Same.new hp (.lst [V.ref r])
   exact q1 (.drw ns) rfl ⟨⟨fun n hn'=>(hpos n hn').1,hord⟩,hpos,by omega⟩ gz p r _ ((z2.trans y4).trans yp) upd_same (yp _ _ hr4)
 · rw [decide_eq_false he]
   refine q0 (fun t tw tok tz=>he ?_) _ z2
   cases t with
   | knd k=>cases tw
   | prt ms=>cases tw
   | drw ms=>
     have em2:=bk ms tok.1 tz.symm
     rw [em2] at hperm ⊢
     exact hperm.symm.eq_of_pairwise (le:=(·≥·)) (fun a b _ _ h3 h4=>Int.le_antisymm h4 h3) tok.1.2 hord
end
theorem kw {k:Kd} {wd:Str} {rest:List Str} (h:k.Ok) (e:k.words=wd::rest):((wd=Str.ofString "all"∨wd=Str.ofString "own")∧rest=[])∨((wd=Str.ofString "most"∨wd=Str.ofString "few"∨wd=Str.ofString "off")∧∃ n,rest=[nt n]∧1≤n∧n≤600)∨(wd=Str.ofString "box"∧∃ a b,rest=[nt a,nt b]∧(1≤a∧a≤600)∧1≤b∧b≤600)∨(wd=Str.ofString "times"∧∃ n,rest=[nt n]∧2≤n∧n≤60)∨(wd=Str.ofString "rests"∧∃ m rs,rest=[nt m,Txt.join (Str.ofString ",") (rs.map nt)]∧(Kd.rests m rs).Ok):=by
 cases k with
 | bare w=>
   obtain ⟨rfl,rfl⟩:=List.cons.inj e
   exact .inl ⟨h,rfl⟩
 | one w n=>
   obtain ⟨rfl,rfl⟩:=List.cons.inj e
   rcases h with ⟨h,hn⟩ | ⟨h,hn⟩
   · exact .inr (.inl ⟨h,n,rfl,hn⟩)
   · exact .inr (.inr (.inr (.inl ⟨h,n,rfl,hn⟩)))
 | box a b=>
   obtain ⟨rfl,rfl⟩:=List.cons.inj e
   exact .inr (.inr (.inl ⟨rfl,a,b,rfl,h⟩))
 | rests m rs=>
   obtain ⟨rfl,rfl⟩:=List.cons.inj e
   exact .inr (.inr (.inr (.inr ⟨rfl,m,rs,rfl,h⟩)))
def fiv (v1 v2 v3 v4 v5:V):List (Key×V):=[(.inr (Str.ofString "most"),v1),(.inr (Str.ofString "few"),v2),(.inr (Str.ofString "off"),v3),(.inr (Str.ofString "box"),v4),(.inr (Str.ofString "times"),v5)]
theorem fiv_merge (v1 v2 v3 v4 v5:V):mergeK [] (fiv v1 v2 v3 v4 v5)=fiv v1 v2 v3 v4 v5:=rfl
theorem fiv_is (v1 v2 v3 v4 v5:V) (w:Str):valV (fiv v1 v2 v3 v4 v5) (.inr w)=if w=Str.ofString "most" then some v1 else if w=Str.ofString "few" then some v2 else if w=Str.ofString "off" then some v3 else if w=Str.ofString "box" then some v4 else if w=Str.ofString "times" then some v5 else none:=by
 have key:∀ (a:Str),decide ((Sum.inr a:Key)=.inr w)=decide (w=a):=fun a=>by
  by_cases h:w=a
  · subst h;simp
  · rw [decide_eq_false h,decide_eq_false]
    intro z
    exact h (Sum.inr.inj z).symm
 unfold valV fiv
 simp only [List.find?_cons,key]
 by_cases h1:w=Str.ofString "most"
 · rw [decide_eq_true h1,if_pos h1];rfl
 rw [decide_eq_false h1,if_neg h1]
 by_cases h2:w=Str.ofString "few"
 · rw [decide_eq_true h2,if_pos h2];rfl
 rw [decide_eq_false h2,if_neg h2]
 by_cases h3:w=Str.ofString "off"
 · rw [decide_eq_true h3,if_pos h3];rfl
 rw [decide_eq_false h3,if_neg h3]
 by_cases h4:w=Str.ofString "box"
 · rw [decide_eq_true h4,if_pos h4];rfl
 rw [decide_eq_false h4,if_neg h4]
 by_cases h5:w=Str.ofString "times"
 · rw [decide_eq_true h5,if_pos h5];rfl
 rw [decide_eq_false h5,if_neg h5]
 rfl
def Bnd (wd:Str) (c lo hi:Int):Prop:=((wd=Str.ofString "most"∨wd=Str.ofString "few"∨wd=Str.ofString "off")∧c=1∧lo=1∧hi=600)∨(wd=Str.ofString "box"∧c=2∧lo=1∧hi=600)∨(wd=Str.ofString "times"∧c=1∧lo=2∧hi=60)
theorem rise_of:∀ {rs:List Int},(∀ k (hk:k+1<rs.length),rs[k]<rs[k+1])→rs.Pairwise (· < ·)
 | [],_=>.nil
 | [x],_=>List.pairwise_singleton _ _
 | x::y::r,h=>by
   have ih:=rise_of (rs:=y::r) fun j hj=>h (j+1) (by show j+1+1<(y::r).length+1;omega)
   have h0:x<y:=h 0 (by show 0+1<r.length+1+1;omega)
   refine List.pairwise_cons.mpr ⟨fun z hz=>?_,ih⟩
   rcases List.mem_cons.mp hz with rfl | hz
   · exact h0
   · have:=(List.pairwise_cons.mp ih).1 z hz
     omega
def ups (rs:List Int) (i:Nat):List Bool:=(List.range i).map fun k=>decide (rs.getD k 0<rs.getD (k+1) 0)
theorem ups_all {rs:List Int}:(ups rs (rs.length - 1)).all id=true↔rs.Pairwise (· < ·):=by
 unfold ups
 rw [List.all_map,List.all_eq_true]
 constructor
 · intro h
   refine rise_of fun k hk=>?_
   have:=h k (List.mem_range.mpr (by omega))
   have:=of_decide_eq_true this
   simpa [List.getD_eq_getElem?_getD,List.getElem?_eq_getElem hk,List.getElem?_eq_getElem (show k<rs.length by omega)] using this
 · intro h k hk
   have hk':=List.mem_range.mp hk
   have:=List.pairwise_iff_getElem.mp h k (k+1) (by omega) (by omega) (by omega)
   refine decide_eq_true ?_
   simpa [List.getD_eq_getElem?_getD,List.getElem?_eq_getElem (show k+1<rs.length by omega),List.getElem?_eq_getElem (show k<rs.length by omega)] using this
section
variable {P:Program} {w:World} {K:PySem.W.Frag} {mg:Str→Option Value} {base:Heap} {f:Addr} {fd:FuncData}
theorem sc_kd:FnScope ["_law_text_here","_law_words","_law_m","_law_some","_law_bounds","_law_numbers"] ["_law_text_here"] (defScope (top 46)):=⟨rfl,rfl,rfl,by decide +kernel,rfl,by decide +kernel,by decide +kernel⟩
theorem ok_kd (F:Fun K "_law_kinded" "_law_kinded" (top 46) f fd) (m_all:mg "all" = none) (m_len:mg "len" = none) (m_range:mg "range" = none) (m_tuple:mg "tuple" = none) (F_law_number:FnA P w K mg base "_law_number" 1 ["_law_word","_law_least","_law_most"] sp_nm):FnOk P w K mg base CX0 2 f fd ["_law_text_here"] (sp_dw 1):=by
 refine F.okz sc_kd (fun vs H Q E h=>?_) (fun cdv A outer s H vs Q E hr h=>?_)
 · obtain ⟨z,rfl,_⟩:=h;rfl
 obtain ⟨z,rfl,hb,q1,q0⟩:=h
 have nd:=sc_kd.nd
 have hu:=hr.units
 have hu1:(A.deeper (PyProof.Rows.envOfC "_law_kinded" (defScope (top 46)) s.heap.objs.size f cdv)).units+1<cLine:=by have:=hu;omega
 refine ⟨_,(zss_cons (zs_set (i:=1) nd rfl (Or.inr rfl) (zm_split (zn 0) (za_cons ze_str za_nil)))
  (zss_cons (zs_if (zt_cmpP op_in_seq (ze_ix ix_P (zn 1) ze_int (fun _ _=>rfl)) (ze_tup (za_cons ze_str (za_cons ze_str za_nil))) (by with_unfolding_all rfl)) (zss_one (zs_ret (ze_ifExp (zt_cmpP (op_eqD hu) (zcb_len rfl m_len (za_cons (zn 1) za_nil) rfl rfl) ze_int (nomark _)) (ze_lst (za_cons (ze_tup (za_cons (ze_ix ix_P (zn 1) ze_int (fun _ _=>rfl)) za_nil)) za_nil)) ze_str))) zss_nil)
  (zss_cons (zs_if (ZW.zt (zw_and (zt_cmpP (op_eqD hu) (ze_ix ix_P (zn 1) ze_int (fun _ _=>rfl)) ze_str (nomark _)) (zw_and1 (zt_cmpP (op_eqD hu) (zcb_len rfl m_len (za_cons (zn 1) za_nil) rfl rfl) ze_int (nomark _))))) (zss_cons (zs_set (i:=2) nd rfl (Or.inr rfl) (ze_fn F_law_number hr (by decide) rfl (za_cons (ze_ix ix_P (zn 1) ze_int (fun _ _=>rfl)) (za_cons ze_int (za_cons ze_int za_nil)))))
  (zss_cons (zs_set (i:=3) nd rfl (Or.inr rfl) (ze_comp ["_law_word"] [("_law_m",2)] rfl ⟨rfl,by decide +kernel,by decide +kernel,rfl,rfl⟩ (zi_list (zm_split (ze_ix ix_P (zn 1) ze_int (fun _ _=>rfl)) (za_cons ze_str za_nil))) kpg_name (fun _ _ _ _=>zg_name (i:=0) (show List.Nodup (["_law_word","_law_m"]:List Str) by decide +kernel) rfl (Or.inl rfl)) (fun _ _ _ _=>zif_nil) (fun _ _ _ _=>(ze_fn F_law_number hr (by decide) rfl (za_cons (zn 0) (za_cons ze_int (za_cons (ze_op op_subP (ze_orN (zn 1) (ze_one ze_int)) ze_int) za_nil)))))))
  (zss_cons (zs_if (ZW.zt (zw_or (zt_cmpP op_isP (zn 2) ze_non (nomark _)) (zw_or (zt_cmpP op_in_seq ze_non (zn 3) (by with_unfolding_all rfl)) (zw_or1 (zt_not (zt_valP (zcb_all rfl rfl m_all (za_cons (ze_comp ["_law_k"] [("_law_some",3)] rfl ⟨rfl,by decide +kernel,by decide +kernel,rfl,rfl⟩ (zi_range1 rfl m_range (za_cons (ze_op op_subP (zcb_len rfl m_len (za_cons (zn 3) za_nil) rfl rfl) ze_int) za_nil)) kpg_name (fun _ _ _ _=>zg_name (i:=0) (show List.Nodup (["_law_k","_law_some"]:List Str) by decide +kernel) rfl (Or.inl rfl)) (fun _ _ _ _=>zif_nil) (fun _ _ _ _=>(ze_cmpR op_ltP (ze_ix (ix_P' rfl) (zn 1) (zn 0) (fun _ _=>rfl)) (ze_ix (ix_P' rfl) (zn 1) (ze_op op_addP (zn 0) ze_int) (fun _ _=>rfl)) (nomark _)))) za_nil) rfl rfl))))))) (zss_one (zs_ret ze_str)) zss_nil)
  (zss_one (zs_ret (ze_lst (za_cons (ze_tup (za_cons ze_str (za_cons (zn 2) (za_cons (zcb_tuple rfl m_tuple (za_cons (zn 3) za_nil) rfl rfl) za_nil)))) za_nil))))))) zss_nil)
  (zss_cons (zs_set (i:=4) nd rfl (Or.inr rfl) (ze_disp (zps_cons ze_str (ze_tup (za_cons ze_int (za_cons ze_int (za_cons ze_int za_nil)))) (zps_cons ze_str (ze_tup (za_cons ze_int (za_cons ze_int (za_cons ze_int za_nil)))) (zps_cons ze_str (ze_tup (za_cons ze_int (za_cons ze_int (za_cons ze_int za_nil)))) (zps_cons ze_str (ze_tup (za_cons ze_int (za_cons ze_int (za_cons ze_int za_nil)))) (zps_cons ze_str (ze_tup (za_cons ze_int (za_cons ze_int (za_cons ze_int za_nil)))) zps_nil))))) rfl rfl (by decide) (by decide)))
  (zss_cons (zs_if (ZW.zt (zw_or (zt_cmp (zc_dnotin hu1 (ze_ix ix_P (zn 1) ze_int (fun _ _=>rfl)) (zn 4)) (by with_unfolding_all rfl)) (zw_or1 (zt_cmpP (op_neD hu) (zcb_len rfl m_len (za_cons (zn 1) za_nil) rfl rfl) (ze_op op_addP ze_int (ze_ix ix_P (ze_dget hu1 (zn 4) (ze_ix ix_P (zn 1) ze_int (fun _ _=>rfl)) (fun _ _=>rfl)) ze_int (fun _ _=>rfl))) (nomark _))))) (zss_one (zs_ret ze_str)) zss_nil)
  (zss_cons (zs_setcomp (i:=5) ["_law_word"] [("_law_bounds",4),("_law_words",1)] rfl nd rfl (Or.inl rfl) ⟨rfl,by decide +kernel,by decide +kernel,rfl,rfl⟩ (zi_list (ze_slice sl_P (zn 1) (zo_some ze_int) zo_none)) kpg_name (fun _ _ _ _=>zg_name (i:=0) (show List.Nodup (["_law_word","_law_bounds","_law_words"]:List Str) by decide +kernel) rfl (Or.inl rfl)) (fun _ _ _ _=>zif_nil) (fun _ _ _ _=>(ze_fn F_law_number hr (by decide) rfl (za_cons (zn 0) (za_cons (ze_ix (ix_P' rfl) (ze_dget hu1 (zn 1) (ze_ix (ix_P' rfl) (zn 2) ze_int (fun _ _=>rfl)) (fun _ _=>rfl)) ze_int (fun _ _=>rfl)) (za_cons (ze_ix (ix_P' rfl) (ze_dget hu1 (zn 1) (ze_ix (ix_P' rfl) (zn 2) ze_int (fun _ _=>rfl)) (fun _ _=>rfl)) ze_int (fun _ _=>rfl)) za_nil))))))
  (zss_one (zs_ret (ze_ifExp (zt_cmpP op_notIn_seq ze_non (zn 5) (by with_unfolding_all rfl)) (ze_lst (za_cons (zcb_tuple rfl m_tuple (za_cons (ze_op op_addP (ze_slice sl_P (zn 1) zo_none (zo_some ze_int)) (zn 5)) za_nil) rfl rfl) za_nil)) ze_str))))))))),?_⟩
 have hlen:=hb.len
 have cl:=cut_len z 32
 have cn:=cut_ne z 32
 have cs:=cut_sub z 32
 rw [← M68.sp_is] at cl cn cs
 refine ⟨rfl,by omega,by decide +kernel,fun d hd=>?_⟩
 have Q0:(∀ k:Kd,k.Ok→k.words≠Txt.split z (Str.ofString " "))→∀ H',Same H H'→Q (.str (Str.ofString "none")) H':=fun h=>q0 fun t tw tok tz=>by
  cases t with
  | prt ns=>cases tw
  | drw ns=>cases tw
  | knd k=>exact h k tok (by rw [← show k.text=z from tz];exact (text_split tok).symm)
 have Q1:∀ k:Kd,k.Ok→k.words=Txt.split z (Str.ofString " ")→∀ p r H',Same H H'→H' p=some (.lst [.ref r])→KdAt H' r k→Q (.ref p) H':=fun k hk e p r H' y h1 h2=>q1 (.knd k) rfl hk (words_back e.symm) p r H' y h1 h2
 generalize Txt.split z (Str.ofString " ")=ws at cl cn cs Q0 Q1
 obtain ⟨wd,rest,ew⟩:∃ wd rest,ws=wd::rest:=by
  cases ws with
  | nil=>exact absurd rfl cn
  | cons x r=>exact ⟨x,r,rfl⟩
 have hlr:ws.length=rest.length+1:=by rw [ew];rfl
 have yd:=Same.new hd (.lst (ws.map V.str))
 have hd1:upd H d (.lst (ws.map V.str)) d=some (.lst (ws.map V.str)):=upd_same
 generalize upd H d (.lst (ws.map V.str))=H1 at yd hd1
 refine ⟨_,.inl (SqL.of hd1),.str wd,ws_at ew,?_⟩
 refine ⟨by show 2≤sizeLine;decide,fun d2 hd2=>?_⟩
 have y2:=yd.trans (Same.new hd2 (.tup [V.str (Str.ofString "all"),.str (Str.ofString "own")]))
 have hd3:=(Same.new hd2 (.tup [V.str (Str.ofString "all"),.str (Str.ofString "own")])) _ _ hd1
 refine ⟨_,_,rfl,.inr (SqT.of upd_same),rfl,rfl,?_⟩
 generalize upd H1 d2 (.tup [V.str (Str.ofString "all"),.str (Str.ofString "own")])=H2 at y2 hd3
 refine iteB (fun c=>?_) (fun c1=>?_)
 · have hw:=in2.1 (show inV (.str wd) [.str (Str.ofString "all"),.str (Str.ofString "own")]=true from c)
   refine ⟨_,.inl (SqL.of hd3),?_⟩
   refine iteD (fun c=>?_) (fun c=>?_)
   · have er:rest=[]:=by
      have:=V.int.inj c
      rw [List.length_map,hlr] at this
      exact List.length_eq_zero_iff.mp (by omega)
     refine ⟨_,.inl (SqL.of hd3),.str wd,ws_at ew,?_⟩
     refine ⟨by show 1≤sizeLine;decide,fun r hr3=>?_⟩
     have yr:=Same.new hr3 (.tup [V.str wd])
     refine ⟨by show 1≤sizeLine;decide,fun p hp=>?_⟩
     have yp:=Same.new hp (.lst [V.ref r])
     exact Q1 (.bare wd) hw (by rw [ew,er];rfl) p r _ ((y2.trans yr).trans yp) upd_same (yp _ _ upd_same)
   · refine Q0 (fun k hk e=>c ?_) _ y2
     rcases kw hk (e.trans ew) with ⟨_,er⟩ | ⟨h,_⟩ | ⟨h,_⟩ | ⟨h,_⟩ | ⟨h,_⟩
     · rw [List.length_map,hlr,er];rfl
     · rcases hw with rfl | rfl <;> rcases h with h | h | h <;> exact absurd h (by decide +kernel)
     · rcases hw with rfl | rfl <;> exact absurd h (by decide +kernel)
     · rcases hw with rfl | rfl <;> exact absurd h (by decide +kernel)
     · rcases hw with rfl | rfl <;> exact absurd h (by decide +kernel)
 have n1:=in2.2 (show inV (.str wd) [.str (Str.ofString "all"),.str (Str.ofString "own")]=false from c1)
 refine ⟨_,.inl (SqL.of hd3),.str wd,ws_at ew,?_⟩
 refine iteD (fun c=>?a) (fun c=>?b)
 case' a=>
  refine ⟨_,.inl (SqL.of hd3),?_⟩
  refine iteD (fun c2=>?c) (fun c2=>?d)
 case' b=>have hr2:wd=Str.ofString "rests"→rest.length≠2:=fun h _=>c (by rw [h])
 case' d=>have hr2:wd=Str.ofString "rests"→rest.length≠2:=fun _ h=>c2 (by rw [List.length_map,hlr,h];rfl)
 case c=>
  have hw:=V.str.inj c
  have hl2:rest.length=2:=by
   have:=V.int.inj c2
   rw [List.length_map,hlr] at this
   omega
  obtain ⟨x,y,er⟩:∃ x y,rest=[x,y]:=by
   rcases rest with _ | ⟨x,_ | ⟨y,_ | ⟨u,r⟩⟩⟩
   · cases hl2
   · cases hl2
   · exact ⟨x,y,rfl⟩
   · have:r.length+1+1+1=2:=hl2
     omega
  have ew2:ws=[Str.ofString "rests",x,y]:=by rw [ew,hw,er]
  have hxm:x∈ws:=by rw [ew2];simp
  have hym:y∈ws:=by rw [ew2];simp
  have hx:=cl.2 x hxm
  have hyl:=cl.2 y hym
  have q0r:(∀ m rs,(Kd.rests m rs).Ok→x=nt m→y≠Txt.join (Str.ofString ",") (rs.map nt))→∀ H',Same H H'→Q (.str (Str.ofString "none")) H':=fun h=>Q0 fun k hk e=>by
   rcases kw hk (e.trans ew) with ⟨h1,_⟩ | ⟨h1,_⟩ | ⟨h1,_⟩ | ⟨h1,_⟩ | ⟨_,m,rs,er2,ok⟩
   · rcases h1 with h1 | h1
     · exact n1.1 h1
     · exact n1.2 h1
   · rw [hw] at h1;rcases h1 with h1 | h1 | h1 <;> exact absurd h1 (by decide +kernel)
   · rw [hw] at h1;exact absurd h1 (by decide +kernel)
   · rw [hw] at h1;exact absurd h1 (by decide +kernel)
   · rw [er] at er2
     exact h m rs ok (List.cons.inj er2).1 (List.cons.inj (List.cons.inj er2).2).1
  refine ⟨_,.inl (SqL.of hd3),.str x,by rw [ew2];rfl,?_⟩
  refine ⟨x,2,60,rfl,by omega,fun d hd=>hb.asc d (cs _ hxm d hd),fun H3 y3=>?_⟩
  have z3:=y2.trans y3
  refine ⟨_,.inl (SqL.of (y3 _ _ hd3)),.str y,by rw [ew2];rfl,?_⟩
  have cl5:=cut_len y 44
  have cs5:=cut_sub y 44
  have cn5:=cut_ne y 44
  rw [← comma_is] at cl5 cs5 cn5
  refine ⟨rfl,by omega,by decide +kernel,fun d5 hd5=>?_⟩
  have y5:=Same.new hd5 (.lst ((Txt.split y (Str.ofString ",")).map V.str))
  have backR:∀ rs:List Int,rs≠[]→(∀ r∈rs,(0:Int)≤r)→y=Txt.join (Str.ofString ",") (rs.map nt)→Txt.split y (Str.ofString ",")=rs.map nt:=fun rs h0 h1 e=>by rw [e];exact rs_split h0 h1
  have forthR:=@rs_back y
  have hg5:upd H3 d5 (.lst ((Txt.split y (Str.ofString ",")).map V.str)) d5=some (.lst ((Txt.split y (Str.ofString ",")).map V.str)):=upd_same
  generalize Txt.split y (Str.ofString ",")=us at cl5 cs5 cn5 y5 hg5 backR forthR
  have z5:=z3.trans y5
  have hd5':=y5 _ _ (y3 _ _ hd3)
  generalize upd H3 d5 (.lst (us.map V.str))=H5 at hg5 z5 hd5'
  obtain ⟨mm,emm⟩:∃ mm:Int,mm=(nmo 2 60 x).getD 0:=⟨_,rfl⟩
  refine ⟨d5,rfl,⟨_,SqL.of hg5⟩,cmp_list (xs:=us.map V.str) (fun i zs H'=>Same H5 H'∧zs=((us.take i).map (nmo 0 (mm - 1))).map ovn) ⟨Same.refl _,by rw [List.take_zero];rfl⟩ ?_ ?_ ?_⟩
  · rintro i zs H' _ ⟨y',_⟩
    exact SqL.of (y' _ _ hg5)
  · rintro i x' zs H' hx' ⟨y',rfl⟩
    obtain ⟨hi,rfl⟩:=str_at hx'
    have hm:=List.getElem_mem hi
    refine ⟨by rw [List.length_map,List.length_map,List.length_take];exact small1000 (by omega),?_⟩
    have go:sp_nm [.str us[i],.int 0,.int (mm - 1)] H' (fun v H2=>Same H5 H2∧((us.take i).map (nmo 0 (mm - 1))).map ovn++[v]=((us.take (i+1)).map (nmo 0 (mm - 1))).map ovn) E0:=
     ⟨_,0,mm - 1,rfl,by have:=cl5.2 _ hm;omega,fun d hd=>hb.asc d (cs _ hym d (cs5 _ hm d hd)),fun H2 y2=>⟨y'.trans y2,by
      rw [take_snoc hi,List.map_append,List.map_append]
      rfl⟩⟩
    cases e:nmo 2 60 x with
    | none=>
      rw [e] at emm
      have:mm=0:=emm
      subst this
      exact go
    | some m=>
      rw [e] at emm
      have e2:mm=m:=emm
      subst e2
      have hm2:=(nmo_some e).2.2
      show if mm=0 then _ else _
      rw [if_neg (by omega)]
      exact go
  rintro zs H' ⟨y',rfl⟩ D hD
  rw [List.length_map,List.take_of_length_le (Nat.le_refl _)]
  have yD:=Same.new hD (.lst ((us.map (nmo 0 (mm - 1))).map ovn))
  have hD1:upd H' D (.lst ((us.map (nmo 0 (mm - 1))).map ovn)) D=some (.lst ((us.map (nmo 0 (mm - 1))).map ovn)):=upd_same
  have z6:=(z5.trans y').trans yD
  generalize upd H' D (.lst ((us.map (nmo 0 (mm - 1))).map ovn))=H6 at hD1 z6
  cases em:nmo 2 60 x with
  | none=>
    refine q0r (fun m rs ok ex _=>?_) _ z6
    rw [ex,nmo_nt (by have:=ok.1;omega) (by have:=ok.1;omega),if_pos ok.1] at em
    cases em
  | some m=>
    rw [em] at emm
    have e2:mm=m:=emm
    subst e2
    obtain ⟨exn,_,hm60⟩:=nmo_some em
    refine ⟨D,_,rfl,.inl (SqL.of hD1),rfl,flat_ovn _,?_⟩
    show if inV .non ((us.map (nmo 0 (mm - 1))).map ovn)=true then _ else _
    rw [in_ovn]
    have only:∀ m' rs,(Kd.rests m' rs).Ok→x=nt m'→y=Txt.join (Str.ofString ",") (rs.map nt)→m'=mm∧us=rs.map nt:=fun m' rs ok e1 e2=>by
     refine ⟨nt_inj (by have:=ok.1;omega) (by have:=ok.1;omega) (by omega) (by omega) (e1.symm.trans exn),?_⟩
     exact backR rs ok.2.1 (fun r hr=>(ok.2.2.2.1 r hr).1) e2
    by_cases hn:none∈us.map (nmo 0 (mm - 1))
    · rw [decide_eq_true hn,if_pos rfl]
      refine q0r (fun m' rs ok e1 e2=>?_) _ z6
      obtain ⟨rfl,eu⟩:=only m' rs ok e1 e2
      rw [eu,List.map_map] at hn
      obtain ⟨r,hr',e⟩:=List.mem_map.mp hn
      have hh:=ok.2.2.2.1 r hr'
      have e:nmo 0 (m' - 1) (nt r)=none:=e
      rw [nmo_nt hh.1 (by omega),if_pos ⟨hh.1,by omega⟩] at e
      cases e
    rw [decide_eq_false hn,if_neg (by decide)]
    obtain ⟨rs,eu,ev,hrs⟩:=all_some hn
    rw [ev] at hD1
    have rl:rs.length=us.length:=by rw [eu,List.length_map]
    have rne:rs≠[]:=fun e=>cn5 (by rw [eu,e];rfl)
    have rpos:0<rs.length:=List.length_pos_iff.mpr rne
    refine ⟨_,.inl (SqL.of hD1),?_⟩
    rw [List.length_map]
    refine ⟨(rs.length:Int) - 1,rfl,by omega,by omega,?_⟩
    rw [show ((rs.length:Int) - 1).toNat=rs.length - 1 by omega]
    refine cmp_range (fun i ys H2=>H2=H6∧ys=(ups rs i).map V.bl) ⟨rfl,rfl⟩ ?_ ?_
    · rintro i ys H2 hi ⟨rfl,rfl⟩
      refine ⟨by rw [List.length_map];unfold ups;rw [List.length_map,List.length_range];exact small1000 (by omega),?_⟩
      refine ⟨_,.inl (SqL.of hD1),.int rs[i],atI_of (j:=i) (by omega) (getI (by omega)),?_⟩
      refine ⟨_,.inl (SqL.of hD1),.int rs[i+1],atI_of (j:=i+1) (by omega) (getI (by omega)),?_⟩
      refine ⟨rfl,?_⟩
      have e3:ups rs (i+1)=ups rs i++[decide (rs[i]'(by omega)<rs[i+1]'(by omega))]:=by
       unfold ups
       rw [List.range_succ,List.map_append]
       simp [List.getD_eq_getElem?_getD,List.getElem?_eq_getElem (show i+1<rs.length by omega),List.getElem?_eq_getElem (show i<rs.length by omega)]
      rw [e3,List.map_append]
      rfl
    · rintro ys H2 ⟨rfl,rfl⟩ D7 hD7
      refine ⟨_,SqL.of upd_same,?_⟩
      have y7:=Same.new hD7 (.lst ((ups rs (rs.length - 1)).map V.bl))
      have z7:=z6.trans y7
      have hD7':=y7 _ _ hD1
      generalize upd H2 D7 (.lst ((ups rs (rs.length - 1)).map V.bl))=H7 at z7 hD7'
      by_cases hp:rs.Pairwise (· < ·)
      · rw [ups_all.mpr hp]
        refine iteB (fun c=>absurd c (by decide)) (fun _=>?_)
        refine ⟨_,.inl (SqL.of hD7'),fun r8 H8 y8 hr8=>?_⟩
        refine ⟨by show 3≤sizeLine;decide,fun r9 hr9=>?_⟩
        have y9:=Same.new hr9 (.tup [V.str (Str.ofString "rests"),.int mm,.ref r8])
        refine ⟨by show 1≤sizeLine;decide,fun p hp'=>?_⟩
        have yp:=Same.new hp' (.lst [V.ref r9])
        have ok:(Kd.rests mm rs).Ok:=RsOk.ok ⟨rne,hp,fun r hr'=>⟨(hrs r hr').2.1,by have:=(hrs r hr').2.2;omega⟩⟩ hm60
        exact Q1 (.rests mm rs) ok (by rw [ew2,exn,← forthR eu];rfl) p r9 _ (((z7.trans y8).trans y9).trans yp) upd_same ⟨r8,yp _ _ upd_same,yp _ _ (y9 _ _ hr8)⟩
      · have hb2:(ups rs (rs.length - 1)).all id=false:=by
         cases e:(ups rs (rs.length - 1)).all id with
         | false=>rfl
         | true=>exact absurd (ups_all.mp e) hp
        rw [hb2]
        refine iteB (fun _=>?_) (fun c=>absurd c (by decide))
        refine q0r (fun m' rs' ok e1 e2=>hp ?_) _ z7
        obtain ⟨rfl,eu2⟩:=only m' rs' ok e1 e2
        rw [← nts_inj (fun n hn'=>⟨(ok.2.2.2.1 n hn').1,by have:=(ok.2.2.2.1 n hn').2;have:=ok.1;omega⟩) (fun n hn'=>(hrs n hn').1) (eu2.symm.trans eu)]
        exact ok.2.2.1
 all_goals
  refine fun p hp=>?_
  have yp:=Same.new hp (.dK [])
  have gp:upd H2 p (.dK []) p=some (.dK []):=upd_same
  have gd:=yp _ _ hd3
  generalize upd H2 p (.dK [])=H4 at yp gp gd
  refine ⟨by show 3≤sizeLine;decide,fun t1 ht1=>?_⟩
  have a1:=Same.new ht1 (.tup [V.int 1,.int 1,.int 600])
  have g1:upd H4 t1 (.tup [V.int 1,.int 1,.int 600]) t1=some (.tup [V.int 1,.int 1,.int 600]):=upd_same
  generalize upd H4 t1 (.tup [V.int 1,.int 1,.int 600])=J1 at a1 g1
  refine ⟨by show 3≤sizeLine;decide,fun t2 ht2=>?_⟩
  have a2:=Same.new ht2 (.tup [V.int 1,.int 1,.int 600])
  have g2:upd J1 t2 (.tup [V.int 1,.int 1,.int 600]) t2=some (.tup [V.int 1,.int 1,.int 600]):=upd_same
  generalize upd J1 t2 (.tup [V.int 1,.int 1,.int 600])=J2 at a2 g2
  refine ⟨by show 3≤sizeLine;decide,fun t3 ht3=>?_⟩
  have a3:=Same.new ht3 (.tup [V.int 1,.int 1,.int 600])
  have g3:upd J2 t3 (.tup [V.int 1,.int 1,.int 600]) t3=some (.tup [V.int 1,.int 1,.int 600]):=upd_same
  generalize upd J2 t3 (.tup [V.int 1,.int 1,.int 600])=J3 at a3 g3
  refine ⟨by show 3≤sizeLine;decide,fun t4 ht4=>?_⟩
  have a4:=Same.new ht4 (.tup [V.int 2,.int 1,.int 600])
  have g4:upd J3 t4 (.tup [V.int 2,.int 1,.int 600]) t4=some (.tup [V.int 2,.int 1,.int 600]):=upd_same
  generalize upd J3 t4 (.tup [V.int 2,.int 1,.int 600])=J4 at a4 g4
  refine ⟨by show 3≤sizeLine;decide,fun t5 ht5=>?_⟩
  have a5:=Same.new ht5 (.tup [V.int 1,.int 2,.int 60])
  have g5:upd J4 t5 (.tup [V.int 1,.int 2,.int 60]) t5=some (.tup [V.int 1,.int 2,.int 60]):=upd_same
  generalize upd J4 t5 (.tup [V.int 1,.int 2,.int 60])=J5 at a5 g5
  have b1:=(((a1.trans a2).trans a3).trans a4).trans a5
  have g1:=a5 _ _ (a4 _ _ (a3 _ _ (a2 _ _ g1)))
  have g2:=a5 _ _ (a4 _ _ (a3 _ _ g2))
  have g3:=a5 _ _ (a4 _ _ g3)
  have g4:=a5 _ _ g4
  refine ⟨b1 _ _ gp,fiv (.ref t1) (.ref t2) (.ref t3) (.ref t4) (.ref t5),rfl,by show 5≤15;decide,?_⟩
  rw [fiv_merge]
  have ne:∀ {a o},J5 a=some o→(∀ kvs,o≠.dK kvs)→upd J5 p (.dK (fiv (.ref t1) (.ref t2) (.ref t3) (.ref t4) (.ref t5))) a=some o:=fun {a o} e h=>by
   rw [upd_ne (fun z=>by rw [z,b1 _ _ gp] at e;exact h [] (Option.some.inj e).symm)]
   exact e
  have z4:Same H (upd J5 p (.dK (fiv (.ref t1) (.ref t2) (.ref t3) (.ref t4) (.ref t5)))):=Same.updD ((y2.trans yp).trans b1) (none_of y2 hp)
  have gd:=ne (b1 _ _ gd) (fun _ h=>by cases h)
  have g1:=ne g1 (fun _ h=>by cases h)
  have g2:=ne g2 (fun _ h=>by cases h)
  have g3:=ne g3 (fun _ h=>by cases h)
  have g4:=ne g4 (fun _ h=>by cases h)
  have g5:=ne g5 (fun _ h=>by cases h)
  have gp:upd J5 p (.dK (fiv (.ref t1) (.ref t2) (.ref t3) (.ref t4) (.ref t5))) p=some (.dK (fiv (.ref t1) (.ref t2) (.ref t3) (.ref t4) (.ref t5))):=upd_same
  generalize upd J5 p (.dK (fiv (.ref t1) (.ref t2) (.ref t3) (.ref t4) (.ref t5)))=J at z4 gd g1 g2 g3 g4 g5 gp
  have hv:=fiv_is (.ref t1) (.ref t2) (.ref t3) (.ref t4) (.ref t5) wd
  have hbn:(valV (fiv (.ref t1) (.ref t2) (.ref t3) (.ref t4) (.ref t5)) (.inr wd)=none∧∀ c lo hi,¬ Bnd wd c lo hi)∨∃ r c lo hi,valV (fiv (.ref t1) (.ref t2) (.ref t3) (.ref t4) (.ref t5)) (.inr wd)=some (.ref r)∧J r=some (.tup [.int c,.int lo,.int hi])∧Bnd wd c lo hi:=by
   rw [hv]
   by_cases h1:wd=Str.ofString "most"
   · rw [if_pos h1];exact .inr ⟨t1,1,1,600,rfl,g1,.inl ⟨.inl h1,rfl,rfl,rfl⟩⟩
   rw [if_neg h1]
   by_cases h2:wd=Str.ofString "few"
   · rw [if_pos h2];exact .inr ⟨t2,1,1,600,rfl,g2,.inl ⟨.inr (.inl h2),rfl,rfl,rfl⟩⟩
   rw [if_neg h2]
   by_cases h3:wd=Str.ofString "off"
   · rw [if_pos h3];exact .inr ⟨t3,1,1,600,rfl,g3,.inl ⟨.inr (.inr h3),rfl,rfl,rfl⟩⟩
   rw [if_neg h3]
   by_cases h4:wd=Str.ofString "box"
   · rw [if_pos h4];exact .inr ⟨t4,2,1,600,rfl,g4,.inr (.inl ⟨h4,rfl,rfl,rfl⟩)⟩
   rw [if_neg h4]
   by_cases h5:wd=Str.ofString "times"
   · rw [if_pos h5];exact .inr ⟨t5,1,2,60,rfl,g5,.inr (.inr ⟨h5,rfl,rfl,rfl⟩)⟩
   rw [if_neg h5]
   refine .inl ⟨rfl,fun c lo hi h=>?_⟩
   rcases h with ⟨h,_⟩ | ⟨h,_⟩ | ⟨h,_⟩
   · rcases h with h | h | h
     · exact h1 h
     · exact h2 h
     · exact h3 h
   · exact h4 h
   · exact h5 h
  have none1:(∀ c lo hi,Bnd wd c lo hi→∀ ns:List Int,rest=ns.map nt→(ns.length:Int)=c→¬ ∀ n∈ns,lo≤n∧n≤hi)→∀ H',Same H H'→Q (.str (Str.ofString "none")) H':=fun hh=>Q0 fun k hk e=>by
   rcases kw hk (e.trans ew) with ⟨h,_⟩ | ⟨h,n,er,hn⟩ | ⟨h,a,b,er,ha,hb⟩ | ⟨h,n,er,hn⟩ | ⟨h,m,rs,er,_⟩
   · rcases h with h | h
     · exact n1.1 h
     · exact n1.2 h
   · exact hh 1 1 600 (.inl ⟨h,rfl,rfl,rfl⟩) [n] er rfl fun x hx=>by rw [List.mem_singleton.mp hx];exact hn
   · refine hh 2 1 600 (.inr (.inl ⟨h,rfl,rfl,rfl⟩)) [a,b] er rfl fun x hx=>?_
     have:x=a∨x=b:=by simpa using hx
     rcases this with rfl | rfl
     · exact ha
     · exact hb
   · exact hh 1 2 60 (.inr (.inr ⟨h,rfl,rfl,rfl⟩)) [n] er rfl fun x hx=>by rw [List.mem_singleton.mp hx];exact hn
   · exact hr2 h (by rw [er];rfl)
  refine ⟨_,.inl (SqL.of gd),.str wd,ws_at ew,?_⟩
  refine ⟨p,_,rfl,DGet.k (k:=.inr wd) gp,?_⟩
  refine ⟨_,rfl,?_⟩
  rcases hbn with ⟨hv0,hno⟩ | ⟨rr,c,lo,hi,hv1,grr,hB⟩
  · rw [hv0]
    exact none1 (fun c lo hi h=>absurd h (hno c lo hi)) _ z4
  rw [hv1]
  have dg:DGet J p (.str wd) (some (.ref rr)):=by
   have:=DGet.k (k:=.inr wd) gp
   rw [hv1] at this
   exact this
  refine ⟨_,.inl (SqL.of gd),?_⟩
  refine ⟨_,.inl (SqL.of gd),.str wd,ws_at ew,?_⟩
  refine ⟨p,.ref rr,rfl,dg,?_⟩
  refine ⟨_,.inr grr,.int c,rfl,?_⟩
  have hB3:=hB
  refine iteB (fun e=>?_) (fun e=>?_)
  · have e1:(!decide (V.int (((ws.map V.str).length:Nat):Int)=V.int (1+c)))=true:=e
    have e2:¬ ((ws.length:Nat):Int)=1+c:=fun h=>by rw [List.length_map,h] at e1;simp at e1
    refine none1 (fun c' lo' hi' h ns er hl _=>e2 ?_) _ z4
    have ec:c'=c:=by
     rcases h with ⟨h,h1,_⟩ | ⟨h,h1,_⟩ | ⟨h,h1,_⟩ <;> rcases hB3 with ⟨g,g1,_⟩ | ⟨g,g1,_⟩ | ⟨g,g1,_⟩ <;> first | omega | (exfalso;rw [h] at g;exact absurd g (by decide +kernel)) | (exfalso;rw [g] at h;exact absurd h (by decide +kernel)) | (exfalso;rw [h] at g;rcases g with g | g | g <;> exact absurd g (by decide +kernel)) | (exfalso;rw [g] at h;rcases h with h | h | h <;> exact absurd h (by decide +kernel))
    rw [hlr,er,List.length_map]
    omega
  have e1:(!decide (V.int (((ws.map V.str).length:Nat):Int)=V.int (1+c)))=false:=e
  have e2:(((ws.map V.str).length:Nat):Int)=1+c:=by simpa using e1
  rw [List.length_map,hlr] at e2
  refine ⟨1,rfl,d,rfl,.inr ⟨_,SqL.of gd,fun u hu'=>?_⟩⟩
  have ect:cutV (ws.map V.str) (some 1) none=rest.map V.str:=by rw [ew];exact cut_tail _ _
  rw [ect]
  have yu:=Same.new hu' (.lst (rest.map V.str))
  have gu:upd J u (.lst (rest.map V.str)) u=some (.lst (rest.map V.str)):=upd_same
  generalize upd J u (.lst (rest.map V.str))=J6 at yu gu
  refine ⟨u,rfl,⟨_,SqL.of gu⟩,cmp_list (xs:=rest.map V.str) (fun i zs H'=>Same J6 H'∧zs=((rest.take i).map (nmo lo hi)).map ovn) ⟨Same.refl _,by rw [List.take_zero];rfl⟩ ?_ ?_ ?_⟩
  · rintro i zs H' _ ⟨y',_⟩
    exact SqL.of (y' _ _ gu)
  · rintro i x' zs H' hx' ⟨y',rfl⟩
    obtain ⟨hi',rfl⟩:=str_at hx'
    have hm:rest[i]∈ws:=by rw [ew];exact List.mem_cons_of_mem _ (List.getElem_mem hi')
    have s6:=yu.trans y'
    have dg6:DGet H' p (.str wd) (some (.ref rr)):=by
     have:=DGet.k (k:=.inr wd) (s6 _ _ gp)
     rw [hv1] at this
     exact this
    refine ⟨by rw [List.length_map,List.length_map,List.length_take];exact small1000 (by omega),?_⟩
    refine ⟨_,.inl (SqL.of (s6 _ _ gd)),.str wd,ws_at ew,?_⟩
    refine ⟨p,.ref rr,rfl,dg6,?_⟩
    refine ⟨_,.inr (s6 _ _ grr),.int lo,rfl,?_⟩
    refine ⟨_,.inl (SqL.of (s6 _ _ gd)),.str wd,ws_at ew,?_⟩
    refine ⟨p,.ref rr,rfl,dg6,?_⟩
    refine ⟨_,.inr (s6 _ _ grr),.int hi,rfl,?_⟩
    refine ⟨_,lo,hi,rfl,by have:=cl.2 _ hm;omega,fun d hd=>hb.asc d (cs _ hm d hd),fun H2 y2=>⟨y'.trans y2,?_⟩⟩
    rw [take_snoc hi',List.map_append,List.map_append]
    rfl
  rintro zs H' ⟨y',rfl⟩ D hD
  rw [List.length_map,List.take_of_length_le (Nat.le_refl _)]
  have yD:=Same.new hD (.lst ((rest.map (nmo lo hi)).map ovn))
  have hD1:upd H' D (.lst ((rest.map (nmo lo hi)).map ovn)) D=some (.lst ((rest.map (nmo lo hi)).map ovn)):=upd_same
  have s6:=(yu.trans y').trans yD
  have z6:=z4.trans s6
  have gd6:=s6 _ _ gd
  generalize upd H' D (.lst ((rest.map (nmo lo hi)).map ovn))=H6 at hD1 z6 gd6
  refine ⟨D,_,rfl,.inl (SqL.of hD1),rfl,flat_ovn _,?_⟩
  show if (!inV .non ((rest.map (nmo lo hi)).map ovn))=true then _ else _
  rw [in_ovn]
  by_cases hn:none∈rest.map (nmo lo hi)
  · rw [decide_eq_true hn]
    refine none1 (fun c' lo' hi' h ns er hl hh=>?_) _ z6
    have ec:lo'=lo∧hi'=hi∧0≤lo∧hi≤600:=by
     rcases h with ⟨h,h1,h2,h3⟩ | ⟨h,h1,h2,h3⟩ | ⟨h,h1,h2,h3⟩ <;> rcases hB3 with ⟨g,g1,g2,g3⟩ | ⟨g,g1,g2,g3⟩ | ⟨g,g1,g2,g3⟩ <;> first | omega | (exfalso;rw [h] at g;exact absurd g (by decide +kernel)) | (exfalso;rw [g] at h;exact absurd h (by decide +kernel)) | (exfalso;rw [h] at g;rcases g with g | g | g <;> exact absurd g (by decide +kernel)) | (exfalso;rw [g] at h;rcases h with h | h | h <;> exact absurd h (by decide +kernel))
    obtain ⟨rfl,rfl,l0,h6⟩:=ec
    rw [er,List.map_map] at hn
    obtain ⟨n,hn',e⟩:=List.mem_map.mp hn
    have h7:=hh n hn'
    have e:nmo lo' hi' (nt n)=none:=e
    rw [nmo_nt (by omega) (by omega),if_pos h7] at e
    cases e
  rw [decide_eq_false hn]
  refine iteT ?_
  obtain ⟨ns,er,ev,hns⟩:=all_some hn
  rw [ev] at hD1
  have nl:ns.length=rest.length:=by rw [er,List.length_map]
  refine ⟨1,rfl,d,rfl,.inr ⟨_,SqL.of gd6,fun v hv'=>?_⟩⟩
  have ec2:cutV (ws.map V.str) none (some 1)=[V.str wd]:=by rw [ew];rfl
  rw [ec2]
  have yv:=Same.new hv' (.lst [V.str wd])
  refine .inl ⟨_,_,upd_same,yv _ _ hD1,by rw [List.length_map];show 1+ns.length≤sizeLine;exact Nat.le_of_lt (small1000 (by omega)),fun v2 hv2=>?_⟩
  have yv2:=Same.new hv2 (.lst ([V.str wd]++ns.map V.int))
  refine ⟨_,.inl (SqL.of upd_same),fun r8 H8 y8 hr8=>?_⟩
  refine ⟨by show 1≤sizeLine;decide,fun p9 hp9=>?_⟩
  have y9:=Same.new hp9 (.lst [V.ref r8])
  have z9:=(((z6.trans yv).trans yv2).trans y8).trans y9
  have g9:=y9 _ _ hr8
  rcases hB with ⟨h,rfl,rfl,rfl⟩ | ⟨rfl,rfl,rfl,rfl⟩ | ⟨h,rfl,rfl,rfl⟩
  · obtain ⟨n,rfl⟩:=List.length_eq_one_iff.mp (show ns.length=1 by omega)
    exact Q1 (.one wd n) (.inl ⟨h,(hns n List.mem_cons_self).2⟩) (by rw [ew,er];rfl) p9 r8 _ z9 upd_same g9
  · obtain ⟨a,b,rfl⟩:∃ a b,ns=[a,b]:=by
     rcases ns with _ | ⟨x,_ | ⟨y,_ | ⟨u,r⟩⟩⟩
     · have:0=rest.length:=nl;omega
     · have:1=rest.length:=nl;omega
     · exact ⟨x,y,rfl⟩
     · have:r.length+1+1+1=rest.length:=nl
       omega
    exact Q1 (.box a b) ⟨(hns a (by simp)).2,(hns b (by simp)).2⟩ (by rw [ew,er];rfl) p9 r8 _ z9 upd_same g9
  · obtain ⟨n,rfl⟩:=List.length_eq_one_iff.mp (show ns.length=1 by omega)
    exact Q1 (.one wd n) (.inr ⟨h,(hns n List.mem_cons_self).2⟩) (by rw [ew,er];rfl) p9 r8 _ z9 upd_same g9
end
structure Bs (z:Str):Prop where
 len:z.length≤450
 asc:∀ c∈z.cps.toList,c<128
 plus:z.cps.toList.count 43≤45
 rows:z.cps.toList.count 10≤45
theorem Bs.bd {z:Str} (h:Bs z):Bd z:=⟨by have:=h.len;omega,h.asc,by have:=h.plus;omega,by have:=h.rows;omega⟩
theorem cat_list (a b:Str):(a++b).cps.toList=a.cps.toList++b.cps.toList:=by
 show (a.cps++b.cps).toList=_
 rw [Array.toList_append]
theorem drop_cnt (l:List Nat) (c k f:Nat):(l.take k).count c+(l.drop (k+f)).count c≤l.count c:=by
 have e:l.count c=(l.take k).count c+(l.drop k).count c:=by rw [← List.count_append,List.take_append_drop]
 have h:(l.drop (k+f)).count c≤(l.drop k).count c:=by
  rw [← List.drop_drop]
  exact (List.drop_sublist _ _).count_le _
 omega
theorem put_bd {z y:Str} {k f:Nat} {u v:Str} (h:Bs z) (hl:y.length≤3) (ha:∀ c∈y.cps.toList,c<128) (eu:u.cps.toList=z.cps.toList.take k) (ev:v.cps.toList=z.cps.toList.drop (k+f)):Bd (u++y++v):=by
 have lz:z.cps.toList.length=z.length:=Array.length_toList
 have ly:y.cps.toList.length=y.length:=Array.length_toList
 have el:(u++y++v).cps.toList=z.cps.toList.take k++y.cps.toList++z.cps.toList.drop (k+f):=by rw [cat_list,cat_list,eu,ev]
 have hc:∀ c,(u++y++v).cps.toList.count c≤z.cps.toList.count c+3:=fun c=>by
  rw [el,List.count_append,List.count_append]
  have h1:=drop_cnt z.cps.toList c k f
  have h2:y.cps.toList.count c≤y.cps.toList.length:=List.count_le_length
  omega
 have hz:=h.len
 refine ⟨?_,fun c hc'=>?_,by have:=hc 43;have:=h.plus;omega,by have:=hc 10;have:=h.rows;omega⟩
 · have:(u++y++v).cps.toList.length=(u++y++v).length:=Array.length_toList
   rw [← this,el,List.length_append,List.length_append,List.length_take,List.length_drop]
   omega
 · rw [el] at hc'
   rcases List.mem_append.mp hc' with h1 | h1
   · rcases List.mem_append.mp h1 with h1 | h1
     · exact h.asc c (List.mem_of_mem_take h1)
     · exact ha c h1
   · exact h.asc c (List.mem_of_mem_drop h1)
def near:List Str:=["","+","-","0","1","01",","," ","#","\n","600","601","60","61","+1",",1","all","few","##"]
theorem near_ok:∀ y∈near,y.length≤3∧∀ c∈y.cps.toList,c<128:=by decide +kernel
theorem sh_wd {z:String} (h:z∈"none"::wds):ShOk (.str (Str.ofString z)) 1 101:=by
 refine ⟨?_,by simp only [PyData.hasDict],by simp only [PyData.depth];decide,?_⟩
 · simp only [PyData.showable]
 · simp only [PyData.shown]
   unfold wds at h
   simp only [List.mem_cons,List.not_mem_nil,or_false] at h
   rcases h with rfl | rfl | rfl | rfl | rfl | rfl | rfl | rfl | rfl <;> decide +kernel
theorem sh_num {n:Int} (h0:0≤n) (h1:n<1000000):ShOk (.int n) 1 101:=ShOk.intB (by omega) (by omega)
theorem kd_sh {k:Kd} (h:k.Ok):ShOk (kdD k) 3 20000:=by
 cases k with
 | bare w=>
   have hw:ShOk (.str w) 1 101:=by rcases h with rfl | rfl <;> exact sh_wd (by decide)
   refine (ShOk.tuple (k:=1) (L:=101) fun d hd=>?_).mono (by decide) (by show 1*103+3≤20000;decide)
   have:d=.str w:=by simpa using hd
   rw [this];exact hw
 | one w n=>
   have hw:ShOk (.str w) 1 101:=by rcases h with ⟨rfl | rfl | rfl,_⟩ | ⟨rfl,_⟩ <;> exact sh_wd (by decide)
   have hn:=kd_num h
   refine (ShOk.tuple (k:=1) (L:=101) fun d hd=>?_).mono (by decide) (by show 2*103+3≤20000;decide)
   have:d=.str w∨d=.int n:=by simpa using hd
   rcases this with rfl | rfl
   · exact hw
   · exact sh_num hn.1 hn.2
 | box a b=>
   have hn:=kd_num h
   refine (ShOk.tuple (k:=1) (L:=101) fun d hd=>?_).mono (by decide) (by show 3*103+3≤20000;decide)
   have:d=.str (Str.ofString "box")∨d=.int a∨d=.int b:=by simpa using hd
   rcases this with rfl | rfl | rfl
   · exact sh_wd (by decide)
   · exact sh_num hn.1.1 hn.1.2
   · exact sh_num hn.2.1 hn.2.2
 | rests m rs=>
   obtain ⟨rn,rl,m0,m1⟩:=rs_nm h
   refine (ShOk.tuple (k:=2) (L:=6300) fun d hd=>?_).mono (by decide) (by show 3*6302+3≤20000;decide)
   have:d=.str (Str.ofString "rests")∨d=.int m∨d=.tuple (rs.map PyData.int):=by simpa using hd
   rcases this with rfl | rfl | rfl
   · exact (sh_wd (by decide)).mono (by decide) (by decide)
   · exact (sh_num m0 m1).mono (by decide) (by decide)
   · exact (ShOk.ints (ns:=rs) fun n hn=>by have:=rn n hn;omega).mono (by decide) (by omega)
theorem th_sh {t:Th} (h:t.Ok):ShOk (.list [thD t]) 4 100000:=by
 have h1:ShOk (thD t) 3 92900:=by
  cases t with
  | prt ns=>exact (ShOk.ints (ns:=ns) fun n hn=>by have:=h.1 n hn;omega).mono (by decide) (by have:=h.2.2;omega)
  | knd k=>exact (kd_sh h).mono (by decide) (by decide)
  | drw ns=>exact (ShOk.ints (ns:=ns) fun n hn=>by have:=h.2.1 n hn;omega).mono (by decide) (by have:=h.2.2;omega)
 refine (ShOk.list (k:=3) (L:=92900) fun d hd=>?_).mono (by decide) (by show 1*92902+3≤100000;decide)
 rw [List.mem_singleton.mp hd]
 exact h1
section
variable {P:Program} {w:World} {K:PySem.W.Frag} {mg:Str→Option Value} {base:Heap} {f:Addr} {fd:FuncData}
theorem sc_bt:FnScope ["_law_spool_here","_law_text_here","_law_signs","_law_near","_law_way","_law_fall","_law_put","_law_k"] ["_law_spool_here","_law_text_here"] (defScope (top 48)):=⟨rfl,rfl,rfl,by decide +kernel,rfl,by decide +kernel,by decide +kernel⟩
def sp_bt:Sp:=fun vs H Q _=>∃ (a L:Addr) (z:Str) (n:Nat),vs=[.ref a,.str z]∧Hand H a L n∧n<900000000∧Bs z∧∀ z' H',Step a L (n+10) H H'→Bd z'→Q (.str z') H'
theorem ok_bt (F:Fun K "_law_bent" "_law_bent" (top 48) f fd) (m_len:mg "len" = none) (F_law_take:FnA P w K mg base "_law_take" 1 ["_law_spool_here","_law_many"] sp_take):FnOk P w K mg base CX0 2 f fd ["_law_spool_here","_law_text_here"] sp_bt:=by
 refine F.okz sc_bt (fun vs H Q E h=>?_) (fun cdv A outer s H vs Q E hr h=>?_)
 · obtain ⟨a,L,z,n,rfl,_⟩:=h;rfl
 obtain ⟨a,L,z,n,rfl,hh,hn,hb,q⟩:=h
 have nd:=sc_bt.nd
 have hu:=hr.units
 have hlen:=hb.len
 have sl:z.length≤sizeLine:=by rw [sizeLine_eq];omega
 refine ⟨_,(zss_cons (zs_set (i:=2) nd rfl (Or.inl rfl) (ze_op op_addP ze_str ze_str))
  (zss_cons (zs_set (i:=3) nd rfl (Or.inl rfl) (ze_lst (za_cons ze_str (za_cons ze_str (za_cons ze_str (za_cons ze_str (za_cons ze_str (za_cons ze_str (za_cons ze_str (za_cons ze_str (za_cons ze_str (za_cons ze_str (za_cons ze_str (za_cons ze_str (za_cons ze_str (za_cons ze_str (za_cons ze_str (za_cons ze_str (za_cons ze_str (za_cons ze_str (za_cons ze_str za_nil)))))))))))))))))))))
  (zss_cons (zs_par (i:=4) (j:=5) rfl nd rfl rfl (by decide) rfl rfl (za_cons (ze_fn F_law_take hr (by decide) rfl (za_cons (zn 0) (za_cons ze_int za_nil))) (za_cons (ze_fn F_law_take hr (by decide) rfl (za_cons (zn 0) (za_cons ze_int za_nil))) za_nil)) rfl)
  (zss_cons (zs_set (i:=6) nd rfl (Or.inl rfl) (ze_ifExp (zt_cmpP (op_eqD hu) (zn 4) ze_int (nomark _)) (ze_ix ix_T (zn 2) (ze_fn F_law_take hr (by decide) rfl (za_cons (zn 0) (za_cons (zcb_lenT rfl m_len (za_cons (zn 2) za_nil) rfl rfl) za_nil))) (fun _ _=>rfl)) (ze_ix ix_P (zn 3) (ze_fn F_law_take hr (by decide) rfl (za_cons (zn 0) (za_cons (zcb_len rfl m_len (za_cons (zn 3) za_nil) rfl rfl) za_nil))) (fun _ _=>rfl))))
  (zss_cons (zs_set (i:=7) nd rfl (Or.inl rfl) (ze_fn F_law_take hr (by decide) rfl (za_cons (zn 0) (za_cons (ze_op op_addP (zcb_lenT rfl m_len (za_cons (zn 1) za_nil) rfl rfl) ze_int) za_nil))))
  (zss_one (zs_ret (ze_op op_addP (ze_op op_addP (ze_slice sl_S (zn 1) zo_none (zo_some (zn 7))) (zn 6)) (ze_slice sl_S (zn 1) (zo_some (ze_op op_addP (zn 7) (zn 5))) zo_none))))))))),?_⟩
 refine ⟨by decide +kernel,?_⟩
 generalize hS:(Str.ofString _++Str.ofString _:Str)=S
 have S1:S.length=94:=by rw [← hS];decide +kernel
 have S2:∀ c∈S.cps.toList,c<128:=by rw [← hS];decide +kernel
 clear hS
 have Sl:S.cps.toList.length=S.length:=Array.length_toList
 refine ⟨by show 19≤sizeLine;decide,fun d hd=>?_⟩
 have yd:=Same.new hd (.lst (near.map V.str))
 have dne:=hh.ne hd
 have hd1:upd H d (.lst (near.map V.str)) d=some (.lst (near.map V.str)):=upd_same
 have hh1:=hh.same yd
 have st1:Step a L n H (upd H d (.lst (near.map V.str))):=Step.of_same hh yd
 refine ⟨a,L,2,n,rfl,hh1,by omega,by decide,by decide,fun way H2 w0 w1 st2=>?_⟩
 refine ⟨a,L,3,n+1,rfl,st2.2,by omega,by decide,by decide,fun fall H3 f0 f1 st3=>?_⟩
 have t3:=(st1.trans st2).trans st3
 have hd3:=(st2.trans st3).lst dne hd1
 refine ⟨_,_,rfl,?_⟩
 have rest:∀ (y:Str) (H4:Hp),y.length≤3→(∀ c∈y.cps.toList,c<128)→Step a L (n+1+1+1) H H4→∀ (k:Int) (H5:Hp),0≤k→k<(z.length:Int)+1→Step a L (n+1+1+1+1) H4 H5→Q (.str (Txt.slice z none (some k)++y++Txt.slice z (some (k+fall)) none)) H5:=fun y H4 hy hya st4 k H5 k0 k1 st5=>by
  refine q _ H5 ((st4.trans st5).mono (by omega)) (put_bd (k:=k.toNat) (f:=fall.toNat) hb hy hya (slice_to ⟨k0,by omega⟩) ?_)
  rw [slice_from (by omega)]
  congr 1
  omega
 have lens:∀ (k:Int),0≤k→k<(z.length:Int)+1→∀ y:Str,y.length≤3→(Txt.slice z none (some k)).length+y.length≤sizeLine∧(Txt.slice z none (some k)++y).length+(Txt.slice z (some (k+fall)) none).length≤sizeLine:=fun k k0 k1 y hy=>by
  have h1:=Txt.slice_le z none (some k)
  have h2:=Txt.slice_le z (some (k+fall)) none
  rw [app_len,sizeLine_eq]
  omega
 refine iteD (fun c=>?ba) (fun c=>?bb)
 case' ba=>
  refine ⟨by rw [S1,sizeLine_eq];decide,?_⟩
  refine ⟨a,L,(S.length:Int),n+1+1,rfl,t3.2,by omega,by omega,by omega,fun g H4 g0 g1 st4=>?_⟩
  obtain ⟨ch,hch⟩:∃ ch,S.cps.toList[g.toNat]? = some ch:=⟨_,List.getElem?_eq_getElem (by omega)⟩
  have hat:atI S.cps.toList g=some ch:=by
   have e:g=((g.toNat:Nat):Int):=(Int.toNat_of_nonneg g0).symm
   rw [e]
   unfold atI ixN
   rw [if_pos (by omega),if_pos (by omega),Int.toNat_natCast]
   exact hch
  refine ⟨ch,by rw [S1,sizeLine_eq];decide,hat,?_⟩
  obtain ⟨y,ey⟩:∃ y:Str,y=⟨#[ch]⟩:=⟨_,rfl⟩
  have hy:y.length≤3:=by rw [ey];show 1≤3;decide
  have hya:∀ c∈y.cps.toList,c<128:=fun c hc=>by
   rw [ey] at hc
   rw [List.mem_singleton.mp (show c∈[ch] from hc)]
   exact S2 ch (List.mem_of_getElem? hch)
  rw [← ey]
 case' bb=>
  refine ⟨_,.inl (SqL.of hd3),?_⟩
  refine ⟨a,L,19,n+1+1,rfl,t3.2,by omega,by omega,by omega,fun g H4 g0 g1 st4=>?_⟩
  have hg:g.toNat<near.length:=by show g.toNat<19;omega
  obtain ⟨y,ey⟩:∃ y:Str,y=near[g.toNat]:=⟨_,rfl⟩
  have hy:=(near_ok near[g.toNat] (List.getElem_mem hg)).1
  have hya:=(near_ok near[g.toNat] (List.getElem_mem hg)).2
  rw [← ey] at hy hya
  refine ⟨_,.inl (SqL.of (st4.lst dne hd3)),.str y,atI_of (j:=g.toNat) (by omega) (by rw [List.getElem?_map,List.getElem?_eq_getElem hg,ey];rfl),?_⟩
 all_goals
  refine ⟨sl,?_⟩
  refine ⟨a,L,(z.length:Int)+1,n+1+1+1,rfl,st4.2,by omega,by omega,by omega,fun k H5 k0 k1 st5=>?_⟩
  refine ⟨k,rfl,sl,?_⟩
  refine ⟨(lens k k0 k1 y hy).1,?_⟩
  refine ⟨k+fall,rfl,sl,?_⟩
  refine ⟨(lens k k0 k1 y hy).2,?_⟩
  exact rest y H4 hy hya (t3.trans st4) k H5 k0 k1 st5
end
section
variable {P:Program} {w:World} {K:PySem.W.Frag} {mg:Str→Option Value} {base:Heap} {f:Addr} {fd:FuncData}
theorem sc_rt:FnScope ["_law_way","_law_text_here","_law_due"] ["_law_way","_law_text_here"] (defScope (top 49)):=⟨rfl,rfl,rfl,by decide +kernel,rfl,by decide +kernel,by decide +kernel⟩
def sp_rt:Sp:=fun vs H Q _=>∃ (z:Str) (wy:Int),vs=[.int wy,.str z]∧(wy=0∨wy=1∨wy=2)∧Bd z∧∀ H',Same H H'→Q (.bl true) H'
theorem ok_rt (F:Fun K "_law_right" "_law_right" (top 49) f fd) (m_repr:mg "repr" = none) (F_law_drawn:FnA P w K mg base "_law_drawn" 2 ["_law_text_here"] (sp_dw 2)) (F_law_kinded:FnA P w K mg base "_law_kinded" 2 ["_law_text_here"] (sp_dw 1)) (F_law_parted:FnA P w K mg base "_law_parted" 2 ["_law_text_here"] (sp_dw 0)) (F_law_told:FnA P w K mg base "_law_told" 7 ["_law_way","_law_text_here"] sp_td):FnOk P w K mg base CX0 8 f fd ["_law_way","_law_text_here"] sp_rt:=by
 refine F.okz sc_rt (fun vs H Q E h=>?_) (fun cdv A outer s H vs Q E hr h=>?_)
 · obtain ⟨z,wy,rfl,_⟩:=h;rfl
 obtain ⟨z,wy,rfl,hw,hb,q⟩:=h
 have nd:=sc_rt.nd
 have hu:=hr.units
 refine ⟨_,(zss_cons (zs_set (i:=2) nd rfl (Or.inl rfl) (ze_callI hr (ze_ix ix_P (ze_lst (za_cons (ze_dfv F_law_parted rfl) (za_cons (ze_dfv F_law_kinded rfl) (za_cons (ze_dfv F_law_drawn rfl) za_nil)))) (zn 0) (fun _ _=>rfl)) (za_cons (zn 1) za_nil)))
  (zss_one (zs_ret (ze_andP (ze_cmpR (op_eqD hu) (zcb_repr hr rfl m_repr (za_cons (ze_fn F_law_told hr (by decide) rfl (za_cons (zn 0) (za_cons (zn 1) za_nil))) za_nil) rfl rfl) (zcb_repr hr rfl m_repr (za_cons (zn 2) za_nil) rfl rfl) (nomark _)) (ze_one (ze_cmpR (op_eqD hu) (zcb_repr hr rfl m_repr (za_cons (ze_fn F_law_told hr (by decide) rfl (za_cons (zn 0) (za_cons (zn 1) za_nil))) za_nil) rfl rfl) (zcb_repr hr rfl m_repr (za_cons (zn 2) za_nil) rfl rfl) (nomark _))))))),?_⟩
 refine fun f1 hf1=>fun f2 hf2=>fun f3 hf3=>?_
 refine ⟨by show 3≤sizeLine;decide,fun d hd=>?_⟩
 have yd:=Same.new hd (.lst [V.ref f1,.ref f2,.ref f3])
 have hd1:upd H d (.lst [V.ref f1,.ref f2,.ref f3]) d=some (.lst [V.ref f1,.ref f2,.ref f3]):=upd_same
 generalize upd H d (.lst [V.ref f1,.ref f2,.ref f3])=H1 at yd hd1
 obtain ⟨ff,eff,hff⟩:∃ ff,atI [V.ref f1,.ref f2,.ref f3] wy=some (.ref ff)∧FnV P w K mg base ff 2 ["_law_text_here"] (sp_dw wy):=by
  rcases hw with rfl | rfl | rfl
  · exact ⟨f1,rfl,hf1⟩
  · exact ⟨f2,rfl,hf2⟩
  · exact ⟨f3,rfl,hf3⟩
 refine ⟨_,.inl (SqL.of hd1),.ref ff,eff,?_⟩
 refine ⟨ff,2,_,_,rfl,by decide,hff,?_⟩
 refine ⟨z,rfl,hb,fun t tw tok tz p r H2 y2 hp hat=>?_,fun hno H2 y2=>?_⟩
 · have sh:=(th_sh tok).need (by decide) (by decide)
   have same:∀ u:Th,u.way=wy→u.Ok→u.text=z→thD u=thD t:=fun u uw uok uz=>Th.inj uok tok (uw.trans tw.symm) (uz.trans tz.symm)
   refine .inl ⟨z,wy,rfl,hw,hb.len,fun u uw uok uz p3 r3 H3 y3 hp3 hat3=>?_,fun hno=>absurd tz (hno t tw tok)⟩
   refine ⟨.list [thD t],.lst hp3 (.cons (by rw [← same u uw uok uz];exact hat3.dat) .nil),sh,?_⟩
   refine ⟨.list [thD t],.lst (y3 _ _ hp) (.cons (hat.same y3).dat .nil),sh,?_⟩
   refine iteB (fun _=>?_) (fun c=>absurd c (by simp))
   refine .inl ⟨z,wy,rfl,hw,hb.len,fun v vw vok vz p4 r4 H4 y4 hp4 hat4=>?_,fun hno=>absurd tz (hno t tw tok)⟩
   have z4:=y3.trans y4
   refine ⟨.list [thD t],.lst hp4 (.cons (by rw [← same v vw vok vz];exact hat4.dat) .nil),sh,?_⟩
   refine ⟨.list [thD t],.lst (z4 _ _ hp) (.cons (hat.same z4).dat .nil),sh,?_⟩
   show Q (.bl (decide (V.str _=V.str _))) H4
   rw [decide_eq_true rfl]
   exact q _ ((yd.trans y2).trans z4)
 · have sh:=(sh_wd (z:="none") (by decide)).need (by decide) (by decide)
   refine .inl ⟨z,wy,rfl,hw,hb.len,fun u uw uok uz=>absurd uz (hno u uw uok),fun _ H3 y3=>?_⟩
   refine ⟨_,.str _,sh,?_⟩
   refine ⟨_,.str _,sh,?_⟩
   refine iteB (fun _=>?_) (fun c=>absurd c (by simp))
   refine .inl ⟨z,wy,rfl,hw,hb.len,fun u uw uok uz=>absurd uz (hno u uw uok),fun _ H4 y4=>?_⟩
   refine ⟨_,.str _,sh,?_⟩
   refine ⟨_,.str _,sh,?_⟩
   show Q (.bl (decide (V.str _=V.str _))) H4
   rw [decide_eq_true rfl]
   exact q _ (((yd.trans y2).trans y3).trans y4)
end
def eg1:List Str:=["","-","+",
 "1+","+1","2+3",
 "3+2","0","1000000",
 "999999+1","1 + 1","--",
 "all "," all"]
def eg2:List Str:=["most 0","most 1","most 600",
 "most 601","times 1","times 2",
 "times 60"]
def eg3:List Str:=["times 61","off 0","box 1",
 "box 1 600","box 601 1","rests 1 0",
 "rests 2 0,1"]
def eg4:List Str:=["rests 2 1,0","rests 2 2","rests 5 1,1"]
def eg5:List Str:=["rests 5 ","rests 5","rests 60 59",
 "rests 61 1","own 1","All",
 "few 01","off 1 2","any 1"]
def eg6:List Str:=["#","##\n#","#\n##",
 "#\n","\n#","#\n\n#",
 "# ","##\n##\n#","1\n",
 "all\n"]
def egs:List Str:=eg1++eg2++eg3++eg4++eg5++eg6
theorem egs_few:∀ y∈egs,y.length≤900∧(∀ c∈y.cps.toList,c<128)∧y.cps.toList.count 43≤60∧y.cps.toList.count 10≤60:=by decide +kernel
theorem egs_bd {y:Str} (h:y∈egs):Bd y:=have h:=egs_few y h;⟨h.1,h.2.1,h.2.2.1,h.2.2.2⟩
theorem jl_cnt (d c:Nat):∀ xs:List (List Nat),(∀ x∈xs,c∉x)→(jl d xs).count c≤xs.length
 | [],_=>by simp [jl]
 | [x],h=>by
   show x.count c≤_
   rw [List.count_eq_zero.mpr (h x List.mem_cons_self)]
   exact Nat.zero_le _
 | x::y::r,h=>by
   have ih:=jl_cnt d c (y::r) fun u hu=>h u (List.mem_cons_of_mem _ hu)
   show (x++d::jl d (y::r)).count c≤(y::r).length+1
   rw [List.count_append,List.count_eq_zero.mpr (h x List.mem_cons_self),List.count_cons]
   split <;> omega
theorem nt_chars {n:Int} (h:0≤n):∀ c∈(nt n).cps.toList,c<128∧c≠43∧c≠10:=fun c hc=>by
 have:=nt_digit h c hc
 omega
theorem shw_bs {bs:List Int} (hP:Prt bs) (hs:bs.sum≤40):Bs (shw bs):=by
 have bl:=sum_ge_len hP.1
 have bnd:∀ n∈bs,(1:Int)≤n∧n≤40:=fun n hn=>⟨hP.1 n hn,by have:=mem_le_sum hP.1 hn;omega⟩
 have hlen:=shw_len (k:=6) fun n hn=>(nt_len (by have:=(bnd n hn).1;omega) (by have:=(bnd n hn).2;omega)).2
 by_cases h0:bs=[]
 · rw [h0]
   exact ⟨by decide +kernel,by decide +kernel,by decide +kernel,by decide +kernel⟩
 have el:(shw bs).cps.toList=jl 43 ((bs.map nt).map fun y=>y.cps.toList):=by
  unfold shw
  rw [if_neg h0,M71.plus_is,show Txt.join ⟨#[43]⟩ (bs.map nt)=Str.join ⟨#[43]⟩ (bs.map nt) from StrLaws.glued_eq_join _ _,M67.join_list]
 have wds:∀ x∈(bs.map nt).map (fun y=>y.cps.toList),∀ c∈x,c<128∧c≠43∧c≠10:=fun x hx=>by
  rw [List.map_map] at hx
  obtain ⟨n,hn,rfl⟩:=List.mem_map.mp hx
  exact nt_chars (by have:=(bnd n hn).1;omega)
 refine ⟨by omega,fun c hc=>?_,?_,?_⟩
 · rw [el] at hc
   rcases jl_mem hc with rfl | ⟨x,hx,hc⟩
   · decide
   · exact (wds x hx c hc).1
 · rw [el]
   have:=jl_cnt 43 43 _ fun x hx hc=>(wds x hx 43 hc).2.1 rfl
   rw [List.length_map,List.length_map] at this
   omega
 · rw [el]
   have:=jl_cnt 43 10 _ fun x hx hc=>(wds x hx 10 hc).2.2 rfl
   rw [List.length_map,List.length_map] at this
   omega
theorem dr_bs {bs:List Int} (hP:Prt bs) (hs:bs.sum≤40):Bs (dr bs):=by
 have bl:=sum_ge_len hP.1
 have hlen:=dr_len hP.1
 have el:=dr_list bs
 have wds:∀ x∈bs.map (fun n=>List.replicate n.toNat 35),∀ c∈x,c=35:=fun x hx c hc=>by
  obtain ⟨n,hn,rfl⟩:=List.mem_map.mp hx
  exact List.eq_of_mem_replicate hc
 refine ⟨by omega,fun c hc=>?_,?_,?_⟩
 · rw [el] at hc
   rcases jl_mem hc with rfl | ⟨x,hx,hc⟩
   · decide
   · rw [wds x hx c hc];decide
 · rw [el]
   have:=jl_cnt 10 43 _ fun x hx hc=>absurd (wds x hx 43 hc) (by decide)
   rw [List.length_map] at this
   omega
 · rw [el]
   have:=jl_cnt 10 10 _ fun x hx hc=>absurd (wds x hx 10 hc) (by decide)
   rw [List.length_map] at this
   omega
def okc (y:Str):Prop:=∀ c∈y.cps.toList,c<128∧c≠43∧c≠10
theorem kd_okc {k:Kd} (h:k.Ok):∀ y∈k.words,okc y:=fun y hy=>by
 have hn:=kd_num h
 unfold okc
 cases k with
 | bare w=>
   rw [List.mem_singleton.mp hy]
   rcases h with rfl | rfl <;> decide +kernel
 | one w n=>
   have:y=w∨y=nt n:=by simpa [Kd.words] using hy
   rcases this with rfl | rfl
   · rcases h with ⟨rfl | rfl | rfl,_⟩ | ⟨rfl,_⟩ <;> decide +kernel
   · exact nt_chars hn.1
 | box a b=>
   have:y=Str.ofString "box"∨y=nt a∨y=nt b:=by simpa [Kd.words] using hy
   rcases this with rfl | rfl | rfl
   · decide +kernel
   · exact nt_chars hn.1.1
   · exact nt_chars hn.2.1
 | rests m rs=>
   have:y=Str.ofString "rests"∨y=nt m∨y=Txt.join (Str.ofString ",") (rs.map nt):=by simpa [Kd.words] using hy
   rcases this with rfl | rfl | rfl
   · decide +kernel
   · exact nt_chars hn.1.1
   · intro c hc
     rw [comma_is,joinE,M67.join_list] at hc
     rcases jl_mem hc with rfl | ⟨x,hx,hc⟩
     · decide
     · rw [List.map_map] at hx
       obtain ⟨r,hr,rfl⟩:=List.mem_map.mp hx
       exact nt_chars (hn.2 r hr).1 c hc
theorem kd_bs {k:Kd} (h:k.Ok):Bs k.text:=by
 have hl:=text_len h
 have hc:∀ c∈k.text.cps.toList,c<128∧c≠43∧c≠10:=fun c hc=>by
  unfold Kd.text at hc
  rw [M68.sp_is,joinE,M67.join_list] at hc
  rcases jl_mem hc with rfl | ⟨x,hx,hc⟩
  · decide
  · obtain ⟨y,hy,rfl⟩:=List.mem_map.mp hx
    exact kd_okc h y hy c hc
 refine ⟨by omega,fun c h'=>(hc c h').1,?_,?_⟩
 · rw [List.count_eq_zero.mpr fun h'=>(hc 43 h').2.1 rfl];decide
 · rw [List.count_eq_zero.mpr fun h'=>(hc 10 h').2.2 rfl];decide
def NTs (H:Hp) (v:V):Prop:=∀ H',Same H H'→∃ t,tyName H' v=some t∧subTy t "str" = false
theorem NTs.same {H H':Hp} {v:V} (h:NTs H v) (y:Same H H'):NTs H' v:=fun H2 y2=>h H2 (y.trans y2)
theorem nts_tup {H:Hp} {a:Addr} {xs:List V} (h:H a=some (.tup xs)):NTs H (.ref a):=fun H' y=>⟨"tuple",by simp only [tyName,y _ _ h],by decide⟩
theorem nts_lst {H:Hp} {a:Addr} {xs:List V} (h:H a=some (.lst xs)):NTs H (.ref a):=fun H' y=>⟨"list",by simp only [tyName,y _ _ h],by decide⟩
theorem nts_dK {H:Hp} {a:Addr} {xs:List (Key×V)} (h:H a=some (.dK xs)):NTs H (.ref a):=fun H' y=>⟨"dict",by simp only [tyName,y _ _ h],by decide⟩
theorem nts_non {H:Hp}:NTs H .non:=fun H' y=>⟨"NoneType",rfl,by decide⟩
theorem nts_int {H:Hp} (n:Int):NTs H (.int n):=fun H' y=>⟨"int",rfl,by decide⟩
theorem nts_bl {H:Hp} (b:Bool):NTs H (.bl b):=fun H' y=>⟨"bool",rfl,by decide⟩
section
variable {P:Program} {w:World} {K:PySem.W.Frag} {mg:Str→Option Value} {base:Heap} {f:Addr} {fd:FuncData}
theorem sc_law:FnScope ["_law_script","_law_spool_here","_law_parting_here","_law_rows","_law_texts","_law_way","_law_text_here","_law_edges","_law_thing"] ["_law_script"] (defScope (top 50)):=⟨rfl,rfl,rfl,by decide +kernel,rfl,by decide +kernel,by decide +kernel⟩
def sp_law (K:PySem.W.Frag):Sp:=fun vs H Q _=>∃ (a:Addr) (ns:List Int),vs=[.ref a]∧SqL K H a (ns.map V.int)∧ns.length≤63∧∀ H',Q (.bl true) H'
theorem ok_law (F:Fun K "law" "law" (top 50) f fd) (m_all:mg "all" = none) (m_range:mg "range" = none) (F_law_bent:FnA P w K mg base "_law_bent" 2 ["_law_spool_here","_law_text_here"] sp_bt) (F_law_kind:FnA P w K mg base "_law_kind" 2 ["_law_spool_here","_law_most"] sp_kind) (F_law_kind_text:FnA P w K mg base "_law_kind_text" 1 ["_law_kind_here"] sp_show) (F_law_parting:FnA P w K mg base "_law_parting" 2 ["_law_spool_here","_law_most"] sp_parting) (F_law_right:FnA P w K mg base "_law_right" 8 ["_law_way","_law_text_here"] sp_rt) (F_law_spool:FnA P w K mg base "_law_spool" 1 ["_law_script"] (sp_spool K)) (F_law_text:FnA P w K mg base "_law_text" 1 ["_law_parting_here"] sp_shp) (F_law_told:FnA P w K mg base "_law_told" 7 ["_law_way","_law_text_here"] sp_td):FnOk P w K mg base CX0 9 f fd ["_law_script"] (sp_law K):=by
 refine F.okz sc_law (fun vs H Q E h=>?_) (fun cdv A outer s H vs Q E hr h=>?_)
 · obtain ⟨a,ns,rfl,_⟩:=h;rfl
 obtain ⟨a,ns,rfl,hS,hl,q⟩:=h
 have nd:=sc_law.nd
 have hu:=hr.units
 refine ⟨_,(zss_cons (zs_set (i:=1) nd rfl (Or.inr rfl) (ze_fn F_law_spool hr (by decide) rfl (za_cons (zn 0) za_nil)))
  (zss_cons (zs_set (i:=2) nd rfl (Or.inl rfl) (ze_fn F_law_parting hr (by decide) rfl (za_cons (zn 1) (za_cons ze_int za_nil))))
  (zss_cons (zs_set (i:=3) nd rfl (Or.inl rfl) (zm_join ze_str (za_cons (ze_comp ["_law_part"] [] rfl ⟨rfl,by decide +kernel,by decide +kernel,rfl,rfl⟩ (zi_tup (zn 2)) kpg_name (fun _ _ _ _=>zg_name (i:=0) (show List.Nodup (["_law_part"]:List Str) by decide +kernel) rfl (Or.inl rfl)) (fun _ _ _ _=>zif_nil) (fun _ _ _ _=>(ze_op op_mulT ze_str (zn 0)))) za_nil)))
  (zss_cons (zs_set (i:=4) nd rfl (Or.inr rfl) (ze_lst (za_cons (ze_fn F_law_text hr (by decide) rfl (za_cons (zn 2) za_nil)) (za_cons (ze_fn F_law_kind_text hr (by decide) rfl (za_cons (ze_fn F_law_kind hr (by decide) rfl (za_cons (zn 1) (za_cons ze_int za_nil))) za_nil)) (za_cons (zn 3) za_nil)))))
  (zss_cons (zs_for PassesOwn.never rfl (zi_range1 rfl m_range (za_cons ze_int za_nil)) (zg_name (i:=5) nd rfl (Or.inr rfl)) (zss_one (zs_for PassesOwn.never rfl (zi_list (ze_op op_addP (ze_op op_addP (ze_lst (za_cons (ze_ix ix_P (zn 4) (zn 5) (fun _ _=>rfl)) za_nil)) (ze_comp ["_law_turn"] [("_law_spool_here",1),("_law_texts",4),("_law_way",5)] rfl ⟨rfl,by decide +kernel,by decide +kernel,rfl,rfl⟩ (zi_range1 rfl m_range (za_cons ze_int za_nil)) kpg_name (fun _ _ _ _=>zg_name (i:=0) (show List.Nodup (["_law_turn","_law_spool_here","_law_texts","_law_way"]:List Str) by decide +kernel) rfl (Or.inl rfl)) (fun _ _ _ _=>zif_nil) (fun _ _ _ _=>(ze_fn F_law_bent hr (by decide) rfl (za_cons (zn 1) (za_cons (ze_ix (ix_P' rfl) (zn 2) (zn 3) (fun _ _=>rfl)) za_nil)))))) (zn 4))) (zg_name (i:=6) nd rfl (Or.inl rfl)) (zss_one (zs_if (zt_not (zt_valP (ze_fn F_law_right hr (by decide) rfl (za_cons (zn 5) (za_cons (zn 6) za_nil))))) (zss_one (zs_ret ze_bl)) zss_nil)))))
  (zss_cons (zs_set (i:=7) nd rfl (Or.inl rfl) (ze_lst (za_cons ze_str (za_cons ze_str (za_cons ze_str (za_cons ze_str (za_cons ze_str (za_cons ze_str (za_cons ze_str (za_cons ze_str (za_cons ze_str (za_cons ze_str (za_cons ze_str (za_cons ze_str (za_cons ze_str (za_cons ze_str za_nil))))))))))))))))
  (zss_cons (zs_set (i:=7) nd rfl (Or.inl rfl) (ze_op op_addP (zn 7) (ze_lst (za_cons ze_str (za_cons ze_str (za_cons ze_str (za_cons ze_str (za_cons ze_str (za_cons ze_str (za_cons ze_str za_nil))))))))))
  (zss_cons (zs_set (i:=7) nd rfl (Or.inl rfl) (ze_op op_addP (zn 7) (ze_lst (za_cons ze_str (za_cons ze_str (za_cons ze_str (za_cons ze_str (za_cons ze_str (za_cons ze_str (za_cons ze_str za_nil))))))))))
  (zss_cons (zs_set (i:=7) nd rfl (Or.inl rfl) (ze_op op_addP (zn 7) (ze_lst (za_cons ze_str (za_cons ze_str (za_cons ze_str za_nil))))))
  (zss_cons (zs_set (i:=7) nd rfl (Or.inl rfl) (ze_op op_addP (zn 7) (ze_lst (za_cons ze_str (za_cons ze_str (za_cons ze_str (za_cons ze_str (za_cons ze_str (za_cons ze_str (za_cons ze_str (za_cons ze_str (za_cons ze_str za_nil))))))))))))
  (zss_cons (zs_set (i:=7) nd rfl (Or.inl rfl) (ze_op op_addP (zn 7) (ze_lst (za_cons ze_str (za_cons ze_str (za_cons ze_str (za_cons ze_str (za_cons ze_str (za_cons ze_str (za_cons ze_str (za_cons ze_str (za_cons ze_str (za_cons ze_str za_nil)))))))))))))
  (zss_cons (zs_for PassesOwn.never rfl (zi_range1 rfl m_range (za_cons ze_int za_nil)) (zg_name (i:=5) nd rfl (Or.inr rfl)) (zss_cons (zs_if (zt_not (zt_valP (zcb_all rfl rfl m_all (za_cons (ze_comp ["_law_text_here"] [("_law_way",5)] rfl ⟨rfl,by decide +kernel,by decide +kernel,rfl,rfl⟩ (zi_list (zn 7)) kpg_name (fun _ _ _ _=>zg_name (i:=0) (show List.Nodup (["_law_text_here","_law_way"]:List Str) by decide +kernel) rfl (Or.inl rfl)) (fun _ _ _ _=>zif_nil) (fun _ _ _ _=>(ze_fn F_law_right hr (by decide) rfl (za_cons (zn 1) (za_cons (zn 0) za_nil))))) za_nil) rfl rfl))) (zss_one (zs_ret ze_bl)) zss_nil)
  (zss_one (zs_for PassesOwn.never rfl (zi_tup (ze_tup (za_cons ze_non (za_cons ze_int (za_cons ze_bl (za_cons (ze_tup (za_cons ze_int za_nil)) (za_cons (ze_lst (za_cons ze_str za_nil)) (za_cons ze_dnewK (za_cons (ze_tup (za_cons ze_str za_nil)) (za_cons ze_int za_nil)))))))))) (zg_name (i:=8) nd rfl (Or.inl rfl)) (zss_one (zs_if (zt_cmpP (op_neD hu) (ze_fn F_law_told hr (by decide) rfl (za_cons (zn 5) (za_cons (zn 8) za_nil))) ze_str (nomark _)) (zss_one (zs_ret ze_bl)) zss_nil))))))
  (zss_one (zs_ret ze_bl)))))))))))))),?_⟩
 refine ⟨a,ns,rfl,hS,hl,fun p L H1 y1 hh=>?_⟩
 refine ⟨p,L,40,0,rfl,hh,by decide,by decide,by decide,fun r H5 bs st5 hr5 hP hs5=>?_⟩
 have bl:=sum_ge_len hP.1
 have bnd:∀ n∈bs,(1:Int)≤n∧n≤40:=fun n hn=>⟨hP.1 n hn,by
  have:=mem_le_sum hP.1 hn
  omega⟩
 have bN:Num bs:=fun n hn=>⟨(bnd n hn).1,by have:=(bnd n hn).2;omega⟩
 have bD:NumD bs:=fun n hn=>⟨(bnd n hn).1,by have:=(bnd n hn).2;omega⟩
 refine ⟨rfl,?_⟩
 refine ⟨r,rfl,⟨_,SqT.of hr5⟩,cmp_tup (xs:=bs.map V.int) (fun j ys H'=>H'=H5∧ys=((bs.take j).map bar).map V.str) ⟨rfl,by rw [List.take_zero];rfl⟩ ?_ ?_ ?_⟩
 · rintro j ys H' _ ⟨rfl,_⟩
   exact SqT.of hr5
 · rintro j x ys H' hx ⟨rfl,rfl⟩
   have hj:j<bs.length:=by
    have:=(List.getElem?_eq_some_iff.mp hx).1
    rw [List.length_map] at this
    exact this
   have ex:x=.int bs[j]:=by rw [getI hj] at hx;exact (Option.some.inj hx).symm
   subst ex
   have hj1:=bnd _ (List.getElem_mem hj)
   refine ⟨by rw [List.length_map,List.length_map,List.length_take];exact small1000 (by omega),?_⟩
   refine ⟨⟨by omega,by rw [hash_len];decide,by rw [hash_len,sizeLine_eq];omega⟩,?_⟩
   refine ⟨rfl,?_⟩
   rw [List.take_succ,List.getElem?_eq_getElem hj,List.map_append,List.map_append]
   rfl
 rintro ys H' ⟨rfl,rfl⟩ D hD
 rw [List.length_map,List.take_of_length_le (Nat.le_refl _)]
 refine ⟨_,SqL.of upd_same,join_okD (by omega) bD,?_⟩
 have yD:=Same.new hD (.lst ((bs.map bar).map V.str))
 have hr6:=yD _ _ hr5
 have hh6:=st5.2.same yD
 generalize upd H' D (.lst ((bs.map bar).map V.str))=H6 at yD hr6 hh6
 refine ⟨r,bs,rfl,hr6,by omega,bN,fun H7 y7=>?_⟩
 refine ⟨p,L,8,_,rfl,hh6.same y7,by decide,by decide,by decide,fun c H8 kd st8 hc hk=>?_⟩
 refine ⟨c,kd,rfl,hc,hk,fun H9 y9=>?_⟩
 have hh9:=(st8.same y9).2
 refine ⟨by show 3≤sizeLine;decide,fun T hT=>?_⟩
 have Tne:T≠p∧T≠L:=hh9.ne hT
 have yT:=Same.new hT (.lst [V.str (shw bs),.str kd.text,.str (Txt.join (Str.ofString "\n") (bs.map bar))])
 obtain ⟨tx,etx,htx,ltx⟩:∃ tx:List Str,tx.map V.str=[V.str (shw bs),.str kd.text,.str (Txt.join (Str.ofString "\n") (bs.map bar))]∧(∀ y∈tx,Bs y)∧tx.length=3:=by
  refine ⟨[shw bs,kd.text,dr bs],rfl,fun y hy=>?_,rfl⟩
  simp only [List.mem_cons,List.not_mem_nil,or_false] at hy
  rcases hy with rfl | rfl | rfl
  · exact shw_bs hP (by omega)
  · exact kd_bs hk
  · exact dr_bs hP (by omega)
 have hT1:upd H9 T (.lst [V.str (shw bs),.str kd.text,.str (Txt.join (Str.ofString "\n") (bs.map bar))]) T=some (.lst (tx.map V.str)):=by rw [upd_same,etx]
 have hh10:=hh9.same yT
 generalize upd H9 T (.lst [V.str (shw bs),.str kd.text,.str (Txt.join (Str.ofString "\n") (bs.map bar))])=H10 at yT hT1 hh10
 have tat:∀ i:Nat,i<3→∃ y∈tx,atI (tx.map V.str) (0+(i:Int))=some (.str y):=fun i hi=>by
  have h:i<tx.length:=by omega
  exact ⟨tx[i],List.getElem_mem h,atI_of (j:=i) (by omega) (by rw [List.getElem?_map,List.getElem?_eq_getElem h];rfl)⟩
 refine ⟨3,rfl,by decide,by decide,for_range (fun i σ H'=>Step p L (2000+100*i) H10 H'∧∃ x3 x5 x6,σ=[some (.ref a),some (.ref p),some (.ref r),x3,some (.ref T),x5,x6,none,none]) ⟨(Step.refl hh10).mono (by omega),_,_,_,rfl⟩ ?_ ?_⟩
 · rintro i σ H' hi ⟨st,x3,x5,x6,rfl⟩
   obtain ⟨y,hy,eat⟩:=tat i hi
   have hT2:=st.lst Tne hT1
   have hB:=htx y hy
   refine ⟨_,.inl (SqL.of hT2),.str y,eat,?_⟩
   refine ⟨by show 1≤sizeLine;decide,fun d1 hd1=>?_⟩
   have d1ne:=st.2.ne hd1
   have yd1:=Same.new hd1 (.lst [V.str y])
   have g1:upd H' d1 (.lst [V.str y]) d1=some (.lst ([y].map V.str)):=upd_same
   have st1:=st.same yd1
   have hT3:=yd1 _ _ hT2
   generalize upd H' d1 (.lst [V.str y])=H2 at g1 st1 hT3
   refine ⟨6,rfl,by decide,by decide,cmp_range (fun j ys H3=>Step p L (2000+100*i+10*j) H2 H3∧∃ us:List Str,ys=us.map V.str∧us.length=j∧∀ u∈us,Bd u) ⟨(Step.refl st1.2).mono (by omega),[],rfl,rfl,fun u hu=>(nomatch hu)⟩ ?_ ?_⟩
   · rintro j ys H3 hj ⟨st3,us,rfl,lu,bu⟩
     refine ⟨by rw [List.length_map];exact small1000 (by have:(6:Int).toNat=6:=rfl;omega),?_⟩
     refine ⟨_,.inl (SqL.of (st3.lst Tne hT3)),.str y,eat,?_⟩
     refine ⟨p,L,y,_,rfl,st3.2,by have:(6:Int).toNat=6:=rfl;have:(3:Int).toNat=3:=rfl;omega,hB,fun z' H4 st4 hz'=>?_⟩
     refine ⟨(st3.trans st4).mono (by omega),us++[z'],by rw [List.map_append];rfl,by rw [List.length_append,lu];rfl,fun u hu=>?_⟩
     rcases List.mem_append.mp hu with h | h
     · exact bu u h
     · rw [List.mem_singleton.mp h];exact hz'
   rintro ys H3 ⟨st3,us,rfl,lu,bu⟩ D2 hD2
   have y2:=Same.new hD2 (.lst (us.map V.str))
   have g1':=y2 _ _ (st3.lst d1ne g1)
   have hT4:=y2 _ _ (st3.lst Tne hT3)
   have g2:upd H3 D2 (.lst (us.map V.str)) D2=some (.lst (us.map V.str)):=upd_same
   have st4:=(st1.trans st3).same y2
   generalize upd H3 D2 (.lst (us.map V.str))=H4 at g1' hT4 g2 st4
   have l6:us.length=6:=lu
   refine .inl ⟨_,_,g1',g2,by rw [List.length_map,List.length_map,l6];show 1+6≤sizeLine;decide,fun d3 hd3=>?_⟩
   have y3:=Same.new hd3 (.lst ([y].map V.str++us.map V.str))
   have g3:upd H4 d3 (.lst ([y].map V.str++us.map V.str)) d3=some (.lst ([y].map V.str++us.map V.str)):=upd_same
   have hT5:=y3 _ _ hT4
   have st5:=st4.same y3
   generalize upd H4 d3 (.lst ([y].map V.str++us.map V.str))=H5 at g3 hT5 st5
   refine .inl ⟨_,_,g3,hT5,by rw [List.length_append,List.length_map,List.length_map,List.length_map,l6,ltx];show 1+6+3≤sizeLine;decide,fun S hS2=>?_⟩
   have y4:=Same.new hS2 (.lst ([y].map V.str++us.map V.str++tx.map V.str))
   have g4:upd H5 S (.lst ([y].map V.str++us.map V.str++tx.map V.str)) S=some (.lst (([y]++us++tx).map V.str)):=by rw [upd_same,List.map_append,List.map_append]
   have st6:=st5.same y4
   generalize upd H5 S (.lst ([y].map V.str++us.map V.str++tx.map V.str))=H6 at g4 st6
   have hall:∀ u∈[y]++us++tx,Bd u:=fun u hu=>by
    rcases List.mem_append.mp hu with h | h
    · rcases List.mem_append.mp h with h | h
      · rw [List.mem_singleton.mp h];exact hB.bd
      · exact bu u h
    · exact (htx u h).bd
   generalize [y]++us++tx=ss at g4 hall
   refine ⟨S,rfl,⟨_,SqL.of g4⟩,for_list (xs:=ss.map V.str) (fun j σ H'=>Same H6 H'∧∃ x6,σ=[some (.ref a),some (.ref p),some (.ref r),x3,some (.ref T),some (.int (0+(i:Int))),x6,none,none]) ⟨Same.refl _,_,rfl⟩ ?_ ?_ ?_⟩
   · rintro j σ H' _ ⟨y',_⟩
     exact SqL.of (y' _ _ g4)
   · rintro j x σ H' hx ⟨y',x6,rfl⟩
     obtain ⟨hj,rfl⟩:=str_at hx
     refine ⟨_,_,rfl,by have:(3:Int).toNat=3:=rfl;omega,hall _ (List.getElem_mem hj),fun H7 y7=>?_⟩
     exact ⟨y'.trans y7,_,rfl⟩
   · rintro σ H' ⟨y',x6,rfl⟩
     exact ⟨(st6.same y').mono (by have:(6:Int).toNat=6:=rfl;omega),_,_,_,rfl⟩
 rintro σ H' ⟨_,x3,x5,x6,rfl⟩
 refine ⟨by show 14≤sizeLine;decide,fun e1 he1=>?_⟩
 have k1:upd H' e1 (.lst (eg1.map V.str)) e1=some (.lst (eg1.map V.str)):=upd_same
 refine (show ∀ G1:Hp,G1 e1=some (.lst (eg1.map V.str))→_ from fun G1 k1=>?_) (upd H' e1 (.lst (eg1.map V.str))) k1
 refine ⟨by show 7≤sizeLine;decide,fun f2 hf2=>?_⟩
 have m2:=Same.new hf2 (.lst (eg2.map V.str))
 refine .inl ⟨_,_,m2 _ _ k1,upd_same,by show 21≤sizeLine;decide,fun e2 he2=>?_⟩
 have k2:upd (upd G1 f2 (.lst (eg2.map V.str))) e2 (.lst ((eg1++eg2).map V.str)) e2=some (.lst ((eg1++eg2).map V.str)):=upd_same
 refine (show ∀ G2:Hp,G2 e2=some (.lst ((eg1++eg2).map V.str))→_ from fun G2 k2=>?_) (upd (upd G1 f2 (.lst (eg2.map V.str))) e2 (.lst ((eg1++eg2).map V.str))) k2
 refine ⟨by show 7≤sizeLine;decide,fun f3 hf3=>?_⟩
 have m3:=Same.new hf3 (.lst (eg3.map V.str))
 refine .inl ⟨_,_,m3 _ _ k2,upd_same,by show 28≤sizeLine;decide,fun e3 he3=>?_⟩
 have k3:upd (upd G2 f3 (.lst (eg3.map V.str))) e3 (.lst ((eg1++eg2++eg3).map V.str)) e3=some (.lst ((eg1++eg2++eg3).map V.str)):=upd_same
 refine (show ∀ G3:Hp,G3 e3=some (.lst ((eg1++eg2++eg3).map V.str))→_ from fun G3 k3=>?_) (upd (upd G2 f3 (.lst (eg3.map V.str))) e3 (.lst ((eg1++eg2++eg3).map V.str))) k3
 refine ⟨by show 3≤sizeLine;decide,fun f4 hf4=>?_⟩
 have m4:=Same.new hf4 (.lst (eg4.map V.str))
 refine .inl ⟨_,_,m4 _ _ k3,upd_same,by show 31≤sizeLine;decide,fun e4 he4=>?_⟩
 have k4:upd (upd G3 f4 (.lst (eg4.map V.str))) e4 (.lst ((eg1++eg2++eg3++eg4).map V.str)) e4=some (.lst ((eg1++eg2++eg3++eg4).map V.str)):=upd_same
 refine (show ∀ G4:Hp,G4 e4=some (.lst ((eg1++eg2++eg3++eg4).map V.str))→_ from fun G4 k4=>?_) (upd (upd G3 f4 (.lst (eg4.map V.str))) e4 (.lst ((eg1++eg2++eg3++eg4).map V.str))) k4
 refine ⟨by show 9≤sizeLine;decide,fun f5 hf5=>?_⟩
 have m5:=Same.new hf5 (.lst (eg5.map V.str))
 refine .inl ⟨_,_,m5 _ _ k4,upd_same,by show 40≤sizeLine;decide,fun e5 he5=>?_⟩
 have k5:upd (upd G4 f5 (.lst (eg5.map V.str))) e5 (.lst ((eg1++eg2++eg3++eg4++eg5).map V.str)) e5=some (.lst ((eg1++eg2++eg3++eg4++eg5).map V.str)):=upd_same
 refine (show ∀ G5:Hp,G5 e5=some (.lst ((eg1++eg2++eg3++eg4++eg5).map V.str))→_ from fun G5 k5=>?_) (upd (upd G4 f5 (.lst (eg5.map V.str))) e5 (.lst ((eg1++eg2++eg3++eg4++eg5).map V.str))) k5
 refine ⟨by show 10≤sizeLine;decide,fun f6 hf6=>?_⟩
 have m6:=Same.new hf6 (.lst (eg6.map V.str))
 refine .inl ⟨_,_,m6 _ _ k5,upd_same,by show 50≤sizeLine;decide,fun e6 he6=>?_⟩
 have k6:upd (upd G5 f6 (.lst (eg6.map V.str))) e6 (.lst ((eg1++eg2++eg3++eg4++eg5++eg6).map V.str)) e6=some (.lst ((eg1++eg2++eg3++eg4++eg5++eg6).map V.str)):=upd_same
 refine (show ∀ G6:Hp,G6 e6=some (.lst ((eg1++eg2++eg3++eg4++eg5++eg6).map V.str))→_ from fun G6 k6=>?_) (upd (upd G5 f6 (.lst (eg6.map V.str))) e6 (.lst ((eg1++eg2++eg3++eg4++eg5++eg6).map V.str))) k6
 have k7:G6 e6=some (.lst (egs.map V.str)):=k6
 have hegs:∀ u∈egs,Bd u:=fun u hu=>egs_bd hu
 have egl:egs.length≤60:=by decide
 generalize egs=es at k7 hegs egl
 refine ⟨3,rfl,by decide,by decide,for_range (fun i σ H'=>Same G6 H'∧∃ x5 x8,σ=[some (.ref a),some (.ref p),some (.ref r),x3,some (.ref T),x5,x6,some (.ref e6),x8]) ⟨Same.refl _,_,_,rfl⟩ ?_ ?_⟩
 · rintro i σ H' hi ⟨y,x5,x8,rfl⟩
   have hw:(0:Int)+(i:Int)=0∨(0:Int)+(i:Int)=1∨(0:Int)+(i:Int)=2:=by have:(3:Int).toNat=3:=rfl;omega
   refine ⟨e6,rfl,⟨_,SqL.of (y _ _ k7)⟩,cmp_list (xs:=es.map V.str) (fun j zs H2=>Same H' H2∧zs=(List.replicate j true).map V.bl) ⟨Same.refl _,rfl⟩ ?_ ?_ ?_⟩
   · rintro j zs H2 _ ⟨y2,_⟩
     exact SqL.of (y2 _ _ (y _ _ k7))
   · rintro j x zs H2 hx ⟨y2,rfl⟩
     obtain ⟨hj,rfl⟩:=str_at hx
     refine ⟨by rw [List.length_map,List.length_replicate];exact small1000 (by omega),?_⟩
     exact ⟨_,_,rfl,hw,hegs _ (List.getElem_mem hj),fun H3 y3=>⟨y2.trans y3,rep_snoc j⟩⟩
   rintro zs H2 ⟨y2,rfl⟩ D4 hD4
   refine ⟨_,SqL.of upd_same,?_⟩
   rw [rep_all]
   refine iteB (fun c=>absurd c (by decide)) (fun _=>?_)
   have y4:=(y.trans y2).trans (Same.new hD4 (.lst ((List.replicate (es.map V.str).length true).map V.bl)))
   generalize upd H2 D4 (.lst ((List.replicate (es.map V.str).length true).map V.bl))=H4 at y4
   refine ⟨by show 1≤sizeLine;decide,fun u1 hu1=>?_⟩
   have v1:=Same.new hu1 (.tup [V.int 1])
   have w1:NTs (upd H4 u1 (.tup [V.int 1])) (.ref u1):=nts_tup upd_same
   generalize upd H4 u1 (.tup [V.int 1])=J1 at v1 w1
   refine ⟨by show 1≤sizeLine;decide,fun u2 hu2=>?_⟩
   have v2:=Same.new hu2 (.lst [V.str (Str.ofString "-")])
   have w2:NTs (upd J1 u2 (.lst [V.str (Str.ofString "-")])) (.ref u2):=nts_lst upd_same
   generalize upd J1 u2 (.lst [V.str (Str.ofString "-")])=J2 at v2 w2
   refine fun u3 hu3=>?_
   have v3:=Same.new hu3 (.dK [])
   have w3:NTs (upd J2 u3 (.dK [])) (.ref u3):=nts_dK upd_same
   generalize upd J2 u3 (.dK [])=J3 at v3 w3
   refine ⟨by show 1≤sizeLine;decide,fun u4 hu4=>?_⟩
   have v4:=Same.new hu4 (.tup [V.str (Str.ofString "all")])
   have w4:NTs (upd J3 u4 (.tup [V.str (Str.ofString "all")])) (.ref u4):=nts_tup upd_same
   generalize upd J3 u4 (.tup [V.str (Str.ofString "all")])=J4 at v4 w4
   refine ⟨by show 8≤sizeLine;decide,fun u5 hu5=>?_⟩
   have v5:=Same.new hu5 (.tup [V.non,.int 0,.bl true,.ref u1,.ref u2,.ref u3,.ref u4,.int 5])
   have g5:upd J4 u5 (.tup [V.non,.int 0,.bl true,.ref u1,.ref u2,.ref u3,.ref u4,.int 5]) u5=some (.tup [V.non,.int 0,.bl true,.ref u1,.ref u2,.ref u3,.ref u4,.int 5]):=upd_same
   have z5:=(((y4.trans v1).trans v2).trans v3).trans (v4.trans v5)
   have hnt:∀ v∈[V.non,.int 0,.bl true,.ref u1,.ref u2,.ref u3,.ref u4,.int 5],NTs (upd J4 u5 (.tup [V.non,.int 0,.bl true,.ref u1,.ref u2,.ref u3,.ref u4,.int 5])) v:=fun v hv=>by
    simp only [List.mem_cons,List.not_mem_nil,or_false] at hv
    rcases hv with rfl | rfl | rfl | rfl | rfl | rfl | rfl | rfl
    · exact nts_non
    · exact nts_int 0
    · exact nts_bl true
    · exact w1.same (((v2.trans v3).trans v4).trans v5)
    · exact w2.same ((v3.trans v4).trans v5)
    · exact w3.same (v4.trans v5)
    · exact w4.same v5
    · exact nts_int 5
   generalize upd J4 u5 (.tup [V.non,.int 0,.bl true,.ref u1,.ref u2,.ref u3,.ref u4,.int 5])=J5 at g5 z5 hnt
   generalize [V.non,.int 0,.bl true,.ref u1,.ref u2,.ref u3,.ref u4,.int 5]=xs at g5 hnt
   refine ⟨u5,rfl,⟨_,SqT.of g5⟩,for_tup (xs:=xs) (fun j σ H'=>Same J5 H'∧∃ x8,σ=[some (.ref a),some (.ref p),some (.ref r),x3,some (.ref T),some (.int (0+(i:Int))),x6,some (.ref e6),x8]) ⟨Same.refl _,_,rfl⟩ ?_ ?_ ?_⟩
   · rintro j σ H' _ ⟨y',_⟩
     exact SqT.of (y' _ _ g5)
   · rintro j x σ H' hx ⟨y',x8,rfl⟩
     obtain ⟨t,ht,hs⟩:=hnt x (List.mem_of_getElem? hx) H' y'
     refine .inr ⟨x,t,_,rfl,hw,ht,hs,fun H7 y7=>?_⟩
     exact ⟨y'.trans y7,_,rfl⟩
   · rintro σ H' ⟨y',x8,rfl⟩
     exact ⟨z5.trans y',_,_,rfl⟩
 · rintro σ H' ⟨y,x5,x8,rfl⟩
   exact q _
end
end K70
namespace K70
open PySem L2
theorem fnA {P:Program} {w:World} {K:PySem.W.Frag} {mg:Str→Option Value} {base:Heap} {x:Str} {k:Nat} {ps:List Str} {sp:Sp} {f:Addr} {fd:FuncData} (F:FnOk P w K mg base CX0 k f fd ps sp) (b:Binds K fd ps []) (kp:PySem.W.keepIn K (.ref f)=true) (m:mg x=some (.ref f)):FnA P w K mg base x k ps sp:=⟨⟨f,fd,F,b,kp,m⟩⟩
theorem us1 {α:Type} {p:List α→Prop} (h:∀ a,p [a]):∀ us:List α,us.length=1→p us
 | [a],_=>h a
theorem us2 {α:Type} {p:List α→Prop} (h:∀ a b,p [a,b]):∀ us:List α,us.length=2→p us
 | [a,b],_=>h a b
theorem us3 {α:Type} {p:List α→Prop} (h:∀ a b c,p [a,b,c]):∀ us:List α,us.length=3→p us
 | [a,b,c],_=>h a b c
theorem all_mk {l:PySem.W.OpenLaw} {w:World} {K:PySem.W.Frag} {h:Heap} {mg:Str→Option Value} {fa f1 f2 f3 f4 f5 f6 f7 f8 f9 f10 f11 f12 f13 f14 f15 f16 f17 f18 f19 f20 f21 f22 f23 f24 f25 f26 f27 f28 f29:Addr} {tk1 tk2 tk3 tk4 tk5 tk6:Tok} (X:K.In h) (G:h.Ns mainGlobals mg) (hfa:mg "law" = some (.ref fa))
 {od1 an1 od2 an2 od3 an3 od4 an4 od5 an5 od6 an6 od7 an7 od8 an8 od9 an9 od10 an10 od11 an11 od12 an12 od13 an13 od14 an14 od15 an15 od16 an16 od17 an17 od18 an18 od19 an19 od20 an20 od21 an21 od22 an22 od23 an23 od24 an24 od25 an25 od26 an26 od27 an27 od28 an28 od29 an29:Option Addr} {sl1 sl2 sl3 sl4 sl5 sl6 sl7 sl8 sl9 sl10 sl11 sl12 sl13 sl14 sl15 sl16 sl17 sl18 sl19 sl20 sl21 sl22 sl23 sl24 sl25 sl26 sl27 sl28 sl29:Array (Option Value)} {oc1 kV1 dc1 pm1 cd1 ct1 oc2 kV2 dc2 pm2 cd2 ct2 oc3 kV3 dc3 pm3 cd3 ct3 oc4 kV4 dc4 pm4 cd4 ct4 oc5 kV5 dc5 pm5 cd5 ct5 oc6 kV6 dc6 pm6 cd6 ct6 oc7 kV7 dc7 pm7 cd7 ct7 oc8 kV8 dc8 pm8 cd8 ct8 oc9 kV9 dc9 pm9 cd9 ct9 oc10 kV10 dc10 pm10 cd10 ct10 oc11 kV11 dc11 pm11 cd11 ct11 oc12 kV12 dc12 pm12 cd12 ct12 oc13 kV13 dc13 pm13 cd13 ct13 oc14 kV14 dc14 pm14 cd14 ct14 oc15 kV15 dc15 pm15 cd15 ct15 oc16 kV16 dc16 pm16 cd16 ct16 oc17 kV17 dc17 pm17 cd17 ct17 oc18 kV18 dc18 pm18 cd18 ct18 oc19 kV19 dc19 pm19 cd19 ct19 oc20 kV20 dc20 pm20 cd20 ct20 oc21 kV21 dc21 pm21 cd21 ct21 oc22 kV22 dc22 pm22 cd22 ct22 oc23 kV23 dc23 pm23 cd23 ct23 oc24 kV24 dc24 pm24 cd24 ct24 oc25 kV25 dc25 pm25 cd25 ct25 oc26 kV26 dc26 pm26 cd26 ct26 oc27 kV27 dc27 pm27 cd27 ct27 oc28 kV28 dc28 pm28 cd28 ct28 oc29 kV29 dc29 pm29 cd29 ct29:Value}
 (a1:PySem.W.nsIn K mainGlobals "is_whole" = some (some (.ref f1))) (l1:K.lookup f1=some ⟨oc1,od1,.func (PySem.W.fnOf "is_whole" "is_whole" (defArgs (top 12)) (defBody (top 12)) (defScope (top 12)) .none kV1 dc1 pm1 an1 cd1 ct1),sl1⟩) (c1:PySem.W.codeIn K cd1 "is_whole" = true) (k1:PySem.W.keepIn K (.ref f1)=true)
 (a2:PySem.W.nsIn K mainGlobals "is_within" = some (some (.ref f2))) (l2:K.lookup f2=some ⟨oc2,od2,.func (PySem.W.fnOf "is_within" "is_within" (defArgs (top 13)) (defBody (top 13)) (defScope (top 13)) .none kV2 dc2 pm2 an2 cd2 ct2),sl2⟩) (c2:PySem.W.codeIn K cd2 "is_within" = true) (k2:PySem.W.keepIn K (.ref f2)=true)
 (a3:PySem.W.nsIn K mainGlobals "is_size" = some (some (.ref f3))) (l3:K.lookup f3=some ⟨oc3,od3,.func (PySem.W.fnOf "is_size" "is_size" (defArgs (top 20)) (defBody (top 20)) (defScope (top 20)) .none kV3 dc3 pm3 an3 cd3 ct3),sl3⟩) (c3:PySem.W.codeIn K cd3 "is_size" = true) (k3:PySem.W.keepIn K (.ref f3)=true)
 (a4:PySem.W.nsIn K mainGlobals "is_divisor" = some (some (.ref f4))) (l4:K.lookup f4=some ⟨oc4,od4,.func (PySem.W.fnOf "is_divisor" "is_divisor" (defArgs (top 21)) (defBody (top 21)) (defScope (top 21)) .none kV4 dc4 pm4 an4 cd4 ct4),sl4⟩) (c4:PySem.W.codeIn K cd4 "is_divisor" = true) (k4:PySem.W.keepIn K (.ref f4)=true)
 (a5:PySem.W.nsIn K mainGlobals "are_rests" = some (some (.ref f5))) (l5:K.lookup f5=some ⟨oc5,od5,.func (PySem.W.fnOf "are_rests" "are_rests" (defArgs (top 22)) (defBody (top 22)) (defScope (top 22)) .none kV5 dc5 pm5 an5 cd5 ct5),sl5⟩) (c5:PySem.W.codeIn K cd5 "are_rests" = true) (k5:PySem.W.keepIn K (.ref f5)=true)
 (a6:PySem.W.nsIn K mainGlobals "fits_word" = some (some (.ref f6))) (l6:K.lookup f6=some ⟨oc6,od6,.func (PySem.W.fnOf "fits_word" "fits_word" (defArgs (top 23)) (defBody (top 23)) (defScope (top 23)) .none kV6 dc6 pm6 an6 cd6 ct6),sl6⟩) (c6:PySem.W.codeIn K cd6 "fits_word" = true) (k6:PySem.W.keepIn K (.ref f6)=true)
 (a7:PySem.W.nsIn K mainGlobals "is_kind" = some (some (.ref f7))) (l7:K.lookup f7=some ⟨oc7,od7,.func (PySem.W.fnOf "is_kind" "is_kind" (defArgs (top 24)) (defBody (top 24)) (defScope (top 24)) .none kV7 dc7 pm7 an7 cd7 ct7),sl7⟩) (c7:PySem.W.codeIn K cd7 "is_kind" = true) (k7:PySem.W.keepIn K (.ref f7)=true)
 (a8:PySem.W.nsIn K mainGlobals "is_parting" = some (some (.ref f8))) (l8:K.lookup f8=some ⟨oc8,od8,.func (PySem.W.fnOf "is_parting" "is_parting" (defArgs (top 15)) (defBody (top 15)) (defScope (top 15)) .none kV8 dc8 pm8 an8 cd8 ct8),sl8⟩) (c8:PySem.W.codeIn K cd8 "is_parting" = true) (k8:PySem.W.keepIn K (.ref f8)=true)
 (a9:PySem.W.nsIn K mainGlobals "is_text" = some (some (.ref f9))) (l9:K.lookup f9=some ⟨oc9,od9,.func (PySem.W.fnOf "is_text" "is_text" (defArgs (top 29)) (defBody (top 29)) (defScope (top 29)) .none kV9 dc9 pm9 an9 cd9 ct9),sl9⟩) (c9:PySem.W.codeIn K cd9 "is_text" = true) (k9:PySem.W.keepIn K (.ref f9)=true)
 (a10:PySem.W.nsIn K mainGlobals "is_number" = some (some (.ref f10))) (l10:K.lookup f10=some ⟨oc10,od10,.func (PySem.W.fnOf "is_number" "is_number" (defArgs (top 30)) (defBody (top 30)) (defScope (top 30)) .none kV10 dc10 pm10 an10 cd10 ct10),sl10⟩) (c10:PySem.W.codeIn K cd10 "is_number" = true) (k10:PySem.W.keepIn K (.ref f10)=true)
 (a11:PySem.W.nsIn K mainGlobals "numbers_read" = some (some (.ref f11))) (l11:K.lookup f11=some ⟨oc11,od11,.func (PySem.W.fnOf "numbers_read" "numbers_read" (defArgs (top 31)) (defBody (top 31)) (defScope (top 31)) .none kV11 dc11 pm11 an11 cd11 ct11),sl11⟩) (c11:PySem.W.codeIn K cd11 "numbers_read" = true) (k11:PySem.W.keepIn K (.ref f11)=true)
 (a12:PySem.W.nsIn K mainGlobals "read_parting" = some (some (.ref f12))) (l12:K.lookup f12=some ⟨oc12,od12,.func (PySem.W.fnOf "read_parting" "read_parting" (defArgs (top 32)) (defBody (top 32)) (defScope (top 32)) .none kV12 dc12 pm12 an12 cd12 ct12),sl12⟩) (c12:PySem.W.codeIn K cd12 "read_parting" = true) (k12:PySem.W.keepIn K (.ref f12)=true)
 (a13:PySem.W.nsIn K mainGlobals "kind_of_words" = some (some (.ref f13))) (l13:K.lookup f13=some ⟨oc13,od13,.func (PySem.W.fnOf "kind_of_words" "kind_of_words" (defArgs (top 33)) (defBody (top 33)) (defScope (top 33)) .none kV13 dc13 pm13 an13 cd13 ct13),sl13⟩) (c13:PySem.W.codeIn K cd13 "kind_of_words" = true) (k13:PySem.W.keepIn K (.ref f13)=true)
 (a14:PySem.W.nsIn K mainGlobals "read_kind" = some (some (.ref f14))) (l14:K.lookup f14=some ⟨oc14,od14,.func (PySem.W.fnOf "read_kind" "read_kind" (defArgs (top 34)) (defBody (top 34)) (defScope (top 34)) .none kV14 dc14 pm14 an14 cd14 ct14),sl14⟩) (c14:PySem.W.codeIn K cd14 "read_kind" = true) (k14:PySem.W.keepIn K (.ref f14)=true)
 (a15:PySem.W.nsIn K mainGlobals "read_drawn" = some (some (.ref f15))) (l15:K.lookup f15=some ⟨oc15,od15,.func (PySem.W.fnOf "read_drawn" "read_drawn" (defArgs (top 35)) (defBody (top 35)) (defScope (top 35)) .none kV15 dc15 pm15 an15 cd15 ct15),sl15⟩) (c15:PySem.W.codeIn K cd15 "read_drawn" = true) (k15:PySem.W.keepIn K (.ref f15)=true)
 (a16:PySem.W.nsIn K mainGlobals "_law_spool" = some (some (.ref f16))) (l16:K.lookup f16=some ⟨oc16,od16,.func (PySem.W.fnOf "_law_spool" "_law_spool" (defArgs (top 37)) (defBody (top 37)) (defScope (top 37)) .none kV16 dc16 pm16 an16 cd16 ct16),sl16⟩) (c16:PySem.W.codeIn K cd16 "_law_spool" = true) (k16:PySem.W.keepIn K (.ref f16)=true)
 (a17:PySem.W.nsIn K mainGlobals "_law_take" = some (some (.ref f17))) (l17:K.lookup f17=some ⟨oc17,od17,.func (PySem.W.fnOf "_law_take" "_law_take" (defArgs (top 38)) (defBody (top 38)) (defScope (top 38)) .none kV17 dc17 pm17 an17 cd17 ct17),sl17⟩) (c17:PySem.W.codeIn K cd17 "_law_take" = true) (k17:PySem.W.keepIn K (.ref f17)=true)
 (a18:PySem.W.nsIn K mainGlobals "_law_kind" = some (some (.ref f18))) (l18:K.lookup f18=some ⟨oc18,od18,.func (PySem.W.fnOf "_law_kind" "_law_kind" (defArgs (top 39)) (defBody (top 39)) (defScope (top 39)) .none kV18 dc18 pm18 an18 cd18 ct18),sl18⟩) (c18:PySem.W.codeIn K cd18 "_law_kind" = true) (k18:PySem.W.keepIn K (.ref f18)=true)
 (a19:PySem.W.nsIn K mainGlobals "_law_parting" = some (some (.ref f19))) (l19:K.lookup f19=some ⟨oc19,od19,.func (PySem.W.fnOf "_law_parting" "_law_parting" (defArgs (top 40)) (defBody (top 40)) (defScope (top 40)) .none kV19 dc19 pm19 an19 cd19 ct19),sl19⟩) (c19:PySem.W.codeIn K cd19 "_law_parting" = true) (k19:PySem.W.keepIn K (.ref f19)=true)
 (a20:PySem.W.nsIn K mainGlobals "_law_text" = some (some (.ref f20))) (l20:K.lookup f20=some ⟨oc20,od20,.func (PySem.W.fnOf "_law_text" "_law_text" (defArgs (top 41)) (defBody (top 41)) (defScope (top 41)) .none kV20 dc20 pm20 an20 cd20 ct20),sl20⟩) (c20:PySem.W.codeIn K cd20 "_law_text" = true) (k20:PySem.W.keepIn K (.ref f20)=true)
 (a21:PySem.W.nsIn K mainGlobals "_law_kind_text" = some (some (.ref f21))) (l21:K.lookup f21=some ⟨oc21,od21,.func (PySem.W.fnOf "_law_kind_text" "_law_kind_text" (defArgs (top 42)) (defBody (top 42)) (defScope (top 42)) .none kV21 dc21 pm21 an21 cd21 ct21),sl21⟩) (c21:PySem.W.codeIn K cd21 "_law_kind_text" = true) (k21:PySem.W.keepIn K (.ref f21)=true)
 (a22:PySem.W.nsIn K mainGlobals "_law_told" = some (some (.ref f22))) (l22:K.lookup f22=some ⟨oc22,od22,.func (PySem.W.fnOf "_law_told" "_law_told" (defArgs (top 43)) (defBody (top 43)) (defScope (top 43)) .none kV22 dc22 pm22 an22 cd22 ct22),sl22⟩) (c22:PySem.W.codeIn K cd22 "_law_told" = true) (k22:PySem.W.keepIn K (.ref f22)=true)
 (a23:PySem.W.nsIn K mainGlobals "_law_number" = some (some (.ref f23))) (l23:K.lookup f23=some ⟨oc23,od23,.func (PySem.W.fnOf "_law_number" "_law_number" (defArgs (top 44)) (defBody (top 44)) (defScope (top 44)) .none kV23 dc23 pm23 an23 cd23 ct23),sl23⟩) (c23:PySem.W.codeIn K cd23 "_law_number" = true) (k23:PySem.W.keepIn K (.ref f23)=true)
 (a24:PySem.W.nsIn K mainGlobals "_law_parted" = some (some (.ref f24))) (l24:K.lookup f24=some ⟨oc24,od24,.func (PySem.W.fnOf "_law_parted" "_law_parted" (defArgs (top 45)) (defBody (top 45)) (defScope (top 45)) .none kV24 dc24 pm24 an24 cd24 ct24),sl24⟩) (c24:PySem.W.codeIn K cd24 "_law_parted" = true) (k24:PySem.W.keepIn K (.ref f24)=true)
 (a25:PySem.W.nsIn K mainGlobals "_law_kinded" = some (some (.ref f25))) (l25:K.lookup f25=some ⟨oc25,od25,.func (PySem.W.fnOf "_law_kinded" "_law_kinded" (defArgs (top 46)) (defBody (top 46)) (defScope (top 46)) .none kV25 dc25 pm25 an25 cd25 ct25),sl25⟩) (c25:PySem.W.codeIn K cd25 "_law_kinded" = true) (k25:PySem.W.keepIn K (.ref f25)=true)
 (a26:PySem.W.nsIn K mainGlobals "_law_drawn" = some (some (.ref f26))) (l26:K.lookup f26=some ⟨oc26,od26,.func (PySem.W.fnOf "_law_drawn" "_law_drawn" (defArgs (top 47)) (defBody (top 47)) (defScope (top 47)) .none kV26 dc26 pm26 an26 cd26 ct26),sl26⟩) (c26:PySem.W.codeIn K cd26 "_law_drawn" = true) (k26:PySem.W.keepIn K (.ref f26)=true)
 (a27:PySem.W.nsIn K mainGlobals "_law_bent" = some (some (.ref f27))) (l27:K.lookup f27=some ⟨oc27,od27,.func (PySem.W.fnOf "_law_bent" "_law_bent" (defArgs (top 48)) (defBody (top 48)) (defScope (top 48)) .none kV27 dc27 pm27 an27 cd27 ct27),sl27⟩) (c27:PySem.W.codeIn K cd27 "_law_bent" = true) (k27:PySem.W.keepIn K (.ref f27)=true)
 (a28:PySem.W.nsIn K mainGlobals "_law_right" = some (some (.ref f28))) (l28:K.lookup f28=some ⟨oc28,od28,.func (PySem.W.fnOf "_law_right" "_law_right" (defArgs (top 49)) (defBody (top 49)) (defScope (top 49)) .none kV28 dc28 pm28 an28 cd28 ct28),sl28⟩) (c28:PySem.W.codeIn K cd28 "_law_right" = true) (k28:PySem.W.keepIn K (.ref f28)=true)
 (a29:PySem.W.nsIn K mainGlobals "law" = some (some (.ref f29))) (l29:K.lookup f29=some ⟨oc29,od29,.func (PySem.W.fnOf "law" "law" (defArgs (top 50)) (defBody (top 50)) (defScope (top 50)) .none kV29 dc29 pm29 an29 cd29 ct29),sl29⟩) (c29:PySem.W.codeIn K cd29 "law" = true) (k29:PySem.W.keepIn K (.ref f29)=true)
 (y1:PySem.W.nsIn K mainGlobals "MOST_SIZE" = some (some (.int 600 tk1))) (y2:PySem.W.nsIn K mainGlobals "LEAST_DIVISOR" = some (some (.int 2 tk2))) (y3:PySem.W.nsIn K mainGlobals "MOST_DIVISOR" = some (some (.int 60 tk3))) (y4:PySem.W.nsIn K mainGlobals "MOST_SIGNS" = some (some (.int 2000 tk4))) (y5:PySem.W.nsIn K mainGlobals "MOST_FIGURES" = some (some (.int 6 tk5))) (y6:PySem.W.nsIn K mainGlobals "FIGURES" = some (some (.str "0123456789" tk6)))
 {e0 e1 e2 e3 e4 e5 e6 e7 e8 e9:Addr} (ye0:PySem.W.nsIn K mainGlobals "PartError" = some (some (.ref e0))) (ye1:PySem.W.nsIn K mainGlobals "NoRow" = some (some (.ref e1))) (ye2:PySem.W.nsIn K mainGlobals "NoCore" = some (some (.ref e2))) (ye3:PySem.W.nsIn K mainGlobals "NoTurn" = some (some (.ref e3))) (ye4:PySem.W.nsIn K mainGlobals "NoPair" = some (some (.ref e4))) (ye5:PySem.W.nsIn K mainGlobals "NoList" = some (some (.ref e5))) (ye6:PySem.W.nsIn K mainGlobals "NoPlace" = some (some (.ref e6))) (ye7:PySem.W.nsIn K mainGlobals "NoText" = some (some (.ref e7))) (ye8:PySem.W.nsIn K mainGlobals "NoLine" = some (some (.ref e8))) (ye9:PySem.W.nsIn K mainGlobals "NotSo" = some (some (.ref e9))) (yE7:errB K e0 e7 [e1,e2,e3,e4,e5,e6,e8,e9]=true)
 (z1:PySem.W.nsIn K mainGlobals "bool" = some none) (z2:PySem.W.nsIn K mainGlobals "int" = some none) (z3:PySem.W.nsIn K mainGlobals "isinstance" = some none) (z4:PySem.W.nsIn K mainGlobals "len" = some none) (z5:PySem.W.nsIn K mainGlobals "tuple" = some none) (z6:PySem.W.nsIn K mainGlobals "str" = some none) (z7:PySem.W.nsIn K mainGlobals "range" = some none) (z8:PySem.W.nsIn K mainGlobals "all" = some none) (z9:PySem.W.nsIn K mainGlobals "abs" = some none) (z10:PySem.W.nsIn K mainGlobals "max" = some none) (z11:PySem.W.nsIn K mainGlobals "min" = some none) (z12:PySem.W.nsIn K mainGlobals "sorted" = some none) (z13:PySem.W.nsIn K mainGlobals "ValueError" = some none) (z14:PySem.W.nsIn K mainGlobals "repr" = some none) :
 ∃ fd:FuncData,(∀ (s:Shared) (v:Value),BindsTo s fd ⟨[v],[]⟩ [("_law_script",v)])∧∀ base:Heap,K.In base→base.Ns mainGlobals mg→FnOk l.prog w K mg base CX0 9 fa fd ["_law_script"] (sp_law K):=by
 have e:=hfa.symm.trans (PySem.W.mg_of X G a29)
 cases e
 have F1:=fun_mk (st:=top 12) l1 c1 k1
 have b1:=F1.binds (ps:=["thing"]) fun _ _ _ _ _ _=>us1 fun _=>rfl
 have F2:=fun_mk (st:=top 13) l2 c2 k2
 have b2:=F2.binds (ps:=["thing","least","most"]) fun _ _ _ _ _ _=>us3 fun _ _ _=>rfl
 have F3:=fun_mk (st:=top 20) l3 c3 k3
 have b3:=F3.binds (ps:=["thing"]) fun _ _ _ _ _ _=>us1 fun _=>rfl
 have F4:=fun_mk (st:=top 21) l4 c4 k4
 have b4:=F4.binds (ps:=["thing"]) fun _ _ _ _ _ _=>us1 fun _=>rfl
 have F5:=fun_mk (st:=top 22) l5 c5 k5
 have b5:=F5.binds (ps:=["thing","m"]) fun _ _ _ _ _ _=>us2 fun _ _=>rfl
 have F6:=fun_mk (st:=top 23) l6 c6 k6
 have b6:=F6.binds (ps:=["word","given"]) fun _ _ _ _ _ _=>us2 fun _ _=>rfl
 have F7:=fun_mk (st:=top 24) l7 c7 k7
 have b7:=F7.binds (ps:=["thing"]) fun _ _ _ _ _ _=>us1 fun _=>rfl
 have F8:=fun_mk (st:=top 15) l8 c8 k8
 have b8:=F8.binds (ps:=["thing"]) fun _ _ _ _ _ _=>us1 fun _=>rfl
 have F9:=fun_mk (st:=top 29) l9 c9 k9
 have b9:=F9.binds (ps:=["thing"]) fun _ _ _ _ _ _=>us1 fun _=>rfl
 have F10:=fun_mk (st:=top 30) l10 c10 k10
 have b10:=F10.binds (ps:=["text"]) fun _ _ _ _ _ _=>us1 fun _=>rfl
 have F11:=fun_mk (st:=top 31) l11 c11 k11
 have b11:=F11.binds (ps:=["words"]) fun _ _ _ _ _ _=>us1 fun _=>rfl
 have F12:=fun_mk (st:=top 32) l12 c12 k12
 have b12:=F12.binds (ps:=["thing"]) fun _ _ _ _ _ _=>us1 fun _=>rfl
 have F13:=fun_mk (st:=top 33) l13 c13 k13
 have b13:=F13.binds (ps:=["words"]) fun _ _ _ _ _ _=>us1 fun _=>rfl
 have F14:=fun_mk (st:=top 34) l14 c14 k14
 have b14:=F14.binds (ps:=["thing"]) fun _ _ _ _ _ _=>us1 fun _=>rfl
 have F15:=fun_mk (st:=top 35) l15 c15 k15
 have b15:=F15.binds (ps:=["thing"]) fun _ _ _ _ _ _=>us1 fun _=>rfl
 have F16:=fun_mk (st:=top 37) l16 c16 k16
 have b16:=F16.binds (ps:=["_law_script"]) fun _ _ _ _ _ _=>us1 fun _=>rfl
 have F17:=fun_mk (st:=top 38) l17 c17 k17
 have b17:=F17.binds (ps:=["_law_spool_here","_law_many"]) fun _ _ _ _ _ _=>us2 fun _ _=>rfl
 have F18:=fun_mk (st:=top 39) l18 c18 k18
 have b18:=F18.binds (ps:=["_law_spool_here","_law_most"]) fun _ _ _ _ _ _=>us2 fun _ _=>rfl
 have F19:=fun_mk (st:=top 40) l19 c19 k19
 have b19:=F19.binds (ps:=["_law_spool_here","_law_most"]) fun _ _ _ _ _ _=>us2 fun _ _=>rfl
 have F20:=fun_mk (st:=top 41) l20 c20 k20
 have b20:=F20.binds (ps:=["_law_parting_here"]) fun _ _ _ _ _ _=>us1 fun _=>rfl
 have F21:=fun_mk (st:=top 42) l21 c21 k21
 have b21:=F21.binds (ps:=["_law_kind_here"]) fun _ _ _ _ _ _=>us1 fun _=>rfl
 have F22:=fun_mk (st:=top 43) l22 c22 k22
 have b22:=F22.binds (ps:=["_law_way","_law_text_here"]) fun _ _ _ _ _ _=>us2 fun _ _=>rfl
 have F23:=fun_mk (st:=top 44) l23 c23 k23
 have b23:=F23.binds (ps:=["_law_word","_law_least","_law_most"]) fun _ _ _ _ _ _=>us3 fun _ _ _=>rfl
 have F24:=fun_mk (st:=top 45) l24 c24 k24
 have b24:=F24.binds (ps:=["_law_text_here"]) fun _ _ _ _ _ _=>us1 fun _=>rfl
 have F25:=fun_mk (st:=top 46) l25 c25 k25
 have b25:=F25.binds (ps:=["_law_text_here"]) fun _ _ _ _ _ _=>us1 fun _=>rfl
 have F26:=fun_mk (st:=top 47) l26 c26 k26
 have b26:=F26.binds (ps:=["_law_text_here"]) fun _ _ _ _ _ _=>us1 fun _=>rfl
 have F27:=fun_mk (st:=top 48) l27 c27 k27
 have b27:=F27.binds (ps:=["_law_spool_here","_law_text_here"]) fun _ _ _ _ _ _=>us2 fun _ _=>rfl
 have F28:=fun_mk (st:=top 49) l28 c28 k28
 have b28:=F28.binds (ps:=["_law_way","_law_text_here"]) fun _ _ _ _ _ _=>us2 fun _ _=>rfl
 have F29:=fun_mk (st:=top 50) l29 c29 k29
 have m_bool:=PySem.W.mg_none_of X G z1
 have m_int:=PySem.W.mg_none_of X G z2
 have m_isinstance:=PySem.W.mg_none_of X G z3
 have m_len:=PySem.W.mg_none_of X G z4
 have m_tuple:=PySem.W.mg_none_of X G z5
 have m_str:=PySem.W.mg_none_of X G z6
 have m_range:=PySem.W.mg_none_of X G z7
 have m_all:=PySem.W.mg_none_of X G z8
 have m_abs:=PySem.W.mg_none_of X G z9
 have m_max:=PySem.W.mg_none_of X G z10
 have m_min:=PySem.W.mg_none_of X G z11
 have m_sorted:=PySem.W.mg_none_of X G z12
 have m_ValueError:=PySem.W.mg_none_of X G z13
 have m_repr:=PySem.W.mg_none_of X G z14
 have g_MOST_SIZE:IntG mg "MOST_SIZE" 600:=⟨_,PySem.W.mg_of X G y1⟩
 have g_LEAST_DIVISOR:IntG mg "LEAST_DIVISOR" 2:=⟨_,PySem.W.mg_of X G y2⟩
 have g_MOST_DIVISOR:IntG mg "MOST_DIVISOR" 60:=⟨_,PySem.W.mg_of X G y3⟩
 have g_MOST_SIGNS:IntG mg "MOST_SIGNS" 2000:=⟨_,PySem.W.mg_of X G y4⟩
 have g_MOST_FIGURES:IntG mg "MOST_FIGURES" 6:=⟨_,PySem.W.mg_of X G y5⟩
 have g_FIGURES:StrG mg "FIGURES" "0123456789":=⟨_,PySem.W.mg_of X G y6⟩
 have G_E:Errs mg e0 e1 e2 e3 e4 e5 e6 e7 e8 e9:=⟨PySem.W.mg_of X G ye0,PySem.W.mg_of X G ye1,PySem.W.mg_of X G ye2,PySem.W.mg_of X G ye3,PySem.W.mg_of X G ye4,PySem.W.mg_of X G ye5,PySem.W.mg_of X G ye6,PySem.W.mg_of X G ye7,PySem.W.mg_of X G ye8,PySem.W.mg_of X G ye9⟩
 have KE7:=ErrK.of yE7
 have N9_7:Nine K e7 e1 e2 e3 e4 e5 e6 e7 e8 e9:=⟨KE7.cls,KE7.vE,false,false,false,false,false,false,true,false,false,KE7.ot _ (by simp),KE7.ot _ (by simp),KE7.ot _ (by simp),KE7.ot _ (by simp),KE7.ot _ (by simp),KE7.ot _ (by simp),KE7.me,KE7.ot _ (by simp),KE7.ot _ (by simp),by decide⟩
 refine ⟨PySem.W.fnOf "law" "law" (defArgs (top 50)) (defBody (top 50)) (defScope (top 50)) .none kV29 dc29 pm29 an29 cd29 ct29,fun s v=>.of_eq rfl,fun base _ _=>?_⟩
 have A1:FnA l.prog w K mg base "is_whole" 1 ["thing"] sp_whole:=fnA (ok_whole F1 m_bool m_int m_isinstance) b1 k1 (PySem.W.mg_of X G a1)
 have A2:FnA l.prog w K mg base "is_within" 2 ["thing","least","most"] sp_within:=fnA (ok_within F2 A1) b2 k2 (PySem.W.mg_of X G a2)
 have A3:FnA l.prog w K mg base "is_size" 3 ["thing"] sp_size:=fnA (ok_size F3 g_MOST_SIZE A2) b3 k3 (PySem.W.mg_of X G a3)
 have A4:FnA l.prog w K mg base "is_divisor" 3 ["thing"] sp_div:=fnA (ok_div F4 g_LEAST_DIVISOR g_MOST_DIVISOR A2) b4 k4 (PySem.W.mg_of X G a4)
 have A5:FnA l.prog w K mg base "are_rests" 3 ["thing","m"] sp_rests:=fnA (ok_rests F5 m_isinstance m_len m_tuple A2) b5 k5 (PySem.W.mg_of X G a5)
 have A6:FnA l.prog w K mg base "fits_word" 4 ["word","given"] sp_fits:=fnA (ok_fits F6 m_len A3 A4 A5) b6 k6 (PySem.W.mg_of X G a6)
 have A7:FnA l.prog w K mg base "is_kind" 5 ["thing"] sp_isk:=fnA (ok_isk F7 m_isinstance m_len m_str m_tuple A6) b7 k7 (PySem.W.mg_of X G a7)
 have A8:FnA l.prog w K mg base "is_parting" 2 ["thing"] sp_is:=fnA (ok_is F8 m_isinstance m_len m_range m_tuple A1) b8 k8 (PySem.W.mg_of X G a8)
 have A9:FnA l.prog w K mg base "is_text" 1 ["thing"] sp_text2:=fnA (ok_text2 F9 m_isinstance m_len m_str g_MOST_SIGNS) b9 k9 (PySem.W.mg_of X G a9)
 have A10:FnA l.prog w K mg base "is_number" 1 ["text"] sp_number:=fnA (ok_number F10 m_all m_len g_MOST_FIGURES g_FIGURES) b10 k10 (PySem.W.mg_of X G a10)
 have B11:FnR l.prog w K mg base "numbers_read" 2 ["words"] (fun vs H Q E=>sp_no vs H Q E∨sp_nr e7 vs H Q E):=⟨⟨_,_,(FnOk.toX (ok_nr0 F11 m_all m_int m_tuple)).both (ok_nr KE7.ra (PySem.W.mg_of X G ye7) m_all m_int m_tuple F11 A10),b11,k11,(PySem.W.mg_of X G a11)⟩⟩
 have A11:FnA l.prog w K mg base "numbers_read" 2 ["words"] sp_no:=fnA (ok_nr0 F11 m_all m_int m_tuple) b11 k11 (PySem.W.mg_of X G a11)
 have B12:FnR l.prog w K mg base "read_parting" 3 ["thing"] (fun vs H Q E=>sp_no vs H Q E∨sp_rp2 e7 vs H Q E):=⟨⟨_,_,(FnOk.toX (ok_rp0 F12)).both (ok_rp2 KE7.ra (PySem.W.mg_of X G ye7) F12 A9 A8 B11),b12,k12,(PySem.W.mg_of X G a12)⟩⟩
 have A12:FnA l.prog w K mg base "read_parting" 3 ["thing"] sp_no:=fnA (ok_rp0 F12) b12 k12 (PySem.W.mg_of X G a12)
 have B13:FnR l.prog w K mg base "kind_of_words" 3 ["words"] (fun vs H Q E=>sp_no vs H Q E∨sp_kow e7 vs H Q E):=⟨⟨_,_,(FnOk.toX (ok_kw0 F13 m_len)).both (ok_kow m_len F13 B11),b13,k13,(PySem.W.mg_of X G a13)⟩⟩
 have A13:FnA l.prog w K mg base "kind_of_words" 3 ["words"] sp_no:=fnA (ok_kw0 F13 m_len) b13 k13 (PySem.W.mg_of X G a13)
 have B14:FnR l.prog w K mg base "read_kind" 6 ["thing"] (fun vs H Q E=>sp_no vs H Q E∨sp_rk2 e7 vs H Q E):=⟨⟨_,_,(FnOk.toX (ok_rk0 F14)).both (ok_rk2 KE7.ra (PySem.W.mg_of X G ye7) F14 A9 A7 B13),b14,k14,(PySem.W.mg_of X G a14)⟩⟩
 have A14:FnA l.prog w K mg base "read_kind" 6 ["thing"] sp_no:=fnA (ok_rk0 F14) b14 k14 (PySem.W.mg_of X G a14)
 have B15:FnR l.prog w K mg base "read_drawn" 3 ["thing"] (fun vs H Q E=>sp_no vs H Q E∨sp_rd2 e7 vs H Q E):=⟨⟨_,_,(FnOk.toX (ok_rd0 F15 m_all m_len m_tuple)).both (ok_rd2 KE7.ra (PySem.W.mg_of X G ye7) m_all m_len m_tuple F15 A8 A9),b15,k15,(PySem.W.mg_of X G a15)⟩⟩
 have A15:FnA l.prog w K mg base "read_drawn" 3 ["thing"] sp_no:=fnA (ok_rd0 F15 m_all m_len m_tuple) b15 k15 (PySem.W.mg_of X G a15)
 have A16:FnA l.prog w K mg base "_law_spool" 1 ["_law_script"] (sp_spool K):=fnA (ok_spool F16 m_abs m_len) b16 k16 (PySem.W.mg_of X G a16)
 have A17:FnA l.prog w K mg base "_law_take" 1 ["_law_spool_here","_law_many"] sp_take:=fnA (ok_take F17) b17 k17 (PySem.W.mg_of X G a17)
 have A18:FnA l.prog w K mg base "_law_kind" 2 ["_law_spool_here","_law_most"] sp_kind:=fnA (ok_kind F18 m_range m_tuple A17) b18 k18 (PySem.W.mg_of X G a18)
 have A19:FnA l.prog w K mg base "_law_parting" 2 ["_law_spool_here","_law_most"] sp_parting:=fnA (ok_parting F19 m_max m_min m_sorted m_tuple A17) b19 k19 (PySem.W.mg_of X G a19)
 have A20:FnA l.prog w K mg base "_law_text" 1 ["_law_parting_here"] sp_shp:=fnA (ok_ltext F20 m_str) b20 k20 (PySem.W.mg_of X G a20)
 have A21:FnA l.prog w K mg base "_law_kind_text" 1 ["_law_kind_here"] sp_show:=fnA (ok_kt F21 m_str) b21 k21 (PySem.W.mg_of X G a21)
 have A22:FnA l.prog w K mg base "_law_told" 7 ["_law_way","_law_text_here"] sp_td:=fnA (ok_td KE7 G_E F22 m_ValueError m_isinstance B15 B14 B12) b22 k22 (PySem.W.mg_of X G a22)
 have A23:FnA l.prog w K mg base "_law_number" 1 ["_law_word","_law_least","_law_most"] sp_nm:=fnA (ok_nm F23 m_int m_len m_str) b23 k23 (PySem.W.mg_of X G a23)
 have A24:FnA l.prog w K mg base "_law_parted" 2 ["_law_text_here"] (sp_dw 0):=fnA (ok_pd F24 m_sorted m_tuple A23) b24 k24 (PySem.W.mg_of X G a24)
 have A25:FnA l.prog w K mg base "_law_kinded" 2 ["_law_text_here"] (sp_dw 1):=fnA (ok_kd F25 m_all m_len m_range m_tuple A23) b25 k25 (PySem.W.mg_of X G a25)
 have A26:FnA l.prog w K mg base "_law_drawn" 2 ["_law_text_here"] (sp_dw 2):=fnA (ok_dn F26 m_len m_sorted m_tuple) b26 k26 (PySem.W.mg_of X G a26)
 have A27:FnA l.prog w K mg base "_law_bent" 2 ["_law_spool_here","_law_text_here"] sp_bt:=fnA (ok_bt F27 m_len A17) b27 k27 (PySem.W.mg_of X G a27)
 have A28:FnA l.prog w K mg base "_law_right" 8 ["_law_way","_law_text_here"] sp_rt:=fnA (ok_rt F28 m_repr A26 A25 A24 A22) b28 k28 (PySem.W.mg_of X G a28)
 exact ok_law F29 m_all m_range A27 A18 A21 A19 A28 A16 A20 A22
theorem walk {l:PySem.W.OpenLaw} {q:Program} {loose:List Str} {XP:(Str→Option Value)→Heap→Prop} {YP:World→Heap→Prop} {d:DefRec} {K:Params→PySem.W.Frag} (hn:l.most=some 63) (hdf:d.params.defaults=[])
 (hY:∀ (w:World) (h:Heap),YP w h→(K w.params).In h)
 (F:∀ (w:World) (mg:Str→Option Value) (fa:Addr) (h:Heap),(K w.params).In h→h.Ns mainGlobals mg→mg d.name=some (.ref fa) →
   ∃ fd:FuncData,(∀ (s:Shared) (u:Value),BindsTo s fd ⟨[u],[]⟩ [("_law_script",u)])∧∀ base:Heap,(K w.params).In base→base.Ns mainGlobals mg→FnOk l.prog w (K w.params) mg base CX0 9 fa fd ["_law_script"] (sp_law (K w.params))) :
 PySem.W.WalkO q loose XP YP l.row.toRowW d [] (fun f vs=>PySem.call f vs):=
 L2.walk_of (n:=63) (k:=9) (x:="_law_script") (CX:=fun _=>CX0) (sp:=fun w=>sp_law (K w.params)) hn (by decide) hdf ⟨rfl,by decide,by decide,rfl⟩ hY F (fun _ _ a ns hl _ hS=>⟨a,ns,rfl,hS,hl,fun _=>rfl⟩) fun _ _ _ _ _ z=>z
end K70
namespace PySem.W.Fast
theorem tw16370087229431644757:True:=⟨⟩
theorem tw11039724781588528896:True:=⟨⟩
theorem tw6069897371388591589:True:=⟨⟩
theorem tw3640305301019799467:True:=⟨⟩
theorem tw8294504547550064338:True:=⟨⟩
theorem tw5042020076087063199:True:=⟨⟩
theorem tw4467153079833642223:True:=⟨⟩
theorem tw9131900636229669601:True:=⟨⟩
theorem tw3144713096869552651:True:=⟨⟩
theorem tw18121339610115921981:True:=⟨⟩
theorem tw8580044997271381565:True:=⟨⟩
theorem tw13507925215744773413:True:=⟨⟩
theorem tw8828747670892348853:True:=⟨⟩
theorem tw14842683946880994599:True:=⟨⟩
theorem tw6339621121827392149:True:=⟨⟩
theorem tw17321980030616121275:True:=⟨⟩
theorem tw15249743192814688158:True:=⟨⟩
theorem tw18152470895378915130:True:=⟨⟩
theorem tw2313760139087280397:True:=⟨⟩
theorem tw12332037841516659750:True:=⟨⟩
theorem tw9386386984743659153:True:=⟨⟩
theorem tw9218312162552297359:True:=⟨⟩
theorem tw17551627129328676578:True:=⟨⟩
theorem tw2052681964070144813:True:=⟨⟩
theorem tw14435709473473489425:True:=⟨⟩
theorem tw8695629381759888804:True:=⟨⟩
theorem tw9728404984443628803:True:=⟨⟩
theorem tw2558084839335540702:True:=⟨⟩
theorem tw821543393953021339:True:=⟨⟩
theorem tw2696349037264108060:True:=⟨⟩
theorem tw9502210223503046281:True:=⟨⟩
theorem tw17482061737805998576:True:=⟨⟩
theorem tw1054712121816477731:True:=⟨⟩
theorem tw13525093825975822065:True:=⟨⟩
theorem tw3719562534657391352:True:=⟨⟩
theorem tw11121827078955997526:True:=⟨⟩
theorem tw2185544437395005726:True:=⟨⟩
theorem tw6634457329350645978:True:=⟨⟩
theorem tw10358780591785284664:True:=⟨⟩
theorem tw415164848959864497:True:=⟨⟩
theorem tw15441318180527951334:True:=⟨⟩
theorem tw380500525293191256:True:=⟨⟩
theorem tw1677658487058204929:True:=⟨⟩
theorem tw17532425205884962443:True:=⟨⟩
theorem tw11801457478687467419:True:=⟨⟩
theorem tw13766185131993711528:True:=⟨⟩
theorem tw18235895381913788141:True:=⟨⟩
theorem tw4175582277400463744:True:=⟨⟩
theorem tw5751542378114585038:True:=⟨⟩
theorem tw10170534401234972705:True:=⟨⟩
theorem tw6120891551412425229:True:=⟨⟩
theorem tw11775641844622144914:True:=⟨⟩
theorem tw4739852663607567338:True:=⟨⟩
theorem tw7076256905097149528:True:=⟨⟩
theorem tw15035644559906854240:True:=⟨⟩
theorem tw7578469401667559695:True:=⟨⟩
theorem tw15116225748455042005:True:=⟨⟩
theorem tw10716557067278603930:True:=⟨⟩
theorem tw11751252277489892733:True:=⟨⟩
theorem tw2371362957122809131:True:=⟨⟩
theorem tw10439069490985658250:True:=⟨⟩
theorem tw12446144130883629416:True:=⟨⟩
theorem tw18179850871400022889:True:=⟨⟩
theorem tw15447079363711419651:True:=⟨⟩
theorem tw16921977147094653812:True:=⟨⟩
theorem tw17214578777002030891:True:=⟨⟩
theorem tw897469059634863663:True:=⟨⟩
theorem tw6163393927841474932:True:=⟨⟩
theorem tw8111206371051800720:True:=⟨⟩
theorem tw7991980265027976857:True:=⟨⟩
theorem tw14308118661492134641:True:=⟨⟩
theorem tw3092556913969850798:True:=⟨⟩
theorem tw10991336313252971998:True:=⟨⟩
theorem tw5509807153764141990:True:=⟨⟩
theorem tw16318663476390532493:True:=⟨⟩
theorem tw13984814882131533284:True:=⟨⟩
theorem tw16488511175731974165:True:=⟨⟩
theorem tw17865069855021167377:True:=⟨⟩
theorem tw6494364641838655923:True:=⟨⟩
theorem tw910929583731279324:True:=⟨⟩
theorem tw17931166419930755478:True:=⟨⟩
theorem tw11054939408448478576:True:=⟨⟩
theorem tw3543847110616792559:True:=⟨⟩
theorem tw9039402610209910328:True:=⟨⟩
theorem tw3456686587627449539:True:=⟨⟩
theorem tw17487820654178924272:True:=⟨⟩
theorem tw949686662690837026:True:=⟨⟩
theorem tw12888056675373255109:True:=⟨⟩
theorem tw15044633597145904781:True:=⟨⟩
theorem tw6404929819937156866:True:=⟨⟩
theorem tw5997374489257212289:True:=⟨⟩
theorem tw16905705878585720373:True:=⟨⟩
theorem tw12661951784229410318:True:=⟨⟩
theorem tw13935684720656261963:True:=⟨⟩
theorem tw4393835017722197508:True:=⟨⟩
theorem tw12685190479806800456:True:=⟨⟩
theorem tw2358177672021122553:True:=⟨⟩
theorem tw8656600987678735869:True:=⟨⟩
theorem tw1205068065946715454:True:=⟨⟩
theorem tw9517899655835100314:True:=⟨⟩
theorem tw10630026822489637537:True:=⟨⟩
theorem tw2670960001538640752:True:=⟨⟩
theorem tw5920786574249059470:True:=⟨⟩
theorem tw10853713141761296581:True:=⟨⟩
theorem tw7631582381117646530:True:=⟨⟩
theorem tw14936721993385266218:True:=⟨⟩
theorem tw12651978206723511598:True:=⟨⟩
theorem tw3847840285145071182:True:=⟨⟩
theorem tw13454426392395451786:True:=⟨⟩
theorem tw11527076195572897839:True:=⟨⟩
theorem tw7503508483047809428:True:=⟨⟩
theorem tw9593186621147607233:True:=⟨⟩
theorem tw7928772990770912714:True:=⟨⟩
theorem tw11250973093171663441:True:=⟨⟩
theorem tw18056019145278701122:True:=⟨⟩
theorem tw10283507393908088831:True:=⟨⟩
theorem tw6918920416900791609:True:=⟨⟩
theorem tw13552992612113364754:True:=⟨⟩
theorem tw17272633980179029328:True:=⟨⟩
theorem tw9592547845566405682:True:=⟨⟩
theorem tw1735533472713185073:True:=⟨⟩
theorem tw3481427202077621881:True:=⟨⟩
theorem tw17171222093275668455:True:=⟨⟩
theorem tw15638280243065086991:True:=⟨⟩
theorem tw13423108908775251744:True:=⟨⟩
theorem tw7116416292658770976:True:=⟨⟩
theorem tw3835516948409919728:True:=⟨⟩
theorem tw5684287525008909210:True:=⟨⟩
theorem tw11574984892405261345:True:=⟨⟩
theorem tw14567076988791035312:True:=⟨⟩
theorem tw15393915234504374267:True:=⟨⟩
theorem tw7882116247096331521:True:=⟨⟩
theorem tw3455152895872997768:True:=⟨⟩
theorem tw2078813404909757909:True:=⟨⟩
theorem tw8940512161613218124:True:=⟨⟩
theorem tw11376954815169253797:True:=⟨⟩
theorem tw2711524423077047543:True:=⟨⟩
theorem tw3043547955957471955:True:=⟨⟩
theorem tw6376649951653242162:True:=⟨⟩
theorem tw10262288687987753858:True:=⟨⟩
theorem tw16990050684345197802:True:=⟨⟩
theorem tw10135245785843187740:True:=⟨⟩
theorem tw889814045944368845:True:=⟨⟩
theorem tw3653172942398151843:True:=⟨⟩
theorem tw9117320462882796440:True:=⟨⟩
theorem tw17105926497372022986:True:=⟨⟩
theorem tw18067656330797557402:True:=⟨⟩
theorem tw4792633051586531523:True:=⟨⟩
theorem tw2587755808710108884:True:=⟨⟩
theorem tw12895185877303514329:True:=⟨⟩
theorem tw15075949955121691299:True:=⟨⟩
theorem tw10953796922585788519:True:=⟨⟩
theorem tw1553411618758265629:True:=⟨⟩
theorem tw14264962899075655460:True:=⟨⟩
theorem tw5162770094284317234:True:=⟨⟩
theorem tw14922498385849676521:True:=⟨⟩
theorem tw18383848342802073051:True:=⟨⟩
theorem tw2628338155049186256:True:=⟨⟩
theorem tw16007284842758309064:True:=⟨⟩
theorem tw10322782022481087618:True:=⟨⟩
theorem tw17669271084451833580:True:=⟨⟩
theorem tw2570997809892645123:True:=⟨⟩
theorem tw12432579391048676007:True:=⟨⟩
theorem tw18008087066180204761:True:=⟨⟩
theorem tw844747029161755864:True:=⟨⟩
theorem tw10306430104027212726:True:=⟨⟩
theorem tw13856724882298026424:True:=⟨⟩
theorem tw5434883321631278711:True:=⟨⟩
theorem tw4204789863920845583:True:=⟨⟩
theorem tw8201941748687065673:True:=⟨⟩
theorem tw14798099711169762131:True:=⟨⟩
theorem tw13944202064580784701:True:=⟨⟩
theorem tw10963905807273347433:True:=⟨⟩
theorem tw15203187217550657572:True:=⟨⟩
theorem tw666678185400961306:True:=⟨⟩
theorem tw5674366372138298755:True:=⟨⟩
theorem tw10140953369393617849:True:=⟨⟩
theorem tw626186682543977588:True:=⟨⟩
theorem tw5900166378037376844:True:=⟨⟩
theorem tw16971254212520037800:True:=⟨⟩
theorem tw2070921340243129377:True:=⟨⟩
theorem tw1023083163078234075:True:=⟨⟩
theorem tw7942178665793964090:True:=⟨⟩
theorem tw11176950345305509119:True:=⟨⟩
theorem tw14689687293741971204:True:=⟨⟩
theorem tw8100414765338546227:True:=⟨⟩
theorem tw8697683983203741676:True:=⟨⟩
theorem tw5883467078913847260:True:=⟨⟩
theorem tw872862685259422544:True:=⟨⟩
theorem tw15880197677995026735:True:=⟨⟩
theorem tw8018284510742588081:True:=⟨⟩
theorem tw9791008188264383580:True:=⟨⟩
theorem tw17196660057449753684:True:=⟨⟩
theorem tw9593181528029814653:True:=⟨⟩
theorem tw4143728581098466750:True:=⟨⟩
theorem tw8765311324226926899:True:=⟨⟩
theorem tw18254605094376396774:True:=⟨⟩
theorem tw13481991733294616506:True:=⟨⟩
theorem tw6770695813374497641:True:=⟨⟩
theorem tw9415796339989621382:True:=⟨⟩
theorem tw12243534093892879210:True:=⟨⟩
theorem tw8820680837140174323:True:=⟨⟩
theorem tw8697364759411182328:True:=⟨⟩
theorem tw10607002652351873320:True:=⟨⟩
theorem tw3761237591767704042:True:=⟨⟩
theorem tw6688986134590813853:True:=⟨⟩
theorem tw14922891878703327428:True:=⟨⟩
theorem tw14713540043464829127:True:=⟨⟩
theorem tw14056053084416069013:True:=⟨⟩
theorem tw1641299027806146799:True:=⟨⟩
theorem tw14766460171240945915:True:=⟨⟩
theorem tw17692902895276539395:True:=⟨⟩
theorem tw6593327237460170587:True:=⟨⟩
theorem tw9580711684694238379:True:=⟨⟩
theorem tw11518432028263862163:True:=⟨⟩
theorem tw14698569408128073717:True:=⟨⟩
theorem tw16899391327540436739:True:=⟨⟩
theorem tw10393265825999254445:True:=⟨⟩
theorem tw2454292569759687650:True:=⟨⟩
theorem tw9445738569822114973:True:=⟨⟩
theorem tw6713476498433238095:True:=⟨⟩
theorem tw14105459750939455357:True:=⟨⟩
theorem tw15744391952506010722:True:=⟨⟩
theorem tw17463806131483108706:True:=⟨⟩
theorem tw4858225178907183152:True:=⟨⟩
theorem tw18037902182487035623:True:=⟨⟩
theorem tw12027519788753582573:True:=⟨⟩
theorem tw13131243519474527633:True:=⟨⟩
theorem tw11558951271392910070:True:=⟨⟩
theorem tw16886268403725616587:True:=⟨⟩
theorem tw8171130957021066926:True:=⟨⟩
theorem tw4313542396681939435:True:=⟨⟩
theorem tw5750539279513988679:True:=⟨⟩
theorem tw11595112436102507578:True:=⟨⟩
theorem tw15351420317396195902:True:=⟨⟩
theorem tw14899167349705557467:True:=⟨⟩
theorem tw3772146227325573253:True:=⟨⟩
theorem tw11925905651041284274:True:=⟨⟩
theorem tw10591381982848756815:True:=⟨⟩
theorem tw11345605779175110998:True:=⟨⟩
theorem tw11700770305335940105:True:=⟨⟩
theorem tw16740904376973198915:True:=⟨⟩
theorem tw16256297758110997713:True:=⟨⟩
theorem tw11709273244612898708:True:=⟨⟩
theorem tw17785189117240024822:True:=⟨⟩
theorem tw12620918694462448821:True:=⟨⟩
theorem tw16987767201374207902:True:=⟨⟩
theorem tw17288689087083840790:True:=⟨⟩
theorem tw10724995452924645875:True:=⟨⟩
theorem tw2117945990136654149:True:=⟨⟩
theorem tw13264533263616760085:True:=⟨⟩
theorem tw7459877569434247627:True:=⟨⟩
theorem tw1775104655857133394:True:=⟨⟩
theorem tw16232314520192023709:True:=⟨⟩
theorem tw10393932259206350303:True:=⟨⟩
theorem tw7668529418998646094:True:=⟨⟩
theorem tw2379067208703055512:True:=⟨⟩
theorem tw16301046907604341264:True:=⟨⟩
theorem tw566448791013670953:True:=⟨⟩
theorem tw11390894153130596222:True:=⟨⟩
theorem tw15037921554139574736:True:=⟨⟩
theorem tw7556382749654766863:True:=⟨⟩
theorem tw16180531234767595244:True:=⟨⟩
theorem tw16830359253978029986:True:=⟨⟩
theorem tw8115331721977921052:True:=⟨⟩
theorem tw5404927267558624055:True:=⟨⟩
theorem tw6967692203881414238:True:=⟨⟩
theorem tw17090934578886565306:True:=⟨⟩
theorem tw17350436129175594034:True:=⟨⟩
theorem tw10043931838010962203:True:=⟨⟩
theorem tw13201619642214955032:True:=⟨⟩
theorem tw12651885445403249528:True:=⟨⟩
theorem tw11197021769300717365:True:=⟨⟩
theorem tw8345720859157793039:True:=⟨⟩
theorem tw16834239917840771546:True:=⟨⟩
theorem tw16387625103071526500:True:=⟨⟩
theorem tw434647733594892085:True:=⟨⟩
theorem tw5789692345208002812:True:=⟨⟩
theorem tw5049700642104743550:True:=⟨⟩
theorem tw18232491543041518857:True:=⟨⟩
theorem tw1251424932429237025:True:=⟨⟩
theorem tw17308464339434066837:True:=⟨⟩
theorem tw4273776090597208507:True:=⟨⟩
theorem tw333633732810946187:True:=⟨⟩
theorem tw5453436794550329788:True:=⟨⟩
theorem tw2763513598711158464:True:=⟨⟩
theorem tw14176548757005960078:True:=⟨⟩
theorem tw11879916817379160061:True:=⟨⟩
theorem tw3988568894312998229:True:=⟨⟩
theorem tw748804997867374319:True:=⟨⟩
theorem tw924233845862766826:True:=⟨⟩
theorem tw12698724360165572291:True:=⟨⟩
theorem tw6751118740611250640:True:=⟨⟩
theorem tw16580558453690279491:True:=⟨⟩
theorem tw2997787620919867350:True:=⟨⟩
theorem tw8588450653948167845:True:=⟨⟩
theorem tw13225843967709618190:True:=⟨⟩
theorem tw5962813353419115067:True:=⟨⟩
theorem tw8177377379545712426:True:=⟨⟩
theorem tw10372705724466650534:True:=⟨⟩
theorem tw13391725881319328049:True:=⟨⟩
theorem tw5601400295235304646:True:=⟨⟩
theorem tw6840953653709023252:True:=⟨⟩
theorem tw1301029898091478991:True:=⟨⟩
theorem tw323824167982473958:True:=⟨⟩
theorem tw12233547087491316821:True:=⟨⟩
theorem tw1781530443328876354:True:=⟨⟩
theorem tw11828667869903986560:True:=⟨⟩
theorem tw4851160367933720542:True:=⟨⟩
theorem tw1112126174466804332:True:=⟨⟩
theorem tw12776792083290961526:True:=⟨⟩
theorem tw375629497470904858:True:=⟨⟩
theorem tw10937331638089855666:True:=⟨⟩
theorem tw7017843468021214626:True:=⟨⟩
theorem tw2500711112539599154:True:=⟨⟩
theorem tw12448374039462374546:True:=⟨⟩
theorem tw11985817587984267530:True:=⟨⟩
theorem tw4649855558653594676:True:=⟨⟩
theorem tw12440981928762985301:True:=⟨⟩
theorem tw7768983411754869224:True:=⟨⟩
theorem tw10302912627492482464:True:=⟨⟩
theorem tw8570054043594894789:True:=⟨⟩
theorem tw738093049452924330:True:=⟨⟩
theorem tw15845642428853514005:True:=⟨⟩
theorem tw8754519596115116115:True:=⟨⟩
theorem tw16063569380294062947:True:=⟨⟩
end PySem.W.Fast
open PySem PySem.W PyProof.Rows
set_option maxRecDepth 100000 in
set_option maxHeartbeats 0 in
theorem PySem.Challenge.cw_partrests_k70_no_texts_holds : PySem.Challenge.rw_partrests_k70_no_texts.Holds := by
 w_on;o_law;k_head;(case hw=>w_witness2)
 k_fill
 refine K70.walk (l:=PySem.Challenge.rw_partrests_k70_no_texts) rfl rfl (fun w h Y=>PySem.W.kIn_of Y) ?F
 case F=>
  intro w mg fa h KX G hmg
  refine' K70.all_mk KX G hmg ?a1 ?l1 ?c1 ?k1 ?a2 ?l2 ?c2 ?k2 ?a3 ?l3 ?c3 ?k3 ?a4 ?l4 ?c4 ?k4 ?a5 ?l5 ?c5 ?k5 ?a6 ?l6 ?c6 ?k6 ?a7 ?l7 ?c7 ?k7 ?a8 ?l8 ?c8 ?k8 ?a9 ?l9 ?c9 ?k9 ?a10 ?l10 ?c10 ?k10 ?a11 ?l11 ?c11 ?k11 ?a12 ?l12 ?c12 ?k12 ?a13 ?l13 ?c13 ?k13 ?a14 ?l14 ?c14 ?k14 ?a15 ?l15 ?c15 ?k15 ?a16 ?l16 ?c16 ?k16 ?a17 ?l17 ?c17 ?k17 ?a18 ?l18 ?c18 ?k18 ?a19 ?l19 ?c19 ?k19 ?a20 ?l20 ?c20 ?k20 ?a21 ?l21 ?c21 ?k21 ?a22 ?l22 ?c22 ?k22 ?a23 ?l23 ?c23 ?k23 ?a24 ?l24 ?c24 ?k24 ?a25 ?l25 ?c25 ?k25 ?a26 ?l26 ?c26 ?k26 ?a27 ?l27 ?c27 ?k27 ?a28 ?l28 ?c28 ?k28 ?a29 ?l29 ?c29 ?k29 ?y1 ?y2 ?y3 ?y4 ?y5 ?y6 ?ye0 ?ye1 ?ye2 ?ye3 ?ye4 ?ye5 ?ye6 ?ye7 ?ye8 ?ye9 ?yE7 ?z1 ?z2 ?z3 ?z4 ?z5 ?z6 ?z7 ?z8 ?z9 ?z10 ?z11 ?z12 ?z13 ?z14
  (case a1=>k_is);(case l1=>k_is);(case c1=>k_is);(case k1=>k_is)
  (case a2=>k_is);(case l2=>k_is);(case c2=>k_is);(case k2=>k_is)
  (case a3=>k_is);(case l3=>k_is);(case c3=>k_is);(case k3=>k_is)
  (case a4=>k_is);(case l4=>k_is);(case c4=>k_is);(case k4=>k_is)
  (case a5=>k_is);(case l5=>k_is);(case c5=>k_is);(case k5=>k_is)
  (case a6=>k_is);(case l6=>k_is);(case c6=>k_is);(case k6=>k_is)
  (case a7=>k_is);(case l7=>k_is);(case c7=>k_is);(case k7=>k_is)
  (case a8=>k_is);(case l8=>k_is);(case c8=>k_is);(case k8=>k_is)
  (case a9=>k_is);(case l9=>k_is);(case c9=>k_is);(case k9=>k_is)
  (case a10=>k_is);(case l10=>k_is);(case c10=>k_is);(case k10=>k_is)
  (case a11=>k_is);(case l11=>k_is);(case c11=>k_is);(case k11=>k_is)
  (case a12=>k_is);(case l12=>k_is);(case c12=>k_is);(case k12=>k_is)
  (case a13=>k_is);(case l13=>k_is);(case c13=>k_is);(case k13=>k_is)
  (case a14=>k_is);(case l14=>k_is);(case c14=>k_is);(case k14=>k_is)
  (case a15=>k_is);(case l15=>k_is);(case c15=>k_is);(case k15=>k_is)
  (case a16=>k_is);(case l16=>k_is);(case c16=>k_is);(case k16=>k_is)
  (case a17=>k_is);(case l17=>k_is);(case c17=>k_is);(case k17=>k_is)
  (case a18=>k_is);(case l18=>k_is);(case c18=>k_is);(case k18=>k_is)
  (case a19=>k_is);(case l19=>k_is);(case c19=>k_is);(case k19=>k_is)
  (case a20=>k_is);(case l20=>k_is);(case c20=>k_is);(case k20=>k_is)
  (case a21=>k_is);(case l21=>k_is);(case c21=>k_is);(case k21=>k_is)
  (case a22=>k_is);(case l22=>k_is);(case c22=>k_is);(case k22=>k_is)
  (case a23=>k_is);(case l23=>k_is);(case c23=>k_is);(case k23=>k_is)
  (case a24=>k_is);(case l24=>k_is);(case c24=>k_is);(case k24=>k_is)
  (case a25=>k_is);(case l25=>k_is);(case c25=>k_is);(case k25=>k_is)
  (case a26=>k_is);(case l26=>k_is);(case c26=>k_is);(case k26=>k_is)
  (case a27=>k_is);(case l27=>k_is);(case c27=>k_is);(case k27=>k_is)
  (case a28=>k_is);(case l28=>k_is);(case c28=>k_is);(case k28=>k_is)
  (case a29=>k_is);(case l29=>k_is);(case c29=>k_is);(case k29=>k_is)
  (case y1=>k_is)
  (case y2=>k_is)
  (case y3=>k_is)
  (case y4=>k_is)
  (case y5=>k_is)
  (case y6=>k_is)
  (case ye0=>k_is)
  (case ye1=>k_is)
  (case ye2=>k_is)
  (case ye3=>k_is)
  (case ye4=>k_is)
  (case ye5=>k_is)
  (case ye6=>k_is)
  (case ye7=>k_is)
  (case ye8=>k_is)
  (case ye9=>k_is)
  (case yE7=>with_unfolding_all rfl)
  (case z1=>k_is)
  (case z2=>k_is)
  (case z3=>k_is)
  (case z4=>k_is)
  (case z5=>k_is)
  (case z6=>k_is)
  (case z7=>k_is)
  (case z8=>k_is)
  (case z9=>k_is)
  (case z10=>k_is)
  (case z11=>k_is)
  (case z12=>k_is)
  (case z13=>k_is)
  (case z14=>k_is)
end
