import PyProof.Rows.All
import Wide.All
import OpenK.AllK
import Wide.FinOn
import Lean
import PyProof.EqAt
import PyProof.EqKinds
import PyProof.TupleCall
import PySem.Challenge.RW_partrests_k59_whole_merged_and_split
set_option Elab.async false
set_option linter.all false
set_option maxRecDepth 100000
noncomputable section
namespace L2
open PySem PySem.Spec PyProof.Rows
abbrev Key:=Sum Int Str
def keyIs:Key→Value→Bool
 | .inl k,v=>Value.isInt k v
 | .inr x,v=>Value.isStrOf x v
def keyH (w:World):Key→Int
 | .inl k=>hashInt k
 | .inr x=>hashStr w x
theorem keyIs_shape:∀ {k:Key} {v:Value},keyIs k v=true→(∃ i t,k=Sum.inl i∧v=Value.int i t)∨(∃ x t,k=Sum.inr x∧v=Value.str x t)
 | .inl i,v,h=>by
   obtain ⟨t,e⟩:=Value.isInt_shape (k:=i) (v:=v) h
   exact .inl ⟨i,t,rfl,e⟩
 | .inr x,v,h=>by
   obtain ⟨t,e⟩:=Value.isStrOf_shape (x:=x) (v:=v) h
   exact .inr ⟨x,t,rfl,e⟩
theorem keyIs_int (i:Int) (t:Tok):keyIs (.inl i) (.int i t)=true:=by simp [keyIs,Value.isInt]
theorem keyIs_str (x:Str) (t:Tok):keyIs (.inr x) (.str x t)=true:=by simp [keyIs,Value.isStrOf]
theorem key_ll (a b:Int):decide ((Sum.inl a:Key)=Sum.inl b)=(a == b):=by
 by_cases e:a=b
 · subst e;simp
 · have h:¬ (Sum.inl a:Key)=Sum.inl b:=fun q=>e (Sum.inl.inj q)
   rw [decide_eq_false h]
   exact (beq_eq_false_iff_ne.mpr e).symm
theorem key_rr (a b:Str):decide ((Sum.inr a:Key)=Sum.inr b)=decide (a=b):=by
 by_cases e:a=b
 · subst e;simp
 · have h:¬ (Sum.inr a:Key)=Sum.inr b:=fun q=>e (Sum.inr.inj q)
   rw [decide_eq_false h,decide_eq_false e]
theorem key_lr (a:Int) (b:Str):decide ((Sum.inl a:Key)=Sum.inr b)=false:=decide_eq_false (fun q=>nomatch q)
theorem key_rl (a:Str) (b:Int):decide ((Sum.inr a:Key)=Sum.inl b)=false:=decide_eq_false (fun q=>nomatch q)
def mixKind (prog:Program) (w:World):PySem.KeyKind prog w Key where
 is:=keyIs
 hash:=keyH w
 inj:=fun v a b ha hb=>by
  rcases keyIs_shape ha with ⟨i,t,rfl,rfl⟩ | ⟨x,t,rfl,rfl⟩
  · rcases keyIs_shape hb with ⟨j,u,rfl,e⟩ | ⟨y,u,rfl,e⟩
    · injection e with e1 _;rw [e1]
    · exact nomatch e
  · rcases keyIs_shape hb with ⟨j,u,rfl,e⟩ | ⟨y,u,rfl,e⟩
    · exact nomatch e
    · injection e with e1 _;rw [e1]
 byValue:=fun k v h=>by
  rcases keyIs_shape h with ⟨i,t,rfl,rfl⟩ | ⟨x,t,rfl,rfl⟩ <;> rfl
 pyHash:=fun hv h=>by
  rcases keyIs_shape hv with ⟨i,t,rfl,rfl⟩ | ⟨x,t,rfl,rfl⟩
  · exact wpAny_pyHash_int h
  · exact wpAny_pyHash_str h
 eqBool:=fun hu hv h=>by
  rcases keyIs_shape hu with ⟨i,t,rfl,rfl⟩ | ⟨x,t,rfl,rfl⟩
  · rcases keyIs_shape hv with ⟨j,u,rfl,rfl⟩ | ⟨y,u,rfl,rfl⟩
    · rw [key_ll] at h;exact wpAny_eqBool_int h
    · rw [key_lr] at h;exact SeqAt.EqAt.int_str i t y u _ _ _ _ h
  · rcases keyIs_shape hv with ⟨j,u,rfl,rfl⟩ | ⟨y,u,rfl,rfl⟩
    · rw [key_rl] at h;exact SeqAt.EqAt.str_int x t j u _ _ _ _ h
    · rw [key_rr] at h;exact wpAny_eqBool_str h
 «strs»:=fun k x t v h=>by
  rcases keyIs_shape h with ⟨i,u,rfl,e⟩ | ⟨y,u,rfl,e⟩
  · exact nomatch e
  · injection e with e1 _
    subst e1
    cases v <;> rfl
theorem mixKind_int (prog:Program) (w:World) (i:Int) (t:Tok):(mixKind prog w).is (.inl i) (.int i t)=true:=keyIs_int i t
theorem mixKind_str (prog:Program) (w:World) (x:Str) (t:Tok):(mixKind prog w).is (.inr x) (.str x t)=true:=keyIs_str x t
inductive V where
 | non | bl (b:Bool) | int (i:Int) | str (x:Str) | byt (b:Array UInt8) | flt (b:UInt64) | ref (a:Addr) | ty (n:String)
 deriving DecidableEq
def RelV:V→Value→Prop
 | .non,u=>u=Value.none
 | .bl b,u=>u=Value.bool b
 | .int i,u=>∃ t,u=Value.int i t
 | .str x,u=>∃ t,u=Value.str x t
 | .byt b,u=>∃ t,u=Value.bytes b t
 | .flt b,u=>∃ t,u=Value.float b t
 | .ref a,u=>u=Value.ref a
 | .ty n,u=>u=Value.type n
abbrev Vals:List V→List Value→Prop:=Paired RelV
theorem Vals.length {xs:List V} {us:List Value} (r:Vals xs us):xs.length=us.length:=Paired.length r
theorem Vals.get:∀ {xs:List V} {us:List Value} {i:Nat} {x:V},Vals xs us→xs[i]? = some x→∃ u,us[i]? = some u∧RelV x u
 | _,_,_,_,.nil,e=>by simp at e
 | _,_,0,_,.cons r _,e=>by simp at e;subst e;exact ⟨_,rfl,r⟩
 | _,_,i+1,x,.cons _ t,e=>by
   obtain ⟨u,h1,h2⟩:=Vals.get (i:=i) (x:=x) t (by simpa using e)
   exact ⟨u,by simpa using h1,h2⟩
theorem Vals.set {x:V} {u:Value} (r:RelV x u):∀ {xs:List V} {us:List Value} (i:Nat),Vals xs us→Vals (xs.set i x) (us.set i u)
 | _,_,_,.nil=>.nil
 | _,_,0,.cons _ t=>.cons r t
 | _,_,i+1,.cons q t=>.cons q (Vals.set r i t)
theorem Vals.append:∀ {xs ys:List V} {us ws:List Value},Vals xs us→Vals ys ws→Vals (xs++ys) (us++ws)
 | _,_,_,_,.nil,s=>s
 | _,_,_,_,.cons r t,s=>.cons r (Vals.append t s)
theorem Vals.take:∀ {xs:List V} {us:List Value} (n:Nat),Vals xs us→Vals (xs.take n) (us.take n)
 | _,_,0,_=>.nil
 | _,_,_+1,.nil=>.nil
 | _,_,n+1,.cons r t=>.cons r (Vals.take n t)
theorem Vals.drop:∀ {xs:List V} {us:List Value} (n:Nat),Vals xs us→Vals (xs.drop n) (us.drop n)
 | _,_,0,r=>r
 | _,_,_+1,.nil=>.nil
 | _,_,n+1,.cons _ t=>Vals.drop n t
def TupD (h:Heap) (a:Addr) (items:Array Value):Prop:=∃ n,h.get? a=some { cls:=.type "tuple",data:=.seq items n }
theorem TupD.tup {h:Heap} {a:Addr} {items:Array Value} (p:TupD h a items):IsTup h a items:=let ⟨n,e⟩:=p;⟨_,e,rfl,n,rfl⟩
theorem TupD.new (h:Heap) (items:Array Value):TupD (h.push { cls:=.type "tuple",data:=.seq items }) h.objs.size items:=⟨_,Heap.get?_push_size _ rfl⟩
def RelO:Option V→Option Value→Prop
 | some v,some u=>RelV v u
 | none,none=>True
 | _,_=>False
def KV {κ:Type}:List (κ×V)→List (κ×Value)→Prop:=Paired fun (p:κ×V) (q:κ×Value)=>p.1=q.1∧RelV p.2 q.2
def kV:Key→V
 | .inl i=>.int i
 | .inr x=>.str x
inductive HO where
 /-- a list -/
 | lst (xs:List V)
 /-- a tuple (never changes) -/
 | tup (xs:List V)
 /-- a dict whose keys are ints and texts;one whose keys are tuples of ints and texts (the empty one is both) -/
 | dK (kvs:List (Key×V)) | dT (kvs:List (List Key×V))
 /-- a set of ints: its members,its size -/
 | set (S:Int→Bool) (n:Nat)
 /-- an instance of the class at C,its dict at dx,its attributes -/
 | ins (C dx:Addr) (fs:List (Str×V))
 /-- the dict of the instance at x -/
 | own (x:Addr)
 /-- the dict of an exception -/
 | xd (fs:List (Str×V))
 /-- a bound method,f of x -/
 | met (f x:Addr)
 /-- a range object lo,lo+1,.. below hi -/
 | rng (lo hi:Int)
 /-- a thing that is known to the object (the script;a dict while a loop walks it): read,never written while it is so -/
 | frz (o:Obj) (u:HO)
 /-- a code object's table -/
 | tbl (ps:Array Value)
 /-- any other thing,by what is true of its one object (a def of one's own: SetO a S n:=HO.ext fun h=>..) -/
 | ext (φ:Heap→Prop)
abbrev Hp:=Addr→Option HO
def upd (H:Hp) (a:Addr) (o:HO):Hp:=fun b=>if b=a then some o else H b
theorem upd_same {H:Hp} {a:Addr} {o:HO}:upd H a o a=some o:=by unfold upd;rw [if_pos rfl]
theorem upd_ne {H:Hp} {a b:Addr} {o:HO} (h:b≠a):upd H a o b=H b:=by unfold upd;rw [if_neg h]
theorem ne_of {H:Hp} {a b:Addr} {o u:HO} (h:H a=some o) (h':H b=some u) (d:o≠u):a≠b:=by
 intro e;subst e;rw [h] at h';exact d (Option.some.inj h')
theorem ne_of_none {H:Hp} {a b:Addr} {o:HO} (h:H a=some o) (h':H b=none):a≠b:=by
 intro e;subst e;rw [h] at h';cases h'
section
variable (P:Program) (w:World)
def ObjOk (H:Hp) (h:Heap) (a:Addr):HO→Prop
 | .lst xs=>xs.length≤sizeLine∧∃ (its:List Value) (n:Nat),Vals xs its∧h.get? a=some { cls:=.type "list",data:=.seq its.toArray n }
 | .tup xs=>xs.length≤sizeLine∧∃ its:List Value,Vals xs its∧TupD h a its.toArray
 | .dK kvs=>kvs.length≤sizeLine∧(a == sysModules)=false∧∃ vs,KV kvs vs∧h.DictOf (mixKind P w) a vs
 | .dT kvs=>kvs.length≤sizeLine∧(a == sysModules)=false∧∃ xs:List (List Key×Addr×Value),
  Paired (fun (p:List Key×V) (q:List Key×Addr×Value)=>p.1=q.1∧H q.2.1=some (.tup (p.1.map kV))∧RelV p.2 q.2.2) kvs xs ∧
  ∃ o es ep,h.get? a=some o∧o.ExactDict∧o.data=.dict es ep∧es.toList=xs.map (entryOfKey (tupleKind (mixKind P w)))∧(xs.map (·.1)).Nodup
 | .set S n=>h.SetOf (intKind P w) a S n
 | .ins C dx fs=>H dx=some (.own a)∧fs.length≤1000∧dx≠a∧h.get? a=some (PySem.W.instObj C dx) ∧
  ∃ mA,h.Ns1 dx mA∧(∀ f,RelO (fs.lookup f) (mA f))∧PySem.Within mA (fs.map (·.1))
 | .own _=>∃ o,h.get? a=some o
 | .xd fs=>∃ mA,h.Ns1 a mA∧∀ f,RelO (fs.lookup f) (mA f)
 | .rng lo hi=>∃ t u v,h.get? a=some { cls:=.type "range",data:=.fields #[.int lo t,.int hi u,.int 1 v] }
 | .frz o u=>h.get? a=some o∧ObjOk H h a u
 | .tbl ps=>h.get? a=some { cls:=.none,data:=.fields ps }
 | .met f x=>h.get? a=some (PySem.W.methodObj (.ref f) (.ref x))
 | .ext φ=>φ h∧(∃ o,h.get? a=some o)∧∀ h1 h2:Heap,φ h1→(∀ o,h1.get? a=some o→h2.get? a=some o)→φ h2
def HOk (H:Hp) (h:Heap):Prop:=∀ a o,H a=some o→ObjOk P w H h a o
end
section
variable {P:Program} {w:World} {H H':Hp} {h h':Heap} {a:Addr} {o:HO}
theorem ObjOk.lt (x:ObjOk P w H h a o):a<h.objs.size:=by
 cases o with
 | lst xs=>obtain ⟨_,_,_,_,e⟩:=x;exact Heap.lt_size e
 | tup xs=>obtain ⟨_,_,_,p⟩:=x;exact p.tup.lt
 | dK kvs=>obtain ⟨_,_,_,_,o,_,_,e,_⟩:=x;exact Heap.lt_size e
 | dT kvs=>obtain ⟨_,_,_,_,o,_,_,e,_⟩:=x;exact Heap.lt_size e
 | set S n=>obtain ⟨o,_,_,_,e,_⟩:=x;exact Heap.lt_size e
 | ins C dx fs=>obtain ⟨_,_,_,e,_⟩:=x;exact Heap.lt_size e
 | own y=>obtain ⟨_,e⟩:=x;exact Heap.lt_size e
 | xd fs=>obtain ⟨_,⟨_,_,_,e,_⟩,_⟩:=x;exact Heap.lt_size e
 | rng lo hi=>obtain ⟨_,_,_,e⟩:=x;exact Heap.lt_size e
 | frz ob u=>obtain ⟨e,_⟩:=x;exact Heap.lt_size e
 | tbl ps=>exact Heap.lt_size (show h.get? a=some _ from x)
 | met f y=>exact Heap.lt_size (show h.get? a=some _ from x)
 | ext φ=>obtain ⟨_,⟨_,e⟩,_⟩:=x;exact Heap.lt_size e
theorem Paired.mapP {α β:Type} {F G:α→β→Prop}:∀ {l₁:List α} {l₂:List β},Paired F l₁ l₂→(∀ a b,F a b→G a b)→Paired G l₁ l₂
 | _,_,.nil,_=>.nil
 | _,_,.cons r t,f=>.cons (f _ _ r) (Paired.mapP t f)
theorem ObjOk.stay (x:ObjOk P w H h a o) (k:∀ b u,(b=a∨H b=some (.own a))→h.get? b=some u→h'.get? b=some u)
 (ho:∀ b,H b=some (.own a)→H' b=some (.own a)) (ht:∀ b xs,H b=some (.tup xs)→H' b=some (.tup xs)):ObjOk P w H' h' a o:=by
 induction o with
 | lst xs=>obtain ⟨z,its,n,r,e⟩:=x;exact ⟨z,its,n,r,k _ _ (.inl rfl) e⟩
 | tup xs=>obtain ⟨z,its,r,ob,e⟩:=x;exact ⟨z,its,r,ob,k _ _ (.inl rfl) e⟩
 | dK kvs=>obtain ⟨z,y,vs,r,ob,es,ep,e,c⟩:=x;exact ⟨z,y,vs,r,ob,es,ep,k _ _ (.inl rfl) e,c⟩
 | dT kvs=>
   obtain ⟨z,y,xs,r,ob,es,ep,e,c⟩:=x
   exact ⟨z,y,xs,Paired.mapP r fun p q z=>⟨z.1,ht _ _ z.2.1,z.2.2⟩,ob,es,ep,k _ _ (.inl rfl) e,c⟩
 | set S n=>obtain ⟨ob,es,ep,t,e,c⟩:=x;exact ⟨ob,es,ep,t,k _ _ (.inl rfl) e,c⟩
 | ins C dx fs=>
   obtain ⟨d,z,ne,e,mA,⟨od,es,ep,e2,c⟩,r⟩:=x
   exact ⟨ho _ d,z,ne,k _ _ (.inl rfl) e,mA,⟨od,es,ep,k _ _ (.inr d) e2,c⟩,r⟩
 | own y=>obtain ⟨ob,e⟩:=x;exact ⟨ob,k _ _ (.inl rfl) e⟩
 | xd fs=>obtain ⟨mA,⟨od,es,ep,e,c⟩,r⟩:=x;exact ⟨mA,⟨od,es,ep,k _ _ (.inl rfl) e,c⟩,r⟩
 | rng lo hi=>obtain ⟨t,u,v,e⟩:=x;exact ⟨t,u,v,k _ _ (.inl rfl) e⟩
 | frz ob u ih=>obtain ⟨e,q⟩:=x;exact ⟨k _ _ (.inl rfl) e,ih q⟩
 | tbl ps=>
   have e:h.get? a=some { cls:=.none,data:=.fields ps }:=x
   show h'.get? a=some { cls:=.none,data:=.fields ps }
   exact k a _ (.inl rfl) e
 | met f y=>
   have e:h.get? a=some (PySem.W.methodObj (.ref f) (.ref y)):=x
   show h'.get? a=some (PySem.W.methodObj (.ref f) (.ref y))
   exact k a _ (.inl rfl) e
 | ext φ=>obtain ⟨p,⟨o,e⟩,st⟩:=x;exact ⟨st _ _ p fun o q=>k _ _ (.inl rfl) q,⟨o,k _ _ (.inl rfl) e⟩,st⟩
theorem HOk.lt (x:HOk P w H h) (e:H a=some o):a<h.objs.size:=(x a o e).lt
theorem HOk.fresh (x:HOk P w H h) (e:h.objs.size≤a):H a=none:=by
 cases q:H a with
 | none=>rfl
 | some u=>exact absurd (Nat.lt_of_lt_of_le (x.lt q) e) (Nat.lt_irrefl _)
theorem HOk.kept (x:HOk P w H h) (k:∀ b u,h.get? b=some u→h'.get? b=some u):HOk P w H h':=fun a o e=>
 (x a o e).stay (fun b u _ q=>k b u q) (fun _ q=>q) fun _ _ q=>q
theorem HOk.laid (x:HOk P w H h) (k:∀ b u,h.get? b=some u→h'.get? b=some u) (hp:h.objs.size≤a) (new:ObjOk P w (upd H a o) h' a o):HOk P w (upd H a o) h':=fun b u e=>by
 have hn:=x.fresh hp
 by_cases hb:b=a
 · subst hb;rw [upd_same] at e;cases e;exact new
 · rw [upd_ne hb] at e
   exact (x b u e).stay (fun c v _ q=>k c v q) (fun c q=>by rw [upd_ne (ne_of_none q hn)];exact q) fun c xs q=>by rw [upd_ne (ne_of_none q hn)];exact q
end
def Rd (H:Hp) (a:Addr) (u:HO):Prop:=H a=some u∨∃ o,H a=some (.frz o u)
theorem Rd.ok {P:Program} {w:World} {H:Hp} {h:Heap} {a:Addr} {u:HO} (r:Rd H a u) (x:HOk P w H h):ObjOk P w H h a u:=by
 rcases r with r | ⟨o,r⟩
 · exact x a u r
 · obtain ⟨_,q⟩:=x a _ r
   exact q
def Mut:Option HO→Prop
 | some (.lst _)=>True
 | some (.dK _)=>True
 | some (.dT _)=>True
 | some (.set _ _)=>True
 | some (.ins _ _ _)=>True
 | some (.ext _)=>True
 | _=>False
section
variable {P:Program} {w:World} {H:Hp} {h h':Heap} {x e:Addr} {o':HO}
theorem HOk.write (ok:HOk P w H h) (mu:Mut (H x)) (he:e=x∨H e=some (.own x)) (k:∀ b u,b≠e→h.get? b=some u→h'.get? b=some u) (heo:∃ u,h'.get? e=some u)
 (new:ObjOk P w (upd H x o') h' x o'):HOk P w (upd H x o') h':=fun b u q=>by
 have nown:∀ c y,H c=some (.own y)→c≠x:=fun c y r z=>by subst z;rw [r] at mu;exact mu
 have ntup:∀ c xs,H c=some (.tup xs)→c≠x:=fun c xs r z=>by subst z;rw [r] at mu;exact mu
 by_cases hb:b=x
 · subst hb;rw [upd_same] at q;cases q;exact new
 · rw [upd_ne hb] at q
   by_cases hbe:b=e
   · have q':H b=some (.own x):=by
      rcases he with z | z
      · exact absurd (hbe.trans z) hb
      · rw [hbe];exact z
     rw [q] at q';cases q'
     obtain ⟨v,hv⟩:=heo
     exact ⟨v,by rw [hbe];exact hv⟩
   · refine (ok b u q).stay (fun c v hc r=>k c v ?_ r) (fun c r=>by rw [upd_ne (nown c b r)];exact r) fun c xs r=>by rw [upd_ne (ntup c xs r)];exact r
     rcases hc with rfl | hc
     · exact hbe
     · rintro rfl
       rcases he with z | z
       · exact nown c b hc z
       · rw [hc] at z;cases z;exact hb rfl
end
structure Un (fs ex:List Addr) (H H':Hp) (h h':Heap):Prop where
 keep:∀ b o,h.get? b=some o→H b=none→b∉fs→b∉ex→h'.get? b=some o
 slot:∀ b o,h.get? b=some o→H b=none→b∈fs→b∉ex→∃ sl,h'.get? b=some { o with slots:=sl }
 free:∀ b o,h.get? b=some o→H b=none→b∉ex→H' b=none
 there:∀ b o,h.get? b=some o→b∉ex→∃ o',h'.get? b=some o'
 tups:∀ b xs,H b=some (.tup xs)→H' b=some (.tup xs)
 frzs:∀ b o u,H b=some (.frz o u)→H' b=some (.frz o u)
 tbls:∀ b ps,H b=some (.tbl ps)→∃ more,H' b=some (.tbl (ps++more))
section
variable {fs fs' ex ex':List Addr} {H H1 H2:Hp} {h h1 h2 h':Heap} {a x e:Addr} {o:HO}
theorem Un.any (u:Un fs ex H H1 h h1) {b:Addr} {ob:Obj} (q:h.get? b=some ob) (n:H b=none) (hx:b∉ex):∃ sl,h1.get? b=some { ob with slots:=sl }:=by
 by_cases hb:b∈fs
 · exact u.slot b ob q n hb hx
 · exact ⟨ob.slots,u.keep b ob q n hb hx⟩
theorem Un.kept (k:∀ b u,h.get? b=some u→h'.get? b=some u):Un fs ex H H h h':=
 ⟨fun b ob q _ _ _=>k b ob q,fun b ob q _ _ _=>⟨ob.slots,k b ob q⟩,fun _ _ _ n _=>n,fun b ob q _=>⟨ob,k b ob q⟩,fun _ _ q=>q,fun _ _ _ q=>q,fun _ ps q=>⟨#[],by rw [q];simp⟩⟩
theorem Un.refl:Un fs ex H H h h:=Un.kept fun _ _ q=>q
theorem Un.laid (k:∀ b u,h.get? b=some u→h'.get? b=some u) (hp:h.objs.size≤a) (hn:H a=none):Un fs ex H (upd H a o) h h' where
 keep:=fun b u q _ _ _=>k b u q
 slot:=fun b u q _ _ _=>⟨u.slots,k b u q⟩
 free:=fun b u q n _=>by rw [upd_ne (Nat.ne_of_lt (Nat.lt_of_lt_of_le (Heap.lt_size q) hp))];exact n
 there:=fun b u q _=>⟨u,k b u q⟩
 tups:=fun b xs q=>by rw [upd_ne (ne_of_none q hn)];exact q
 frzs:=fun b u xs q=>by rw [upd_ne (ne_of_none q hn)];exact q
 tbls:=fun b ps q=>⟨#[],by rw [upd_ne (ne_of_none q hn),q];simp⟩
theorem Un.write (mu:Mut (H x)) (he:e=x∨H e=some (.own x)) (k:∀ b u,b≠e→h.get? b=some u→h'.get? b=some u) (heo:∃ u,h'.get? e=some u):Un fs ex H (upd H x o) h h':=by
 have hx:∀ b,H b=none→b≠x:=fun b n z=>by subst z;rw [n] at mu;exact mu
 have hb:∀ b,H b=none→b≠e:=fun b n z=>by
  subst z
  rcases he with r | r
  · exact hx b n r
  · rw [n] at r;cases r
 have hm:∀ b u,H b=some u→¬ Mut (some u)→b≠x:=fun b u q nm z=>by subst z;rw [q] at mu;exact nm mu
 refine ⟨fun b u q n _ _=>k b u (hb b n) q,fun b u q n _ _=>⟨u.slots,k b u (hb b n) q⟩,fun b u q n _=>by rw [upd_ne (hx b n)];exact n,fun b u q _=>?_,
  fun b xs q=>by rw [upd_ne (hm b _ q fun z=>z)];exact q,fun b u xs q=>by rw [upd_ne (hm b _ q fun z=>z)];exact q,fun b ps q=>⟨#[],by rw [upd_ne (hm b _ q fun z=>z),q];simp⟩⟩
 by_cases hbe:b=e
 · subst hbe;exact heo
 · exact ⟨u,k b u hbe q⟩
end
def trk (h:Heap) (H:Hp):List Addr:=(List.range h.objs.size).filter fun a=>(H a).isSome
def hidT (h:Heap) (H:Hp):Heap:=PySem.W.hideAll h (trk h H)
theorem hidT_size (h:Heap) (H:Hp):(hidT h H).objs.size=h.objs.size:=PySem.W.hideAll_size _ _
theorem hidT_get {h:Heap} {H:Hp} {b:Addr} {o:Obj} (e:h.get? b=some o) (n:H b=none):(hidT h H).get? b=some o:=
 PySem.W.hideAll_get _ e fun hm=>by
  have q:(H b).isSome=true:=(List.mem_filter.mp hm).2
  rw [n] at q;simp at q
theorem of_hidT {h:Heap} {H:Hp} {b:Addr} {o:Obj} (e:(hidT h H).get? b=some o):h.get? b=some o∧H b=none:=by
 have e':h.get? b=some o:=PySem.W.of_hideAll (trk h H) e
 refine ⟨e',?_⟩
 cases q:H b with
 | none=>rfl
 | some x=>
   have hm:b∈trk h H:=List.mem_filter.mpr ⟨List.mem_range.mpr (Heap.lt_size e'),by simp [q]⟩
   have z:(hidT h H).get? b=none:=PySem.W.hideAll_none (trk h H) hm
   rw [z] at e;cases e
structure Mod (K:PySem.W.Frag) (mg:Str→Option Value) (base:Heap):Prop where
 kin:K.In base
 glob:base.Ns mainGlobals mg
 blt:∃ mb,base.Ns builtinsNs mb∧∀ x:Str,x≠"__name__"→mb x=bootBuiltins x
 nolimit:base.NoLimit
structure Cx where
 prog:Program
 w:World
 K:PySem.W.Frag
 mg:Str→Option Value
 base:Heap
 A:Around
 N:List Str
 s₀:Shared
 H₀:Hp
 env:Env
 outer:List Env
 stack:List Env
 ex:List Addr
 fn:Str→Bool
 calm:Bool
 pn:List (Addr×Obj)
 xe:Value→Shared→Prop
def frs (l:List Env):List Addr:=l.filterMap (·.frame)
abbrev Cx.fs (X:Cx):List Addr:=frs X.outer
def Vis (sc:Scope) (x:Str):Prop:=sc.names.lookup x=some .local∨sc.names.lookup x=some .cell∨sc.names.lookup x=some .free
def Loc (sc:Scope) (x:Str):Prop:=sc.names.lookup x=some .local∨sc.names.lookup x=some .cell
def Look (env:Env) (h:Heap) (m:Str→Option Value) (x:Str) (u:Value):Prop:=
 (env.kindOf x=some .local∧m x=some u)∨((env.kindOf x=some .cell∨env.kindOf x=some .free)∧∃ c,env.cells.lookup x=some c∧h.IsCell c (some u))
structure Cx.Ok (X:Cx):Prop where
 mod:Mod X.K X.mg X.base
 kind:X.env.scope.kind=.function
 glob:X.env.globals=mainGlobals
 blt:X.env.builtins=builtinsNs
 above:X.s₀.heap.objs.size≤X.env.locals
 inj:∀ x y c,X.env.cells.lookup x=some c→X.env.cells.lookup y=some c→x=y
 has:∀ x,(X.env.kindOf x=some .cell∨X.env.kindOf x=some .free)→∃ c,X.env.cells.lookup x=some c
 cab:∀ x c,X.fn x=true→X.env.cells.lookup x=some c→X.s₀.heap.objs.size≤c
 hd:X.calm=true→X.A.handled=none
 frames:X.A.frames=some X.stack
 stk:X.stack=X.outer∨(X.stack=X.env::X.outer∧X.env.frame=some X.env.locals)
 exf:∀ b∈X.ex,b≠X.env.locals∧∀ x c,X.env.cells.lookup x=some c→c≠b
 bs:∀ b o,X.base.get? b=some o→X.s₀.heap.get? b=some o∧X.H₀ b=none
 bsz:X.base.objs.size≤X.s₀.heap.objs.size
 noex:∀ b o,X.base.get? b=some o→b∉X.ex
 exfs:∀ b∈X.ex,b∉X.fs
 funs:X.s₀.heap.FunFrames X.base X.outer
 frf:∀ b∈X.fs,X.H₀ b=none
structure Inv (X:Cx) (pins:List (Addr×Obj)) (σ:List (Option V)) (H:Hp) (s:Shared):Prop where
 ok:X.Ok
 os:s.os=X.s₀.os
 bare:AllBare s.gens
 base:Un X.fs X.ex X.H₀ H X.s₀.heap s.heap
 loc:∃ m,s.heap.Ns X.env.locals m∧∀ (i:Nat) (x:Str) (v:V),X.N[i]? = some x→σ[i]? = some (some v)→Vis X.env.scope x→∃ u,RelV v u∧Look X.env s.heap m x u
 cell:∀ x c,X.env.cells.lookup x=some c→∃ v,s.heap.IsCell c v
 free:H X.env.locals=none
 freeC:∀ x c,X.env.cells.lookup x=some c→H c=none
 pin:∀ p∈X.pn++pins,s.heap.get? p.1=some p.2∧H p.1=none∧p.1≠X.env.locals∧p.1∉X.fs∧∀ v,p.2.data≠.cell v
 hok:HOk X.prog X.w H s.heap
 len:σ.length=X.N.length
section
variable {X:Cx} {pins:List (Addr×Obj)} {σ:List (Option V)} {H H':Hp} {s:Shared} {h':Heap}
theorem Cx.Ok.nofr (ok:X.Ok) {b:Addr} {o:Obj} (e:X.base.get? b=some o):b∉X.fs:=fun hb=>by
 have:=(ok.funs.mem hb).1
 rw [e] at this;cases this
theorem Inv.bs (I:Inv X pins σ H s):∀ b o,X.base.get? b=some o→s.heap.get? b=some o∧H b=none:=fun b o e=>
 ⟨I.base.keep b o (I.ok.bs b o e).1 (I.ok.bs b o e).2 (I.ok.nofr e) (I.ok.noex b o e),I.base.free b o (I.ok.bs b o e).1 (I.ok.bs b o e).2 (I.ok.noex b o e)⟩
theorem Inv.bk (I:Inv X pins σ H s):∀ b o,X.base.get? b=some o→s.heap.get? b=some o:=fun b o e=>(I.bs b o e).1
theorem Inv.mod (I:Inv X pins σ H s):Mod X.K X.mg X.base:=I.ok.mod
theorem Inv.kIn (I:Inv X pins σ H s):X.K.In s.heap:=I.ok.mod.kin.keeps I.bk
theorem Inv.nolimit (I:Inv X pins σ H s):s.heap.NoLimit:=I.ok.mod.nolimit.keeps I.bk
theorem Inv.lt (I:Inv X pins σ H s):X.env.locals<s.heap.objs.size:=let ⟨_,hn,_⟩:=I.loc;hn.lt
theorem Inv.sz (I:Inv X pins σ H s):X.s₀.heap.objs.size≤s.heap.objs.size:=Nat.le_trans I.ok.above (Nat.le_of_lt I.lt)
theorem Inv.nofs (I:Inv X pins σ H s) {a:Addr} (h:s.heap.objs.size≤a):a∉X.fs:=fun hb=>by
 obtain ⟨_,o,ho,_⟩:=I.ok.funs.mem hb
 exact absurd (Nat.lt_of_lt_of_le (Heap.lt_size ho) (Nat.le_trans I.sz h)) (Nat.lt_irrefl _)
theorem Inv.cne (I:Inv X pins σ H s):∀ x c,X.env.cells.lookup x=some c→c≠X.env.locals:=fun x c e z=>by
 obtain ⟨v,o,ho,hd⟩:=I.cell x c e
 obtain ⟨m,⟨o',es,ep,ho',hd',_⟩,_⟩:=I.loc
 rw [z,ho'] at ho;cases ho;rw [hd'] at hd;cases hd
theorem Inv.funs (I:Inv X pins σ H s):s.heap.FunFrames X.base X.outer:=by
 have all:∀ (l:List Env),(∀ b∈frs l,b∈X.fs)→X.s₀.heap.FunFrames X.base l→s.heap.FunFrames X.base l:=by
  intro l
  induction l with
  | nil=>intro _ _;trivial
  | cons env r ih=>
    intro hs hl
    obtain ⟨hk,⟨L,o,hf,hn,ho,hd⟩,hr⟩:=hl
    have hL:L∈X.fs:=hs L (by unfold frs;rw [List.filterMap_cons,hf];exact List.mem_cons_self)
    obtain ⟨sl,e⟩:=I.base.slot L o ho (I.ok.frf L hL) hL fun z=>I.ok.exfs L z hL
    exact ⟨hk,⟨L,_,hf,hn,e,hd⟩,ih (fun b hb=>hs b (by unfold frs;rw [List.filterMap_cons,hf];exact List.mem_cons_of_mem _ hb)) hr⟩
 exact all X.outer (fun _ hb=>hb) I.ok.funs
theorem Inv.stack (I:Inv X pins σ H s):s.heap.FunFrames X.base X.stack:=by
 rcases I.ok.stk with e | ⟨e,hf⟩
 · rw [e];exact I.funs
 · rw [e]
   obtain ⟨m,hn,_⟩:=I.loc
   refine .cons (by rw [I.ok.kind];decide) hf hn ?_ I.funs
   exact Heap.get?_none_of_le (Nat.le_trans I.ok.bsz I.ok.above)
theorem Inv.stkSub (I:Inv X pins σ H s):∀ b∈frs X.stack,b∈X.env.locals::X.fs:=fun b hb=>by
 rcases I.ok.stk with e | ⟨e,hf⟩
 · rw [e] at hb;exact List.mem_cons_of_mem _ hb
 · rw [e] at hb
   unfold frs at hb
   rw [List.filterMap_cons,hf] at hb
   exact hb
theorem Inv.stkFree (I:Inv X pins σ H s):∀ b∈frs X.stack,H b=none:=fun b hb=>by
 rcases List.mem_cons.mp (I.stkSub b hb) with e | hb
 · rw [e];exact I.free
 · obtain ⟨_,o,ho,_⟩:=I.ok.funs.mem hb
   exact I.base.free b o ho (I.ok.frf b hb) fun z=>I.ok.exfs b z hb
theorem Inv.step {g':Array GenState} {t':Nat} {d':Drawn} {ch:List Addr} (I:Inv X pins σ H s)
 (hch:∀ b∈ch,(b∈X.ex∨X.s₀.heap.objs.size≤b)∧b≠X.env.locals∧(∀ x c,X.env.cells.lookup x=some c→c≠b)∧∀ p∈X.pn++pins,p.1≠b)
 (keep:∀ b o,b≠X.env.locals→b∉X.fs→b∉ch→s.heap.get? b=some o→H b=none→h'.get? b=some o)
 (slot:∀ b o,b≠X.env.locals→b∈X.fs→b∉ch→s.heap.get? b=some o→H b=none→∃ sl,h'.get? b=some { o with slots:=sl }) (free:∀ b o,b∉ch→s.heap.get? b=some o→H b=none→H' b=none)
 (there:∀ b o,b∉ch→s.heap.get? b=some o→∃ o',h'.get? b=some o')
 (tups:∀ b xs,H b=some (.tup xs)→H' b=some (.tup xs)) (frzs:∀ b o u,H b=some (.frz o u)→H' b=some (.frz o u)) (tbls:∀ b ps,H b=some (.tbl ps)→∃ more,H' b=some (.tbl (ps++more)))
 (ns:∀ m,s.heap.Ns X.env.locals m→h'.Ns X.env.locals m) (hok:HOk X.prog X.w H' h') (hg:AllBare g') :
 Inv X pins σ H' { s with heap:=h',gens:=g',drawn:=d',toks:=t' }:=by
 have neL:∀ b o,X.s₀.heap.get? b=some o→b≠X.env.locals:=fun b o e=>Nat.ne_of_lt (Nat.lt_of_lt_of_le (Heap.lt_size e) I.ok.above)
 have neC:∀ b o,X.s₀.heap.get? b=some o→b∉X.ex→b∉ch:=fun b o e hx hb=>by
  rcases (hch b hb).1 with z | z
  · exact hx z
  · exact absurd (Nat.lt_of_lt_of_le (Heap.lt_size e) z) (Nat.lt_irrefl _)
 have cellK:∀ x c,X.env.cells.lookup x=some c→∀ v,s.heap.IsCell c v→h'.IsCell c v:=fun x c e v ⟨o,ho,hd⟩=>by
  have nch:c∉ch:=fun z=>(hch c z).2.2.1 x c e rfl
  by_cases hc:c∈X.fs
  · obtain ⟨sl,q⟩:=slot c o (I.cne x c e) hc nch ho (I.freeC x c e)
    exact ⟨_,q,hd⟩
  · exact ⟨o,keep c o (I.cne x c e) hc nch ho (I.freeC x c e),hd⟩
 refine ⟨I.ok,I.os,hg,⟨fun b o e n hb hx=>?_,fun b o e n hb hx=>?_,fun b o e n hx=>?_,fun b o e hx=>?_,fun b xs e=>tups b xs (I.base.tups b xs e),fun b o xs e=>frzs b o xs (I.base.frzs b o xs e),fun b ps e=>?_⟩,?_,fun x c e=>?_,?_,fun x c e=>?_,fun p hp=>?_,hok,I.len⟩
 · exact keep b o (neL b o e) hb (neC b o e hx) (I.base.keep b o e n hb hx) (I.base.free b o e n hx)
 · obtain ⟨sl,e1⟩:=I.base.slot b o e n hb hx
   obtain ⟨sl',e2⟩:=slot b _ (neL b o e) hb (neC b o e hx) e1 (I.base.free b o e n hx)
   exact ⟨sl',e2⟩
 · obtain ⟨o',e1⟩:=I.base.there b o e hx
   exact free b o' (neC b o e hx) e1 (I.base.free b o e n hx)
 · obtain ⟨o',e1⟩:=I.base.there b o e hx
   exact there b o' (neC b o e hx) e1
 · obtain ⟨m1,e1⟩:=I.base.tbls b ps e
   obtain ⟨m2,e2⟩:=tbls b _ e1
   exact ⟨m1++m2,by rw [e2,Array.append_assoc]⟩
 · obtain ⟨m,hn,hl⟩:=I.loc
   refine ⟨m,ns m hn,fun i x v e1 e2 e3=>?_⟩
   obtain ⟨u,r,l⟩:=hl i x v e1 e2 e3
   refine ⟨u,r,?_⟩
   rcases l with l | ⟨k,c,e,z⟩
   · exact .inl l
   · exact .inr ⟨k,c,e,cellK x c e _ z⟩
 · obtain ⟨v,z⟩:=I.cell x c e
   exact ⟨v,cellK x c e v z⟩
 · obtain ⟨m,⟨o,_,_,ho,_⟩,_⟩:=I.loc
   exact free _ o (fun z=>(hch _ z).2.1 rfl) ho I.free
 · obtain ⟨v,o,ho,hd⟩:=I.cell x c e
   exact free c o (fun z=>(hch c z).2.2.1 x c e rfl) ho (I.freeC x c e)
 · obtain ⟨e,n,ne,nf,d⟩:=I.pin p hp
   have nch:p.1∉ch:=fun z=>(hch p.1 z).2.2.2 p hp rfl
   exact ⟨keep p.1 p.2 ne nf nch e n,free p.1 p.2 nch e n,ne,nf,d⟩
theorem Inv.un {t':Nat} (I:Inv X pins σ H s) (u:Un X.fs [] H H' s.heap h') (hok:HOk X.prog X.w H' h'):Inv X pins σ H' { s with heap:=h',toks:=t' }:=by
 obtain ⟨m,⟨o,es,ep,ho,r⟩,_⟩:=id I.loc
 obtain ⟨sl,hL⟩:=u.any ho I.free (by simp)
 exact I.step (g':=s.gens) (d':=s.drawn) (ch:=[]) (fun _ z=>nomatch z) (fun b o _ hb _ e n=>u.keep b o e n hb (by simp)) (fun b o _ hb _ e n=>u.slot b o e n hb (by simp)) (fun b o _ e n=>u.free b o e n (by simp)) (fun b o _ e=>u.there b o e (by simp)) u.tups u.frzs u.tbls (fun m' hm=>by
  obtain ⟨o',es',ep',ho',r'⟩:=hm
  rw [ho] at ho';cases ho'
  exact ⟨_,es',ep',hL,r'⟩) hok I.bare
theorem Inv.call {g':Array GenState} {t':Nat} {d':Drawn} {ch:List Addr} (I:Inv X pins σ H s) (u:Un (frs X.stack) ch H H' s.heap h') (hok:HOk X.prog X.w H' h') (hg:AllBare g')
 (hch:∀ b∈ch,(b∈X.ex∨X.s₀.heap.objs.size≤b)∧b≠X.env.locals∧(∀ x c,X.env.cells.lookup x=some c→c≠b)∧∀ p∈X.pn++pins,p.1≠b) :
 Inv X pins σ H' { s with heap:=h',gens:=g',drawn:=d',toks:=t' }:=by
 obtain ⟨m,⟨o,es,ep,ho,r⟩,_⟩:=id I.loc
 obtain ⟨sl,hL⟩:=u.any ho I.free fun z=>(hch _ z).2.1 rfl
 exact I.step (ch:=ch) hch (fun b o hL hb hc e n=>u.keep b o e n (fun z=>(List.mem_cons.mp (I.stkSub b z)).elim hL hb) hc) (fun b o _ _ hc e n=>u.any e n hc) (fun b o hc e n=>u.free b o e n hc) (fun b o hc e=>u.there b o e hc) u.tups u.frzs u.tbls (fun m' hm=>by
  obtain ⟨o',es',ep',ho',r'⟩:=hm
  rw [ho] at ho';cases ho'
  exact ⟨_,es',ep',hL,r'⟩) hok hg
theorem Inv.turned {t':Nat} {it:Addr} (I:Inv X pins σ H s) (k:∀ b o,b≠it→s.heap.get? b=some o→h'.get? b=some o) (hn:H it=none) (hL:it≠X.env.locals)
 (h1:it∈X.ex∨X.s₀.heap.objs.size≤it) (h2:∀ x c,X.env.cells.lookup x=some c→c≠it) (h3:∀ p∈X.pn++pins,p.1≠it):Inv X pins σ H { s with heap:=h',toks:=t' }:=by
 have nit:∀ b u,H b=some u→b≠it:=fun b u e z=>by rw [z,hn] at e;cases e
 refine I.step (g':=s.gens) (d':=s.drawn) (ch:=[it]) (fun b hb=>?_) (fun b o _ _ hc e _=>k b o (fun z=>hc (by simp [z])) e) (fun b o _ _ hc e _=>⟨o.slots,k b o (fun z=>hc (by simp [z])) e⟩) (fun _ _ _ _ n=>n)
  (fun b o hc e=>⟨o,k b o (fun z=>hc (by simp [z])) e⟩) (fun _ _ e=>e) (fun _ _ _ e=>e) (fun b ps e=>⟨#[],by rw [e];simp⟩) (fun m hm=>?_) (fun b u e=>?_) I.bare
 · have e:b=it:=by simpa using hb
   subst e
   exact ⟨h1,hL,h2,h3⟩
 · obtain ⟨o,es,ep,ho,r⟩:=hm
   exact ⟨o,es,ep,k _ o (Ne.symm hL) ho,r⟩
 · refine (I.hok b u e).stay (fun c v hc q=>k c v ?_ q) (fun _ q=>q) fun _ _ q=>q
   rcases hc with z | z
   · rw [z];exact nit b u e
   · exact nit c _ z
theorem Inv.tok (I:Inv X pins σ H s) (t:Nat):Inv X pins σ H { s with toks:=t }:=I.un (h':=s.heap) (t':=t) Un.refl I.hok
theorem Inv.kept {t':Nat} (I:Inv X pins σ H s) (k:∀ b u,s.heap.get? b=some u→h'.get? b=some u):Inv X pins σ H { s with heap:=h',toks:=t' }:=I.un (Un.kept k) (I.hok.kept k)
theorem Inv.laid {a:Addr} {o:HO} {t':Nat} (I:Inv X pins σ H s) (k:∀ b u,s.heap.get? b=some u→h'.get? b=some u) (hp:s.heap.objs.size≤a) (new:ObjOk X.prog X.w (upd H a o) h' a o) :
 Inv X pins σ (upd H a o) { s with heap:=h',toks:=t' }:=I.un (Un.laid k hp (I.hok.fresh hp)) (I.hok.laid k hp new)
theorem Inv.write {x e:Addr} {o:HO} {t':Nat} (I:Inv X pins σ H s) (mu:Mut (H x)) (he:e=x∨H e=some (.own x)) (k:∀ b u,b≠e→s.heap.get? b=some u→h'.get? b=some u) (heo:∃ u,h'.get? e=some u)
 (new:ObjOk X.prog X.w (upd H x o) h' x o):Inv X pins σ (upd H x o) { s with heap:=h',toks:=t' }:=I.un (Un.write mu he k heo) (I.hok.write mu he k heo new)
theorem Inv.weak {σ':List (Option V)} (I:Inv X pins σ H s) (hl:σ'.length=σ.length) (w:∀ (i:Nat) v,σ'[i]? = some (some v)→σ[i]? = some (some v)):Inv X pins σ' H s:=
 ⟨I.ok,I.os,I.bare,I.base,let ⟨m,hn,hl'⟩:=I.loc;⟨m,hn,fun i x v e1 e2 e3=>hl' i x v e1 (w i v e2) e3⟩,I.cell,I.free,I.freeC,I.pin,I.hok,hl.trans I.len⟩
theorem Inv.pins_of {pins':List (Addr×Obj)} (I:Inv X pins σ H s) (h:∀ p∈pins',s.heap.get? p.1=some p.2∧H p.1=none∧p.1≠X.env.locals∧p.1∉X.fs∧∀ v,p.2.data≠.cell v):Inv X pins' σ H s:=
 ⟨I.ok,I.os,I.bare,I.base,I.loc,I.cell,I.free,I.freeC,fun p hp=>(List.mem_append.mp hp).elim (fun z=>I.pin p (List.mem_append_left _ z)) (h p),I.hok,I.len⟩
theorem nodup_ix {N:List Str} (hN:N.Nodup) {i j:Nat} {x:Str} (a:N[i]? = some x) (b:N[j]? = some x):i=j:=by
 obtain ⟨h1,e1⟩:=List.getElem?_eq_some_iff.mp a
 obtain ⟨h2,e2⟩:=List.getElem?_eq_some_iff.mp b
 exact (List.getElem_inj hN).mp (e1.trans e2.symm)
theorem store_ok2 {M:Model} {A:Around} {E:Value→Shared→Prop} {i:Nat} {x:Str} {v:V} {u:Value} {Q:Unit→Shared→Prop} (I:Inv X pins σ H s) (hN:X.N.Nodup) (hi:X.N[i]? = some x) (hx:Loc X.env.scope x) (r:RelV v u)
 (h:∀ s',Inv X pins (σ.set i (some v)) H s'→(∃ a,Heap.SameBut a s.heap s'.heap∧(a=X.env.locals∨X.env.cells.lookup x=some a))→Q () s') (hf:X.fn x=true∨X.env.scope.names.lookup x=some .local:=by first | exact .inl rfl | exact .inr rfl | assumption):wpAny M A (storeName X.env x u) Q E s:=by
 obtain ⟨m,hn,hl⟩:=id I.loc
 have hcls:(X.env.scope.kind == .class||(X.env.scope.kind == .module&&X.env.locals != X.env.globals))=false:=by rw [I.ok.kind];rfl
 have hiσ:i<σ.length:=by rw [I.len];exact (List.getElem?_eq_some_iff.mp hi).1
 have cne:=I.cne
 have tracked:∀ {a:Addr} {h':Heap},(∃ o,s.heap.get? a=some o∧H a=none)→Heap.SameBut a s.heap h'→HOk X.prog X.w H h':=fun {a h'} ha hs b ob e=>by
  obtain ⟨_,_,hfree⟩:=ha
  refine (I.hok b ob e).stay (fun c w' hc q=>(hs.2 c ?_).trans q) (fun _ q=>q) fun _ _ q=>q
  rintro rfl
  rcases hc with rfl | hc
  · rw [hfree] at e;cases e
  · rw [hfree] at hc;cases hc
 rcases hx with hk | hk
 · refine wpAny_storeName_local hk hn (fun h' hn' hs=>?_) hcls
   obtain ⟨oL,_,_,hoL,_⟩:=id hn
   refine h _ ⟨I.ok,I.os,I.bare,⟨fun b o e n hb hx=>?_,fun b o e n hb hx=>?_,I.base.free,fun b o e hx=>?_,I.base.tups,I.base.frzs,I.base.tbls⟩,⟨_,hn',fun j y v' e1 e2 e3=>?_⟩,fun y c e=>?_,I.free,I.freeC,fun p hp=>?_,tracked ⟨oL,hoL,I.free⟩ hs,by simpa using I.len⟩ ⟨_,hs,.inl rfl⟩
   · exact (hs.2 b (Nat.ne_of_lt (Nat.lt_of_lt_of_le (Heap.lt_size e) I.ok.above))).trans (I.base.keep b o e n hb hx)
   · obtain ⟨sl,e1⟩:=I.base.slot b o e n hb hx
     exact ⟨sl,(hs.2 b (Nat.ne_of_lt (Nat.lt_of_lt_of_le (Heap.lt_size e) I.ok.above))).trans e1⟩
   · obtain ⟨o',e1⟩:=I.base.there b o e hx
     exact ⟨o',(hs.2 b (Nat.ne_of_lt (Nat.lt_of_lt_of_le (Heap.lt_size e) I.ok.above))).trans e1⟩
   · by_cases hj:j=i
     · subst hj
       rw [hi] at e1;cases e1
       rw [List.getElem?_set_self hiσ] at e2
       cases e2
       exact ⟨u,r,.inl ⟨hk,by simp⟩⟩
     · rw [List.getElem?_set_ne (Ne.symm hj)] at e2
       obtain ⟨u',r',q⟩:=hl j y v' e1 e2 e3
       refine ⟨u',r',?_⟩
       rcases q with ⟨k,e⟩ | ⟨k,c,e,z⟩
       · refine .inl ⟨k,?_⟩
         have:y≠x:=fun e=>hj (nodup_ix hN e1 (e▸hi))
         simp [this,e]
       · exact .inr ⟨k,c,e,z.sameBut hs (cne y c e)⟩
   · obtain ⟨w',z⟩:=I.cell y c e
     exact ⟨w',z.sameBut hs (cne y c e)⟩
   · obtain ⟨e,n,ne,nf,d⟩:=I.pin p hp
     exact ⟨(hs.2 p.1 ne).trans e,n,ne,nf,d⟩
 · have hfn:X.fn x=true:=by
    rcases hf with z | z
    · exact z
    · rw [z] at hk;cases hk
   obtain ⟨c,hc⟩:=I.ok.has x (.inl hk)
   obtain ⟨w',z⟩:=I.cell x c hc
   refine wpAny_storeName_cell I.ok.kind hk hc z (fun h' hc' hs=>?_)
   obtain ⟨oc,hoc,hocd⟩:=id z
   refine h { s with heap:=h' } ⟨I.ok,I.os,I.bare,⟨fun b o e n hb hx=>?_,fun b o e n hb hx=>?_,I.base.free,fun b o e hx=>?_,I.base.tups,I.base.frzs,I.base.tbls⟩,⟨m,hn.sameBut hs (Ne.symm (cne x c hc)),fun j y v' e1 e2 e3=>?_⟩,fun y c' e=>?_,I.free,I.freeC,fun p hp=>?_,tracked ⟨oc,hoc,I.freeC x c hc⟩ hs,by simpa using I.len⟩ ⟨c,hs,.inr hc⟩
   · exact (hs.2 b (Nat.ne_of_lt (Nat.lt_of_lt_of_le (Heap.lt_size e) (I.ok.cab x c hfn hc)))).trans (I.base.keep b o e n hb hx)
   · obtain ⟨sl,e1⟩:=I.base.slot b o e n hb hx
     exact ⟨sl,(hs.2 b (Nat.ne_of_lt (Nat.lt_of_lt_of_le (Heap.lt_size e) (I.ok.cab x c hfn hc)))).trans e1⟩
   · obtain ⟨o',e1⟩:=I.base.there b o e hx
     exact ⟨o',(hs.2 b (Nat.ne_of_lt (Nat.lt_of_lt_of_le (Heap.lt_size e) (I.ok.cab x c hfn hc)))).trans e1⟩
   · by_cases hj:j=i
     · subst hj
       rw [hi] at e1;cases e1
       rw [List.getElem?_set_self hiσ] at e2
       cases e2
       exact ⟨u,r,.inr ⟨.inl hk,c,hc,hc'⟩⟩
     · rw [List.getElem?_set_ne (Ne.symm hj)] at e2
       obtain ⟨u',r',q⟩:=hl j y v' e1 e2 e3
       refine ⟨u',r',?_⟩
       rcases q with q | ⟨k,c',e,z'⟩
       · exact .inl q
       · refine .inr ⟨k,c',e,z'.sameBut hs ?_⟩
         rintro rfl
         exact hj (nodup_ix hN e1 (I.ok.inj _ _ _ e hc▸hi))
   · by_cases hcc:c'=c
     · subst hcc;exact ⟨_,hc'⟩
     · obtain ⟨w2,z2⟩:=I.cell y c' e
       exact ⟨w2,z2.sameBut hs hcc⟩
   · obtain ⟨e,n,ne,nf,d⟩:=I.pin p hp
     refine ⟨(hs.2 p.1 ?_).trans e,n,ne,nf,d⟩
     intro q
     rw [q,hoc] at e
     have q':oc=p.2:=Option.some.inj e
     exact d w' (by rw [← q'];exact hocd)
theorem store_ok {M:Model} {A:Around} {E:Value→Shared→Prop} {i:Nat} {x:Str} {v:V} {u:Value} {Q:Unit→Shared→Prop} (I:Inv X pins σ H s) (hN:X.N.Nodup) (hi:X.N[i]? = some x) (hx:Loc X.env.scope x) (r:RelV v u)
 (h:∀ s',Inv X pins (σ.set i (some v)) H s'→Q () s') (hf:X.fn x=true∨X.env.scope.names.lookup x=some .local:=by first | exact .inl rfl | exact .inr rfl | assumption):wpAny M A (storeName X.env x u) Q E s:=
 store_ok2 I hN hi hx r (fun s' I' _=>h s' I') hf
theorem Inv.call' {s':Shared} {ch:List Addr} (I:Inv X pins σ H s) (ho:s'.os=s.os) (u:Un (frs X.stack) ch H H' s.heap s'.heap) (hok:HOk X.prog X.w H' s'.heap) (hg:AllBare s'.gens)
 (hch:∀ b∈ch,(b∈X.ex∨X.s₀.heap.objs.size≤b)∧b≠X.env.locals∧(∀ x c,X.env.cells.lookup x=some c→c≠b)∧∀ p∈X.pn++pins,p.1≠b):Inv X pins σ H' s':=by
 obtain ⟨h',g',d',t',o'⟩:=s'
 have e:o'=s.os:=ho
 subst e
 exact I.call (g':=g') (t':=t') (d':=d') u hok hg hch
end
abbrev XK:=Value→Option Addr→Hp→Prop
abbrev St:=List (Option V)
abbrev VK:=V→Hp→Prop
abbrev TE:=St→Hp→VK→Prop
abbrev TT:=St→Hp→(Bool→Hp→Prop)→Prop
abbrev TA:=St→Hp→(List V→Hp→Prop)→Prop
structure Ends where
 nx:St→Hp→Prop
 rt:VK
 bk:St→Hp→Prop:=fun _ _=>False
 ct:St→Hp→Prop:=fun _ _=>False
abbrev TS:=Ends→St→Hp→Prop
def EP (X:Cx) (pins:List (Addr×Obj)) (σ:St) (Q:VK) (u:Value) (s':Shared):Prop:=∃ v H',Inv X pins σ H' s'∧RelV v u∧Q v H'
def TP (X:Cx) (pins:List (Addr×Obj)) (σ:St) (Q:Bool→Hp→Prop) (b:Bool) (s':Shared):Prop:=∃ H',Inv X pins σ H' s'∧Q b H'
def AP (X:Cx) (pins:List (Addr×Obj)) (σ:St) (Q:List V→Hp→Prop) (us:List Value) (s':Shared):Prop:=∃ vs H',Inv X pins σ H' s'∧Vals vs us∧Q vs H'
def SP (X:Cx) (pins:List (Addr×Obj)) (D:Ends) (f:Flow) (s':Shared):Prop:=
 match f with
 | .next=>∃ σ' H',Inv X pins σ' H' s'∧D.nx σ' H'
 | .brk=>∃ σ' H',Inv X pins σ' H' s'∧D.bk σ' H'
 | .cont=>∃ σ' H',Inv X pins σ' H' s'∧D.ct σ' H'
 | .ret u=>∃ v σ' H',Inv X pins σ' H' s'∧RelV v u∧D.rt v H'
def PE (X:Cx) (e:Expr) (t:TE):Prop:=
 ∀ (pins:List (Addr×Obj)) (s:Shared) (σ:St) (H:Hp) (Q:VK),Inv X pins σ H s→t σ H Q→wpAny (model X.prog X.w) X.A (eval e X.env) (EP X pins σ Q) X.xe s
@[irreducible] def ZE (X:Cx) (e:Expr) (t:TE):Prop:=PE X e t
def PT (X:Cx) (e:Expr) (t:TT):Prop:=
 ∀ (pins:List (Addr×Obj)) (s:Shared) (σ:St) (H:Hp) (Q:Bool→Hp→Prop),Inv X pins σ H s→t σ H Q→wpAny (model X.prog X.w) X.A (isTrue e X.env (eval e X.env)) (TP X pins σ Q) X.xe s
@[irreducible] def ZT (X:Cx) (e:Expr) (t:TT):Prop:=PT X e t
def PW (X:Cx) (e:Expr) (t:TT):Prop:=
 ∀ (whole:Sem Value) (pins:List (Addr×Obj)) (s:Shared) (σ:St) (H:Hp) (Q:Bool→Hp→Prop),Inv X pins σ H s→t σ H Q→wpAny (model X.prog X.w) X.A (isTrue e X.env whole) (TP X pins σ Q) X.xe s
@[irreducible] def ZW (X:Cx) (e:Expr) (t:TT):Prop:=PW X e t
theorem PW.pt {X:Cx} {e:Expr} {t:TT} (h:PW X e t):PT X e t:=h _
theorem ZW.zt {X:Cx} {e:Expr} {t:TT} (h:ZW X e t):ZT X e t:=by with_unfolding_all exact PW.pt h
def PA (X:Cx) (es:List Expr) (t:TA):Prop:=
 ∀ (pos:Pos) (pins:List (Addr×Obj)) (s:Shared) (σ:St) (H:Hp) (Q:List V→Hp→Prop),Inv X pins σ H s→t σ H Q→wpAny (model X.prog X.w) X.A (spliced (backTo pos (starEach es X.env))) (AP X pins σ Q) X.xe s
@[irreducible] def ZA (X:Cx) (es:List Expr) (t:TA):Prop:=PA X es t
def PS (X:Cx) (st:Stmt) (t:TS):Prop:=
 ∀ (pins:List (Addr×Obj)) (s:Shared) (σ:St) (H:Hp) (D:Ends),Inv X pins σ H s→t D σ H→wpAny (model X.prog X.w) X.A (exec st X.env) (SP X pins D) X.xe s
@[irreducible] def ZS (X:Cx) (st:Stmt) (t:TS):Prop:=PS X st t
def PSs (X:Cx) (st:List Stmt) (t:TS):Prop:=
 ∀ (pins:List (Addr×Obj)) (s:Shared) (σ:St) (H:Hp) (D:Ends),Inv X pins σ H s→t D σ H→wpAny (model X.prog X.w) X.A (execs st X.env) (SP X pins D) X.xe s
@[irreducible] def ZSs (X:Cx) (st:List Stmt) (t:TS):Prop:=PSs X st t
theorem ZSs.p {X:Cx} {st:List Stmt} {t:TS}  (h:ZSs X st t):PSs X st t:=by unfold ZSs at h;exact h
theorem thn {α:Type} {t:Sem α} {Q Q':α→Shared→Prop} {M:Model} {A:Around} {E:Value→Shared→Prop} {s:Shared} (h:wpAny M A t Q E s) (hQ:∀ a s,Q a s→Q' a s):wpAny M A t Q' E s:=wpAny_mono h hQ fun _ _ x=>x
section
variable {X:Cx}
def tVar (i:Nat):TE:=fun σ H Q=>∃ v,σ[i]? = some (some v)∧Q v H
def tC (v:V):TE:=fun _ H Q=>Q v H
theorem pe_var {i:Nat} {x:Str} {pos:Pos} (hN:X.N[i]? = some x) (hv:Vis X.env.scope x) (hd:(x == ("__debug__" : Str))=false:=by decide) (hcd:(x == ("__classdict__" : Str))=false:=by decide):PE X (.Name x pos) (tVar i):=by
 intro pins s σ H Q I h
 obtain ⟨v,e,h⟩:=h
 obtain ⟨m,hn,hl⟩:=I.loc
 obtain ⟨u,r,l⟩:=hl i x v hN e hv
 have fin:EP X pins σ Q u s:=⟨v,H,I,r,h⟩
 rcases l with ⟨hk,hm⟩ | ⟨hk,c,hc,hcell⟩
 · exact wpAny_Name (wpAny_loadName_local I.ok.kind hk hn hm fin) hd
 · rcases hk with hk | hk
   · exact wpAny_Name (wpAny_loadName_cell I.ok.kind hk hc hcell fin) hd
   · exact wpAny_Name (wpAny_loadName_free I.ok.kind hk hc hcell fin hcd) hd
theorem pe_int {i j pos}:PE X (.Constant (.int i) j pos) (tC (.int i)):=fun _ _ _ H _ I h=>wpAny_Constant_int ⟨.int i,H,I.tok _,⟨_,rfl⟩,h⟩
theorem ze_int {i j pos}:ZE X (.Constant (.int i) j pos) (tC (.int i)):=by with_unfolding_all exact pe_int
theorem pe_bl {b j pos}:PE X (.Constant (.bool b) j pos) (tC (.bl b)):=fun _ _ _ H _ I h=>Constant_bool ⟨.bl b,H,I,rfl,h⟩
theorem ze_bl {b j pos}:ZE X (.Constant (.bool b) j pos) (tC (.bl b)):=by with_unfolding_all exact pe_bl
theorem pe_non {j pos}:PE X (.Constant .none j pos) (tC .non):=fun _ _ _ H _ I h=>Constant_none ⟨.non,H,I,rfl,h⟩
theorem ze_non {j pos}:ZE X (.Constant .none j pos) (tC .non):=by with_unfolding_all exact pe_non
theorem pe_str {x j pos}:PE X (.Constant (.str x) j pos) (tC (.str x)):=fun _ _ _ H _ I h=>Calls.Constant_str ⟨.str x,H,I.tok _,⟨_,rfl⟩,h⟩
theorem ze_str {x j pos}:ZE X (.Constant (.str x) j pos) (tC (.str x)):=by with_unfolding_all exact pe_str
def Gl (X:Cx) (x:Str):Prop:=X.env.kindOf x=some .globalImplicit
theorem ld_glob {E:Value→Shared→Prop} {pins:List (Addr×Obj)} {s:Shared} {σ:St} {H:Hp} {x:Str} {u:Value} {pos:Pos} {Q:Value→Shared→Prop} (I:Inv X pins σ H s) (hg:Gl X x) (hm:X.mg x=some u) (h:Q u s)
 (hd:(x == ("__debug__" : Str))=false:=by decide):wpAny (model X.prog X.w) X.A (eval (.Name x pos) X.env) Q E s:=
 Calls.Name_function_global I.ok.kind hg (Calls.loadGlobal_global (by rw [I.ok.glob];exact I.mod.glob.keeps I.bk) hm h) hd
theorem ld_blt {E:Value→Shared→Prop} {pins:List (Addr×Obj)} {s:Shared} {σ:St} {H:Hp} {x:Str} {u:Value} {pos:Pos} {Q:Value→Shared→Prop} (I:Inv X pins σ H s) (hg:Gl X x) (hm:X.mg x=none) (hv:bootBuiltins x=some u) (h:Q u s)
 (hn:x≠"__name__":=by decide) (hd:(x == ("__debug__" : Str))=false:=by decide):wpAny (model X.prog X.w) X.A (eval (.Name x pos) X.env) Q E s:=by
 obtain ⟨mb,h1,h2⟩:=I.mod.blt
 exact Calls.Name_function_global I.ok.kind hg (Calls.loadGlobal_builtin (by rw [I.ok.glob];exact I.mod.glob.keeps I.bk) hm (by rw [I.ok.blt];exact h1.keeps I.bk) ((h2 x hn).trans hv) h) hd
theorem pe_glob {x:Str} {v:V} {u:Value} {pos:Pos} (hg:Gl X x) (hm:X.mg x=some u) (r:RelV v u) (hd:(x == ("__debug__" : Str))=false:=by decide):PE X (.Name x pos) (tC v):=
 fun _ _ _ H _ I h=>ld_glob I hg hm ⟨v,H,I,r,h⟩ hd
theorem pe_bltn {x:Str} {v:V} {u:Value} {pos:Pos} (hg:Gl X x) (hm:X.mg x=none) (hv:bootBuiltins x=some u) (r:RelV v u) (hn:x≠"__name__":=by decide) (hd:(x == ("__debug__" : Str))=false:=by decide):PE X (.Name x pos) (tC v):=
 fun _ _ _ H _ I h=>ld_blt I hg hm hv ⟨v,H,I,r,h⟩ hn hd
variable {a b:Expr} {ta tb:TE} {pos:Pos}
variable {tA tB':TT} {rest:List Expr}
def tAnd (t u:TT):TT:=fun σ H Q=>t σ H fun c H1=>if c=true then u σ H1 Q else Q false H1
def tOr (t u:TT):TT:=fun σ H Q=>t σ H fun c H1=>if c=true then Q true H1 else u σ H1 Q
def tNot (t:TT):TT:=fun σ H Q=>t σ H fun c H1=>Q (!c) H1
theorem pw_and1 (ha:PT X a tA):PW X (.BoolOp .And [a] pos) tA:=by
 intro wh pins s σ H Q I h
 refine isTrue_and (thn (ha pins s σ H Q I h) fun c s1 e=>?_)
 cases c with
 | true=>exact isTrue_and_nil e
 | false=>exact e
theorem zw_and1 (ha:ZT X a tA):ZW X (.BoolOp .And [a] pos) tA:=by with_unfolding_all exact pw_and1 ha
theorem pw_or1 (ha:PT X a tA):PW X (.BoolOp .Or [a] pos) tA:=by
 intro wh pins s σ H Q I h
 refine isTrue_or (thn (ha pins s σ H Q I h) fun c s1 e=>?_)
 cases c with
 | false=>exact isTrue_or_nil e
 | true=>exact e
theorem zw_or1 (ha:ZT X a tA):ZW X (.BoolOp .Or [a] pos) tA:=by with_unfolding_all exact pw_or1 ha
theorem pw_and (ha:PT X a tA) (hb:PW X (.BoolOp .And (b::rest) pos) tB'):PW X (.BoolOp .And (a::b::rest) pos) (tAnd tA tB'):=by
 intro wh pins s σ H Q I h
 refine isTrue_and (thn (ha pins s σ H _ I h) fun c s1 ⟨H1,I1,q1⟩=>?_)
 cases c with
 | true=>exact hb wh pins s1 σ H1 Q I1 q1
 | false=>exact ⟨H1,I1,q1⟩
theorem zw_and (ha:ZT X a tA) (hb:ZW X (.BoolOp .And (b::rest) pos) tB'):ZW X (.BoolOp .And (a::b::rest) pos) (tAnd tA tB'):=by with_unfolding_all exact pw_and ha hb
theorem pw_or (ha:PT X a tA) (hb:PW X (.BoolOp .Or (b::rest) pos) tB'):PW X (.BoolOp .Or (a::b::rest) pos) (tOr tA tB'):=by
 intro wh pins s σ H Q I h
 refine isTrue_or (thn (ha pins s σ H _ I h) fun c s1 ⟨H1,I1,q1⟩=>?_)
 cases c with
 | true=>exact ⟨H1,I1,q1⟩
 | false=>exact hb wh pins s1 σ H1 Q I1 q1
theorem zw_or (ha:ZT X a tA) (hb:ZW X (.BoolOp .Or (b::rest) pos) tB'):ZW X (.BoolOp .Or (a::b::rest) pos) (tOr tA tB'):=by with_unfolding_all exact pw_or ha hb
theorem pt_not (ha:PT X a tA):PT X (.UnaryOp .Not a pos) (tNot tA):=by
 intro pins s σ H Q I h
 exact isTrue_not (ha pins s σ H (fun c H1=>Q (!c) H1) I h)
theorem zt_not (ha:ZT X a tA):ZT X (.UnaryOp .Not a pos) (tNot tA):=by with_unfolding_all exact pt_not ha
theorem pe_one {op} {t:TE} (h:PE X a t):PE X (.BoolOp op [a] pos) t:=fun pins s σ H Q I hw=>BoolOp_one (h pins s σ H Q I hw)
theorem ze_one {op} {t:TE} (h:ZE X a t):ZE X (.BoolOp op [a] pos) t:=by with_unfolding_all exact pe_one h
end
def SqL (K:PySem.W.Frag) (H:Hp) (a:Addr) (xs:List V):Prop:=
 Rd H a (.lst xs) ∨
  ∃ (o:Obj) (its:Array Value) (n:Nat),K.lookup a=some o∧o.cls=.type "list"∧o.dict=none∧o.data=.seq its n∧its.size≤sizeLine∧Vals xs its.toList
def SqT (K:PySem.W.Frag) (H:Hp) (a:Addr) (xs:List V):Prop:=
 Rd H a (.tup xs) ∨
  ∃ (o:Obj) (its:Array Value) (n:Nat),K.lookup a=some o∧o.cls=.type "tuple"∧o.data=.seq its n∧its.size≤sizeLine∧Vals xs its.toList
def absV:Value→Option V
 | .none=>some .non
 | .bool b=>some (.bl b)
 | .int i _=>some (.int i)
 | .str x _=>some (.str x)
 | .bytes b _=>some (.byt b)
 | .float b _=>some (.flt b)
 | .ref a=>some (.ref a)
 | .type n=>some (.ty n)
 | _=>none
theorem RelV.abs {x:V} {u:Value} (r:RelV x u):absV u=some x:=by
 cases x with
 | non=>cases r;rfl
 | bl _=>cases r;rfl
 | int _=>obtain ⟨t,rfl⟩:=r;rfl
 | str _=>obtain ⟨t,rfl⟩:=r;rfl
 | byt _=>obtain ⟨t,rfl⟩:=r;rfl
 | flt _=>obtain ⟨t,rfl⟩:=r;rfl
 | ref _=>cases r;rfl
 | ty _=>cases r;rfl
theorem RelV.inj {x y:V} {u:Value} (r:RelV x u) (q:RelV y u):x=y:=Option.some.inj (r.abs.symm.trans q.abs)
theorem Vals.inj:∀ {xs ys:List V} {us:List Value},Vals xs us→Vals ys us→xs=ys
 | _,_,_,.nil,.nil=>rfl
 | _,_,_,.cons r t,.cons r' t'=>by rw [r.inj r',Vals.inj t t']
section
variable {X:Cx} {pins:List (Addr×Obj)} {σ:St} {H:Hp} {s:Shared} {a:Addr} {xs ys:List V}
theorem SqL.of {K:PySem.W.Frag} (h:H a=some (.lst xs)):SqL K H a xs:=.inl (.inl h)
theorem SqT.of {K:PySem.W.Frag} (h:H a=some (.tup xs)):SqT K H a xs:=.inl (.inl h)
theorem Inv.list (I:Inv X pins σ H s) (h:SqL X.K H a xs):∃ its:List Value,Vals xs its∧PlainL s.heap a its.toArray∧xs.length≤sizeLine:=by
 rcases h with h | ⟨o,its,n,hk,hc,hd,hs,hz,r⟩
 · obtain ⟨z,its,n,r,e⟩:=h.ok I.hok
   exact ⟨its,r,⟨_,n,e,rfl,rfl,rfl⟩,z⟩
 · refine ⟨its.toList,r,⟨o,n,I.kIn a o hk,hc,hd,by simpa using hs⟩,?_⟩
   have e:=r.length
   simp only [Array.length_toList] at e
   omega
theorem Inv.tuple (I:Inv X pins σ H s) (h:SqT X.K H a xs):∃ its:List Value,Vals xs its∧IsTup s.heap a its.toArray∧xs.length≤sizeLine:=by
 rcases h with h | ⟨o,its,n,hk,hc,hs,hz,r⟩
 · obtain ⟨z,its,r,p⟩:=h.ok I.hok
   exact ⟨its,r,p.tup,z⟩
 · refine ⟨its.toList,r,⟨o,I.kIn a o hk,hc,n,by simpa using hs⟩,?_⟩
   have e:=r.length
   simp only [Array.length_toList] at e
   omega
theorem Inv.list_inj (I:Inv X pins σ H s) (h:SqL X.K H a xs) (h':SqL X.K H a ys):xs=ys:=by
 obtain ⟨its,r,⟨o,n,e,_,_,d⟩,_⟩:=I.list h
 obtain ⟨its',r',⟨o',n',e',_,_,d'⟩,_⟩:=I.list h'
 rw [e] at e';cases e'
 rw [d] at d'
 injection d' with d1 _
 have:its=its':=by simpa using congrArg Array.toList d1
 subst this
 exact r.inj r'
theorem Inv.tuple_inj (I:Inv X pins σ H s) (h:SqT X.K H a xs) (h':SqT X.K H a ys):xs=ys:=by
 obtain ⟨its,r,⟨o,e,_,n,d⟩,_⟩:=I.tuple h
 obtain ⟨its',r',⟨o',e',_,n',d'⟩,_⟩:=I.tuple h'
 rw [e] at e';cases e'
 rw [d] at d'
 injection d' with d1 _
 have:its=its':=by simpa using congrArg Array.toList d1
 subst this
 exact r.inj r'
end
abbrev Cx.wish (X:Cx) (E:Value→Shared→Prop):Cx:={ X with xe:=E }
abbrev Cx.nox (X:Cx):Cx:=X.wish fun _ _=>False
theorem Cx.Ok.wish {X:Cx} (ok:X.Ok) (E:Value→Shared→Prop):(X.wish E).Ok:=
 ⟨ok.mod,ok.kind,ok.glob,ok.blt,ok.above,ok.inj,ok.has,ok.cab,ok.hd,ok.frames,ok.stk,ok.exf,ok.bs,ok.bsz,ok.noex,ok.exfs,ok.funs,ok.frf⟩
theorem Cx.Ok.unwish {X:Cx} {E:Value→Shared→Prop} (ok:(X.wish E).Ok):X.Ok:=
 ⟨ok.mod,ok.kind,ok.glob,ok.blt,ok.above,ok.inj,ok.has,ok.cab,ok.hd,ok.frames,ok.stk,ok.exf,ok.bs,ok.bsz,ok.noex,ok.exfs,ok.funs,ok.frf⟩
section
variable {X:Cx} {pins:List (Addr×Obj)} {σ:St} {H:Hp} {s:Shared} {E:Value→Shared→Prop}
theorem Inv.wish (I:Inv X pins σ H s) (E:Value→Shared→Prop):Inv (X.wish E) pins σ H s:=⟨I.ok.wish E,I.os,I.bare,I.base,I.loc,I.cell,I.free,I.freeC,I.pin,I.hok,I.len⟩
theorem Inv.unwish (I:Inv (X.wish E) pins σ H s):Inv X pins σ H s:=⟨I.ok.unwish,I.os,I.bare,I.base,I.loc,I.cell,I.free,I.freeC,I.pin,I.hok,I.len⟩
theorem SP.unwish {D:Ends} {f:Flow} {s':Shared} (h:SP (X.wish E) pins D f s'):SP X pins D f s':=by
 cases f with
 | next=>obtain ⟨σ',H',I,q⟩:=h;exact ⟨σ',H',I.unwish,q⟩
 | brk=>obtain ⟨σ',H',I,q⟩:=h;exact ⟨σ',H',I.unwish,q⟩
 | cont=>obtain ⟨σ',H',I,q⟩:=h;exact ⟨σ',H',I.unwish,q⟩
 | ret u=>obtain ⟨v,σ',H',I,r,q⟩:=h;exact ⟨v,σ',H',I.unwish,r,q⟩
theorem PSs.nox {st:List Stmt} {t:TS} (h:PSs X.nox st t):PSs X st t:=fun pins s σ H D I hw=>
 wpAny_mono (h pins s σ H D (I.wish _) hw) (fun _ _ q=>q.unwish) fun _ _ z=>False.elim z
end
section
variable {X:Cx} {st:Stmt} {rest:List Stmt} {t u:TS} {e:Expr} {te:TE} {pos:Pos}
def tNext:TS:=fun D σ H=>D.nx σ H
def tSeq (t u:TS):TS:=fun D σ H=>t { D with nx:=u D } σ H
theorem pss_nil:PSs X [] tNext:=fun _ _ σ H _ I h=>wpAny_execs_nil ⟨σ,H,I,h⟩
theorem zss_nil:ZSs X [] tNext:=by with_unfolding_all exact pss_nil
theorem pss_cons (h1:PS X st t) (h2:PSs X rest u):PSs X (st::rest) (tSeq t u):=by
 intro pins s σ H D I h
 refine wpAny_execs_cons (thn (h1 pins s σ H { D with nx:=u D } I h) fun f s1 q=>?_)
 cases f with
 | next=>
   obtain ⟨σ',H',I',q⟩:=q
   exact h2 pins s1 σ' H' D I' q
 | ret v=>exact q
 | brk=>exact q
 | cont=>exact q
theorem zss_cons (h1:ZS X st t) (h2:ZSs X rest u):ZSs X (st::rest) (tSeq t u):=by with_unfolding_all exact pss_cons h1 h2
theorem pss_one (h1:PS X st t):PSs X [st] t:=by
 intro pins s σ H D I h
 refine wpAny_execs_cons (thn (h1 pins s σ H D I h) fun f s1 q=>?_)
 cases f with
 | next=>exact wpAny_execs_nil q
 | ret v=>exact q
 | brk=>exact q
 | cont=>exact q
theorem zss_one (h1:ZS X st t):ZSs X [st] t:=by with_unfolding_all exact pss_one h1
theorem Inv.quiet {pins:List (Addr×Obj)} {σ:St} {H:Hp} {s:Shared} (I:Inv X pins σ H s):interactive X.env=false:=by simp [interactive,I.ok.kind]
def tDrop (te:TE):TS:=fun D σ H=>te σ H fun _ H1=>D.nx σ H1
theorem ps_expr (he:PE X e te) (hs:swapsWith e none pos.line X.env=pure false:=by rfl):PS X (.Expr e pos) (tDrop te):=by
 intro pins s σ H D I h
 exact wpAny_Expr_any (thn (he pins s σ H _ I h) fun v s1 ⟨x,H1,I1,r1,q1⟩=>⟨σ,H1,I1,q1⟩) I.quiet hs
theorem zs_expr (he:ZE X e te) (hs:swapsWith e none pos.line X.env=pure false:=by rfl):ZS X (.Expr e pos) (tDrop te):=by with_unfolding_all exact ps_expr he hs
def tRet (te:TE):TS:=fun D σ H=>te σ H D.rt
theorem ps_ret (he:PE X e te):PS X (.Return (some e) pos) (tRet te):=by
 intro pins s σ H D I h
 exact wpAny_Return_some (thn (he pins s σ H _ I h) fun v s1 ⟨x,H1,I1,r1,q1⟩=>⟨x,σ,H1,I1,r1,q1⟩)
theorem zs_ret (he:ZE X e te):ZS X (.Return (some e) pos) (tRet te):=by with_unfolding_all exact ps_ret he
def tIfS (c:TT) (t u:TS):TS:=fun D σ H=>c σ H fun b H1=>if b=true then t D σ H1 else u D σ H1
theorem ps_if {c:Expr} {a b:List Stmt} {tc:TT} (hc:PT X c tc) (ha:PSs X a t) (hb:PSs X b u):PS X (.If c a b pos) (tIfS tc t u):=by
 intro pins s σ H D I h
 refine wpAny_If (thn (hc pins s σ H _ I h) fun d s1 ⟨H1,I1,q1⟩=>?_)
 cases d with
 | true=>exact ha pins s1 σ H1 D I1 q1
 | false=>exact hb pins s1 σ H1 D I1 q1
theorem zs_if {c:Expr} {a b:List Stmt} {tc:TT} (hc:ZT X c tc) (ha:ZSs X a t) (hb:ZSs X b u):ZS X (.If c a b pos) (tIfS tc t u):=by with_unfolding_all exact ps_if hc ha hb
end
abbrev TG:=V→St→Hp→(St→Hp→Prop)→Prop
abbrev TGs:=List V→St→Hp→(St→Hp→Prop)→Prop
def PG (X:Cx) (target:Expr) (t:TG):Prop:=
 ∀ (pins:List (Addr×Obj)) (s:Shared) (σ:St) (H:Hp) (v:V) (u:Value) (Q:St→Hp→Prop),Inv X pins σ H s→RelV v u→t v σ H Q →
   wpAny (model X.prog X.w) X.A (assign target X.env u) (fun _ s'=>∃ σ' H',Inv X pins σ' H' s'∧Q σ' H') X.xe s
@[irreducible] def ZG (X:Cx) (target:Expr) (t:TG):Prop:=PG X target t
def PGs (X:Cx) (ts:List Expr) (t:TGs):Prop:=
 ∀ (pins:List (Addr×Obj)) (s:Shared) (σ:St) (H:Hp) (vs:List V) (us:List Value) (Q:St→Hp→Prop),Inv X pins σ H s→Vals vs us→t vs σ H Q →
   wpAny (model X.prog X.w) X.A (assignInOrder ((assignEach ts X.env).map (·.2)) us) (fun _ s'=>∃ σ' H',Inv X pins σ' H' s'∧Q σ' H') X.xe s
@[irreducible] def ZGs (X:Cx) (ts:List Expr) (t:TGs):Prop:=PGs X ts t
abbrev TSet:=V→V→V→Hp→(Hp→Prop)→Prop
def PSet (X:Cx) (t:TSet):Prop:=
 ∀ (pins:List (Addr×Obj)) (s:Shared) (σ:St) (H:Hp) (o i v:V) (ov iv u:Value) (Q:Hp→Prop),Inv X pins σ H s→RelV o ov→RelV i iv→RelV v u→t o i v H Q →
   wpAny (model X.prog X.w) X.A (setItem ov iv u) (fun _ s'=>∃ H',Inv X pins σ H' s'∧Q H') X.xe s
abbrev TIp:=V→V→Hp→VK→Prop
def PIp (X:Cx) (op:Operator) (t:TIp):Prop:=
 ∀ (pins:List (Addr×Obj)) (s:Shared) (σ:St) (H:Hp) (x y:V) (v u:Value) (Q:VK),Inv X pins σ H s→RelV x v→RelV y u→t x y H Q →
   wpAny (model X.prog X.w) X.A (inplaceOp op v u) (EP X pins σ Q) X.xe s
section
variable {X:Cx} {pos:Pos}
def gName (i:Nat):TG:=fun v σ H Q=>Q (σ.set i (some v)) H
theorem pg_name {i:Nat} {x:Str} (hN:X.N.Nodup) (hi:X.N[i]? = some x) (hx:Loc X.env.scope x) (hf:X.fn x=true∨X.env.scope.names.lookup x=some .local:=by first | exact .inl rfl | exact .inr rfl | assumption):PG X (.Name x pos) (gName i):=by
 intro pins s σ H v u Q I r h
 exact wpAny_assign_Name (store_ok I hN hi hx r (fun s' I'=>⟨_,H,I',h⟩) hf)
theorem zg_name {i:Nat} {x:Str} (hN:X.N.Nodup) (hi:X.N[i]? = some x) (hx:Loc X.env.scope x) (hf:X.fn x=true∨X.env.scope.names.lookup x=some .local:=by first | exact .inl rfl | exact .inr rfl | assumption):ZG X (.Name x pos) (gName i):=by with_unfolding_all exact pg_name hN hi hx hf
def gNil:TGs:=fun vs σ H Q=>vs=[]∧Q σ H
def gCons (t:TG) (u:TGs):TGs:=fun vs σ H Q=>∃ v r,vs=v::r∧t v σ H fun σ' H'=>u r σ' H' Q
theorem pgs_nil:PGs X [] gNil:=by
 intro pins s σ H vs us Q I r h
 obtain ⟨e,h⟩:=h
 subst e
 cases r
 exact assignInOrder_nil ⟨σ,H,I,h⟩
theorem zgs_nil:ZGs X [] gNil:=by with_unfolding_all exact pgs_nil
theorem pgs_cons {e:Expr} {es:List Expr} {t:TG} {u:TGs} (h1:PG X e t) (h2:PGs X es u)
 (hs:(assignEach (e::es) X.env).map (·.2)=assign e X.env::(assignEach es X.env).map (·.2):=by rfl):PGs X (e::es) (gCons t u):=by
 intro pins s σ H vs us Q I r h
 obtain ⟨v,vr,e1,h⟩:=h
 subst e1
 cases r with
 | cons r rr=>
   rw [hs]
   refine assignInOrder_cons (thn (h1 pins s σ H _ _ _ I r h) fun _ s1 ⟨σ1,H1,I1,q1⟩=>?_)
   exact h2 pins s1 σ1 H1 _ _ Q I1 rr q1
theorem zgs_cons {e:Expr} {es:List Expr} {t:TG} {u:TGs} (h1:ZG X e t) (h2:ZGs X es u)
 (hs:(assignEach (e::es) X.env).map (·.2)=assign e X.env::(assignEach es X.env).map (·.2):=by rfl):ZGs X (e::es) (gCons t u):=by with_unfolding_all exact pgs_cons h1 h2 hs
def gTup (K:PySem.W.Frag) (n:Nat) (t:TGs):TG:=fun v σ H Q=>∃ a xs,v=.ref a∧SqT K H a xs∧xs.length=n∧t xs σ H Q
theorem pg_tup {es:List Expr} {k:Nat} {t:TGs} {n:Nat} (hc:X.calm=true) (h:PGs X es t)
 (hn:(assignEach es X.env).length=n:=by rfl) (hst:(assignEach es X.env).findIdx? (·.1)=none:=by rfl):PG X (.Tuple es k pos) (gTup X.K n t):=by
 intro pins s σ H v u Q I r hw
 obtain ⟨a,xs,e1,hq,hl,hw⟩:=hw
 subst e1
 cases r
 obtain ⟨its,rv,ht,hz⟩:=I.tuple hq
 refine assign_Tuple_tuple (I.ok.hd hc) ht (by simp [hn,← hl,rv.length]) hst fun h' hx=>?_
 have I1:Inv X pins σ H { s with heap:=h' }:=I.kept (t':=s.toks) fun b o e=>hx b o (Nat.ne_of_lt (Heap.lt_size e)) e
 exact h pins _ σ H xs _ Q I1 (by simpa using rv) hw
theorem zg_tup {es:List Expr} {k:Nat} {t:TGs} {n:Nat} (hc:X.calm=true) (h:ZGs X es t)
 (hn:(assignEach es X.env).length=n:=by rfl) (hst:(assignEach es X.env).findIdx? (·.1)=none:=by rfl):ZG X (.Tuple es k pos) (gTup X.K n t):=by with_unfolding_all exact pg_tup hc h hn hst
def gSub (to ti:TE) (t:TSet):TG:=fun v σ H Q=>to σ H fun o H1=>ti σ H1 fun i H2=>t o i v H2 fun H3=>Q σ H3
theorem pg_sub {o i:Expr} {to ti:TE} {t:TSet} (ho:PE X o to) (hi:PE X i ti) (hs:PSet X t)
 (ha:∀ v,assign (.Subscript o i pos) X.env v=(do
   let ov ← holding [v] (eval o X.env)
   let iv ← holding [v,ov] (eval i X.env)
   standAt pos
   holding [v,ov,iv] (setItem ov iv v)
   release [v,ov,iv] []):=by intro _;rfl):PG X (.Subscript o i pos) (gSub to ti t):=by
 intro pins s σ H v u Q I r h
 rw [ha]
 refine wpAny_bind (wpAny_holding (thn (ho pins s σ H _ I h) fun ov s1 ⟨x,H1,I1,r1,q1⟩=>?_))
 refine wpAny_bind (wpAny_holding (thn (hi pins s1 σ H1 _ I1 q1) fun iv s2 ⟨y,H2,I2,r2,q2⟩=>?_))
 refine wpAny_bind (wpAny_standAt (wpAny_bind (wpAny_holding (thn (hs pins s2 σ H2 x y v ov iv u _ I2 r1 r2 r q2) fun _ s3 ⟨H3,I3,q3⟩=>?_))))
 exact wpAny_release ⟨σ,H3,I3,q3⟩
theorem zg_sub {o i:Expr} {to ti:TE} {t:TSet} (ho:ZE X o to) (hi:ZE X i ti) (hs:PSet X t)
 (ha:∀ v,assign (.Subscript o i pos) X.env v=(do
   let ov ← holding [v] (eval o X.env)
   let iv ← holding [v,ov] (eval i X.env)
   standAt pos
   holding [v,ov,iv] (setItem ov iv v)
   release [v,ov,iv] []):=by intro _;rfl):ZG X (.Subscript o i pos) (gSub to ti t):=by with_unfolding_all exact pg_sub ho hi hs ha
def tAsg (te:TE) (g:TG):TS:=fun D σ H=>te σ H fun x H1=>g x σ H1 D.nx
theorem ps_asg {tg e:Expr} {te:TE} {g:TG} (he:PE X e te) (hg:PG X tg g) (hs:swapsWithSole [tg] e pos.line X.env=pure false:=by rfl) (hw:swappedStores [tg] e X.env=pure none:=by rfl)
 (h1:(assignEach [tg] X.env).map (·.2)=[assign tg X.env]:=by rfl):PS X (.Assign [tg] e pos) (tAsg te g):=by
 intro pins s σ H D I h
 refine wpAny_Assign_stores (thn (he pins s σ H _ I h) fun v s1 ⟨x,H1,I1,r1,q1⟩=>?_) hs hw
 rw [h1]
 exact thn (hg pins s1 σ H1 x v _ I1 r1 q1) fun _ s2 q=>q
theorem zs_asg {tg e:Expr} {te:TE} {g:TG} (he:ZE X e te) (hg:ZG X tg g) (hs:swapsWithSole [tg] e pos.line X.env=pure false:=by rfl) (hw:swappedStores [tg] e X.env=pure none:=by rfl)
 (h1:(assignEach [tg] X.env).map (·.2)=[assign tg X.env]:=by rfl):ZS X (.Assign [tg] e pos) (tAsg te g):=by with_unfolding_all exact ps_asg he hg hs hw h1
theorem ps_set {i:Nat} {x:Str} {e:Expr} {te:TE} {pos':Pos} (hN:X.N.Nodup) (hi:X.N[i]? = some x) (hx:Loc X.env.scope x) (he:PE X e te) (hs:swapsWith e (some (.Name x pos')) pos.line X.env=pure false:=by rfl) (hf:X.fn x=true∨X.env.scope.names.lookup x=some .local:=by first | exact .inl rfl | exact .inr rfl | assumption) :
 PS X (.Assign [.Name x pos'] e pos) (tAsg te (gName i)):=by
 intro pins s σ H D I h
 refine wpAny_Assign_Name (thn (he pins s σ H _ I h) fun v s1 ⟨y,H1,I1,r1,q1⟩=>?_) hs
 exact store_ok I1 hN hi hx r1 (fun s2 I2=>⟨_,H1,I2,q1⟩) hf
theorem zs_set {i:Nat} {x:Str} {e:Expr} {te:TE} {pos':Pos} (hN:X.N.Nodup) (hi:X.N[i]? = some x) (hx:Loc X.env.scope x) (he:ZE X e te) (hs:swapsWith e (some (.Name x pos')) pos.line X.env=pure false:=by rfl) (hf:X.fn x=true∨X.env.scope.names.lookup x=some .local:=by first | exact .inl rfl | exact .inr rfl | assumption) :
 ZS X (.Assign [.Name x pos'] e pos) (tAsg te (gName i)):=by with_unfolding_all exact ps_set hN hi hx he hs hf
def tPar (i j:Nat) (ta:TA):TS:=fun D σ H=>ta σ H fun vs H1=>∃ v w,vs=[v,w]∧D.nx ((σ.set i (some v)).set j (some w)) H1
theorem ps_par {i j:Nat} {x y:Str} {a b:Expr} {ta:TA} {px py pt:Pos} {kt k2 pt2} (hc:X.calm=true) (hN:X.N.Nodup) (hi:X.N[i]? = some x) (hj:X.N[j]? = some y) (hij:i≠j)
 (hx:X.env.scope.names.lookup x=some .local) (hy:X.env.scope.names.lookup y=some .local) (ha:PA X [a,b] ta)
 (hw:swappedStores [.Tuple [.Name x px,.Name y py] kt pt] (.Tuple [a,b] k2 pt2) X.env=pure (some [x,y]))
 (hs:swapsWithSole [.Tuple [.Name x px,.Name y py] kt pt] (.Tuple [a,b] k2 pt2) pos.line X.env=pure false:=by rfl) :
 PS X (.Assign [.Tuple [.Name x px,.Name y py] kt pt] (.Tuple [a,b] k2 pt2) pos) (tPar i j ta):=by
 intro pins s σ H D I h
 rw [exec_Assign_arm]
 refine wpAny_bind (wpAny_standAt ?_)
 rw [hs]
 refine wpAny_bind (wpAny_pure ?_)
 rw [if_neg (by decide)]
 refine wpAny_bind (Tuple_ (thn (ha _ pins s σ H _ I h) fun us s1 ⟨vs,H1,I1,r1,q1⟩=>?_))
 obtain ⟨v,w,e1,q1⟩:=q1
 subst e1
 obtain ⟨u1,u2,rfl,rv,rw'⟩:∃ u1 u2,us=[u1,u2]∧RelV v u1∧RelV w u2:=by
  cases r1 with
  | cons p q=>
    cases q with
    | cons p' q'=>
      cases q'
      exact ⟨_,_,rfl,p,p'⟩
 refine wpAny_newObj_type ?_ (by show 2≤sizeLine;decide)
 have I2:Inv X pins σ H1 { s1 with heap:=s1.heap.push { cls:=.type "tuple",data:=.seq [u1,u2].toArray } }:=I1.kept (t':=s1.toks) fun b o e=>Heap.get?_push_of_some _ e
 rw [hw]
 refine wpAny_bind (wpAny_pure ?_)
 show wpAny (model X.prog X.w) X.A (do rule "assign.swapped-stores";let items ← unpackItems (.ref s1.heap.objs.size) 2 none;assignInOrder [fun v=>bindName X.env y v,fun v=>bindName X.env x v] items.reverse;pure Flow.next) _ _ _
 refine wpAny_bind (wpAny_rule (wpAny_bind (unpackItems_tuple (items:=#[u1,u2]) (I.ok.hd hc) (IsTup.new s1.heap _) fun h' hx'=>?_)))
 have I3:=I2.kept (h':=h') (t':=s1.toks) fun b o e=>hx' b o (Nat.ne_of_lt (Heap.lt_size e)) e
 show wpAny _ _ (assignInOrder [fun v=>bindName X.env y v,fun v=>bindName X.env x v] [u2,u1] >>= fun _=>pure Flow.next) _ _ _
 refine wpAny_bind (assignInOrder_cons (wpAny_bindName (store_ok I3 hN hj (.inl hy) rw' (fun s2 I4=>?_) (.inr hy))))
 refine assignInOrder_cons (wpAny_bindName (store_ok I4 hN hi (.inl hx) rv (fun s3 I5=>assignInOrder_nil (wpAny_pure ?_)) (.inr hx)))
 rw [List.set_comm _ _ (Ne.symm hij)] at I5
 exact ⟨_,H1,I5,q1⟩
theorem zs_par {i j:Nat} {x y:Str} {a b:Expr} {ta:TA} {px py pt:Pos} {kt k2 pt2} (hc:X.calm=true) (hN:X.N.Nodup) (hi:X.N[i]? = some x) (hj:X.N[j]? = some y) (hij:i≠j)
 (hx:X.env.scope.names.lookup x=some .local) (hy:X.env.scope.names.lookup y=some .local) (ha:ZA X [a,b] ta)
 (hw:swappedStores [.Tuple [.Name x px,.Name y py] kt pt] (.Tuple [a,b] k2 pt2) X.env=pure (some [x,y]))
 (hs:swapsWithSole [.Tuple [.Name x px,.Name y py] kt pt] (.Tuple [a,b] k2 pt2) pos.line X.env=pure false:=by rfl) :
 ZS X (.Assign [.Tuple [.Name x px,.Name y py] kt pt] (.Tuple [a,b] k2 pt2) pos) (tPar i j ta):=by with_unfolding_all exact ps_par hc hN hi hj hij hx hy ha hw hs
def tAug (i:Nat) (te:TE) (ti:TIp):TS:=fun D σ H=>∃ x,σ[i]? = some (some x)∧te σ H fun y H1=>ti x y H1 fun z H2=>D.nx (σ.set i (some z)) H2
theorem ps_aug {i:Nat} {x:Str} {e:Expr} {te:TE} {op:Operator} {ti:TIp} {pos':Pos} (hN:X.N.Nodup) (hi:X.N[i]? = some x) (hx:Loc X.env.scope x) (he:PE X e te) (ho:PIp X op ti) (hf:X.fn x=true∨X.env.scope.names.lookup x=some .local:=by first | exact .inl rfl | exact .inr rfl | assumption) :
 PS X (.AugAssign (.Name x pos') op e pos) (tAug i te ti):=by
 intro pins s σ H D I h
 obtain ⟨v,e1,h⟩:=h
 obtain ⟨m,hn,hl⟩:=I.loc
 have vis:Vis X.env.scope x:=by rcases hx with k | k;exact .inl k;exact .inr (.inl k)
 obtain ⟨u,r,l⟩:=hl i x v hi e1 vis
 refine wpAny_AugAssign_Name ?_
 have go:wpAny (model X.prog X.w) X.A (eval e X.env) (fun w s₂=>wpAny (model X.prog X.w) X.A (inplaceOp op u w) (fun r s₃=>wpAny (model X.prog X.w) X.A (storeName X.env x r) (fun _=>SP X pins D .next) X.xe s₃) X.xe s₂) X.xe s:=by
  refine thn (he pins s σ H _ I h) fun w s1 ⟨y,H1,I1,r1,q1⟩=>?_
  refine thn (ho pins s1 σ H1 v y u w _ I1 r r1 q1) fun z s2 ⟨zv,H2,I2,r2,q2⟩=>?_
  exact store_ok I2 hN hi hx r2 (fun s3 I3=>⟨_,H2,I3,q2⟩) hf
 rcases l with ⟨hk,hm⟩ | ⟨hk,c,hc,hcell⟩
 · exact wpAny_loadName_local I.ok.kind hk hn hm go
 · rcases hk with hk | hk
   · exact wpAny_loadName_cell I.ok.kind hk hc hcell go
   · rcases hx with k | k
     · have:X.env.scope.names.lookup x=some .free:=hk
       rw [k] at this;cases this
     · have:X.env.scope.names.lookup x=some .free:=hk
       rw [k] at this;cases this
theorem zs_aug {i:Nat} {x:Str} {e:Expr} {te:TE} {op:Operator} {ti:TIp} {pos':Pos} (hN:X.N.Nodup) (hi:X.N[i]? = some x) (hx:Loc X.env.scope x) (he:ZE X e te) (ho:PIp X op ti) (hf:X.fn x=true∨X.env.scope.names.lookup x=some .local:=by first | exact .inl rfl | exact .inr rfl | assumption) :
 ZS X (.AugAssign (.Name x pos') op e pos) (tAug i te ti):=by with_unfolding_all exact ps_aug hN hi hx he ho hf
end
section
variable {X:Cx} {pos:Pos}
def tWhile (c:TT) (tb:TS):TS:=fun D σ H=>∃ W:Nat→St→Hp→Prop,(∃ m,W m σ H)∧∀ m σ H,W m σ H →
 c σ H fun b H1=>if b=true then ∃ N:St→Hp→Prop,(∀ σ' H',N σ' H'→∃ m',m' < m∧W m' σ' H')∧tb { D with nx:=N,ct:=N,bk:=D.nx } σ H1 else D.nx σ H1
theorem ps_while {c:Expr} {body:List Stmt} {tc:TT} {tb:TS} (hp:PassesOwn (model X.prog X.w) X.A X.env X.xe) (hc:PT X c tc) (hb:PSs X body tb):PS X (.While c body [] pos) (tWhile tc tb):=by
 intro pins s σ H D I h
 obtain ⟨W,⟨m0,w0⟩,turn⟩:=h
 refine wpAny_While (codeAny_whileLoop (fun n s'=>∃ σ' H',Inv X pins σ' H' s'∧W n σ' H') ?_ m0 ⟨σ,H,I,w0⟩)
 rintro n s1 ⟨σ1,H1,I1,w1⟩
 refine wpAny_passesOwn hp (thn (hc pins s1 σ1 H1 _ I1 (turn n σ1 H1 w1)) fun b s2 ⟨H2,I2,q2⟩=>?_)
 cases b with
 | true=>
   obtain ⟨N,hN,q2⟩:=q2
   rw [if_pos rfl]
   refine wpAny_passesOwn hp (thn (hb pins s2 σ1 H2 _ I2 q2) fun f s3 q3=>?_)
   cases f with
   | next=>
     obtain ⟨σ3,H3,I3,n3⟩:=q3
     obtain ⟨m',hm,w3⟩:=hN σ3 H3 n3
     exact ⟨m',hm,σ3,H3,I3,w3⟩
   | cont=>
     obtain ⟨σ3,H3,I3,n3⟩:=q3
     obtain ⟨m',hm,w3⟩:=hN σ3 H3 n3
     exact ⟨m',hm,σ3,H3,I3,w3⟩
   | brk=>exact q3
   | ret v=>exact q3
 | false=>
   rw [if_neg Bool.false_ne_true]
   exact wpAny_execs_nil ⟨σ1,H2,I2,q2⟩
theorem zs_while {c:Expr} {body:List Stmt} {tc:TT} {tb:TS} (hp:PassesOwn (model X.prog X.w) X.A X.env X.xe) (hc:ZT X c tc) (hb:ZSs X body tb):ZS X (.While c body [] pos) (tWhile tc tb):=by with_unfolding_all exact ps_while hp hc hb
end
structure It where
 go:Nat→Hp→Prop
 yld:Nat→Hp→V→Hp→Prop
 stop:Nat→Hp→Prop
def FpOk (X:Cx) (pins:List (Addr×Obj)) (H:Hp) (b:Addr):Prop:=
 H b=none∧b≠X.env.locals∧b∉X.fs∧(b∈X.ex∨X.s₀.heap.objs.size≤b)∧(∀ x c,X.env.cells.lookup x=some c→c≠b)∧∀ p∈X.pn++pins,p.1≠b
theorem Inv.fpOk {X:Cx} {pins:List (Addr×Obj)} {σ:St} {H H':Hp} {s:Shared} {b:Addr} (I:Inv X pins σ H s) (hb:s.heap.objs.size≤b) (hn:H' b=none):FpOk X pins H' b:=by
 refine ⟨hn,Nat.ne_of_gt (Nat.lt_of_lt_of_le I.lt hb),I.nofs hb,.inr (Nat.le_trans I.sz hb),fun x c e z=>?_,fun p hp z=>?_⟩
 · obtain ⟨v,q⟩:=I.cell x c e
   exact absurd (Nat.lt_of_lt_of_le q.lt (by rw [z];exact hb)) (Nat.lt_irrefl _)
 · exact absurd (Nat.lt_of_lt_of_le (Heap.lt_size (I.pin p hp).1) (by rw [z];exact hb)) (Nat.lt_irrefl _)
structure Turn (P:Program) (w:World) (K:PySem.W.Frag) (tg:Expr) (J:It) (fp:List Addr) (it:Addr) (tn:Nat→Heap→Prop):Prop where
 mem:it∈fp
 obj:∀ i h,tn i h→∀ b∈fp,∃ o,h.get? b=some o∧∀ v,o.data≠.cell v
 keep:∀ i h h',tn i h→(∀ b∈fp,∀ o,h.get? b=some o→h'.get? b=some o)→tn i h'
 item:∀ (X:Cx),X.prog=P→X.w=w→X.K=K→X.calm=true→∀ (i:Nat) (pins:List (Addr×Obj)) (s:Shared) (σ:St) (H:Hp) (E:Value→Shared→Prop),Inv X pins σ H s→(∀ b∈fp,FpOk X pins H b)→tn i s.heap→J.go i H →
  wpAny (model P w) X.A (pyNext (.ref it)) (fun r s1=>∃ u,r=some u ∧
   wpAny (model P w) X.A (letOwnedTupleGo tg (.ref it) u) (fun _ s2=>∃ x H',Inv X pins σ H' s2∧RelV x u∧J.yld i H x H'∧tn (i+1) s2.heap∧∀ b∈fp,H' b=none) E s1) E s
 done:∀ (X:Cx),X.prog=P→X.w=w→X.K=K→X.calm=true→∀ (i:Nat) (pins:List (Addr×Obj)) (s:Shared) (σ:St) (H:Hp) (E:Value→Shared→Prop),Inv X pins σ H s→(∀ b∈fp,FpOk X pins H b)→tn i s.heap→J.stop i H →
  wpAny (model P w) X.A (pyNext (.ref it)) (fun r s1=>r=none∧Inv X pins σ H s1) E s
 self:∀ (A:Around) (i:Nat) (s:Shared) (Q:Value→Shared→Prop) (E:Value→Shared→Prop),tn i s.heap→Q (.ref it) s→wpAny (model P w) A (pyIter (.ref it)) Q E s
abbrev TI:=St→Hp→(It→Hp→Prop)→Prop
def PIE (X:Cx) (pins:List (Addr×Obj)) (σ:St) (tg:Expr) (R:It→Hp→Prop) (itv:Value) (s2:Shared):Prop:=
 ∃ (it:Addr) (fp:List Addr) (tn:Nat→Heap→Prop) (J:It) (H':Hp),itv=.ref it∧Inv X pins σ H' s2∧Turn X.prog X.w X.K tg J fp it tn∧tn 0 s2.heap∧(∀ b∈fp,FpOk X pins H' b)∧R J H'
def PI (X:Cx) (tg iter:Expr) (wi:TI):Prop:=
 ∀ (pins:List (Addr×Obj)) (s:Shared) (σ:St) (H:Hp) (R:It→Hp→Prop),Inv X pins σ H s→wi σ H R →
   wpAny (model X.prog X.w) X.A (eval iter X.env) (fun v s1=>wpAny (model X.prog X.w) X.A (pyIter v) (PIE X pins σ tg R) X.xe s1) X.xe s
@[irreducible] def ZI (X:Cx) (tg iter:Expr) (wi:TI):Prop:=PI X tg iter wi
theorem go_of {M:Model} {A:Around} {E:Value→Shared→Prop} {s:Shared} {tg:Expr} {it:Addr} {u:Value} {o:Obj} {n:String} {vs:Array Value} {Q:Unit→Shared→Prop} (ho:s.heap.get? it=some o) (hc:o.cls=.type n) (hd:o.data=.fields vs)
 (hn:["enumerate","zip","dict_itemiterator","dict_reverseitemiterator","odict_iterator","itertools.zip_longest","itertools.pairwise"].contains n=false) (hQ:Q () s):wpAny M A (letOwnedTupleGo tg (.ref it) u) Q E s:=by
 unfold letOwnedTupleGo
 cases tg <;> first
  | exact wpAny_pure hQ
  | (cases u <;> first
      | exact wpAny_pure hQ
      | (refine wpAny_bind (wpAny_load ho ?_)
         rw [hc,hd]
         show wpAny M A (if (["enumerate","zip","dict_itemiterator","dict_reverseitemiterator","odict_iterator","itertools.zip_longest","itertools.pairwise"].contains n&&vs[0]? == some (rawInt _))=true then _ else _) Q E s
         rw [if_neg (by intro h;rw [hn,Bool.false_and] at h;cases h)]
         exact wpAny_pure hQ))
def Itl (K:PySem.W.Frag) (a:Addr):It:=
 ⟨fun i H=>∃ xs x,SqL K H a xs∧xs[i]? = some x,fun i H x H'=>H'=H∧∀ xs,SqL K H a xs→xs[i]? = some x,fun i H=>∃ xs,SqL K H a xs∧xs.length≤i⟩
def Itt (K:PySem.W.Frag) (a:Addr):It:=
 ⟨fun i H=>∃ xs x,SqT K H a xs∧xs[i]? = some x,fun i H x H'=>H'=H∧∀ xs,SqT K H a xs→xs[i]? = some x,fun i H=>∃ xs,SqT K H a xs∧xs.length≤i⟩
def Itr (lo:Int) (n:Nat):It:=⟨fun i _=>i<n,fun i H x H'=>H'=H∧x=.int (lo+i),fun i _=>n≤i⟩
theorem turn_list {P:Program} {w:World} {K:PySem.W.Frag} {tg:Expr} (a it:Addr):Turn P w K tg (Itl K a) [it] it (fun i h=>h.IsListIter it a i) where
 mem:=by simp
 obj:=fun i h st b hb=>by
  have e:b=it:=by simpa using hb
  subst e
  obtain ⟨o,e,c,d⟩:=st
  exact ⟨o,e,fun v z=>by rw [d] at z;cases z⟩
 keep:=fun i h h' st k=>st.at fun o e=>k it (by simp) o e
 item:=by
  intro X hP hw hK hc i pins s σ H E I hf st hg
  subst hP hw hK
  obtain ⟨xs,x,hq,hx⟩:=hg
  obtain ⟨its,rv,p,hz⟩:=I.list hq
  obtain ⟨u,hu,ru⟩:=rv.get hx
  obtain ⟨f0,f1,f2,f3,f4,f5⟩:=hf it (by simp)
  refine wpAny_pyNext_list_item st p.isList (x:=u) (by simpa using hu) fun h' st' sb=>?_
  have I1:Inv X pins σ H { s with heap:=h' }:=I.turned (t':=s.toks) (fun b o hb e=>(sb.2 b hb).trans e) f0 f1 f3 f4 f5
  obtain ⟨o,e,c,d⟩:=id st'
  exact ⟨u,rfl,go_of (s:={ s with heap:=h' }) e c d (by decide) ⟨x,H,I1,ru,⟨rfl,fun ys hy=>by rw [I.list_inj hy hq];exact hx⟩,st',fun b hb=>(hf b hb).1⟩⟩
 done:=by
  intro X hP hw hK hc i pins s σ H E I hf st hg
  subst hP hw hK
  obtain ⟨xs,hq,hx⟩:=hg
  obtain ⟨its,rv,p,hz⟩:=I.list hq
  obtain ⟨f0,f1,f2,f3,f4,f5⟩:=hf it (by simp)
  have hl:=rv.length
  exact wpAny_pyNext_list_end (I.ok.hd hc) st p.isList (by simp;omega) fun h' eb=>⟨rfl,I.turned (t':=s.toks) (fun b o hb e=>eb b o hb e) f0 f1 f3 f4 f5⟩
 self:=fun _ _ _ _ _ st h=>wpAny_pyIter_listiter st h
theorem turn_tuple {P:Program} {w:World} {K:PySem.W.Frag} {tg:Expr} (a it:Addr):Turn P w K tg (Itt K a) [it] it (fun i h=>h.IsTupleIter it a i) where
 mem:=by simp
 obj:=fun i h st b hb=>by
  have e:b=it:=by simpa using hb
  subst e
  obtain ⟨o,e,c,d⟩:=st
  exact ⟨o,e,fun v z=>by rw [d] at z;cases z⟩
 keep:=fun i h h' st k=>st.at fun o e=>k it (by simp) o e
 item:=by
  intro X hP hw hK hc i pins s σ H E I hf st hg
  subst hP hw hK
  obtain ⟨xs,x,hq,hx⟩:=hg
  obtain ⟨its,rv,p,hz⟩:=I.tuple hq
  obtain ⟨u,hu,ru⟩:=rv.get hx
  obtain ⟨f0,f1,f2,f3,f4,f5⟩:=hf it (by simp)
  refine wpAny_pyNext_tuple_item st (show s.heap.IsTuple a its.toArray from p) (x:=u) (by simpa using hu) fun h' st' sb=>?_
  have I1:Inv X pins σ H { s with heap:=h' }:=I.turned (t':=s.toks) (fun b o hb e=>(sb.2 b hb).trans e) f0 f1 f3 f4 f5
  obtain ⟨o,e,c,d⟩:=id st'
  exact ⟨u,rfl,go_of (s:={ s with heap:=h' }) e c d (by decide) ⟨x,H,I1,ru,⟨rfl,fun ys hy=>by rw [I.tuple_inj hy hq];exact hx⟩,st',fun b hb=>(hf b hb).1⟩⟩
 done:=by
  intro X hP hw hK hc i pins s σ H E I hf st hg
  subst hP hw hK
  obtain ⟨xs,hq,hx⟩:=hg
  obtain ⟨its,rv,p,hz⟩:=I.tuple hq
  obtain ⟨f0,f1,f2,f3,f4,f5⟩:=hf it (by simp)
  have hl:=rv.length
  exact wpAny_pyNext_tuple_end (I.ok.hd hc) st (show s.heap.IsTuple a its.toArray from p) (by simp;omega) fun h' eb=>⟨rfl,I.turned (t':=s.toks) (fun b o hb e=>eb b o hb e) f0 f1 f3 f4 f5⟩
 self:=fun _ _ _ _ _ st h=>wpAny_pyIter_tupleiter st h
theorem turn_range {P:Program} {w:World} {K:PySem.W.Frag} {tg:Expr} (it:Addr) (lo:Int) (n:Nat):Turn P w K tg (Itr lo n) [it] it (fun i h=>IsRangeIter h it (lo+(i:Nat)*1) ((n:Int) - (i:Nat)) 1) where
 mem:=by simp
 obj:=fun i h st b hb=>by
  have e:b=it:=by simpa using hb
  subst e
  exact ⟨_,st,fun v z=>by
   have z':Data.fields _=Data.cell v:=z
   cases z'⟩
 keep:=fun i h h' st k=>k it (by simp) _ st
 item:=by
  intro X hP hw hK hc i pins s σ H E I hf st hg
  subst hP hw hK
  obtain ⟨f0,f1,f2,f3,f4,f5⟩:=hf it (by simp)
  have W:=Walks.range (prog:=X.prog) (w:=X.w) (I.ok.hd hc) it lo 1 n
  refine W.item i s _ _ hg st fun v h' tk hv st' kk=>?_
  obtain ⟨t,rfl⟩:=hv
  have I1:Inv X pins σ H { s with heap:=h',toks:=tk }:=I.turned (fun b o hb e=>kk b o (by simpa using hb) e) f0 f1 f3 f4 f5
  refine ⟨_,rfl,go_of (s:={ s with heap:=h',toks:=tk }) (n:="range_iterator") st' rfl rfl (by decide) ⟨.int (lo+i),H,I1,⟨t,?_⟩,⟨rfl,rfl⟩,st',fun b hb=>(hf b hb).1⟩⟩
  rw [Int.mul_one]
 done:=by
  intro X hP hw hK hc i pins s σ H E I hf st hg
  subst hP hw hK
  obtain ⟨f0,f1,f2,f3,f4,f5⟩:=hf it (by simp)
  exact wpAny_pyNext_range_end (I.ok.hd hc) st (by have:n≤i:=hg;omega) fun h' eb=>⟨rfl,I.turned (t':=s.toks) (fun b o hb e=>eb b o hb e) f0 f1 f3 f4 f5⟩
 self:=fun _ _ _ _ _ st h=>wpAny_pyIter_rangeiter st h
section
variable {X:Cx} {tg:Expr}
def iList (K:PySem.W.Frag) (tl:TE):TI:=fun σ H R=>tl σ H fun x H1=>∃ a,x=.ref a∧(∃ xs,SqL K H1 a xs)∧R (Itl K a) H1
def iTup (K:PySem.W.Frag) (tl:TE):TI:=fun σ H R=>tl σ H fun x H1=>∃ a,x=.ref a∧(∃ xs,SqT K H1 a xs)∧R (Itt K a) H1
theorem pi_list {l:Expr} {tl:TE} (hl:PE X l tl):PI X tg l (iList X.K tl):=by
 intro pins s σ H R I h
 refine thn (hl pins s σ H _ I h) fun v s1 ⟨x,H1,I1,r1,q1⟩=>?_
 obtain ⟨a,e,⟨xs,hq⟩,q⟩:=q1
 subst e
 cases r1
 obtain ⟨its,rv,p,hz⟩:=I1.list hq
 refine wpAny_pyIter_list p.isList ?_
 refine ⟨s1.heap.objs.size,[s1.heap.objs.size],_,_,H1,rfl,I1.kept (t':=s1.toks) fun b o e=>Heap.get?_push_of_some _ e,turn_list a _,⟨_,Heap.get?_push_size _ rfl,rfl,rfl⟩,fun b hb=>?_,q⟩
 have e:b=s1.heap.objs.size:=by simpa using hb
 subst e
 exact I1.fpOk (Nat.le_refl _) (I1.hok.fresh (Nat.le_refl _))
theorem zi_list {l:Expr} {tl:TE} (hl:ZE X l tl):ZI X tg l (iList X.K tl):=by with_unfolding_all exact pi_list hl
theorem pi_tup {l:Expr} {tl:TE} (hl:PE X l tl):PI X tg l (iTup X.K tl):=by
 intro pins s σ H R I h
 refine thn (hl pins s σ H _ I h) fun v s1 ⟨x,H1,I1,r1,q1⟩=>?_
 obtain ⟨a,e,⟨xs,hq⟩,q⟩:=q1
 subst e
 cases r1
 obtain ⟨its,rv,p,hz⟩:=I1.tuple hq
 refine wpAny_pyIter_tuple (show s1.heap.IsTuple a its.toArray from p) ?_
 refine ⟨s1.heap.objs.size,[s1.heap.objs.size],_,_,H1,rfl,I1.kept (t':=s1.toks) fun b o e=>Heap.get?_push_of_some _ e,turn_tuple a _,⟨_,Heap.get?_push_size _ rfl,rfl,rfl⟩,fun b hb=>?_,q⟩
 have e:b=s1.heap.objs.size:=by simpa using hb
 subst e
 exact I1.fpOk (Nat.le_refl _) (I1.hok.fresh (Nat.le_refl _))
theorem zi_tup {l:Expr} {tl:TE} (hl:ZE X l tl):ZI X tg l (iTup X.K tl):=by with_unfolding_all exact pi_tup hl
theorem range_it {pins:List (Addr×Obj)} {σ:St} {H:Hp} {s:Shared} {R:It→Hp→Prop} {E:Value→Shared→Prop} {lo hi:Int} {t u v:Tok} {tk:Nat} (I:Inv X pins σ H s) (h1:-(2 ^ 62)≤lo) (h2:lo<2 ^ 62) (h3:-(2 ^ 62)≤hi) (h4:hi<2 ^ 62)
 (q:R (Itr lo (hi - lo).toNat) H):wpAny (model X.prog X.w) X.A (pyIter (.ref s.heap.objs.size)) (PIE X pins σ tg R) E { s with heap:=s.heap.push { cls:=.type "range",data:=.fields #[.int lo t,.int hi u,.int 1 v] },toks:=tk }:=by
 refine wpAny_pyIter_range (IsRange.new ..) (small_one h1 h2 h3 h4) ?_
 have I1:Inv X pins σ H { s with heap:=s.heap.push { cls:=.type "range",data:=.fields #[.int lo t,.int hi u,.int 1 v] },toks:=tk }:=I.kept fun b o e=>Heap.get?_push_of_some _ e
 refine ⟨(s.heap.push { cls:=.type "range",data:=.fields #[.int lo t,.int hi u,.int 1 v] }).objs.size,[(s.heap.push { cls:=.type "range",data:=.fields #[.int lo t,.int hi u,.int 1 v] }).objs.size],_,_,H,rfl,
  I1.kept (t':=tk) fun b o e=>Heap.get?_push_of_some _ e,turn_range _ lo (hi - lo).toNat,?_,fun b hb=>?_,q⟩
 · have e1:lo+((0:Nat):Int)*1=lo:=by simp
   have e2:(((hi - lo).toNat:Nat):Int) - ((0:Nat):Int)=Builtin.Range.rangeSize lo hi 1:=by rw [rangeSize_one];split <;> omega
   show IsRangeIter _ _ (lo+((0:Nat):Int)*1) ((((hi - lo).toNat:Nat):Int) - ((0:Nat):Int)) 1
   rw [e1,e2]
   exact Heap.get?_push_size _ rfl
 · have e:b=(s.heap.push { cls:=.type "range",data:=.fields #[.int lo t,.int hi u,.int 1 v] }).objs.size:=by simpa using hb
   subst e
   exact I1.fpOk (Nat.le_refl _) (I1.hok.fresh (Nat.le_refl _))
def iRng1 (ta:TA):TI:=fun σ H R=>ta σ H fun vs H1=>∃ j:Int,vs=[.int j]∧-(2 ^ 62)≤j∧j<2 ^ 62∧R (Itr 0 j.toNat) H1
def iRng2 (ta:TA):TI:=fun σ H R=>ta σ H fun vs H1=>∃ i j:Int,vs=[.int i,.int j]∧(-(2 ^ 62)≤i∧i<2 ^ 62∧-(2 ^ 62)≤j∧j<2 ^ 62)∧R (Itr i (j - i).toNat) H1
theorem pi_range1 {a:Expr} {ta:TA} {p pos:Pos} (hg:Gl X "range") (hm:X.mg "range" = none) (ha:PA X [a] ta) (hs:starEach [a] X.env=[(false,eval a X.env)]:=by rfl):PI X tg (.Call (.Name "range" p) [a] [] pos) (iRng1 ta):=by
 intro pins s σ H R I h
 refine Call_ (ld_blt I hg hm boot_range (PyProof.Rows.callWith_type1 (thn (ha pos pins s σ H _ I h) fun us s1 ⟨vs,H1,I1,r1,q1⟩=>?_) hs rfl))
 obtain ⟨j,e,q1,q2,q⟩:=q1
 subst e
 cases r1 with
 | cons r rr=>
   cases rr
   obtain ⟨t,rfl⟩:=r
   exact call_range_1 (range_it I1 (by omega) (by omega) q1 q2 (by simpa using q))
theorem zi_range1 {a:Expr} {ta:TA} {p pos:Pos} (hg:Gl X "range") (hm:X.mg "range" = none) (ha:ZA X [a] ta) (hs:starEach [a] X.env=[(false,eval a X.env)]:=by rfl):ZI X tg (.Call (.Name "range" p) [a] [] pos) (iRng1 ta):=by with_unfolding_all exact pi_range1 hg hm ha hs
theorem pi_range2 {a b:Expr} {ta:TA} {p pos:Pos} (hg:Gl X "range") (hm:X.mg "range" = none) (ha:PA X [a,b] ta) (hs:starEach [a,b] X.env=[(false,eval a X.env),(false,eval b X.env)]:=by rfl) (hs2:starEach [b] X.env=[(false,eval b X.env)]:=by rfl) :
 PI X tg (.Call (.Name "range" p) [a,b] [] pos) (iRng2 ta):=by
 intro pins s σ H R I h
 refine Call_ (ld_blt I hg hm boot_range (PyProof.Rows.callWith_type1 (thn (ha pos pins s σ H _ I h) fun us s1 ⟨vs,H1,I1,r1,q1⟩=>?_) (by rw [hs,hs2]) (by rw [hs2];rfl)))
 obtain ⟨i,j,e,⟨q1,q2,q3,q4⟩,q⟩:=q1
 subst e
 cases r1 with
 | cons r rr=>
   cases rr with
   | cons r' rr=>
     cases rr
     obtain ⟨t,rfl⟩:=r
     obtain ⟨t',rfl⟩:=r'
     exact call_range_2 (range_it I1 q1 q2 q3 q4 q)
theorem zi_range2 {a b:Expr} {ta:TA} {p pos:Pos} (hg:Gl X "range") (hm:X.mg "range" = none) (ha:ZA X [a,b] ta) (hs:starEach [a,b] X.env=[(false,eval a X.env),(false,eval b X.env)]:=by rfl) (hs2:starEach [b] X.env=[(false,eval b X.env)]:=by rfl) :
 ZI X tg (.Call (.Name "range" p) [a,b] [] pos) (iRng2 ta):=by with_unfolding_all exact pi_range2 hg hm ha hs hs2
def tFor (wi:TI) (g:TG) (tb:TS):TS:=fun D σ H=>wi σ H fun J H1=>∃ W:Nat→Nat→St→Hp→Prop,(∃ m,W 0 m σ H1)∧∀ i m σ H,W i m σ H →
 (J.stop i H∧D.nx σ H)∨(J.go i H∧∃ N:St→Hp→Prop,(∀ σ' H',N σ' H'→∃ m',m' < m∧W (i+1) m' σ' H')∧∀ x H',J.yld i H x H'→g x σ H' fun σ2 H2=>tb { D with nx:=N,ct:=N,bk:=D.nx } σ2 H2)
def pinsAt (fp:List Addr) (h:Heap):List (Addr×Obj):=fp.filterMap fun b=>(h.get? b).map fun o=>(b,o)
theorem mem_pinsAt {fp:List Addr} {h:Heap} {b:Addr} {o:Obj} (hb:b∈fp) (e:h.get? b=some o):(b,o)∈pinsAt fp h:=List.mem_filterMap.mpr ⟨b,hb,by rw [e];rfl⟩
theorem of_pinsAt {fp:List Addr} {h:Heap} {p:Addr×Obj} (hp:p∈pinsAt fp h):p.1∈fp∧h.get? p.1=some p.2:=by
 obtain ⟨b,hb,e⟩:=List.mem_filterMap.mp hp
 cases q:h.get? b with
 | none=>rw [q] at e;cases e
 | some o=>
   rw [q] at e
   have e':(b,o)=p:=Option.some.inj e
   subst e'
   exact ⟨hb,q⟩
theorem Inv.pinned {pins:List (Addr×Obj)} {σ:St} {H:Hp} {s:Shared} {fp:List Addr} (I:Inv X pins σ H s) (hf:∀ b∈fp,FpOk X pins H b) (ho:∀ b∈fp,∃ o,s.heap.get? b=some o∧∀ v,o.data≠.cell v):Inv X (pins++pinsAt fp s.heap) σ H s:=
 I.pins_of fun p hp=>(List.mem_append.mp hp).elim (fun z=>I.pin p (List.mem_append_right _ z)) fun z=>by
  obtain ⟨hb,e⟩:=of_pinsAt z
  obtain ⟨f0,f1,f2,_⟩:=hf p.1 hb
  obtain ⟨o,e',d⟩:=ho p.1 hb
  rw [e] at e';cases e'
  exact ⟨e,f0,f1,f2,d⟩
theorem Inv.unpinned {pins pl:List (Addr×Obj)} {σ:St} {H:Hp} {s:Shared} (I:Inv X (pins++pl) σ H s):Inv X pins σ H s:=I.pins_of fun p hp=>I.pin p (List.mem_append_right _ (List.mem_append_left _ hp))
theorem ps_for {iter:Expr} {body:List Stmt} {wi:TI} {g:TG} {tb:TS} {pos:Pos} (hp:PassesOwn (model X.prog X.w) X.A X.env X.xe) (hc:X.calm=true) (hi:PI X tg iter wi) (hg:PG X tg g) (hb:PSs X body tb)
 (hs:∀ x,foldedSetIterable iter X.env x=pure x:=by intro _;rfl):PS X (.For tg iter body [] pos) (tFor wi g tb):=by
 intro pins s σ H D I h
 refine wpAny_For (thn (hi pins s σ H _ I h) fun v s1 h1=>thn h1 fun itv s2 h2=>?_) hs
 obtain ⟨it,fp,tn,J,H2,e,I2,T,st2,f2,W,⟨m0,w0⟩,turn⟩:=h2
 subst e
 -- what stays true of the iterator's objects through the loop
 have stat:∀ {H':Hp},(∀ b∈fp,H' b=none)→∀ b∈fp,FpOk X pins H' b:=fun hn b hb=>⟨hn b hb,(f2 b hb).2⟩
 refine codeAny_forLoop_any (fun n s'=>∃ i σ' H',Inv X pins σ' H' s'∧tn i s'.heap∧(∀ b∈fp,H' b=none)∧W i n σ' H') ?_ m0 ⟨0,σ,H2,I2,st2,fun b hb=>(f2 b hb).1,w0⟩
 rintro n s3 ⟨i,σ3,H3,I3,st3,fr3,w3⟩
 rcases turn i n σ3 H3 w3 with ⟨stop,qn⟩ | ⟨go,N,hN,step⟩
 · refine wpAny_passesOwn hp (thn (T.done X rfl rfl rfl hc i pins s3 σ3 H3 X.xe I3 (stat fr3) st3 stop) fun r s4 ⟨hr,I4⟩=>?_)
   subst hr
   exact wpAny_execs_nil ⟨σ3,H3,I4,qn⟩
 · refine wpAny_passesOwn hp (thn (T.item X rfl rfl rfl hc i pins s3 σ3 H3 X.xe I3 (stat fr3) st3 go) fun r s4 ⟨u,hr,h4⟩=>?_)
   subst hr
   refine wpAny_passesOwn hp (thn h4 fun _ s5 ⟨x,H5,I5,r5,y5,st5,fr5⟩=>?_)
   have I5':=I5.pinned (stat fr5) (T.obj _ _ st5)
   refine wpAny_passesOwn hp (thn (hg _ s5 σ3 H5 x u _ I5' r5 (step x H5 y5)) fun _ s6 ⟨σ6,H6,I6,q6⟩=>?_)
   refine wpAny_passesOwn hp (thn (hb _ s6 σ6 H6 _ I6 q6) fun f s7 q7=>?_)
   have again:∀ {σ7:St} {H7:Hp},Inv X (pins++pinsAt fp s5.heap) σ7 H7 s7→N σ7 H7→∃ m,m<n∧∃ i σ' H',Inv X pins σ' H' s7∧tn i s7.heap∧(∀ b∈fp,H' b=none)∧W i m σ' H':=fun {σ7 H7} I7 n7=>by
    obtain ⟨m',hm,w7⟩:=hN σ7 H7 n7
    refine ⟨m',hm,i+1,σ7,H7,I7.unpinned,T.keep _ _ _ st5 fun b hb o e=>(I7.pin (b,o) (List.mem_append_right _ (List.mem_append_right _ (mem_pinsAt hb e)))).1,fun b hb=>?_,w7⟩
    obtain ⟨o,e,d⟩:=T.obj _ _ st5 b hb
    exact (I7.pin (b,o) (List.mem_append_right _ (List.mem_append_right _ (mem_pinsAt hb e)))).2.1
   cases f with
   | next=>obtain ⟨σ7,H7,I7,n7⟩:=q7;exact again I7 n7
   | cont=>obtain ⟨σ7,H7,I7,n7⟩:=q7;exact again I7 n7
   | brk=>obtain ⟨σ7,H7,I7,q7⟩:=q7;exact ⟨σ7,H7,I7.unpinned,q7⟩
   | ret v=>obtain ⟨x7,σ7,H7,I7,r7,q7⟩:=q7;exact ⟨x7,σ7,H7,I7.unpinned,r7,q7⟩
theorem zs_for {iter:Expr} {body:List Stmt} {wi:TI} {g:TG} {tb:TS} {pos:Pos} (hp:PassesOwn (model X.prog X.w) X.A X.env X.xe) (hc:X.calm=true) (hi:ZI X tg iter wi) (hg:ZG X tg g) (hb:ZSs X body tb)
 (hs:∀ x,foldedSetIterable iter X.env x=pure x:=by intro _;rfl):ZS X (.For tg iter body [] pos) (tFor wi g tb):=by with_unfolding_all exact ps_for hp hc hi hg hb hs
end
theorem for_tup {K:PySem.W.Frag} {a:Addr} {xs:List V} {g:TG} {tb:TS} {D:Ends} {σ:St} {H:Hp} (Pv:Nat→St→Hp→Prop) (h0:Pv 0 σ H) (hl:∀ i σ H,i≤xs.length→Pv i σ H→SqT K H a xs)
 (hs:∀ i x σ H,xs[i]? = some x→Pv i σ H→g x σ H fun σ2 H2=>tb { D with nx:=Pv (i+1),ct:=Pv (i+1),bk:=D.nx } σ2 H2) (hd:∀ σ H,Pv xs.length σ H→D.nx σ H) :
 ∃ W:Nat→Nat→St→Hp→Prop,(∃ m,W 0 m σ H)∧∀ i m σ H,W i m σ H →
   ((Itt K a).stop i H∧D.nx σ H)∨((Itt K a).go i H∧∃ N:St→Hp→Prop,(∀ σ' H',N σ' H'→∃ m',m' < m∧W (i+1) m' σ' H')∧∀ x H',(Itt K a).yld i H x H'→g x σ H' fun σ2 H2=>tb { D with nx:=N,ct:=N,bk:=D.nx } σ2 H2):=by
 refine ⟨fun i m σ H=>m=xs.length - i∧i≤xs.length∧Pv i σ H,⟨xs.length,by simp,Nat.zero_le _,h0⟩,?_⟩
 rintro i m σ H ⟨rfl,hi,p⟩
 have q:=hl i σ H hi p
 by_cases hlt:i<xs.length
 · refine .inr ⟨⟨xs,xs[i],q,by simp [hlt]⟩,Pv (i+1),fun σ' H' p'=>⟨xs.length - (i+1),by omega,rfl,hlt,p'⟩,fun x H' y=>?_⟩
   obtain ⟨e,y⟩:=y
   subst e
   exact hs i x σ _ (y xs q) p
 · have e:i=xs.length:=by omega
   subst e
   exact .inl ⟨⟨xs,q,Nat.le_refl _⟩,hd σ H p⟩
theorem for_range {lo:Int} {n:Nat} {g:TG} {tb:TS} {D:Ends} {σ:St} {H:Hp} (Pv:Nat→St→Hp→Prop) (h0:Pv 0 σ H)
 (hs:∀ i σ H,i<n→Pv i σ H→g (.int (lo+i)) σ H fun σ2 H2=>tb { D with nx:=Pv (i+1),ct:=Pv (i+1),bk:=D.nx } σ2 H2) (hd:∀ σ H,Pv n σ H→D.nx σ H) :
 ∃ W:Nat→Nat→St→Hp→Prop,(∃ m,W 0 m σ H)∧∀ i m σ H,W i m σ H →
   ((Itr lo n).stop i H∧D.nx σ H)∨((Itr lo n).go i H∧∃ N:St→Hp→Prop,(∀ σ' H',N σ' H'→∃ m',m' < m∧W (i+1) m' σ' H')∧∀ x H',(Itr lo n).yld i H x H'→g x σ H' fun σ2 H2=>tb { D with nx:=N,ct:=N,bk:=D.nx } σ2 H2):=by
 refine ⟨fun i m σ H=>m=n - i∧i≤n∧Pv i σ H,⟨n,by simp,Nat.zero_le _,h0⟩,?_⟩
 rintro i m σ H ⟨rfl,hi,p⟩
 by_cases hlt:i<n
 · refine .inr ⟨hlt,Pv (i+1),fun σ' H' p'=>⟨n - (i+1),by omega,rfl,hlt,p'⟩,fun x H' y=>?_⟩
   obtain ⟨e,y⟩:=y
   subst e y
   exact hs i σ _ hlt p
 · have e:i=n:=by omega
   subst e
   exact .inl ⟨Nat.le_refl _,hd σ H p⟩
abbrev R2:=V→V→Hp→VK→Prop
def OpR (X:Cx) (f:Value→Value→Sem Value) (r:R2):Prop:=
 ∀ (pins:List (Addr×Obj)) (s:Shared) (σ:St) (H:Hp) (x y:V) (v u:Value) (Q:VK),Inv X pins σ H s→RelV x v→RelV y u→r x y H Q →
   wpAny (model X.prog X.w) X.A (f v u) (EP X pins σ Q) X.xe s
def UnR (X:Cx) (f:Value→Sem Value) (r:V→Hp→VK→Prop):Prop:=
 ∀ (pins:List (Addr×Obj)) (s:Shared) (σ:St) (H:Hp) (x:V) (v:Value) (Q:VK),Inv X pins σ H s→RelV x v→r x H Q →
   wpAny (model X.prog X.w) X.A (f v) (EP X pins σ Q) X.xe s
def CallR (X:Cx) (f:Value) (r:List V→Hp→VK→Prop):Prop:=
 ∀ (pins:List (Addr×Obj)) (s:Shared) (σ:St) (H:Hp) (xs:List V) (us:List Value) (Q:VK),Inv X pins σ H s→Vals xs us→r xs H Q →
   wpAny (model X.prog X.w) X.A (call f us) (EP X pins σ Q) X.xe s
def TruR (X:Cx) (r:V→Hp→(Bool→Hp→Prop)→Prop):Prop:=
 ∀ (pins:List (Addr×Obj)) (s:Shared) (σ:St) (H:Hp) (x:V) (v:Value) (Q:Bool→Hp→Prop),Inv X pins σ H s→RelV x v→r x H Q →
   wpAny (model X.prog X.w) X.A (truthy v) (TP X pins σ Q) X.xe s
def tOp (r:R2) (ta tb:TE):TE:=fun σ H Q=>ta σ H fun x H1=>tb σ H1 fun y H2=>r x y H2 Q
def tUn (r:V→Hp→VK→Prop) (ta:TE):TE:=fun σ H Q=>ta σ H fun x H1=>r x H1 Q
def rI (C:Int→Int→Prop) (g:Int→Int→V):R2:=fun x y H Q=>∃ i j,x=.int i∧y=.int j∧C i j∧Q (g i j) H
def rI0 (g:Int→Int→V):R2:=fun x y H Q=>∃ i j,x=.int i∧y=.int j∧Q (g i j) H
def rU (g:Int→V):V→Hp→VK→Prop:=fun x H Q=>∃ i,x=.int i∧Q (g i) H
section
variable {X:Cx} {a b c:Expr} {ta tb tc:TE} {pos:Pos}
theorem binT (ha:PE X a ta) (hb:PE X b tb) {pins:List (Addr×Obj)} {s:Shared} {σ:St} {H:Hp} {R:V→V→Hp→Prop} (I:Inv X pins σ H s)
 (h:ta σ H fun x H1=>tb σ H1 fun y H2=>R x y H2) {Q:Value→Shared→Prop} {f:Value→Value→Sem Value}
 (hf:∀ v u s2 x y H2,Inv X pins σ H2 s2→RelV x v→RelV y u→R x y H2→wpAny (model X.prog X.w) X.A (f v u) Q X.xe s2) :
 wpAny (model X.prog X.w) X.A (eval a X.env) (fun v s₁=>wpAny (model X.prog X.w) X.A (eval b X.env) (fun u s₂=>wpAny (model X.prog X.w) X.A (f v u) Q X.xe s₂) X.xe s₁) X.xe s:=by
 refine thn (ha pins s σ H _ I h) fun v s1 ⟨x,H1,I1,r1,q1⟩=>?_
 refine thn (hb pins s1 σ H1 _ I1 q1) fun u s2 ⟨y,H2,I2,r2,q2⟩=>?_
 exact hf v u s2 x y H2 I2 r1 r2 q2
theorem pe_op {op:Operator} {r:R2} (ho:OpR X (binaryOp op) r) (ha:PE X a ta) (hb:PE X b tb):PE X (.BinOp a op b pos) (tOp r ta tb):=by
 intro pins s σ H Q I h
 exact wpAny_BinOp (binT ha hb I h fun v u s2 x y H2 I2 rx ry q=>ho pins s2 σ H2 x y v u Q I2 rx ry q)
theorem ze_op {op:Operator} {r:R2} (ho:OpR X (binaryOp op) r) (ha:ZE X a ta) (hb:ZE X b tb):ZE X (.BinOp a op b pos) (tOp r ta tb):=by with_unfolding_all exact pe_op ho ha hb
theorem pe_un {op:UnaryOp} {r:V→Hp→VK→Prop} (ho:UnR X (unaryOp op) r) (ha:PE X a ta):PE X (.UnaryOp op a pos) (tUn r ta):=by
 intro pins s σ H Q I h
 exact UnaryOp_ (thn (ha pins s σ H _ I h) fun v s1 ⟨x,H1,I1,r1,q1⟩=>ho pins s1 σ H1 x v Q I1 r1 q1)
theorem ze_un {op:UnaryOp} {r:V→Hp→VK→Prop} (ho:UnR X (unaryOp op) r) (ha:ZE X a ta):ZE X (.UnaryOp op a pos) (tUn r ta):=by with_unfolding_all exact pe_un ho ha
theorem opI {f:Value→Value→Sem Value} {C:Int→Int→Prop} {g:Int→Int→Int}
 (rule:∀ (i j:Int) (t u:Tok) (s:Shared) (Q:Value→Shared→Prop) (E:Value→Shared→Prop),C i j→Q (.int (g i j) s.toks) { s with toks:=s.toks+1 }→wpAny (model X.prog X.w) X.A (f (.int i t) (.int j u)) Q E s) :
 OpR X f (rI C fun i j=>.int (g i j)):=by
 intro pins s σ H x y v u Q I rx ry h
 obtain ⟨i,j,rfl,rfl,hc,q⟩:=h
 obtain ⟨t,rfl⟩:=rx
 obtain ⟨t',rfl⟩:=ry
 exact rule i j t t' s _ _ hc ⟨.int (g i j),H,I.tok _,⟨_,rfl⟩,q⟩
theorem opI0 {f:Value→Value→Sem Value} {g:Int→Int→Int}
 (rule:∀ (i j:Int) (t u:Tok) (s:Shared) (Q:Value→Shared→Prop) (E:Value→Shared→Prop),Q (.int (g i j) s.toks) { s with toks:=s.toks+1 }→wpAny (model X.prog X.w) X.A (f (.int i t) (.int j u)) Q E s) :
 OpR X f (rI0 fun i j=>.int (g i j)):=by
 intro pins s σ H x y v u Q I rx ry h
 obtain ⟨i,j,rfl,rfl,q⟩:=h
 obtain ⟨t,rfl⟩:=rx
 obtain ⟨t',rfl⟩:=ry
 exact rule i j t t' s _ _ ⟨.int (g i j),H,I.tok _,⟨_,rfl⟩,q⟩
theorem opB0 {f:Value→Value→Sem Value} {g:Int→Int→Bool}
 (rule:∀ (i j:Int) (t u:Tok) (s:Shared) (Q:Value→Shared→Prop) (E:Value→Shared→Prop),Q (.bool (g i j)) s→wpAny (model X.prog X.w) X.A (f (.int i t) (.int j u)) Q E s) :
 OpR X f (rI0 fun i j=>.bl (g i j)):=by
 intro pins s σ H x y v u Q I rx ry h
 obtain ⟨i,j,rfl,rfl,q⟩:=h
 obtain ⟨t,rfl⟩:=rx
 obtain ⟨t',rfl⟩:=ry
 exact rule i j t t' s _ _ ⟨.bl (g i j),H,I,rfl,q⟩
def CDiv (i j:Int):Prop:=0<j∧j<1073741824
def CPow (i j:Int):Prop:=0≤j∧j≤1000000∧i.natAbs<2 ^ 64
theorem op_add:OpR X (binaryOp .Add) (rI0 fun i j=>.int (i+j)):=opI0 fun _ _ _ _ _ _ _ q=>add_int q
theorem op_sub:OpR X (binaryOp .Sub) (rI0 fun i j=>.int (i - j)):=opI0 fun _ _ _ _ _ _ _ q=>sub_int q
theorem op_fdiv:OpR X (binaryOp .FloorDiv) (rI CDiv fun i j=>.int (i / j)):=opI fun i j _ _ _ _ _ hc q=>by
 have h1:(0:Int)<j:=hc.1
 have h2:j<1073741824:=hc.2
 exact floordiv_int (by omega) (by rw [Int.fdiv_eq_ediv_of_nonneg i (by omega)];exact q) (.inl (PyProof.noPylong_small (by omega)))
theorem op_mod:OpR X (binaryOp .Mod) (rI (fun _ j=>0<j) fun i j=>.int (i % j)):=opI fun i j _ _ _ _ _ hc q=>by
 have h1:(0:Int)<j:=hc
 exact mod_int' (by omega) (by rw [Int.fmod_eq_emod_of_nonneg i (by omega)];exact q)
theorem op_pow:OpR X (binaryOp .Pow) (rI CPow fun i j=>.int (i ^ j.toNat)):=opI fun _ _ _ _ _ _ _ hc q=>pow_int_small hc.1 hc.2.1 hc.2.2 q
theorem unI {f:Value→Sem Value} {g:Int→Int}
 (rule:∀ (i:Int) (t:Tok) (s:Shared) (Q:Value→Shared→Prop) (E:Value→Shared→Prop),Q (.int (g i) s.toks) { s with toks:=s.toks+1 }→wpAny (model X.prog X.w) X.A (f (.int i t)) Q E s) :
 UnR X f (rU fun i=>.int (g i)):=by
 intro pins s σ H x v Q I rx h
 obtain ⟨i,rfl,q⟩:=h
 obtain ⟨t,rfl⟩:=rx
 exact rule i t s _ _ ⟨.int (g i),H,I.tok _,⟨_,rfl⟩,q⟩
theorem un_neg:UnR X (unaryOp .USub) (rU fun i=>.int (-i)):=unI fun _ _ _ _ _ q=>neg_int q
end
def scal:V→V→Bool
 | .non,.non=>true | .non,.int _=>true | .int _,.non=>true | .non,.bl _=>true | .bl _,.non=>true | .non,.str _=>true | .str _,.non=>true
 | .int _,.int _=>true | .bl _,.bl _=>true | .str _,.str _=>true | .byt _,.byt _=>true
 | .int _,.str _=>true | .str _,.int _=>true | .bl _,.str _=>true | .str _,.bl _=>true
 | _,_=>false
def rEq:R2:=fun x y H Q=>scal x y=true∧Q (.bl (decide (x=y))) H
def rNe:R2:=fun x y H Q=>scal x y=true∧Q (.bl (!decide (x=y))) H
theorem dec_int {i j:Int}:decide (V.int i=V.int j)=(i == j):=by
 rw [Bool.eq_iff_iff]
 simp
theorem dec_bl {i j:Bool}:decide (V.bl i=V.bl j)=(i == j):=by
 rw [Bool.eq_iff_iff]
 simp
theorem dec_str {i j:Str}:decide (V.str i=V.str j)=(i == j):=by
 rw [Bool.eq_iff_iff]
 simp
theorem dec_byt {i j:Array UInt8}:decide (V.byt i=V.byt j)=(i.toList == j.toList):=by
 rw [Bool.eq_iff_iff]
 cases i
 cases j
 simp
section
variable {X:Cx} {a b c:Expr} {ta tb tc:TE} {pos:Pos}
theorem fin_bl {pins:List (Addr×Obj)} {σ:St} {H:Hp} {s:Shared} {Q:VK} {k k':Bool} (I:Inv X pins σ H s) (q:Q (.bl k) H) (e:k=k'):EP X pins σ Q (.bool k') s:=by
 subst e
 exact ⟨.bl k,H,I,rfl,q⟩
theorem op_eq:OpR X (compareOp .Eq) rEq:=by
 intro pins s σ H x y v u Q I rx ry h
 obtain ⟨hs,q⟩:=h
 cases x with
 | non=>
   cases rx
   cases y with
   | non=>cases ry;exact PySem.EqNone.eq_none_none (fin_bl I q (by simp))
   | bl j=>cases ry;exact PySem.EqNone.eq_none_bool (fin_bl I q (by simp))
   | int j=>obtain ⟨t',rfl⟩:=ry;exact PySem.EqNone.eq_none_int (fin_bl I q (by simp))
   | str j=>obtain ⟨t',rfl⟩:=ry;exact PySem.EqNone.eq_none_str (fin_bl I q (by simp))
   | _=>exact absurd (show false=true from hs) Bool.false_ne_true
 | bl i=>
   cases rx
   cases y with
   | non=>cases ry;exact PySem.EqNone.eq_bool_none (fin_bl I q (by simp))
   | bl j=>cases ry;exact eq_bool (fin_bl I q dec_bl)
   | str j=>obtain ⟨t',rfl⟩:=ry;exact PySem.EqMixed.eq_bool_str (fin_bl I q (by simp))
   | _=>exact absurd (show false=true from hs) Bool.false_ne_true
 | int i=>
   obtain ⟨t,rfl⟩:=rx
   cases y with
   | non=>cases ry;exact PySem.EqNone.eq_int_none (fin_bl I q (by simp))
   | int j=>obtain ⟨t',rfl⟩:=ry;exact eq_int (fin_bl I q dec_int)
   | str j=>obtain ⟨t',rfl⟩:=ry;exact PySem.EqMixed.eq_int_str (fin_bl I q (by simp))
   | _=>exact absurd (show false=true from hs) Bool.false_ne_true
 | str i=>
   obtain ⟨t,rfl⟩:=rx
   cases y with
   | non=>cases ry;exact PySem.EqNone.eq_str_none (fin_bl I q (by simp))
   | bl j=>cases ry;exact PySem.EqMixed.eq_str_bool (fin_bl I q (by simp))
   | int j=>obtain ⟨t',rfl⟩:=ry;exact PySem.EqMixed.eq_str_int (fin_bl I q (by simp))
   | str j=>obtain ⟨t',rfl⟩:=ry;exact eq_str (fin_bl I q dec_str)
   | _=>exact absurd (show false=true from hs) Bool.false_ne_true
 | byt i=>
   obtain ⟨t,rfl⟩:=rx
   cases y with
   | byt j=>obtain ⟨t',rfl⟩:=ry;exact PySem.W.eq_bytes (fin_bl I q dec_byt)
   | _=>exact absurd (show false=true from hs) Bool.false_ne_true
 | _=>cases y <;> exact absurd (show false=true from hs) Bool.false_ne_true
theorem op_ne:OpR X (compareOp .NotEq) rNe:=by
 intro pins s σ H x y v u Q I rx ry h
 obtain ⟨hs,q⟩:=h
 cases x with
 | non=>
   cases rx
   cases y with
   | non=>cases ry;exact PySem.EqNone.ne_none_none (fin_bl I q (by simp))
   | bl j=>cases ry;exact PySem.EqNone.ne_none_bool (fin_bl I q (by simp))
   | int j=>obtain ⟨t',rfl⟩:=ry;exact PySem.EqNone.ne_none_int (fin_bl I q (by simp))
   | str j=>obtain ⟨t',rfl⟩:=ry;exact PySem.EqNone.ne_none_str (fin_bl I q (by simp))
   | _=>exact absurd (show false=true from hs) Bool.false_ne_true
 | bl i=>
   cases rx
   cases y with
   | non=>cases ry;exact PySem.EqNone.ne_bool_none (fin_bl I q (by simp))
   | bl j=>cases ry;exact ne_bool (fin_bl I q (congrArg not dec_bl))
   | str j=>obtain ⟨t',rfl⟩:=ry;exact PySem.EqMixed.ne_bool_str (fin_bl I q (by simp))
   | _=>exact absurd (show false=true from hs) Bool.false_ne_true
 | int i=>
   obtain ⟨t,rfl⟩:=rx
   cases y with
   | non=>cases ry;exact PySem.EqNone.ne_int_none (fin_bl I q (by simp))
   | int j=>obtain ⟨t',rfl⟩:=ry;exact ne_int (fin_bl I q (congrArg not dec_int))
   | str j=>obtain ⟨t',rfl⟩:=ry;exact PySem.EqMixed.ne_int_str (fin_bl I q (by simp))
   | _=>exact absurd (show false=true from hs) Bool.false_ne_true
 | str i=>
   obtain ⟨t,rfl⟩:=rx
   cases y with
   | non=>cases ry;exact PySem.EqNone.ne_str_none (fin_bl I q (by simp))
   | bl j=>cases ry;exact PySem.EqMixed.ne_str_bool (fin_bl I q (by simp))
   | int j=>obtain ⟨t',rfl⟩:=ry;exact PySem.EqMixed.ne_str_int (fin_bl I q (by simp))
   | str j=>obtain ⟨t',rfl⟩:=ry;exact ne_str (fin_bl I q (congrArg not dec_str))
   | _=>exact absurd (show false=true from hs) Bool.false_ne_true
 | byt i=>
   obtain ⟨t,rfl⟩:=rx
   cases y with
   | byt j=>obtain ⟨t',rfl⟩:=ry;exact PySem.W.ne_bytes (fin_bl I q (congrArg not dec_byt))
   | _=>exact absurd (show false=true from hs) Bool.false_ne_true
 | _=>cases y <;> exact absurd (show false=true from hs) Bool.false_ne_true
theorem op_lt:OpR X (compareOp .Lt) (rI0 fun i j=>.bl (decide (i<j))):=opB0 fun _ _ _ _ _ _ _ q=>lt_int q
theorem op_le:OpR X (compareOp .LtE) (rI0 fun i j=>.bl (decide (i≤j))):=opB0 fun _ _ _ _ _ _ _ q=>le_int q
theorem op_gt:OpR X (compareOp .Gt) (rI0 fun i j=>.bl (decide (j<i))):=opB0 fun _ _ _ _ _ _ _ q=>gt_int q
theorem op_ge:OpR X (compareOp .GtE) (rI0 fun i j=>.bl (decide (j≤i))):=opB0 fun _ _ _ _ _ _ _ q=>ge_int q
theorem op_isN:OpR X (compareOp .Is) (fun x y H Q=>y=.non∧Q (.bl (decide (x=.non))) H):=by
 intro pins s σ H x y v u Q I rx ry h
 obtain ⟨rfl,q⟩:=h
 cases ry
 refine is_none_gen (fin_bl I q ?_)
 cases x <;> first
  | (cases rx;rfl)
  | (obtain ⟨t,rfl⟩:=rx;rfl)
theorem op_notN:OpR X (compareOp .IsNot) (fun x y H Q=>y=.non∧Q (.bl (!decide (x=.non))) H):=by
 intro pins s σ H x y v u Q I rx ry h
 obtain ⟨rfl,q⟩:=h
 cases ry
 refine isnot_none_gen (fin_bl I q ?_)
 cases x <;> first
  | (cases rx;rfl)
  | (obtain ⟨t,rfl⟩:=rx;rfl)
theorem nomark (b:Expr) {op:CmpOp} (h:op≠.In:=by decide) (h2:op≠.NotIn:=by decide):behindInMarks op b=false:=by
 have e1:(op == CmpOp.In)=false:=by cases op <;> first | rfl | exact absurd rfl h
 have e2:(op == CmpOp.NotIn)=false:=by cases op <;> first | rfl | exact absurd rfl h2
 cases b <;> simp [behindInMarks,e1,e2]
theorem pe_cmpR {op:CmpOp} {r:R2} (ho:OpR X (compareOp op) r) (ha:PE X a ta) (hb:PE X b tb) (hm:behindInMarks op b=false):PE X (.Compare a [op] [b] pos) (tOp r ta tb):=by
 intro pins s σ H Q I h
 exact wpAny_Compare1 (binT ha hb I h fun v u s2 x y H2 I2 rx ry q=>ho pins s2 σ H2 x y v u Q I2 rx ry q) hm
theorem ze_cmpR {op:CmpOp} {r:R2} (ho:OpR X (compareOp op) r) (ha:ZE X a ta) (hb:ZE X b tb) (hm:behindInMarks op b=false):ZE X (.Compare a [op] [b] pos) (tOp r ta tb):=by with_unfolding_all exact pe_cmpR ho ha hb hm
def TruV (K:PySem.W.Frag) (x:V) (H:Hp) (k:Bool):Prop:=
 match x with
 | .non=>k=false
 | .bl b=>k=b
 | .int i=>k=(i != 0)
 | .str y=>y.length≤sizeLine∧k=((y.length:Int) != 0)
 | .byt y=>y.size≤sizeLine∧k=((y.size:Int) != 0)
 | .ref p=>(∃ xs,SqL K H p xs∧k=!xs.isEmpty)∨(∃ xs,SqT K H p xs∧k=!xs.isEmpty)∨∃ kvs,H p=some (.dK kvs)∧k=!kvs.isEmpty
 | _=>False
theorem isEmpty_kv {κ:Type} {kvs:List (κ×V)} {vs:List (κ×Value)} (r:KV kvs vs):(!vs.isEmpty)=!kvs.isEmpty:=by
 cases r <;> rfl
theorem isEmpty_of {xs:List V} {its:List Value} (r:Vals xs its):(!its.toArray.isEmpty)=!xs.isEmpty:=by
 cases r <;> simp
theorem line63:(sizeLine:Nat)<2 ^ 63:=by rw [sizeLine_eq];decide
theorem tru_ok:TruR X (fun x H Q=>∃ k,TruV X.K x H k∧Q k H):=by
 intro pins s σ H x v Q I rx h
 obtain ⟨k,e,q⟩:=h
 have hl:=line63
 have hs:sizeLine=16777216:=sizeLine_eq
 cases x with
 | non=>
   cases rx
   have e':k=false:=e
   subst e'
   exact truthy_none ⟨H,I,q⟩
 | bl b=>
   cases rx
   have e':k=b:=e
   subst e'
   exact wpAny_truthy_bool ⟨H,I,q⟩
 | int i=>
   obtain ⟨t,rfl⟩:=rx
   have e':k=(i != 0):=e
   subst e'
   exact PySem.P.truthy_int ⟨H,I,q⟩
 | str y=>
   obtain ⟨t,rfl⟩:=rx
   obtain ⟨hy,e'⟩:y.length≤sizeLine∧k=((y.length:Int) != 0):=e
   subst e'
   exact PySem.P.truthy_str (by omega) ⟨H,I.tok _,q⟩
 | byt y=>
   obtain ⟨t,rfl⟩:=rx
   obtain ⟨hy,e'⟩:y.size≤sizeLine∧k=((y.size:Int) != 0):=e
   subst e'
   exact PySem.W.truthy_bytes (by omega) ⟨H,I.tok _,q⟩
 | ref p=>
   cases rx
   have e':(∃ xs,SqL X.K H p xs∧k=!xs.isEmpty)∨(∃ xs,SqT X.K H p xs∧k=!xs.isEmpty)∨∃ kvs,H p=some (.dK kvs)∧k=!kvs.isEmpty:=e
   rcases e' with ⟨xs,hx,e'⟩ | ⟨xs,hx,e'⟩ | ⟨kvs,hx,e'⟩
   · subst e'
     obtain ⟨its,r,pl,hz⟩:=I.list hx
     have hlen:=r.length
     exact wpAny_truthy_list pl.isList (by simp only [List.size_toArray];omega) ⟨H,I.tok _,by rw [isEmpty_of r];exact q⟩
   · subst e'
     obtain ⟨its,r,pl,hz⟩:=I.tuple hx
     have hlen:=r.length
     exact truthy_tuple pl (by simp only [List.size_toArray];omega) ⟨H,I.tok _,by rw [isEmpty_of r];exact q⟩
   · subst e'
     obtain ⟨hz,hS,vs,r,m⟩:kvs.length≤sizeLine∧(p == sysModules)=false∧∃ vs,KV kvs vs∧s.heap.DictOf (mixKind X.prog X.w) p vs:=I.hok p _ hx
     have hlen:kvs.length=vs.length:=Paired.length r
     exact wpAny_truthy_dict hS m (by omega) ⟨H,I.tok _,by rw [isEmpty_kv r];exact q⟩
 | _=>exact (show False from e).elim
theorem op_add_str:OpR X (binaryOp .Add) (fun x y H Q=>∃ i j,x=.str i∧y=.str j∧i.length+j.length≤sizeLine∧Q (.str (i++j)) H):=by
 intro pins s σ H x y v u Q I rx ry h
 obtain ⟨i,j,rfl,rfl,hz,q⟩:=h
 obtain ⟨t,rfl⟩:=rx
 obtain ⟨t',rfl⟩:=ry
 exact add_str (fun t' tk=>⟨.str (i++j),H,I.tok _,⟨_,rfl⟩,q⟩) hz
theorem vals1 {x:V} {us:List Value} (r:Vals [x] us):∃ u,us=[u]∧RelV x u:=by
 cases r with
 | cons r1 r2=>cases r2;exact ⟨_,rfl,r1⟩
theorem vals2 {x y:V} {us:List Value} (r:Vals [x,y] us):∃ u w',us=[u,w']∧RelV x u∧RelV y w':=by
 cases r with
 | cons r1 r2=>
   cases r2 with
   | cons r3 r4=>cases r4;exact ⟨_,_,rfl,r1,r3⟩
theorem call_max2 (hc:X.calm=true):CallR X (.builtin "max") (fun xs H Q=>∃ i j,xs=[.int i,.int j]∧Q (.int (if j > i then j else i)) H):=by
 intro pins s σ H xs us Q I r h
 obtain ⟨i,j,rfl,q⟩:=h
 obtain ⟨u,w',rfl,⟨t,rfl⟩,⟨t',rfl⟩⟩:=vals2 r
 refine max_two_ints (I.ok.hd hc) fun h' tk k=>⟨_,H,I.kept k,?_,q⟩
 by_cases hj:j > i
 · rw [if_pos hj,if_pos hj];exact ⟨_,rfl⟩
 · rw [if_neg hj,if_neg hj];exact ⟨_,rfl⟩
theorem call_min2 (hc:X.calm=true):CallR X (.builtin "min") (fun xs H Q=>∃ i j,xs=[.int i,.int j]∧Q (.int (if j<i then j else i)) H):=by
 intro pins s σ H xs us Q I r h
 obtain ⟨i,j,rfl,q⟩:=h
 obtain ⟨u,w',rfl,⟨t,rfl⟩,⟨t',rfl⟩⟩:=vals2 r
 refine min_two_ints (I.ok.hd hc) fun h' tk k=>⟨_,H,I.kept k,?_,q⟩
 by_cases hj:j<i
 · rw [if_pos hj,if_pos hj];exact ⟨_,rfl⟩
 · rw [if_neg hj,if_neg hj];exact ⟨_,rfl⟩
end
structure ObjM (h:Heap) (x dx C:Addr) (mA:Str→Option Value):Prop where
 obj:h.get? x=some (PySem.W.instObj C dx)
 ns:h.Ns1 dx mA
 ne:dx≠x
theorem lookIn_ns {h:Heap} {dx:Addr} {mA:Str→Option Value} (n:h.Ns1 dx mA):∃ od,h.get? dx=some od∧∀ name,PySem.W.lookIn name od=some (mA name):=by
 obtain ⟨o,es,ep,ho,hd,hk,_,hm⟩:=n
 refine ⟨o,ho,fun name=>?_⟩
 have e:=hm name
 unfold nsFind findBy at e
 rw [← Array.find?_toList] at e
 unfold PySem.W.lookIn
 rw [hd]
 dsimp only
 split
 · rename_i y q
   rw [q] at e
   exact congrArg some e
 · rename_i q
   rw [q] at e
   have a:es.toList.any (·.refKey)=false:=by
    rw [List.any_eq_false]
    intro y hy
    obtain ⟨z,t,hkey⟩:=hk y (Array.mem_toList_iff.mp hy)
    simp [DictEntry.refKey,hkey]
   have a':¬ es.toList.any (·.refKey)=true:=by rw [a];exact Bool.false_ne_true
   rw [if_neg a']
   exact congrArg some e
theorem ObjM.look {h:Heap} {x dx C:Addr} {mA:Str→Option Value} (I:ObjM h x dx C mA):∃ od,PySem.W.InstAt h x (PySem.W.instObj C dx) C (some od)∧∀ name,PySem.W.lookIn name od=some (mA name):=
 let ⟨od,ho,hl⟩:=lookIn_ns I.ns
 ⟨od,⟨I.obj,rfl,rfl,ho⟩,hl⟩
section
variable {P:Program} {w:World} {H H':Hp} {h h':Heap} {a C dx:Addr} {fs fs':List (Str×V)}
theorem ins_get (hok:HOk P w H h) (e:H a=some (.ins C dx fs)):∃ mA,ObjM h a dx C mA∧(∀ f,RelO (fs.lookup f) (mA f))∧PySem.Within mA (fs.map (·.1))∧fs.length≤1000∧H dx=some (.own a):=by
 obtain ⟨d,z,ne,ob,mA,n,r,q⟩:=(show ObjOk P w H h a (.ins C dx fs) from hok a _ e)
 exact ⟨mA,⟨ob,n,ne⟩,r,q,z,d⟩
end
structure Cls (K:PySem.W.Frag) (C:Addr):Prop where
 pg:PySem.W.plainGet K C Str.empty=true
 hd:PySem.W.hasDictIn K C=true
 po:PySem.W.plainOver K C=true
 sa:PySem.W.findIn K (.ref C) "__setattr__" = some (some (.builtin "object.__setattr__"))
theorem Cls.get {K:PySem.W.Frag} {C:Addr} (c:Cls K C) (f:Str):PySem.W.plainGet K C f=true:=c.pg
section
variable {X:Cx} {pins:List (Addr×Obj)} {σ:St} {H:Hp} {s:Shared} {A:Around} {E:Value→Shared→Prop} {Q:Value→Shared→Prop} {c:Value} {b:Bool}
inductive TyOf (K:PySem.W.Frag) (H:Hp):V→Value→Prop where
 | non:TyOf K H .non (.type "NoneType")
 | bl (x:Bool):TyOf K H (.bl x) (.type "bool")
 | int (i:Int):TyOf K H (.int i) (.type "int")
 | str (x:Str):TyOf K H (.str x) (.type "str")
 | flt (x:UInt64):TyOf K H (.flt x) (.type "float")
 | lst {a:Addr} {xs:List V} (e:H a=some (.lst xs)):TyOf K H (.ref a) (.type "list")
 | frz {a:Addr} {o:Obj} {xs:List V} (e:H a=some (.frz o (.lst xs))):TyOf K H (.ref a) (.type "list")
 | tup {a:Addr} {xs:List V} (e:H a=some (.tup xs)):TyOf K H (.ref a) (.type "tuple")
 | dK {a:Addr} {kvs:List (Key×V)} (e:H a=some (.dK kvs)):TyOf K H (.ref a) (.type "dict")
 | dT {a:Addr} {kvs:List (List Key×V)} (e:H a=some (.dT kvs)):TyOf K H (.ref a) (.type "dict")
 | ins {a C dx:Addr} {fs:List (Str×V)} (e:H a=some (.ins C dx fs)) (cl:Cls K C) (ha:PySem.W.findIn K (.ref C) "__class__" = some (some (.builtin "object.__class__")))
  (hn:PySem.W.specialIn K (.builtin "object.__class__") "__get__" = some (some (.builtin "getset_descriptor.__get__"))) (htk:PySem.W.takesIn K (.builtin "object.__class__")=some true)
  (hm:PySem.W.mroIn K C (.type "object")=some true):TyOf K H (.ref a) (.ref C)
theorem isinst_ok {x:V} {u t:Value} (I:Inv X pins σ H s) (rx:RelV x u) (ty:TyOf X.K H x t) (e:PySem.W.kitOne X.K t c=some b) (h:∀ tk,Q (.bool b) { s with toks:=tk }) :
 wpAny (model X.prog X.w) A (call (.builtin "isinstance") [u,c]) Q E s:=by
 cases ty with
 | non=>cases (show u=Value.none from rx);exact PySem.W.kia_one PySem.W.kitx_none I.kIn True.intro e (fun z=>nomatch z) h
 | bl y=>cases (show u=Value.bool y from rx);exact PySem.W.kia_one PySem.W.kitx_bool I.kIn True.intro e (fun z=>nomatch z) h
 | int i=>obtain ⟨t,q⟩:=(show ∃ t,u=Value.int i t from rx);cases q;exact PySem.W.kia_one PySem.W.kitx_int I.kIn True.intro e (fun z=>nomatch z) h
 | str y=>obtain ⟨t,q⟩:=(show ∃ t,u=Value.str y t from rx);cases q;exact PySem.W.kia_one PySem.W.kitx_str I.kIn True.intro e (fun z=>nomatch z) h
 | flt y=>obtain ⟨t,q⟩:=(show ∃ t,u=Value.float y t from rx);cases q;exact PySem.W.kia_one PySem.W.kitx_float I.kIn True.intro e (fun z=>nomatch z) h
 | @lst a xs ea=>
   cases (show u=Value.ref a from rx)
   obtain ⟨_,_,n,_,h1⟩:=(show ObjOk X.prog X.w H s.heap a (.lst xs) from I.hok a _ ea)
   exact PySem.W.kia_one PySem.W.kitx_list I.kIn ⟨_,h1,rfl⟩ e (fun z=>nomatch z) h
 | @frz a ob xs ea=>
   cases (show u=Value.ref a from rx)
   obtain ⟨_,_,_,n,_,h1⟩:=(show ObjOk X.prog X.w H s.heap a (.frz ob (.lst xs)) from I.hok a _ ea)
   exact PySem.W.kia_one PySem.W.kitx_list I.kIn ⟨_,h1,rfl⟩ e (fun z=>nomatch z) h
 | @tup a xs ea=>
   cases (show u=Value.ref a from rx)
   obtain ⟨_,_,_,p⟩:=(show ObjOk X.prog X.w H s.heap a (.tup xs) from I.hok a _ ea)
   obtain ⟨o,h1,h2,_⟩:=p.tup
   exact PySem.W.kia_one PySem.W.kitx_tuple I.kIn ⟨o,h1,h2⟩ e (fun z=>nomatch z) h
 | @dK a kvs ea=>
   cases (show u=Value.ref a from rx)
   obtain ⟨_,_,vs,_,p⟩:=(show ObjOk X.prog X.w H s.heap a (.dK kvs) from I.hok a _ ea)
   obtain ⟨o,es,ep,h1,h2,_⟩:=p
   exact PySem.W.kia_one PySem.W.kitx_dict I.kIn ⟨o,h1,h2.1⟩ e (fun z=>nomatch z) h
 | @dT a kvs ea=>
   cases (show u=Value.ref a from rx)
   obtain ⟨_,_,xs,_,o,es,ep,h1,h2,_⟩:=(show ObjOk X.prog X.w H s.heap a (.dT kvs) from I.hok a _ ea)
   exact PySem.W.kia_one PySem.W.kitx_dict I.kIn ⟨o,h1,h2.1⟩ e (fun z=>nomatch z) h
 | @ins a C dx fs ea cl ha hn htk hm=>
   cases (show u=Value.ref a from rx)
   obtain ⟨mA,O,_⟩:=ins_get I.hok ea
   obtain ⟨od,J,_⟩:=O.look
   exact PySem.W.kia_one (PySem.W.kitx_own (cl.get _) cl.hd ha hn htk hm) I.kIn J e (fun z=>nomatch z) h
end
structure Room (k:Nat) (A:Around):Prop where
 hd:A.handled=none
 dp:A.depth+3*k+5<recursionLimit
 un:A.units+16*k+200<cLine
 gd:A.guards=some []
theorem Room.mono {j k:Nat} {A:Around} (r:Room k A) (h:j≤k):Room j A:=⟨r.hd,by have:=r.dp;omega,by have:=r.un;omega,r.gd⟩
theorem Room.deeper {k:Nat} {A:Around} (r:Room (k+1) A) (env:Env):Room k (A.deeper env):=
 ⟨r.hd,by have:=r.dp;show A.depth+1+3*k+5<_;omega,by have:=r.un;show A.units+3+16*k+200<_;omega,r.gd⟩
theorem Room.depth {k:Nat} {A:Around} (r:Room k A):A.depth<recursionLimit:=by have:=r.dp;omega
theorem Room.units {k:Nat} {A:Around} (r:Room k A):A.units+64<cLine:=by have:=r.un;omega
def tNil:TA:=fun _ H Q=>Q [] H
def tCons (ta:TE) (tr:TA):TA:=fun σ H Q=>ta σ H fun x H1=>tr σ H1 fun xs H2=>Q (x::xs) H2
section
variable {X:Cx} {e:Expr} {es:List Expr} {te:TE} {t:TA} {pos:Pos}
theorem pa_nil:PA X [] tNil:=fun _ _ _ _ H Q I h=>Calls.spliced_nil ⟨[],H,I,.nil,h⟩
theorem za_nil:ZA X [] tNil:=by with_unfolding_all exact pa_nil
theorem pa_cons (ha:PE X e te) (hr:PA X es t) (hs:starEach (e::es) X.env=(false,eval e X.env)::starEach es X.env:=by rfl):PA X (e::es) (tCons te t):=by
 intro pos pins s σ H Q I h
 rw [hs]
 show wpAny _ _ (spliced ((false,eval e X.env)::backTo pos (starEach es X.env))) _ _ s
 refine Calls.spliced_cons (thn (ha pins s σ H _ I h) fun u s1 ⟨x,H1,I1,r1,q1⟩=>?_)
 exact thn (hr pos pins s1 σ H1 _ I1 q1) fun us s2 ⟨xs,H2,I2,r2,q2⟩=>⟨x::xs,H2,I2,.cons r1 r2,q2⟩
theorem za_cons (ha:ZE X e te) (hr:ZA X es t) (hs:starEach (e::es) X.env=(false,eval e X.env)::starEach es X.env:=by rfl):ZA X (e::es) (tCons te t):=by with_unfolding_all exact pa_cons ha hr hs
def tTup (t:TA):TE:=fun σ H Q=>t σ H fun xs H1=>xs.length≤sizeLine∧∀ p,H1 p=none→Q (.ref p) (upd H1 p (.tup xs))
def tLst (t:TA):TE:=fun σ H Q=>t σ H fun xs H1=>xs.length≤sizeLine∧∀ p,H1 p=none→Q (.ref p) (upd H1 p (.lst xs))
theorem pe_tup {x1} (h:PA X es t):PE X (.Tuple es x1 pos) (tTup t):=by
 intro pins s σ H Q I hq
 refine wpAny_Tuple_spliced (thn (h pos pins s σ H _ I hq) fun us s1 ⟨xs,H1,I1,r,z,q⟩=>⟨by rw [← r.length];exact z,?_⟩)
 have hf:H1 s1.heap.objs.size=none:=I1.hok.fresh (Nat.le_refl _)
 refine ⟨.ref s1.heap.objs.size,upd H1 s1.heap.objs.size (.tup xs),I1.laid (t':=s1.toks) (fun b u e=>Heap.get?_push_of_some _ e) (Nat.le_refl _) ?_,rfl,q _ hf⟩
 exact ⟨z,us,r,⟨_,Heap.get?_push_size _ rfl⟩⟩
theorem ze_tup {x1} (h:ZA X es t):ZE X (.Tuple es x1 pos) (tTup t):=by with_unfolding_all exact pe_tup h
theorem pe_lst (h:PA X es t):PE X (.List es pos) (tLst t):=by
 intro pins s σ H Q I hq
 refine wpAny_List_spliced (thn (h pos pins s σ H _ I hq) fun us s1 ⟨xs,H1,I1,r,z,q⟩=>⟨by rw [← r.length];exact z,?_⟩)
 have hf:H1 s1.heap.objs.size=none:=I1.hok.fresh (Nat.le_refl _)
 refine ⟨.ref s1.heap.objs.size,upd H1 s1.heap.objs.size (.lst xs),I1.laid (t':=s1.toks) (fun b u e=>Heap.get?_push_of_some _ e) (Nat.le_refl _) ?_,rfl,q _ hf⟩
 exact ⟨z,us,0,r,Heap.get?_push_size _ rfl⟩
theorem ze_lst (h:ZA X es t):ZE X (.List es pos) (tLst t):=by with_unfolding_all exact pe_lst h
end
abbrev Sp:=List V→Hp→VK→XK→Prop
abbrev CXT:=List Env→Hp→Shared→XK→Value→Shared→Prop
structure Env0 (P:Program) (w:World) (K:PySem.W.Frag) (mg:Str→Option Value) (base:Heap) (A:Around) (outer:List Env) (s:Shared) (H:Hp):Prop where
 frames:A.frames=some outer
 mod:Mod K mg base
 bs:∀ b o,base.get? b=some o→s.heap.get? b=some o∧H b=none
 bsz:base.objs.size≤s.heap.objs.size
 funs:s.heap.FunFrames base outer
 frf:∀ b∈frs outer,H b=none
 hok:HOk P w H s.heap
 bare:AllBare s.gens
def CE (outer:List Env) (P:Program) (w:World) (H:Hp) (s:Shared) (Q:VK) (u:Value) (s':Shared):Prop:=
 ∃ v H',s'.os=s.os∧AllBare s'.gens∧Un (frs outer) [] H H' s.heap s'.heap∧HOk P w H' s'.heap∧RelV v u∧Q v H'
def CR (CX:CXT) (outer:List Env) (P:Program) (w:World) (H:Hp) (s:Shared) (Q:VK) (E:XK) (r:Result) (s':Shared):Prop:=
 match r with
 | .ok (.ret u)=>CE outer P w H s Q u s'
 | .ok _=>False
 | .error e=>CX outer H s E e s'
structure FnOk (P:Program) (w:World) (K:PySem.W.Frag) (mg:Str→Option Value) (base:Heap) (CX:CXT) (k:Nat) (f:Addr) (fd:FuncData) (ps:List Str) (sp:Sp):Prop where
 len:∀ vs H Q E,sp vs H Q E→vs.length=ps.length
 run:∀ (A:Around) (outer:List Env) (s:Shared) (H:Hp) (args:Args) (us:List Value) (vs:List V) (Q:VK) (E:XK),Room k A→Env0 P w K mg base A outer s H→BindsTo s fd args (ps.zip us)→Vals vs us→sp vs H Q E →
  codeAny (model P w) A (.call (.ref f) args) (CR CX outer P w H s Q E) s
theorem FnOk.mono {P:Program} {w:World} {K:PySem.W.Frag} {mg:Str→Option Value} {base:Heap} {CX:CXT} {j k:Nat} {f:Addr} {fd:FuncData} {ps:List Str} {sp:Sp} (F:FnOk P w K mg base CX j f fd ps sp) (h:j≤k) :
 FnOk P w K mg base CX k f fd ps sp:=⟨F.len,fun A outer s H args us vs Q E hr=>F.run A outer s H args us vs Q E (hr.mono h)⟩
section
variable {X:Cx} {pins:List (Addr×Obj)} {σ:St} {H:Hp} {s s':Shared}
theorem Inv.env0 (I:Inv X pins σ H s):Env0 X.prog X.w X.K X.mg X.base X.A X.stack s H:=
 ⟨I.ok.frames,I.ok.mod,I.bs,Nat.le_trans I.ok.bsz I.sz,I.stack,I.stkFree,I.hok,I.bare⟩
theorem Inv.after {Q:VK} {u:Value} (I:Inv X pins σ H s) (h:CE X.stack X.prog X.w H s Q u s'):EP X pins σ Q u s':=by
 obtain ⟨v,H',os,bare,un,hok,r,q⟩:=h
 obtain ⟨hh,g,d,t,os'⟩:=s'
 obtain rfl:os'=s.os:=os
 exact ⟨v,H',I.call (h':=hh) (g':=g) (d':=d) (t':=t) (ch:=[]) un hok bare (fun b z=>absurd z (by simp)),r,q⟩
end
def tCall (sp:Sp) (dvs:List V) (E:XK) (t:TA):TE:=fun σ H Q=>t σ H fun vs H1=>sp (vs++dvs) H1 Q E
def Binds (K:PySem.W.Frag) (fd:FuncData) (ps:List Str) (ds:List Value):Prop:=
 ∀ (s:Shared) (us:List Value),K.In s.heap→(us++ds).length=ps.length→BindsTo s fd ⟨us,[]⟩ (ps.zip (us++ds))
theorem Binds.all {K:PySem.W.Frag} {fd:FuncData} {ps:List Str} (h:∀ us:List Value,us.length=ps.length→bindArgs fd ⟨us,[]⟩=pure (ps.zip us)):Binds K fd ps []:=fun s us _ hl=>by
 rw [List.append_nil] at hl ⊢
 exact .of_eq (h us hl)
def Passes (CX:CXT) (X:Cx) (E:XK):Prop:=∀ (pins:List (Addr×Obj)) (σ:St) (H:Hp) (s:Shared) (e:Value) (s':Shared),Inv X pins σ H s→CX X.stack H s E e s'→X.xe e s'
section
variable {X:Cx} {CX:CXT} {k:Nat} {f C:Addr} {fd:FuncData} {ps:List Str} {sp:Sp} {dvs:List V} {ds:List Value} {E:XK} {x m:Str} {p pos apos:Pos} {e o:Expr} {es:List Expr} {ta:TE} {t:TA}
theorem run_fn {pins:List (Addr×Obj)} {σ:St} {H:Hp} {s:Shared} {Q:VK} {us:List Value} {vs:List V} (F:FnOk X.prog X.w X.K X.mg X.base CX k f fd ps sp) (hr:Room k X.A) (hb:Binds X.K fd ps ds) (hd:Vals dvs ds) (hx:Passes CX X E)
 (I:Inv X pins σ H s) (r:Vals vs us) (h:sp (vs++dvs) H Q E):wpAny (model X.prog X.w) X.A (call (.ref f) us) (EP X pins σ Q) X.xe s:=by
 have r2:Vals (vs++dvs) (us++ds):=r.append hd
 have hl:(us++ds).length=ps.length:=by rw [← r2.length];exact F.len _ _ _ _ h
 refine wpAny_call (codeAny_mono (F.run X.A X.stack s H ⟨us,[]⟩ (us++ds) (vs++dvs) Q E hr I.env0 (hb s us I.kIn hl) r2 h) fun r s' hq=>?_)
 cases r with
 | error e=>exact hx pins σ H s e s' I hq
 | ok fl=>
   cases fl with
   | ret u=>exact I.after hq
   | next=>exact False.elim hq
   | brk=>exact False.elim hq
   | cont=>exact False.elim hq
theorem pe_call (F:FnOk X.prog X.w X.K X.mg X.base CX k f fd ps sp) (hr:Room k X.A) (hg:Gl X x) (hm:X.mg x=some (.ref f)) (hk:PySem.W.keepIn X.K (.ref f)=true) (hb:Binds X.K fd ps ds) (hd:Vals dvs ds) (hx:Passes CX X E)
 (ha:PA X (e::es) t) (hdb:(x == ("__debug__" : Str))=false:=by decide) (he:starEach (e::es) X.env=(false,eval e X.env)::starEach es X.env:=by rfl) (hpl:(backTo pos (starEach es X.env)).any (·.1)=false:=by rfl) :
 PE X (.Call (.Name x p) (e::es) [] pos) (tCall sp dvs E t):=by
 intro pins s σ H Q I h
 refine wpAny_Call_Name_kw (ld_glob I hg hm ?_ hdb)
 refine PySem.W.callWith_K (h₀:=X.base) I.ok.mod.kin hk (thn (ha pos pins s σ H _ I h) fun us s1 ⟨vs,H1,I1,r,q⟩=>⟨I1.kIn,?_⟩) he hpl
 exact run_fn F hr hb hd hx I1 r q
end
structure FnScope (N P:List Str) (sc:Scope):Prop where
 kind:sc.kind=.function
 co:sc.isCoroutine=false
 gen:sc.isGenerator=false
 nd:N.Nodup
 pre:N.take P.length=P
 par:∀ x∈P,sc.names.lookup x=some .local∨sc.names.lookup x=some .cell
 nofree:∀ y∈sc.names,y.2≠.free
theorem bindL_out {kindOf:Str→Option NameKind} {x:Str}:∀ {binds:List (Str×Value)} {m:Str→Option Value},(∀ v,(x,v)∉binds)→bindL kindOf binds m x=m x
 | [],_,_=>rfl
 | (n,v)::r,m,h=>by
   unfold bindL
   rw [bindL_out fun w hw=>h w (List.mem_cons_of_mem _ hw)]
   split
   · have:x≠n:=by rintro rfl;exact h v List.mem_cons_self
     simp [this]
   · rfl
theorem bindC_out {kindOf:Str→Option NameKind} {x:Str}:∀ {binds:List (Str×Value)} {m:Str→Option Value},(∀ v,(x,v)∉binds)→bindC kindOf binds m x=m x
 | [],_,_=>rfl
 | (n,v)::r,m,h=>by
   unfold bindC
   rw [bindC_out fun w hw=>h w (List.mem_cons_of_mem _ hw)]
   split
   · rfl
   · have:x≠n:=by rintro rfl;exact h v List.mem_cons_self
     simp [this]
theorem bindL_get {kindOf:Str→Option NameKind} {x:Str} {v:Value}:∀ {P:List Str} {vs:List Value} {i:Nat} {m:Str→Option Value},P.Nodup→P[i]? = some x→vs[i]? = some v→kindOf x=some .local →
 bindL kindOf (P.zip vs) m x=some v
 | [],_,_,_,_,h,_,_=>by simp at h
 | _::_,[],_,_,_,_,h,_=>by simp at h
 | p::P,w::vs,0,m,nd,h1,h2,hk=>by
   simp at h1 h2;subst h1;subst h2
   show bindL kindOf ((p,w)::P.zip vs) m p=_
   unfold bindL
   rw [bindL_out fun v hv=>(List.nodup_cons.mp nd).1 (List.of_mem_zip hv).1,if_pos hk]
   simp
 | p::P,w::vs,i+1,m,nd,h1,h2,hk=>by
   show bindL kindOf ((p,w)::P.zip vs) m x=_
   unfold bindL
   exact bindL_get (i:=i) (List.nodup_cons.mp nd).2 (by simpa using h1) (by simpa using h2) hk
theorem bindC_get {kindOf:Str→Option NameKind} {x:Str} {v:Value}:∀ {P:List Str} {vs:List Value} {i:Nat} {m:Str→Option Value},P.Nodup→P[i]? = some x→vs[i]? = some v→kindOf x≠some .local →
 bindC kindOf (P.zip vs) m x=some v
 | [],_,_,_,_,h,_,_=>by simp at h
 | _::_,[],_,_,_,_,h,_=>by simp at h
 | p::P,w::vs,0,m,nd,h1,h2,hk=>by
   simp at h1 h2;subst h1;subst h2
   show bindC kindOf ((p,w)::P.zip vs) m p=_
   unfold bindC
   rw [bindC_out fun v hv=>(List.nodup_cons.mp nd).1 (List.of_mem_zip hv).1,if_neg hk]
   simp
 | p::P,w::vs,i+1,m,nd,h1,h2,hk=>by
   show bindC kindOf ((p,w)::P.zip vs) m x=_
   unfold bindC
   exact bindC_get (i:=i) (List.nodup_cons.mp nd).2 (by simpa using h1) (by simpa using h2) hk
def start (N:List Str) (vs:List V):St:=vs.map some++List.replicate (N.length - vs.length) none
def cxOf (CX:CXT) (P:Program) (w:World) (K:PySem.W.Frag) (mg:Str→Option Value) (base:Heap) (N:List Str) (qual:Str) (scope:Scope) (f:Addr) (cd:Value) (A:Around) (outer:List Env) (s:Shared) (H:Hp) (E:XK):Cx where
 prog:=P
 w:=w
 K:=K
 mg:=mg
 base:=base
 A:=A.deeper (envOfC qual scope s.heap.objs.size f cd)
 N:=N
 s₀:=s
 H₀:=H
 env:=envOfC qual scope s.heap.objs.size f cd
 outer:=outer
 stack:=envOfC qual scope s.heap.objs.size f cd::outer
 ex:=[]
 calm:=true
 fn:=fun _=>true
 pn:=[]
 xe:=fun e s'=>wpAny (model P w) (A.deeper (envOfC qual scope s.heap.objs.size f cd)) (leaving (envOfC qual scope s.heap.objs.size f cd) e) (fun _ s''=>CX outer H s E e s'') (fun e' s''=>CX outer H s E e' s'') s'
theorem cell_has {sc:Scope} {n:Nat} {x:Str} (h:sc.names.lookup x=some .cell):∃ c,(cellsFrom n sc.names []).lookup x=some c:=by
 have q:=PySem.W.cellsFrom_some sc.names n [] (.inl h)
 exact Option.isSome_iff_exists.mp q
theorem inv_start {CX:CXT} {P:Program} {w:World} {K:PySem.W.Frag} {mg:Str→Option Value} {base:Heap} {N ps:List Str} {qual:Str} {scope:Scope} {f:Addr} {cd:Value} {A:Around} {outer:List Env} {s s1:Shared} {H:Hp} {E:XK} {us:List Value} {vs:List V}
 (S:FnScope N ps scope) (hd:A.handled=none) (e0:Env0 P w K mg base A outer s H) (hl:vs.length=ps.length) (r:Vals vs us)
 (x:InCallC s s.heap.objs.size (bindL (envOfC qual scope s.heap.objs.size f cd).kindOf (ps.zip us) fun _=>none) (cellsFrom (s.heap.objs.size+1) scope.names []) (bindC (envOfC qual scope s.heap.objs.size f cd).kindOf (ps.zip us) fun _=>none) s1) :
 Inv (cxOf CX P w K mg base N qual scope f cd A outer s H E) [] (start N vs) H s1:=by
 have hpl:ps.length≤N.length:=by have:=congrArg List.length S.pre;rw [List.length_take] at this;omega
 obtain ⟨h1,tk,rfl,hk⟩:=x.done
 have noA:∀ b:Addr,b∉(cxOf CX P w K mg base N qual scope f cd A outer s H E).ex:=fun b z=>absurd (show b∈([]:List Addr) from z) (by simp)
 refine ⟨⟨e0.mod,S.kind,rfl,rfl,Nat.le_refl _,fun y z c h1 h2=>?_,fun y hy=>?_,fun y c _ h=>?_,fun _=>hd,Around.frames_deeper e0.frames,.inr ⟨rfl,rfl⟩,fun b z=>absurd z (noA b),e0.bs,e0.bsz,fun b _ _=>noA b,fun b z=>absurd z (noA b),e0.funs,e0.frf⟩,
  rfl,e0.bare,Un.kept hk,⟨_,x.toInCall.ns,fun i y v h1 h2 h3=>?_⟩,fun y c h=>⟨_,x.cell y c h⟩,e0.hok.fresh (Nat.le_refl _),fun y c h=>?_,fun p hp=>absurd (show p∈([]:List (Addr×Obj)) from hp) (by simp),e0.hok.kept hk,?_⟩
 · exact name_of_addr x.apart (PySem.mem_of_lookup h1) (PySem.mem_of_lookup h2)
 · have hy:scope.names.lookup y=some .cell∨scope.names.lookup y=some .free:=hy
   rcases hy with hy | hy
   · exact cell_has hy
   · exact absurd rfl (S.nofree _ (PySem.mem_of_lookup hy))
 · exact Nat.le_of_lt (x.above y c (PySem.mem_of_lookup h))
 · have hi:i<vs.length:=by
    unfold start at h2
    by_cases hi:i<vs.length
    · exact hi
    · rw [List.getElem?_append_right (by simpa using hi)] at h2
      rw [List.getElem?_replicate] at h2
      split at h2 <;> cases h2
   have ha:vs[i]? = some v:=by
    unfold start at h2
    rw [List.getElem?_append_left (by simpa using hi),List.getElem?_map] at h2
    cases e:vs[i]? with
    | none=>rw [e] at h2;cases h2
    | some a=>rw [e] at h2;cases h2;rfl
   obtain ⟨u,hu,rv⟩:=r.get ha
   have hp:ps[i]? = some y:=by
    rw [← S.pre,List.getElem?_take_of_lt (by omega)];exact h1
   have ndP:ps.Nodup:=by rw [← S.pre];exact S.nd.sublist (List.take_sublist _ _)
   refine ⟨u,rv,?_⟩
   rcases S.par y (List.mem_of_getElem? hp) with k | k
   · exact .inl ⟨k,bindL_get ndP hp hu k⟩
   · obtain ⟨c,e⟩:=cell_has (n:=s.heap.objs.size+1) k
     refine .inr ⟨.inl k,c,e,?_⟩
     have q:=x.cell y c e
     rw [bindC_get ndP hp hu (by show scope.names.lookup y≠_;rw [k];decide)] at q
     exact q
 · exact e0.hok.fresh (Nat.le_of_lt (x.above y c (PySem.mem_of_lookup h)))
 · unfold start
   show _=N.length
   rw [List.length_append,List.length_map,List.length_replicate]
   omega
theorem fn_of {CX:CXT} {P:Program} {w:World} {K:PySem.W.Frag} {mg:Str→Option Value} {base:Heap} {k:Nat} {f:Addr} {name qual:Str} {params:Arguments} {body:List Stmt} {scope:Scope} {dV kV doc pm cdv ct oc:Value} {an od:Option Addr}
 {osl:Array (Option Value)} {N ps:List Str} {sp:Sp} (lk:K.lookup f=some ⟨oc,od,.func (PySem.W.fnOf name qual params body scope dV kV doc pm an cdv ct),osl⟩) (hcd:PySem.W.codeIn K cdv qual=true) (S:FnScope N ps scope)
 (len:∀ vs H Q E,sp vs H Q E→vs.length=ps.length)
 (hbody:∀ (A:Around) (outer:List Env) (s:Shared) (H:Hp) (vs:List V) (Q:VK) (E:XK),Room k (A.deeper (envOfC qual scope s.heap.objs.size f cdv))→sp vs H Q E →
   ∃ t,PSs (cxOf CX P w K mg base N qual scope f cdv A outer s H E) body t∧t { nx:=fun _ H'=>Q .non H',rt:=Q } (start N vs) H) :
 FnOk P w K mg base CX (k+1) f (PySem.W.fnOf name qual params body scope dV kV doc pm an cdv ct) ps sp:=by
 refine ⟨len,fun A outer s H args us vs Q E hr e0 hb r hsp=>?_⟩
 have hl:=len _ _ _ _ hsp
 have KX:K.In s.heap:=e0.mod.kin.keeps fun b o e=>(e0.bs b o e).1
 have lim:s.heap.NoLimit:=e0.mod.nolimit.keeps fun b o e=>(e0.bs b o e).1
 have hkind:∀ y∈ps.zip us,scope.names.lookup y.1=some .local∨(scope.names.lookup y.1=some .cell∧((cellsFrom (s.heap.objs.size+1) scope.names []).lookup y.1).isSome=true):=fun ⟨n,v⟩ hy=>by
  rcases S.par n (List.of_mem_zip hy).1 with q | q
  · exact .inl q
  · exact .inr ⟨q,PySem.W.cellsFrom_some _ _ _ (.inl q)⟩
 refine codeAny_call_function hr.depth (KX _ _ lk) rfl S.co S.gen rfl (PySem.W.codeRec_of KX hcd) (hb _ _ _ _ ?_)
 refine wpAny_newFunctionEnv_cells S.kind hkind fun env he s1 x=>?_
 subst he
 refine ⟨lim.keeps x.toInCall.keep,codeAny_func ?_⟩
 obtain ⟨t,ht,hq⟩:=hbody A outer s H vs Q E (hr.deeper _) hsp
 have I:Inv (cxOf CX P w K mg base N qual scope f cdv A outer s H E) [] (start N vs) H s1:=inv_start S hr.hd e0 hl r x
 refine wpAny_mono (ht [] s1 (start N vs) H _ I hq) (fun fl s' hs=>?_) fun e s' hs=>hs
 have fin:∀ {σ':St} {H':Hp} {v:V} {u:Value},Inv (cxOf CX P w K mg base N qual scope f cdv A outer s H E) [] σ' H' s'→RelV v u→Q v H'→CE outer P w H s Q u s':=
  fun {σ' H' v u} J rv q=>⟨v,H',J.os,J.bare,J.base,J.hok,rv,q⟩
 cases fl with
 | ret u=>
   obtain ⟨v,σ',H',J,rv,q⟩:=hs
   exact fin J rv q
 | next=>
   obtain ⟨σ',H',J,q⟩:=hs
   exact fin (v:=V.non) (u:=Value.none) J rfl q
 | brk=>
   obtain ⟨_,_,_,q⟩:=hs
   exact False.elim q
 | cont=>
   obtain ⟨_,_,_,q⟩:=hs
   exact False.elim q
section
variable {X:Cx} {x:Str} {p pos:Pos} {e:Expr} {es:List Expr} {t:TA} {id T:String} {r:List V→Hp→VK→Prop}
def tCB (r:List V→Hp→VK→Prop) (t:TA):TE:=fun σ H Q=>t σ H fun vs H1=>r vs H1 Q
theorem pe_callB (hc:CallR X (.builtin id) r) (hg:Gl X x) (hm:X.mg x=none) (hv:bootBuiltins x=some (.builtin id)) (ha:PA X (e::es) t) (hn:x≠"__name__":=by decide) (hdb:(x == ("__debug__" : Str))=false:=by decide)
 (he:starEach (e::es) X.env=(false,eval e X.env)::starEach es X.env:=by rfl) (hpl:(backTo pos (starEach es X.env)).any (·.1)=false:=by rfl):PE X (.Call (.Name x p) (e::es) [] pos) (tCB r t):=by
 intro pins s σ H Q I h
 refine wpAny_Call_Name_kw (ld_blt I hg hm hv ?_ hn hdb)
 exact PyProof.Rows.callWith_builtin1 (thn (ha pos pins s σ H _ I h) fun us s1 ⟨vs,H1,I1,r1,q1⟩=>hc pins s1 σ H1 vs us Q I1 r1 q1) he hpl
theorem pe_callTy (hc:CallR X (.type T) r) (hg:Gl X x) (hm:X.mg x=none) (hv:bootBuiltins x=some (.type T)) (ha:PA X (e::es) t) (hn:x≠"__name__":=by decide) (hdb:(x == ("__debug__" : Str))=false:=by decide)
 (he:starEach (e::es) X.env=(false,eval e X.env)::starEach es X.env:=by rfl) (hpl:(backTo pos (starEach es X.env)).any (·.1)=false:=by rfl):PE X (.Call (.Name x p) (e::es) [] pos) (tCB r t):=by
 intro pins s σ H Q I h
 refine wpAny_Call_Name_kw (ld_blt I hg hm hv ?_ hn hdb)
 exact PyProof.Rows.callWith_type1 (thn (ha pos pins s σ H _ I h) fun us s1 ⟨vs,H1,I1,r1,q1⟩=>hc pins s1 σ H1 vs us Q I1 r1 q1) he hpl
end
end L2
namespace HT
open PySem PyProof.Rows
section
variable {prog:Program} {w:World} {A:Around} {E:Value→Shared→Prop} {s:Shared}
theorem cat_tup {t b:Addr} {vs ws:List Value} {Q:Value→Shared→Prop} (ht:IsTup s.heap t vs.toArray) (hb:IsTup s.heap b ws.toArray) (hv:vs≠[])
 (h1:ws=[]→Q (.ref t) s) (h2:ws≠[]→Q (.ref s.heap.objs.size) { s with heap:=s.heap.push { cls:=.type "tuple",data:=.seq (vs++ws).toArray } })
 (hsz:vs.length+ws.length≤sizeLine):wpAny (model prog w) A (binaryOp .Add (.ref t) (.ref b)) Q E s:=by
 obtain ⟨⟨cls,dd,data,sl⟩,ho,hc,n,hd⟩:=id ht
 obtain ⟨⟨cls2,dd2,data2,sl2⟩,ho2,hc2,n2,hd2⟩:=id hb
 simp only at hc hd hc2 hd2
 subst hc hd hc2 hd2
 have e:vs.toArray++ws.toArray=(vs++ws).toArray:=by simp
 by_cases hw:ws=[]
 · exact concat_meets ⟨_,ho,rfl⟩ ⟨_,ho2,rfl⟩ noFill_tuple_add seq_tuple_add PySem.F.slot_tuple_add PySem.F.entry_tuple_add (PySem.F.args_tuple_add_2 _ _)
    (tuple_addW1 t b vs.toArray ws.toArray n n2 dd dd2 sl sl2 (by simpa using hv) (by simp [hw])) ⟨ho,ho2,h1 hw⟩
 · refine concat_meets ⟨_,ho,rfl⟩ ⟨_,ho2,rfl⟩ noFill_tuple_add seq_tuple_add PySem.F.slot_tuple_add PySem.F.entry_tuple_add (PySem.F.args_tuple_add_2 _ _)
    (tuple_addW2 t b vs.toArray ws.toArray n n2 dd dd2 sl sl2 (by simpa using hv) (by simpa using hw) (by rw [List.size_toArray,List.size_toArray];exact hsz)) ⟨ho,ho2,?_⟩
   rw [e]
   exact h2 hw
theorem slicePart_ {v:Value} {o:Option Int} {Q:Option Int→Shared→Prop} (p:IsPart v o) (h:Q o s):wpAny (model prog w) A (Builtin.Slice.slicePartIndex v) Q E s:=by
 cases p with
 | none=>exact slicePart_none h
 | int i t=>exact slicePart_int h
end
end HT
namespace L2
open PySem PySem.Spec PyProof.Rows
theorem intsAre_of {ns:List Int}:∀ {us:List Value},Vals (ns.map V.int) us→IntsAre us ns:=by
 induction ns with
 | nil=>intro us r;rw [List.map_nil] at r;cases r;exact .nil
 | cons n ns ih=>
   intro us r
   rw [List.map_cons] at r
   cases r with
   | cons r1 r2=>
     obtain ⟨t,e⟩:=r1
     subst e
     exact .cons n t (ih r2)
section
variable {X:Cx} {e:Expr} {te:TE} {lo hi:Option Expr} {tl th:TO} {pos p2:Pos}
def rCatT (K:PySem.W.Frag):R2:=fun x y H Q=>∃ a b xs ys,x=.ref a∧y=.ref b∧SqT K H a xs∧SqT K H b ys∧xs≠[]∧xs.length+ys.length≤sizeLine ∧
 (ys=[]→Q (.ref a) H)∧(ys≠[]→∀ p,H p=none→Q (.ref p) (upd H p (.tup (xs++ys))))
theorem Vals.nil_iff {xs:List V} {us:List Value} (r:Vals xs us):us=[]↔xs=[]:=by
 cases r with
 | nil=>simp
 | cons _ _=>simp
theorem op_catT:OpR X (binaryOp .Add) (rCatT X.K):=by
 intro pins s σ H x y v u Q I rx ry h
 obtain ⟨a,b,xs,ys,rfl,rfl,ha,hb,hx,hz,q1,q2⟩:=h
 cases rx
 cases ry
 obtain ⟨its,r1,p1,_⟩:=I.tuple ha
 obtain ⟨its2,r2,p2,_⟩:=I.tuple hb
 refine HT.cat_tup p1 p2 (fun z=>hx (r1.nil_iff.mp z)) (fun z=>⟨.ref a,H,I,rfl,q1 (r2.nil_iff.mp z)⟩) (fun z=>?_) (by rw [← r1.length,← r2.length];exact hz)
 refine ⟨.ref s.heap.objs.size,_,I.laid (t':=s.toks) (o:=.tup (xs++ys)) (fun b ob q=>Heap.get?_push_of_some _ q) (Nat.le_refl _) ?_,rfl,q2 (fun w=>z (r2.nil_iff.mpr w)) _ (I.hok.fresh (Nat.le_refl _))⟩
 exact ⟨by rw [List.length_append];exact hz,_,r1.append r2,TupD.new _ _⟩
end
def ixN (n:Nat) (i:Int):Option Nat:=if 0≤i then (if i<n then some i.toNat else none) else if -(n:Int)≤i then some (i+n).toNat else none
def atI {α:Type} (xs:List α) (i:Int):Option α:=(ixN xs.length i).bind fun j=>xs[j]?
theorem ixN_seq {n:Nat} {i:Int} {j:Nat} (h:ixN n i=some j):seqIndex? i n=some j∧j<n∧-(n:Int)≤i∧i<n:=by
 unfold ixN at h
 by_cases h0:0≤i
 · rw [if_pos h0] at h
   by_cases h1:i<n
   · rw [if_pos h1] at h
     have e:i.toNat=j:=Option.some.inj h
     exact ⟨by rw [seqIndex_of h0 h1,e],by omega,by omega,h1⟩
   · rw [if_neg h1] at h;cases h
 · rw [if_neg h0] at h
   by_cases h1:-(n:Int)≤i
   · rw [if_pos h1] at h
     have e:(i+n).toNat=j:=Option.some.inj h
     exact ⟨by rw [seqIndex_neg (by omega) h1,e],by omega,h1,by omega⟩
   · rw [if_neg h1] at h;cases h
theorem atI_get {α:Type} {xs:List α} {i:Int} {v:α} (h:atI xs i=some v):∃ j,seqIndex? i xs.length=some j∧xs[j]? = some v∧j<xs.length∧-(xs.length:Int)≤i∧i<xs.length:=by
 unfold atI at h
 cases e:ixN xs.length i with
 | none=>rw [e] at h;cases h
 | some j=>
   rw [e] at h
   obtain ⟨h1,h2,h3,h4⟩:=ixN_seq e
   exact ⟨j,h1,h,h2,h3,h4⟩
theorem atI_nat {α:Type} {xs:List α} {j:Nat} {v:α} (h:xs[j]? = some v):atI xs (j:Int)=some v:=by
 have hj:j<xs.length:=(List.getElem?_eq_some_iff.mp h).1
 have e:ixN xs.length (j:Int)=some j:=by
  unfold ixN
  rw [if_pos (by omega),if_pos (by omega)];simp
 unfold atI;rw [e];exact h
theorem atI_last {α:Type} (xs:List α) (v:α):atI (xs++[v]) (-1)=some v:=by
 have hl:(xs++[v]).length=xs.length+1:=by simp
 have e:ixN (xs++[v]).length (-1)=some xs.length:=by
  unfold ixN
  rw [hl,if_neg (by decide),if_pos (by omega)]
  congr 1
  omega
 unfold atI
 rw [e]
 show (xs++[v])[xs.length]? = some v
 simp
def PlainIx (b:Expr):Prop:=∀ o i,subscripted b false o i=operate [o,i] (getItem o i)
def IxR (X:Cx) (r:R2):Prop:=
 ∀ (value slice:Expr) (pins:List (Addr×Obj)) (s:Shared) (σ:St) (H:Hp) (x y:V) (v u:Value) (Q:VK),Inv X pins σ H s→RelV x v→RelV y u→r x y H Q →
   subscripted slice false v u=operate [v,u] (getItem v u)→wpAny (model X.prog X.w) X.A (subscriptTail value slice v u) (EP X pins σ Q) X.xe s
def MtR (X:Cx) (id:String) (r:V→List V→Hp→VK→Prop):Prop:=
 ∀ (pins:List (Addr×Obj)) (s:Shared) (σ:St) (H:Hp) (x:V) (xs:List V) (v:Value) (us:List Value) (Q:VK),Inv X pins σ H s→RelV x v→Vals xs us→r x xs H Q →
   wpAny (model X.prog X.w) X.A (call (.builtin id) (v::us)) (EP X pins σ Q) X.xe s
section
variable {X:Cx} {a b:Expr} {ta tb:TE} {pos:Pos}
theorem pe_ix {r:R2} (hr:IxR X r) (ha:PE X a ta) (hb:PE X b tb) (hs:PlainIx b):PE X (.Subscript a b pos) (tOp r ta tb):=by
 intro pins s σ H Q I h
 exact Subscript_ (binT ha hb I h fun v u s2 x y H2 I2 rx ry q=>hr a b pins s2 σ H2 x y v u Q I2 rx ry q (hs _ _))
theorem ze_ix {r:R2} (hr:IxR X r) (ha:ZE X a ta) (hb:ZE X b tb) (hs:PlainIx b):ZE X (.Subscript a b pos) (tOp r ta tb):=by with_unfolding_all exact pe_ix hr ha hb hs
def rIxL (K:PySem.W.Frag):R2:=fun x y H Q=>∃ p xs i v,x=.ref p∧y=.int i∧SqL K H p xs∧atI xs i=some v∧Q v H
def rIxT (K:PySem.W.Frag):R2:=fun x y H Q=>∃ p xs i v,x=.ref p∧y=.int i∧SqT K H p xs∧atI xs i=some v∧Q v H
theorem ix_list:IxR X (rIxL X.K):=by
 intro value slice pins s σ H x y v u Q I rx ry h hs
 obtain ⟨p,xs,i,z,rfl,rfl,hq,he,q⟩:=h
 cases rx
 obtain ⟨t,rfl⟩:=ry
 obtain ⟨its,r,pl,hz⟩:=I.list hq
 obtain ⟨j,h1,h2,h3,h4,h5⟩:=atI_get he
 obtain ⟨w,ew,rw'⟩:=r.get h2
 have hl:=r.length
 have hn:=line63
 have fin:EP X pins σ Q w s:=⟨z,H,I,rw',q⟩
 by_cases h0:0≤i
 · have hj:i.toNat=j:=by
    rw [seqIndex_of h0 h5] at h1
    exact Option.some.inj h1
   exact item_listR pl.isList h0 (by omega) (by rw [hj];simpa using ew) fin hs
 · have hj:(i+(its.toArray.size:Int)).toNat=j:=by
    rw [seqIndex_neg (by omega) h4] at h1
    rw [List.size_toArray,← hl]
    exact Option.some.inj h1
   exact subscriptTail_builtinR (x:=w) pl.isList.typeIs slot_list_getitem.lookup
    (wpAny_getItem_list_neg (Q:=fun r s'=>r=w∧EP X pins σ Q r s') pl.isList (by omega) (by rw [List.size_toArray] <;> omega) (by omega) (by rw [hj];simpa using ew) ⟨rfl,fin⟩) hs
theorem ix_tup:IxR X (rIxT X.K):=by
 intro value slice pins s σ H x y v u Q I rx ry h hs
 obtain ⟨p,xs,i,z,rfl,rfl,hq,he,q⟩:=h
 cases rx
 obtain ⟨t,rfl⟩:=ry
 obtain ⟨its,r,pl,hz⟩:=I.tuple hq
 obtain ⟨j,h1,h2,h3,h4,h5⟩:=atI_get he
 obtain ⟨w,ew,rw'⟩:=r.get h2
 have hl:=r.length
 have hn:=line63
 have fin:EP X pins σ Q w s:=⟨z,H,I,rw',q⟩
 exact subscriptTail_builtinR (x:=w) pl.typeIs slot_tuple_getitem.lookup
  (getItem_tuple (j:=j) (Q:=fun r s'=>r=w∧EP X pins σ Q r s') pl (by omega) (by omega) (by rw [List.size_toArray,← hl];exact h1) (by simpa using ew) ⟨rfl,fin⟩) hs
theorem mapSeq_set (its:List Value) (n j:Nat) (u:Value):Obj.mapSeq (·.setIfInBounds j u) { cls:=.type "list",data:=.seq its.toArray n }={ cls:=.type "list",data:=.seq (its.set j u).toArray n }:=by
 simp [Obj.mapSeq]
theorem Inv.lst {pins:List (Addr×Obj)} {σ:St} {H:Hp} {s:Shared} {p:Addr} {xs:List V} (I:Inv X pins σ H s) (h:H p=some (.lst xs)) :
 ∃ (its:List Value) (n:Nat),Vals xs its∧s.heap.get? p=some { cls:=.type "list",data:=.seq its.toArray n }∧xs.length≤sizeLine:=by
 obtain ⟨z,its,n,r,e⟩:=I.hok p _ h
 exact ⟨its,n,r,e,z⟩
theorem Inv.lstUpd {pins:List (Addr×Obj)} {σ:St} {H:Hp} {s:Shared} {p:Addr} {xs ys:List V} {its its':List Value} {n n':Nat} {f:Obj→Obj} (I:Inv X pins σ H s) (h:H p=some (.lst xs))
 (ho:s.heap.get? p=some { cls:=.type "list",data:=.seq its.toArray n }) (hf:f { cls:=.type "list",data:=.seq its.toArray n }={ cls:=.type "list",data:=.seq its'.toArray n' }) (r:Vals ys its') (hz:ys.length≤sizeLine) (t:Nat) :
 Inv X pins σ (upd H p (.lst ys)) { s with heap:=s.heap.update p f,toks:=t }:=by
 have e:(s.heap.update p f).get? p=some { cls:=.type "list",data:=.seq its'.toArray n' }:=by
  rw [Heap.get?_update_self f ho (by rw [hf] <;> rfl),hf]
 refine I.write (x:=p) (e:=p) (by rw [h];trivial) (.inl rfl) (fun b u hb q=>(Heap.get?_update_other _ _ (Ne.symm hb)).trans q) ⟨_,e⟩ ?_
 exact ⟨hz,its',n',r,e⟩
def rSetL:V→V→V→Hp→(Hp→Prop)→Prop:=fun o i v H Q=>∃ p xs k j,o=.ref p∧i=.int k∧H p=some (.lst xs)∧ixN xs.length k=some j∧Q (upd H p (.lst (xs.set j v)))
theorem set_list:PSet X rSetL:=by
 intro pins s σ H o i v ov iv u Q I ro ri rv h
 obtain ⟨p,xs,k,j,rfl,rfl,hp,hj,q⟩:=h
 cases ro
 obtain ⟨t,rfl⟩:=ri
 obtain ⟨its,n,r,ho,hz⟩:=I.lst hp
 obtain ⟨h1,h2,h3,h4⟩:=ixN_seq hj
 have hl:=r.length
 have hn:=line63
 have I':Inv X pins σ (upd H p (.lst (xs.set j v))) { s with heap:=s.heap.update p (Obj.mapSeq (·.setIfInBounds j u)) }:=
  I.lstUpd hp ho (mapSeq_set its n j u) (r.set rv j) (by rw [List.length_set];exact hz) s.toks
 by_cases h0:0≤k
 · have hk:k.toNat=j:=by
    rw [seqIndex_of h0 h4] at h1
    exact Option.some.inj h1
   exact PySem.W.ki_setAt ho h0 (by omega) (by rw [List.size_toArray,← hl];exact h4) (by rw [hk];exact ⟨_,I',q⟩)
 · have hk:(k+(its.toArray.size:Int)).toNat=j:=by
    rw [seqIndex_neg (by omega) h3] at h1
    rw [List.size_toArray,← hl]
    exact Option.some.inj h1
   exact PySem.W.ki_setBack ho (by omega) (by rw [List.size_toArray,← hl];exact h3) (by omega) (by rw [hk];exact ⟨_,I',q⟩)
def flatV:V→Bool
 | .non=>true
 | .bl _=>true
 | .int _=>true
 | .str _=>true
 | _=>false
def eqV:V→V→Bool
 | .non,.non=>true
 | .bl a,.bl b=>a == b
 | .bl a,.int b=>(if a then 1 else 0) == b
 | .int a,.bl b=>a == (if b then 1 else 0)
 | .int a,.int b=>a == b
 | .str a,.str b=>a == b
 | _,_=>false
theorem eqAt_V {A:Around} {s:Shared} {y x:V} {u v:Value} (ry:RelV y u) (rx:RelV x v) (fy:flatV y=true) (fx:flatV x=true):SeqAt.EqAt A s u v (eqV y x):=by
 cases y with
 | non=>
   cases ry
   cases x with
   | non=>cases rx;exact SeqAt.EqAt.same _
   | bl b=>cases rx;exact SeqAt.EqAt.none_bool b
   | int b=>obtain ⟨t,rfl⟩:=rx;exact SeqAt.EqAt.none_int b t
   | str b=>obtain ⟨t,rfl⟩:=rx;exact SeqAt.EqAt.none_str b t
   | _=>exact absurd (show false=true from fx) Bool.false_ne_true
 | bl a=>
   cases ry
   cases x with
   | non=>cases rx;exact SeqAt.EqAt.bool_none a
   | bl b=>cases rx;exact SeqAt.EqAt.bool_bool a b
   | int b=>obtain ⟨t,rfl⟩:=rx;exact SeqAt.EqAt.bool_int a b t
   | str b=>obtain ⟨t,rfl⟩:=rx;exact SeqAt.EqAt.bool_str a b t
   | _=>exact absurd (show false=true from fx) Bool.false_ne_true
 | int a=>
   obtain ⟨t',rfl⟩:=ry
   cases x with
   | non=>cases rx;exact SeqAt.EqAt.int_none a t'
   | bl b=>cases rx;exact SeqAt.EqAt.int_bool a t' b
   | int b=>obtain ⟨t,rfl⟩:=rx;exact SeqAt.EqAt.int_int a t' b t
   | str b=>obtain ⟨t,rfl⟩:=rx;exact SeqAt.EqAt.int_str a t' b t
   | _=>exact absurd (show false=true from fx) Bool.false_ne_true
 | str a=>
   obtain ⟨t',rfl⟩:=ry
   cases x with
   | non=>cases rx;exact SeqAt.EqAt.str_none a t'
   | bl b=>cases rx;exact SeqAt.EqAt.str_bool a t' b
   | int b=>obtain ⟨t,rfl⟩:=rx;exact SeqAt.EqAt.str_int a t' b t
   | str b=>obtain ⟨t,rfl⟩:=rx;exact SeqAt.EqAt.str_str a t' b t
   | _=>exact absurd (show false=true from fx) Bool.false_ne_true
 | _=>exact absurd (show false=true from fy) Bool.false_ne_true
def eqU (x:V) (u:Value):Bool:=match u with
 | .none=>eqV .non x
 | .bool b=>eqV (.bl b) x
 | .int i _=>eqV (.int i) x
 | .str z _=>eqV (.str z) x
 | _=>false
theorem eqU_of {x y:V} {u:Value} (r:RelV y u) (f:flatV y=true):eqU x u=eqV y x:=by
 cases y with
 | non=>cases r;rfl
 | bl b=>cases r;rfl
 | int i=>obtain ⟨t,rfl⟩:=r;rfl
 | str z=>obtain ⟨t,rfl⟩:=r;rfl
 | _=>exact absurd (show false=true from f) Bool.false_ne_true
theorem any_eqU {x:V}:∀ {xs:List V} {us:List Value},Vals xs us→xs.all flatV=true→us.any (eqU x)=xs.any fun y=>eqV y x
 | _,_,.nil,_=>rfl
 | y::xs,u::us,.cons r t,f=>by
   rw [List.all_cons,Bool.and_eq_true] at f
   rw [List.any_cons,List.any_cons,eqU_of r f.1,any_eqU t f.2]
theorem mem_eqAt {A:Around} {s:Shared} {x:V} {v:Value} (rx:RelV x v) (fx:flatV x=true):∀ {xs:List V} {us:List Value},Vals xs us→xs.all flatV=true→∀ u∈us,SeqAt.EqAt A s u v (eqU x u)
 | _,_,.nil,_=>fun u hu=>by cases hu
 | y::xs,u::us,.cons r t,f=>fun u' hu=>by
   rw [List.all_cons,Bool.and_eq_true] at f
   rcases List.mem_cons.mp hu with rfl | hu
   · rw [eqU_of r f.1];exact eqAt_V r rx f.1 fx
   · exact mem_eqAt rx fx t f.2 u' hu
def inV (x:V) (xs:List V):Bool:=xs.any fun y=>eqV y x
def rIn (K:PySem.W.Frag) (neg:Bool):R2:=fun x y H Q=>∃ p xs,y=.ref p∧(SqL K H p xs∨SqT K H p xs)∧flatV x=true∧xs.all flatV=true∧Q (.bl (if neg then !inV x xs else inV x xs)) H
theorem op_notIn_seq:OpR X (compareOp .NotIn) (rIn X.K true):=by
 intro pins s σ H x y v u Q I rx ry h
 obtain ⟨p,xs,rfl,hq,fx,fs,q⟩:=h
 cases ry
 rcases hq with hq | hq
 · obtain ⟨its,r,pl,hz⟩:=I.list hq
   refine SeqAt.notIn_listAt (eqU x) pl.isList (fun w hw=>mem_eqAt rx fx r fs w (by simpa using hw)) ⟨.bl _,H,I,rfl,?_⟩
   rw [show its.toArray.any (eqU x)=its.any (eqU x) by simp,any_eqU r fs]
   exact q
 · obtain ⟨its,r,pl,hz⟩:=I.tuple hq
   refine SeqAt.notIn_tupleAt (eqU x) pl (fun w hw=>mem_eqAt rx fx r fs w (by simpa using hw)) ⟨.bl _,H,I,rfl,?_⟩
   rw [show its.toArray.any (eqU x)=its.any (eqU x) by simp,any_eqU r fs]
   exact q
theorem call_len_seq:CallR X (.builtin "len") (fun xs H Q=>∃ p ys,xs=[.ref p]∧(SqL X.K H p ys∨SqT X.K H p ys)∧Q (.int ys.length) H):=by
 intro pins s σ H xs us Q I r h
 obtain ⟨p,ys,rfl,hq,q⟩:=h
 obtain ⟨u,rfl,rx⟩:=vals1 r
 cases rx
 have hn:=line63
 rcases hq with hq | hq
 · obtain ⟨its,r',pl,hz⟩:=I.list hq
   have hlen:=r'.length
   exact Calls.call_len_list pl.isList (by simp only [List.size_toArray] <;> omega) ⟨.int ys.length,H,I.tok _,⟨s.toks+1,by rw [List.size_toArray,hlen]⟩,q⟩
 · obtain ⟨its,r',pl,hz⟩:=I.tuple hq
   have hlen:=r'.length
   exact len_tuple pl (by simp only [List.size_toArray] <;> omega) ⟨.int ys.length,H,I.tok _,⟨s.toks+1,by rw [List.size_toArray,hlen]⟩,q⟩
theorem call_list_of:CallR X (.type "list") (fun xs H Q=>∃ p ys,xs=[.ref p]∧(SqL X.K H p ys∨SqT X.K H p ys)∧∀ l,H l=none→Q (.ref l) (upd H l (.lst ys))):=by
 intro pins s σ H xs us Q I r h
 obtain ⟨p,ys,rfl,hq,q⟩:=h
 obtain ⟨u,rfl,rx⟩:=vals1 r
 cases rx
 have fin:∀ (its:List Value),Vals ys its→ys.length≤sizeLine→∀ (h':Heap) (c':Nat),(∀ b o',s.heap.get? b=some o'→h'.get? b=some o') →
  h'.get? s.heap.objs.size=some { cls:=.type "list",dict:=none,data:=.seq its.toArray c',slots:=#[] }→EP X pins σ Q (.ref s.heap.objs.size) { s with heap:=h' }:=fun its r' hz h' c' kp e=>
  ⟨.ref s.heap.objs.size,_,I.laid (t':=s.toks) kp (Nat.le_refl _) (show ObjOk X.prog X.w _ h' _ (.lst ys) from ⟨hz,its,c',r',e⟩),rfl,q _ (I.hok.fresh (Nat.le_refl _))⟩
 rcases hq with hq | hq
 · obtain ⟨its,r',pl,hz⟩:=I.list hq
   have hlen:=r'.length
   obtain ⟨o,ho,hc,n,hd⟩:=pl.isList
   exact call_list_seq p (.inl rfl) ho hc hd (fun h' c' kp e=>fin its r' hz h' c' kp e) (by simp only [List.size_toArray] <;> omega)
 · obtain ⟨its,r',pl,hz⟩:=I.tuple hq
   have hlen:=r'.length
   obtain ⟨o,ho,hc,n,hd⟩:=pl
   exact call_list_seq p (.inr rfl) ho hc hd (fun h' c' kp e=>fin its r' hz h' c' kp e) (by simp only [List.size_toArray] <;> omega)
theorem call_tuple_of:CallR X (.type "tuple") (fun xs H Q=>∃ p ys,xs=[.ref p]∧((SqL X.K H p ys∧∀ l,H l=none→Q (.ref l) (upd H l (.tup ys)))∨(SqT X.K H p ys∧Q (.ref p) H))):=by
 intro pins s σ H xs us Q I r h
 obtain ⟨p,ys,rfl,h⟩:=h
 obtain ⟨u,rfl,rx⟩:=vals1 r
 cases rx
 rcases h with ⟨hq,q⟩ | ⟨hq,q⟩
 · obtain ⟨its,r',pl,hz⟩:=I.list hq
   have hlen:=r'.length
   refine call_tuple_list pl.isList (fun h' kp=>?_) (by simp only [List.size_toArray] <;> omega)
   have I1:Inv X pins σ H { s with heap:=h' }:=I.kept (t':=s.toks) kp
   have I2:Inv X pins σ (upd H h'.objs.size (.tup ys)) { s with heap:=h'.push { cls:=.type "tuple",data:=.seq its.toArray } }:=
    I1.laid (t':=s.toks) (fun b o e=>Heap.get?_push_of_some _ e) (Nat.le_refl _) (show ObjOk X.prog X.w _ _ _ (.tup ys) from ⟨hz,its,r',TupD.new _ _⟩)
   exact ⟨.ref h'.objs.size,_,I2,rfl,q _ (I1.hok.fresh (Nat.le_refl _))⟩
 · obtain ⟨its,r',pl,hz⟩:=I.tuple hq
   exact call_tuple_same pl ⟨.ref p,H,I,rfl,q⟩
def tyV (K:PySem.W.Frag) (T:String) (x:V) (H:Hp):Prop:=match x with
 | .str _=>T="str"
 | .int _=>T="int"
 | .ref p=>(T="list"∧∃ xs,SqL K H p xs)∨(T="tuple"∧∃ o,K.lookup p=some o∧o.cls=.type "tuple"∧o.dict=none) ∨
  (T="dict"∧((∃ kvs,H p=some (.dK kvs))∨∃ kvs,H p=some (.dT kvs)))∨(T="set"∧∃ S n,H p=some (.set S n))∨(T="tuple"∧∃ xs,H p=some (.tup xs))
 | _=>False
theorem tyV_is {pins:List (Addr×Obj)} {σ:St} {H:Hp} {s:Shared} {T:String} {x:V} {v:Value} (I:Inv X pins σ H s) (r:RelV x v) (ty:tyV X.K T x H) :
 s.TypeIs v T∧∀ a,v=.ref a→∃ ob,s.heap.get? a=some ob∧ob.dict=none:=by
 cases x with
 | str z=>
   obtain ⟨t,rfl⟩:=r
   cases (show T="str" from ty)
   exact ⟨typeIs_str s z t,fun _ e=>nomatch e⟩
 | int i=>
   obtain ⟨t,rfl⟩:=r
   cases (show T="int" from ty)
   exact ⟨typeIs_int s i t,fun _ e=>nomatch e⟩
 | ref p=>
   cases r
   rcases ty with ⟨rfl,xs,hq⟩ | ⟨rfl,o,hk,hc,hd⟩ | ⟨rfl,hk⟩ | ⟨rfl,S,n,hk⟩ | ⟨rfl,xs,hk⟩
   · obtain ⟨its,_,pl,_⟩:=I.list hq
     refine ⟨pl.isList.typeIs,fun a e=>?_⟩
     cases e
     obtain ⟨o,n,e,c,hd,_⟩:=pl
     exact ⟨o,e,hd⟩
   · refine ⟨⟨o,I.kIn p o hk,hc⟩,fun a e=>?_⟩
     cases e
     exact ⟨o,I.kIn _ o hk,hd⟩
   · have z:∃ o,s.heap.get? p=some o∧o.ExactDict:=by
      rcases hk with ⟨kvs,hk⟩ | ⟨kvs,hk⟩
      · obtain ⟨_,_,_,_,o,_,_,e,ex,_⟩:=I.hok p _ hk
        exact ⟨o,e,ex⟩
      · obtain ⟨_,_,_,_,o,_,_,e,ex,_⟩:=I.hok p _ hk
        exact ⟨o,e,ex⟩
     obtain ⟨o,e,ex⟩:=z
     refine ⟨⟨o,e,ex.1⟩,fun a e2=>?_⟩
     cases e2
     exact ⟨o,e,ex.2.1⟩
   · obtain ⟨o,_,_,_,e,ex,_⟩:=I.hok p _ hk
     refine ⟨⟨o,e,ex.1⟩,fun a e2=>?_⟩
     cases e2
     exact ⟨o,e,ex.2.1⟩
   · obtain ⟨_,_,_,n,e⟩:=I.hok p _ hk
     refine ⟨⟨_,e,rfl⟩,fun a e2=>?_⟩
     cases e2
     exact ⟨_,e,rfl⟩
 | _=>exact False.elim ty
def tBM (K:PySem.W.Frag) (T:String) (r:V→List V→Hp→VK→Prop) (to:TE) (t:TA):TE:=fun σ H Q=>to σ H fun x H1=>tyV K T x H1∧t σ H1 fun xs H2=>r x xs H2 Q
variable {o e:Expr} {es:List Expr} {to:TE} {t:TA} {name:Str} {apos cpos:Pos} {T id:String} {r:V→List V→Hp→VK→Prop}
theorem pe_bm (pa:PlainAttrs T) (slot:Slot T name id) (hty:typeOf (.builtin id)=pure (.type "method_descriptor")) (hm:MtR X id r) (ho:PE X o to) (ha:PA X (e::es) t)
 (hbase:attributeBase o name X.env (eval o X.env)=eval o X.env:=by rfl)
 (hfew:((backTo cpos (starEach (e::es) X.env)).all (fun x=>!x.1)&&(backToKw cpos (keywordEach [] X.env)).all (fun x=>x.1.isSome)
   && decide ((e::es).length+([]:List Keyword).length+(if ([]:List Keyword).isEmpty then 0 else 1)<30))=true:=by rfl)
 (hline:(apos.endLine == cpos.line)=true:=by rfl) (hs:starEach (e::es) X.env=(false,eval e X.env)::starEach es X.env:=by rfl) (hplain:(backTo cpos (starEach es X.env)).any (·.1)=false:=by rfl) :
 PE X (.Call (.Attribute o name apos) (e::es) [] cpos) (tBM X.K T r to t):=by
 intro pins s σ H Q I h
 refine wpAny_Call_method_late hbase hfew hline rfl (thn (ho pins s σ H _ I h) fun v s1 ⟨x,H1,I1,r1,ty,q1⟩=>?_)
 obtain ⟨h1,h2⟩:=tyV_is I1 r1 ty
 refine ⟨T,id,pa,slot,hty,h1,h2,?_⟩
 have hA:=ha cpos pins s1 σ H1 _ I1 q1
 rw [hs] at hA ⊢
 refine Calls.callWith_builtin (by show (false||(backTo cpos (starEach es X.env)).any (·.1))=false;rw [hplain] <;> rfl) (Calls.evalArgs_plain ?_)
 exact thn hA fun us s2 ⟨vs,H2,I2,r2,q2⟩=>hm pins s2 σ H2 x vs v us Q I2 r1 r2 q2
/- xs.append(e),list.index on a module's tuple .. are MtR facts of 06m -/
end
def MtM (X:Cx) (id:String) (r:V→List V→Hp→VK→Prop):Prop:=
 ∀ (pins:List (Addr×Obj)) (s:Shared) (σ:St) (H:Hp) (x:V) (xs:List V) (v:Value) (us:List Value) (Q:VK),Inv X pins σ H s→RelV x v→Vals xs us→r x xs H Q →
   wpAny (model X.prog X.w) X.A (call (.builtin id) (v::us)) (EP X pins σ Q) X.xe s
theorem Vals.one:∀ {x:V} {us:List Value},Vals [x] us→∃ u,us=[u]∧RelV x u
 | _,_,.cons r .nil=>⟨_,rfl,r⟩
theorem Vals.reverse {xs:List V} {us:List Value} (h:Vals xs us):Vals xs.reverse us.reverse:=by
 induction h with
 | nil=>exact .nil
 | cons r t ih=>rw [List.reverse_cons,List.reverse_cons];exact Vals.append ih (.cons r .nil)
theorem Vals.rep {xs:List V} {us:List Value} (h:Vals xs us):∀ k:Nat,Vals (List.replicate k xs).flatten (List.replicate k us).flatten
 | 0=>.nil
 | k+1=>by
   rw [List.replicate_succ,List.replicate_succ,List.flatten_cons,List.flatten_cons]
   exact Vals.append h (Vals.rep h k)
theorem foldl_rep (its:List Value):∀ (k:Nat) (acc:List Value),
 List.foldl (fun x1 x2=>x1++x2) acc.toArray (List.replicate k its.toArray)=(acc++(List.replicate k its).flatten).toArray
 | 0,acc=>by simp
 | k+1,acc=>by
   have e:acc.toArray++its.toArray=(acc++its).toArray:=by simp
   have e2:(acc++its)++(List.replicate k its).flatten=acc++(List.replicate (k+1) its).flatten:=by
    rw [List.replicate_succ,List.flatten_cons,List.append_assoc]
   rw [← e2,← foldl_rep its k (acc++its),← e,List.replicate_succ,List.foldl_cons]
section
variable {X:Cx} {pins:List (Addr×Obj)} {σ:St} {H:Hp} {s:Shared} {l b:Addr} {xs ys zs:List V}
theorem Inv.lset {its its':List Value} {n:Nat} {f:Array Value→Array Value} {t':Nat} (I:Inv X pins σ H s) (hH:H l=some (.lst xs))
 (e:s.heap.get? l=some { cls:=.type "list",data:=.seq its.toArray n }) (hf:f its.toArray=its'.toArray) (hv:Vals ys its') (hz:ys.length≤sizeLine) :
 Inv X pins σ (upd H l (.lst ys)) { s with heap:=s.heap.update l (Obj.mapSeq f),toks:=t' }:=by
 have q:=PySem.IsL.update e f
 rw [hf] at q
 refine I.write (x:=l) (e:=l) (by rw [hH];exact trivial) (.inl rfl) (fun b' u hb hu=>(Heap.get?_update_other s.heap (Obj.mapSeq f) (Ne.symm hb)).trans hu) ⟨_,q⟩ ?_
 exact ⟨hz,its',_,hv,q⟩
theorem Inv.lnew {its:List Value} {t':Nat} (I:Inv X pins σ H s) (hv:Vals ys its) (hz:ys.length≤sizeLine) :
 Inv X pins σ (upd H s.heap.objs.size (.lst ys)) { s with heap:=s.heap.push { cls:=.type "list",data:=.seq its.toArray },toks:=t' }:=
 I.laid (fun _ _ q=>Heap.get?_push_of_some _ q) (Nat.le_refl _) ⟨hz,its,0,hv,Heap.get?_push_size _ rfl⟩
theorem Inv.fresh (I:Inv X pins σ H s):H s.heap.objs.size=none:=I.hok.fresh (Nat.le_refl _)
theorem Inv.lstM (I:Inv X pins σ H s) (hH:H l=some (.lst xs)):xs.length≤sizeLine∧∃ (its:List Value) (n:Nat),Vals xs its∧xs.length=its.length∧s.heap.get? l=some { cls:=.type "list",data:=.seq its.toArray n }:=by
 obtain ⟨z,its,n,r,e⟩:=I.hok l _ hH
 exact ⟨z,its,n,r,r.length,e⟩
theorem notLongL {n:Nat} (h:n≤sizeLine):Builtin.List.listTooLong n=false:=by
 unfold Builtin.List.listTooLong
 exact decide_eq_false (by omega)
end
section
variable {X:Cx}
def rAppend:V→List V→Hp→VK→Prop:=fun x vs H Q=>∃ l xs y,x=.ref l∧vs=[y]∧H l=some (.lst xs)∧xs.length<sizeLine∧Q .non (upd H l (.lst (xs++[y])))
theorem mt_append:MtM X "list.append" rAppend:=by
 intro pins s σ H x vs v us Q I rx rv h
 obtain ⟨l,xs,y,rfl,rfl,hH,hz,q⟩:=h
 cases rx
 obtain ⟨u,rfl,ru⟩:=rv.one
 obtain ⟨z,its,n,r,hl,e⟩:=I.lstM hH
 refine call_meets F.slot_list_append ⟨_,e,rfl⟩ F.entry_list_append (F.args_list_append_2 _ _) (PySem.list_append l its.toArray n u (by rw [List.size_toArray];omega)) ⟨e,?_⟩
 refine ⟨.non,_,I.lset (its':=its++[u]) hH e (by simp) (r.append (.cons ru .nil)) ?_,rfl,q⟩
 rw [List.length_append,List.length_singleton]
 omega
def rCat:R2:=fun x y H Q=>∃ l b xs zs,x=.ref l∧y=.ref b∧H l=some (.lst xs)∧H b=some (.lst zs)∧xs.length+zs.length≤sizeLine∧∀ p,H p=none→Q (.ref p) (upd H p (.lst (xs++zs)))
theorem op_cat:OpR X (binaryOp .Add) rCat:=by
 intro pins s σ H x y v u Q I rx ry h
 obtain ⟨l,b,xs,zs,rfl,rfl,hH,hB,hz,q⟩:=h
 cases rx
 cases ry
 obtain ⟨z,its,n,r,hl,e⟩:=I.lstM hH
 obtain ⟨z2,its2,n2,r2,hl2,e2⟩:=I.lstM hB
 refine PySem.P.add_list e e2 ?_ (by rw [List.size_toArray,List.size_toArray];omega)
 have ea:its.toArray++its2.toArray=(its++its2).toArray:=by simp
 rw [ea]
 exact ⟨.ref _,_,I.lnew (t':=s.toks) (r.append r2) (by rw [List.length_append];omega),rfl,q _ I.fresh⟩
def rRep:R2:=fun x y H Q=>∃ l k xs,x=.ref l∧y=.int k∧H l=some (.lst xs)∧-(2 ^ 63)≤k∧k<2 ^ 63∧xs.length*k.toNat≤sizeLine ∧
 ∀ p,H p=none→Q (.ref p) (upd H p (.lst (List.replicate k.toNat xs).flatten))
theorem len_rep {α:Type} (xs:List α) (k:Nat):(List.replicate k xs).flatten.length=k*xs.length:=by
 induction k with
 | zero=>simp
 | succ k ih=>rw [List.replicate_succ,List.flatten_cons,List.length_append,ih,Nat.succ_mul,Nat.add_comm]
theorem op_rep:OpR X (binaryOp .Mult) rRep:=by
 intro pins s σ H x y v u Q I rx ry h
 obtain ⟨l,k,xs,rfl,rfl,hH,h1,h2,hz,q⟩:=h
 cases rx
 obtain ⟨t,rfl⟩:=ry
 obtain ⟨z,its,n,r,hl,e⟩:=I.lstM hH
 have hlen:its.toArray.size*k.toNat≤sizeLine:=by rw [List.size_toArray,← hl];exact hz
 have hcap:¬ its.toArray.size*k.toNat > (2 ^ 63 - 1) / 8:=by
  have:(sizeLine:Nat)≤(2 ^ 63 - 1) / 8:=by decide
  omega
 have hfit:¬ (!Builtin.List.listFitsIndex k)=true:=by
  rw [fitsIndex_both h1 h2]
  exact Bool.false_ne_true
 have hlong:¬ Builtin.List.listTooLong (its.toArray.size*k.toNat)=true:=by
  rw [notLongL hlen]
  exact Bool.false_ne_true
 have hnew:List.foldl (fun x1 x2=>x1++x2) #[] (List.replicate (if its.toArray.isEmpty=true then 0 else k.toNat) its.toArray)=(List.replicate k.toNat its).flatten.toArray:=by
  have f0:∀ m:Nat,List.foldl (fun x1 x2=>x1++x2) #[] (List.replicate m its.toArray)=(List.replicate m its).flatten.toArray:=fun m=>by
   have:=foldl_rep its m []
   rw [List.nil_append] at this
   exact this
  rw [f0]
  cases its with
  | nil=>simp
  | cons a r'=>rw [if_neg (by simp)]
 refine wpAny_binaryOp_repeat_ref (T:="list") (U:="int") (by decide) ⟨_,e,rfl⟩ (fun s'=>typeIs_int s' k t) noFill_list_mul F.fills_int_mul F.slot_int_rmul repeat_list F.slot_int_index.lookup
  (call_meets F.slot_int_rmul (typeIs_int s k t) F.entry_int_rmul (F.args_int_rmul_2 _ _) (int___rmul___int_list k t l its.toArray n)
    ⟨e,rfl,⟨_,e,rfl⟩,call_meets F.slot_list_mul ⟨_,e,rfl⟩ F.entry_list_mul (F.args_list_mul_2 _ _) (AutoListH.list___mul___list_int_3 l its.toArray n k t hfit hcap hlong) ⟨e,?_⟩⟩)
 rw [hnew]
 exact ⟨.ref _,_,I.lnew (t':=s.toks) (r.rep k.toNat) (by rw [len_rep,Nat.mul_comm];exact hz),rfl,q _ I.fresh⟩
end
end L2
namespace Att
open PySem PySem.W PySem.Calls PyProof.Rows
theorem ints_of_wellAll {P:Params} {h:Heap}:∀ (ns:List Int) (vs:List Value),WellAll P h vs (ns.map WData.int)→IntsAre vs ns:=by
 intro ns
 induction ns with
 | nil=>
   intro vs w
   rw [List.map_nil] at w
   cases w
   exact .nil
 | cons n ns ih=>
   intro vs w
   rw [List.map_cons] at w
   cases w with
   | cons a b=>
     cases a
     exact .cons _ _ (ih _ b)
theorem script_of {l:OpenLaw} {n:Nat} (hn:l.most=some n) {P:Params} {h:Heap} {args:List WData} {vals:List Value}
 (hpre:l.row.toRowW.claim.pre args=true) (hwl:WellAll P h vals args) :
 ∃ a vs ns,vals=[Value.ref a]∧args=[WData.list (ns.map WData.int)]∧h.get? a=some { cls:=.type "list",data:=.seq vs.toArray }∧IntsAre vs ns∧ns.length≤n:=by
 have hsh:WShape.hasAll [] args [.list .int]=true:=(pre_splitW hpre).1
 have hc:l.pre.holds [] { args:=args }=true:=(pre_splitW hpre).2
 obtain ⟨d,r,rfl,h1,h2⟩:=hasAllW_cons hsh
 obtain rfl:=hasAllW_nil h2
 obtain ⟨xs,rfl,h3⟩:=hasW_list h1
 obtain ⟨ns,rfl⟩:=items_int h3
 have hlen:ns.length≤n:=by
  unfold OpenLaw.pre at hc
  have h4:(WTm.not (.lt (.lit (.int (n:Int))) (.len (.arg 0)))).holds [] { args:=[.list (ns.map .int)] }=true:=by
   have h4:=(holds_andW hc).1
   rw [hn] at h4
   exact h4
  have h5:=condW_of h4 (w_not (w_lt w_lit (w_len_list (w_arg rfl))))
  rw [List.length_map] at h5
  refine Nat.le_of_not_lt fun q=>?_
  have q':(n:Int)<((ns.length:Nat):Int):=by omega
  first
   | (rw [decide_eq_true q'] at h5;exact absurd h5 (by decide))
   | (simp at h5;omega)
 cases hwl with
 | cons w1 w2=>
   cases w2
   cases w1 with
   | list ho hall=>exact ⟨_,_,ns,rfl,rfl,ho,ints_of_wellAll ns _ hall,hlen⟩
theorem post_true (l:OpenLaw) (args:List WData):l.row.toRowW.claim.post args (.bool true) args=true:=
 postW_of (r:=l.row.toRowW) (X:=(true == true))
  (show WShape.has [] (.bool true) .bool=true by first | rfl | decide | simp [WShape.has,WShape.arms,WShape.armsAll])
  (show (WTm.eq .res (.lit (.bool true))).value [] { args:=args,res:=some (.bool true),after:=args }=some (.bool (true == true)) from w_eq_bool (w_res rfl) w_lit) rfl
theorem attach_call {l:OpenLaw} {n:Nat} {q:Program} {loose:List Str} {XP:(Str→Option Value)→Heap→Prop} {YP:World→Heap→Prop} {d:DefRec}
 (hn:l.most=some n) (hdf:d.params.defaults=[])
 (call:∀ (w:World) (s₀ s₁:Shared) (mg mb:Str→Option Value) (fa:Addr) (o:Obj) (pm cd doc:Value) (a:Addr) (vs:List Value) (ns:List Int),
   Ground q loose [] XP w s₀ mg mb s₁.heap→YP w s₁.heap →
   s₁.heap.get? fa=some o→o.data=.func (docDef d.name d.params d.body d.scope pm cd doc)→s₁.heap.CodeRec cd d.name→mg d.name=some (.ref fa) →
   s₁.heap.get? a=some { cls:=.type "list",data:=.seq vs.toArray }→IntsAre vs ns→ns.length≤n→s₁.gens=#[] →
   codeAny (model l.prog w) callerA (.call (.ref fa) ⟨[.ref a],[]⟩) (fun r s'=>r=.ok (.ret (.bool true))∧OldK s₁.heap s'.heap∧s'.os=s₁.os∧AllBare s'.gens) s₁) :
 WalkO q loose XP YP l.row.toRowW d [] (fun f vs=>PySem.call f vs):=by
 intro w s₀ s₁ mg mb G Y fa o pm cd doc dV kV ho hd hcd hD hmg hg args vals as hpre hlay hrd hwl hlo
 obtain rfl:dV=.none:=Dflts.none hD hdf
 obtain rfl:kV=.none:=Dflts.noKw hD
 obtain ⟨a,vs,ns,rfl,rfl,hobj,hints,hlen⟩:=script_of hn hpre hwl
 refine enter_call (codeAny_mono (call w s₀ s₁ mg mb fa o pm cd doc a vs ns G Y ho (fd_plain hd) hcd hmg hobj hints hlen hg) fun r s' hq=>?_)
 obtain ⟨rfl,h2,h3,h4⟩:=hq
 exact ⟨.inl ⟨.bool true,.bool true,[],rfl,fun _=>rfl,.bool true,post_true l _,fun _=>⟨List.Pairwise.nil,fun _ hm=>(nomatch hm)⟩⟩,h2,h3,h4⟩
end Att
namespace L2
open PySem PySem.Spec PyProof.Rows
theorem vals_ints:∀ {vs:List Value} {ns:List Int},IntsAre vs ns→Vals (ns.map V.int) vs
 | _,_,.nil=>.nil
 | _,_,.cons n t h=>.cons ⟨t,rfl⟩ (vals_ints h)
def Only (H:Hp):Prop:=∀ b,H b=none∨∃ o xs,H b=some (.frz o (.lst xs))
theorem law_call {P:Program} {w:World} {K:PySem.W.Frag} {mg mb:Str→Option Value} {CX:CXT} {k:Nat} {fa a:Addr} {fd:FuncData} {x:Str} {sp:Sp} {s₁:Shared} {vs:List Value} {ns:List Int}
 (KX:K.In s₁.heap) (hns:s₁.heap.Ns mainGlobals mg) (hb:s₁.heap.Ns builtinsNs mb) (hbb:∀ x:Str,x≠"__name__"→mb x=bootBuiltins x) (hlim:s₁.heap.NoLimit) (hg:s₁.gens=#[])
 (ha:s₁.heap.get? a=some { cls:=.type "list",data:=.seq vs.toArray }) (hi:IntsAre vs ns) (hl:ns.length≤sizeLine) (hr:Room k callerA)
 (F:∀ base:Heap,K.In base→base.Ns mainGlobals mg→FnOk P w K mg base CX k fa fd [x] sp) (hbind:∀ (s:Shared) (u:Value),BindsTo s fd ⟨[u],[]⟩ [(x,u)])
 (hsp:∀ H:Hp,Only H→SqL K H a (ns.map V.int)→sp [.ref a] H (fun v _=>v=.bl true) fun _ _ _=>False)
 (hCX:∀ H e s',CX [] H s₁ (fun _ _ _=>False) e s'→False) :
 codeAny (model P w) callerA (.call (.ref fa) ⟨[.ref a],[]⟩) (fun r s'=>r=.ok (.ret (.bool true))∧OldK s₁.heap s'.heap∧s'.os=s₁.os∧AllBare s'.gens) s₁:=by
 have rv:=vals_ints hi
 have lenV:=hi.length
 -- from an abstract heap in which nothing but the script may be tracked
 have core:∀ H:Hp,Only H→SqL K H a (ns.map V.int)→HOk P w H s₁.heap→(∀ b,H b≠none→b=a)→(H a≠none→K.lookup a=none) →
  codeAny (model P w) callerA (.call (.ref fa) ⟨[.ref a],[]⟩) (fun r s'=>r=.ok (.ret (.bool true))∧OldK s₁.heap s'.heap∧s'.os=s₁.os∧AllBare s'.gens) s₁:=by
  intro H hO hS hok hA hK
  have base_of:∀ {b:Addr} {o:Obj},s₁.heap.get? b=some o→H b=none→(hidT s₁.heap H).get? b=some o:=fun e n=>hidT_get e n
  have noA:∀ {b:Addr} {o:Obj} {es:Array DictEntry} {ep:Nat},s₁.heap.get? b=some o→o.data=.dict es ep→H b=none:=fun {b o es ep} e d=>by
   cases q:H b with
   | none=>rfl
   | some u=>
     have e':b=a:=hA b (by rw [q];simp)
     subst e'
     rw [ha] at e;cases e
     have d':Data.seq vs.toArray _=Data.dict es ep:=d
     cases d'
  have nsK:∀ {b:Addr} {m:Str→Option Value},s₁.heap.Ns b m→(hidT s₁.heap H).Ns b m:=fun {b m} ⟨o,es,ep,e,d,r⟩=>⟨o,es,ep,base_of e (noA e d),d,r⟩
  have hKb:K.In (hidT s₁.heap H):=fun b o e=>base_of (KX b o e) (by
   cases q:H b with
   | none=>rfl
   | some u=>
     have e':b=a:=hA b (by rw [q];simp)
     subst e'
     rw [hK (by rw [q];simp)] at e;cases e)
  have hM:Mod K mg (hidT s₁.heap H):=⟨hKb,nsK hns,⟨mb,nsK hb,hbb⟩,let ⟨mc,h1,h2⟩:=hlim;⟨mc,nsK h1,h2⟩⟩
  have e0:Env0 P w K mg (hidT s₁.heap H) callerA [] s₁ H:=⟨rfl,hM,fun b o e=>of_hidT e,Nat.le_of_eq (hidT_size _ _),trivial,fun b hb=>absurd (show b∈([]:List Addr) from hb) (by simp),hok,.of_eq hg⟩
  refine codeAny_mono ((F _ hKb (nsK hns)).run callerA [] s₁ H ⟨[.ref a],[]⟩ [.ref a] [.ref a] _ _ hr e0 (hbind s₁ (.ref a)) (.cons rfl .nil) (hsp H hO hS)) fun r s' h=>?_
  cases r with
  | error e=>exact (hCX H e s' h).elim
  | ok fl=>
    cases fl with
    | next=>exact False.elim h
    | brk=>exact False.elim h
    | cont=>exact False.elim h
    | ret u=>
      obtain ⟨v,H',os,bare,un,hok',r',q⟩:=h
      have q':v=.bl true:=q
      subst q'
      obtain rfl:u=Value.bool true:=r'
      refine ⟨rfl,OldK.of_keep fun b o e=>?_,os,bare⟩
      cases q:H b with
      | none=>exact un.keep b o e q (by intro z;exact absurd (show b∈([]:List Addr) from z) (by simp)) (by simp)
      | some u=>
        rcases hO b with z | ⟨ob,xs,z⟩
        · rw [q] at z;cases z
        · have z2:=un.frzs b ob _ z
          obtain ⟨e1,_⟩:=hok b _ z
          obtain ⟨e2,_⟩:=hok' b _ z2
          rw [e] at e1;cases e1
          exact e2
 cases hk:K.lookup a with
 | some o=>
   -- the script is one of the module's own objects
   have e:=KX a o hk
   rw [ha] at e
   cases e
   refine core (fun _=>none) (fun _=>.inl rfl) (.inr ⟨_,vs.toArray,_,hk,rfl,rfl,rfl,by rw [List.size_toArray,lenV];exact hl,by simpa using rv⟩) (fun b u z=>by have z':(none:Option HO)=some u:=z;cases z') (fun b z=>absurd rfl z) fun z=>absurd rfl z
 | none=>
   refine core (fun b=>if b=a then some (.frz { cls:=.type "list",data:=.seq vs.toArray } (.lst (ns.map V.int))) else none) (fun b=>?_) (.inl (.inr ⟨{ cls:=.type "list",data:=.seq vs.toArray },if_pos rfl⟩)) (fun b u z=>?_) (fun b z=>?_) fun _=>hk
   · by_cases hb:b=a
     · exact .inr ⟨_,_,if_pos hb⟩
     · exact .inl (if_neg hb)
   · by_cases hb:b=a
     · have z':=(if_pos hb).symm.trans z
       cases z'
       subst hb
       exact ⟨ha,by rw [List.length_map];exact hl,vs,_,rv,ha⟩
     · have z':=(if_neg hb).symm.trans z
       cases z'
   · by_cases hb:b=a
     · exact hb
     · exact absurd (if_neg hb) z
theorem walk_of {l:PySem.W.OpenLaw} {n k:Nat} {q:Program} {loose:List Str} {XP:(Str→Option Value)→Heap→Prop} {YP:World→Heap→Prop} {d:DefRec} {K:Params→PySem.W.Frag} {CX:World→CXT} {sp:World→Sp} {x:Str}
 (hn:l.most=some n) (hn2:n≤sizeLine) (hdf:d.params.defaults=[]) (hr:Room k callerA)
 (hY:∀ (w:World) (h:Heap),YP w h→(K w.params).In h)
 (F:∀ (w:World) (mg:Str→Option Value) (fa:Addr) (h:Heap),(K w.params).In h→h.Ns mainGlobals mg→mg d.name=some (.ref fa) →
   ∃ fd:FuncData,(∀ (s:Shared) (u:Value),BindsTo s fd ⟨[u],[]⟩ [(x,u)]) ∧
     ∀ base:Heap,(K w.params).In base→base.Ns mainGlobals mg→FnOk l.prog w (K w.params) mg base (CX w) k fa fd [x] (sp w))
 (hsp:∀ (w:World) (H:Hp) (a:Addr) (ns:List Int),ns.length≤n→Only H→SqL (K w.params) H a (ns.map V.int)→sp w [.ref a] H (fun v _=>v=.bl true) fun _ _ _=>False)
 (hCX:∀ (w:World) (H:Hp) (s:Shared) (e:Value) (s':Shared),CX w [] H s (fun _ _ _=>False) e s'→False) :
 PySem.W.WalkO q loose XP YP l.row.toRowW d [] (fun f vs=>PySem.call f vs):=by
 refine Att.attach_call hn hdf fun w s₀ s₁ mg mb fa o pm cd doc a vs ns G Y ho hd hcd hmg hobj hints hlen hg=>?_
 have KX:=hY w _ Y
 obtain ⟨fd,hb,hF⟩:=F w mg fa _ KX G.T.g hmg
 exact law_call KX G.T.g G.T.b G.T.builtins G.T.nolimit hg hobj hints (Nat.le_trans hlen hn2) hr hF hb (fun H hO hS=>hsp w H a ns hlen hO hS) fun H e s'=>hCX w H s₁ e s'
end L2
/- THE LAST THEOREM (shape;LID,My.* are yours):
   My.Adr: a structure of the addresses that your layer names (classes,functions);My.Txt K t: a structure (Prop) of the equations over K;
   My.txt_mk:{K} {implicit addresses ..} (e1:nsIn K mainGlobals "law" = some (some (.ref f))) (e2:K.lookup f=some ⟨oc,od,.func (fnOf "law" "law" params body scope dV kV doc pm an cdv ct),sl⟩) (e3:codeIn K cdv "law" = true) .. : ∃ t,My.Txt K t
(the tactic k_is has no namespace: write k_is) -/
namespace L2
open PySem PySem.Spec PyProof.Rows
def defArgs (s:Stmt):Arguments:=match s with
 | .FunctionDef _ a _ _ _ _ _ _ _ _=>a
 | _=>{ posonlyargs:=[],args:=[],vararg:=none,kwonlyargs:=[],kw_defaults:=[],kwarg:=none,defaults:=[] }
def defBody (s:Stmt):List Stmt:=match s with
 | .FunctionDef _ _ b _ _ _ _ _ _ _=>b
 | _=>[]
def defScope (s:Stmt):Scope:=match s with
 | .FunctionDef _ _ _ _ _ _ sc _ _ _=>sc
 | _=>{ kind:=.function,names:=[],isGenerator:=false,isCoroutine:=false }
abbrev CX0:CXT:=fun _ _ _ _ _ _=>False
abbrev E0:XK:=fun _ _ _=>False
theorem pass0 {X:Cx}:Passes CX0 X E0:=fun _ _ _ _ _ _ _ h=>h.elim
structure Fun (K:PySem.W.Frag) (x qual:Str) (st:Stmt) (f:Addr) (fd:FuncData):Prop where
 ex:∃ (oc:Value) (od:Option Addr) (kV doc pm:Value) (an:Option Addr) (cdv ct:Value) (osl:Array (Option Value)),
  fd=PySem.W.fnOf x qual (defArgs st) (defBody st) (defScope st) .none kV doc pm an cdv ct∧K.lookup f=some ⟨oc,od,.func fd,osl⟩∧PySem.W.codeIn K cdv qual=true
 kp:PySem.W.keepIn K (.ref f)=true
section
variable {P:Program} {w:World} {K:PySem.W.Frag} {mg:Str→Option Value} {base:Heap}
theorem Fun.ok {x qual:Str} {st:Stmt} {f:Addr} {fd:FuncData} {N ps:List Str} {k:Nat} {sp:Sp} (F:Fun K x qual st f fd) (S:FnScope N ps (defScope st)) (len:∀ vs H Q E,sp vs H Q E→vs.length=ps.length)
 (hbody:∀ (cdv:Value) (A:Around) (outer:List Env) (s:Shared) (H:Hp) (vs:List V) (Q:VK) (E:XK),Room k (A.deeper (envOfC qual (defScope st) s.heap.objs.size f cdv))→sp vs H Q E →
   ∃ t,PSs (cxOf CX0 P w K mg base N qual (defScope st) f cdv A outer s H E).nox (defBody st) t∧t { nx:=fun _ H'=>Q .non H',rt:=Q } (start N vs) H):FnOk P w K mg base CX0 (k+1) f fd ps sp:=by
 obtain ⟨oc,od,kV,doc,pm,an,cdv,ct,osl,rfl,lk,hcd⟩:=F.ex
 refine fn_of lk hcd S len fun A outer s H vs Q E hr hsp=>?_
 obtain ⟨t,h,q⟩:=hbody cdv A outer s H vs Q E hr hsp
 exact ⟨t,h.nox,q⟩
theorem Fun.okz {x qual:Str} {st:Stmt} {f:Addr} {fd:FuncData} {N ps:List Str} {k:Nat} {sp:Sp} (F:Fun K x qual st f fd) (S:FnScope N ps (defScope st)) (len:∀ vs H Q E,sp vs H Q E→vs.length=ps.length)
 (hbody:∀ (cdv:Value) (A:Around) (outer:List Env) (s:Shared) (H:Hp) (vs:List V) (Q:VK) (E:XK),Room k (A.deeper (envOfC qual (defScope st) s.heap.objs.size f cdv))→sp vs H Q E →
   ∃ t,ZSs (cxOf CX0 P w K mg base N qual (defScope st) f cdv A outer s H E).nox (defBody st) t∧t { nx:=fun _ H'=>Q .non H',rt:=Q } (start N vs) H):FnOk P w K mg base CX0 (k+1) f fd ps sp:=
 F.ok S len fun cdv A outer s H vs Q E hr h=>let ⟨t,h1,h2⟩:=hbody cdv A outer s H vs Q E hr h;⟨t,h1.p,h2⟩
theorem Fun.binds {x qual:Str} {st:Stmt} {f:Addr} {fd:FuncData} {ps:List Str} (F:Fun K x qual st f fd)
 (h:∀ (kV doc pm:Value) (an:Option Addr) (cdv ct:Value) (us:List Value),us.length=ps.length→bindArgs (PySem.W.fnOf x qual (defArgs st) (defBody st) (defScope st) .none kV doc pm an cdv ct) ⟨us,[]⟩=pure (ps.zip us)):Binds K fd ps []:=by
 obtain ⟨oc,od,kV,doc,pm,an,cdv,ct,osl,rfl,lk,hcd⟩:=F.ex
 exact .all (h kV doc pm an cdv ct)
theorem fun_mk {x qual:Str} {st:Stmt} {f:Addr} {oc:Value} {od an:Option Addr} {osl:Array (Option Value)} {kV doc pm cdv ct:Value} (l:K.lookup f=some ⟨oc,od,.func (PySem.W.fnOf x qual (defArgs st) (defBody st) (defScope st) .none kV doc pm an cdv ct),osl⟩)
 (c:PySem.W.codeIn K cdv qual=true) (k:PySem.W.keepIn K (.ref f)=true):Fun K x qual st f (PySem.W.fnOf x qual (defArgs st) (defBody st) (defScope st) .none kV doc pm an cdv ct):=⟨⟨oc,od,kV,doc,pm,an,cdv,ct,osl,rfl,l,c⟩,k⟩
end
theorem hu_of {A:Around} {k:Nat} (hr:Room k A):A.units+1<cLine:=Nat.lt_of_le_of_lt (Nat.add_le_add_left (by decide:1≤64) _) hr.units
theorem small1000 {n:Nat} (h:n≤1000):n<sizeLine:=Nat.lt_of_le_of_lt h (by decide)
theorem iteF {A B:Prop} (h:B):if false=true then A else B:=by
 rw [if_neg Bool.false_ne_true]
 exact h
theorem iteT {A B:Prop} (h:A):if true=true then A else B:=by
 rw [if_pos rfl]
 exact h
def Same (H H':Hp):Prop:=∀ b o,H b=some o→H' b=some o
theorem Same.refl (H:Hp):Same H H:=fun _ _ h=>h
theorem Same.trans {H H1 H2:Hp} (a:Same H H1) (b:Same H1 H2):Same H H2:=fun c o h=>b c o (a c o h)
end L2
set_option maxHeartbeats 4000000
namespace L2
open PySem PySem.Spec PyProof.Rows
def clsOf (env:Env):List (Str×NameKind)→List (Str×Addr)→List (Str×Addr)
 | [],cs=>cs
 | y::r,cs=>clsOf env r (if (y.2 == .free)=true then (y.1,(env.cells.lookup y.1).getD 0)::cs else cs)
theorem closure_ok {env:Env} {scope:Scope} (h:∀ y∈scope.names,y.2=.free→∃ c,env.cells.lookup y.1=some c):closureFor scope env=pure (clsOf env scope.names []):=by
 simp only [closureFor]
 generalize scope.names=ns at h
 have go:∀ (ns:List (Str×NameKind)) (cs:List (Str×Addr)),(∀ y∈ns,y.2=.free→∃ c,env.cells.lookup y.1=some c) →
  (forIn ns cs fun (x:Str×NameKind) (r:List (Str×Addr))=>(if (x.2 == NameKind.free)=true then do let a ← cellOf env x.1;pure (ForInStep.yield ((x.1,a)::r)) else pure (ForInStep.yield r):Sem (ForInStep (List (Str×Addr)))))=(pure (clsOf env ns cs):Sem (List (Str×Addr))):=by
  intro ns
  induction ns with
  | nil=>intro cs _;rfl
  | cons y r ih=>
    intro cs hy
    rw [List.forIn_cons]
    have hr:=fun z hz=>hy z (List.mem_cons_of_mem _ hz)
    by_cases hf:(y.2 == NameKind.free)=true
    · obtain ⟨c,hc⟩:=hy y List.mem_cons_self (by simpa using hf)
      have e:cellOf env y.1=pure c:=by unfold cellOf;rw [hc]
      rw [if_pos hf,e]
      refine Eq.trans (ih ((y.1,c)::cs) hr) (congrArg pure ?_)
      show _=clsOf env r (if (y.2 == .free)=true then (y.1,(env.cells.lookup y.1).getD 0)::cs else cs)
      rw [if_pos hf,hc]
      rfl
    · rw [if_neg hf]
      refine Eq.trans (ih cs hr) (congrArg pure ?_)
      show _=clsOf env r (if (y.2 == .free)=true then (y.1,(env.cells.lookup y.1).getD 0)::cs else cs)
      rw [if_neg hf]
 have e:=go ns [] h
 exact (congrArg (fun (t:Sem (List (Str×Addr)))=>t >>= fun cs=>pure cs) e).trans rfl
theorem clsOf_look {env:Env}:∀ (ns:List (Str×NameKind)) (cs:List (Str×Addr)),(∀ y∈ns,y.2=.free→∃ c,env.cells.lookup y.1=some c)→(∀ n c,cs.lookup n=some c→env.cells.lookup n=some c) →
 ∀ n c,(clsOf env ns cs).lookup n=some c→env.cells.lookup n=some c
 | [],cs,_,hc=>hc
 | y::r,cs,hy,hc=>by
   refine clsOf_look r _ (fun z hz=>hy z (List.mem_cons_of_mem _ hz)) fun n c e=>?_
   by_cases hf:(y.2 == NameKind.free)=true
   · rw [if_pos hf,List.lookup_cons] at e
     obtain ⟨c',hc'⟩:=hy y List.mem_cons_self (by simpa using hf)
     cases hn:n == y.1 with
     | true=>
       rw [hn] at e
       have en:n=y.1:=by simpa using hn
       rw [hc'] at e
       rw [en,hc']
       exact e
     | false=>rw [hn] at e;exact hc n c e
   · rw [if_neg hf] at e
     exact hc n c e
theorem clsOf_has {env:Env}:∀ (ns:List (Str×NameKind)) (cs:List (Str×Addr)) (n:Str),((n,NameKind.free)∈ns∨∃ c,cs.lookup n=some c)→∃ c,(clsOf env ns cs).lookup n=some c
 | [],cs,n,h=>by
   rcases h with h | h
   · cases h
   · exact h
 | y::r,cs,n,h=>by
   refine clsOf_has r _ n ?_
   rcases h with h | ⟨c,h⟩
   · rcases List.mem_cons.mp h with e | h
     · refine .inr ⟨(env.cells.lookup n).getD 0,?_⟩
       have e2:y.2=.free:=by rw [← e]
       have e1:y.1=n:=by rw [← e]
       rw [if_pos (by rw [e2];rfl),e1,List.lookup_cons]
       simp
     · exact .inl h
   · refine .inr ?_
     by_cases hf:(y.2 == NameKind.free)=true
     · rw [if_pos hf,List.lookup_cons]
       cases hn:n == y.1 with
       | true=>exact ⟨_,rfl⟩
       | false=>exact ⟨c,h⟩
     · rw [if_neg hf];exact ⟨c,h⟩
def rlOf (env:Env) (y:Str×NameKind):Str×NameKind:=if (y.2 == NameKind.free&&env.scope.kind == .function&&env.kindOf y.1 == some .cell)=true then (y.1,NameKind.cell) else (y.1,y.2)
theorem rl_look {env:Env}:∀ {names:List (Str×NameKind)} {x:Str} {k':NameKind},(names.map (rlOf env)).lookup x=some k' →
 ∃ k,(x,k)∈names∧names.lookup x=some k∧(k'=k∨(k=.free∧k'=.cell))
 | [],_,_,h=>by simp at h
 | (n,k)::r,x,k',h=>by
   have ih:=@rl_look env r x k'
   rw [List.map_cons] at h
   unfold rlOf at h
   dsimp only at h
   cases hx:x == n with
   | true=>
     have en:x=n:=by simpa using hx
     refine ⟨k,by rw [en];exact List.mem_cons_self,by simp [List.lookup_cons,hx],?_⟩
     by_cases hc:(k == NameKind.free&&env.scope.kind == .function&&env.kindOf n == some .cell)=true
     · rw [if_pos hc,List.lookup_cons,hx] at h
       have hk:k=.free:=by
        have:=(Bool.and_eq_true_iff.mp (Bool.and_eq_true_iff.mp hc).1).1
        simpa using this
       exact .inr ⟨hk,by cases h;rfl⟩
     · rw [if_neg hc,List.lookup_cons,hx] at h
       exact .inl (by cases h;rfl)
   | false=>
     have h':(r.map (rlOf env)).lookup x=some k':=by
      by_cases hc:(k == NameKind.free&&env.scope.kind == .function&&env.kindOf n == some .cell)=true
      · rw [if_pos hc,List.lookup_cons,hx] at h;exact h
      · rw [if_neg hc,List.lookup_cons,hx] at h;exact h
     obtain ⟨k,h1,h2,h3⟩:=ih h'
     exact ⟨k,List.mem_cons_of_mem _ h1,by rw [List.lookup_cons,hx];exact h2,h3⟩
theorem rl_has {env:Env}:∀ {names:List (Str×NameKind)} {x:Str} {k:NameKind},names.lookup x=some k→∃ k',(names.map (rlOf env)).lookup x=some k'
 | [],_,_,h=>by simp at h
 | (n,k0)::r,x,k,h=>by
   have ih:=@rl_has env r x k
   rw [List.map_cons]
   have e1:(rlOf env (n,k0)).1=n:=by unfold rlOf;split <;> rfl
   have e0:rlOf env (n,k0)=(n,(rlOf env (n,k0)).2):=by rw [Prod.ext_iff];exact ⟨e1,rfl⟩
   rw [e0,List.lookup_cons]
   cases hx:x == n with
   | true=>exact ⟨_,rfl⟩
   | false=>
     rw [List.lookup_cons,hx] at h
     exact ih h
def cmpX (X:Cx) (nv:List Str) (ix:List (Str×Nat)) (scope:Scope) (C:Addr) (s₀:Shared) (H₀:Hp) (fp:List Addr):Cx:=
 { X with N:=nv++ix.map (·.1),s₀:=s₀,H₀:=H₀,env:=compEnvC scope (clsOf X.env scope.names []) C X.env,outer:=X.stack,stack:=X.stack,ex:=fp,fn:=fun _=>false,pn:=[],xe:=fun _ _=>False }
def frV (σ:St) (ix:List (Str×Nat)):St:=ix.map fun p=>(σ[p.2]?).join
def st0 (nv:List Str) (ix:List (Str×Nat)) (σ:St):St:=nv.map (fun _=>none)++frV σ ix
structure CompOk (X:Cx) (nv:List Str) (ix:List (Str×Nat)) (scope:Scope):Prop where
 kind:scope.kind=.function
 nocell:∀ y∈scope.names,y.2≠.cell
 names:∀ y∈scope.names,y.2=.local→scope.names.lookup y.1=some .local
 free:(scope.names.all fun y=>!(y.2 == NameKind.free)||(X.env.kindOf y.1 == some NameKind.cell||X.env.kindOf y.1 == some NameKind.free))=true
 ix:(ix.all fun p=>(scope.names.lookup p.1 == some NameKind.free)&&(X.N[p.2]? == some p.1))=true
section
variable {X:Cx} {nv:List Str} {ix:List (Str×Nat)} {scope:Scope} {pins:List (Addr×Obj)} {σ:St} {H:Hp} {s:Shared}
theorem CompOk.fk (co:CompOk X nv ix scope) {y:Str×NameKind} (hy:y∈scope.names) (hf:y.2=.free):X.env.kindOf y.1=some .cell∨X.env.kindOf y.1=some .free:=by
 have q:=List.all_eq_true.mp co.free y hy
 rw [hf] at q
 simpa using q
theorem CompOk.cells (co:CompOk X nv ix scope) (ok:X.Ok):∀ y∈scope.names,y.2=.free→∃ c,X.env.cells.lookup y.1=some c:=fun y hy hf=>ok.has y.1 (co.fk hy hf)
theorem CompOk.look (co:CompOk X nv ix scope) (ok:X.Ok) {n:Str} {c:Addr} (h:(clsOf X.env scope.names []).lookup n=some c):X.env.cells.lookup n=some c:=
 clsOf_look _ _ (co.cells ok) (fun _ _ e=>by cases e) n c h
theorem CompOk.ixp (co:CompOk X nv ix scope) {p:Str×Nat} (hp:p∈ix):scope.names.lookup p.1=some .free∧X.N[p.2]? = some p.1:=by
 have q:=Bool.and_eq_true_iff.mp (List.all_eq_true.mp co.ix p hp)
 exact ⟨by simpa using q.1,by simpa using q.2⟩
theorem lookup_mem {α:Type}:∀ {l:List (Str×α)} {n:Str} {k:α},l.lookup n=some k→(n,k)∈l
 | [],_,_,h=>by cases h
 | (m,j)::r,n,k,h=>by
   rw [List.lookup_cons] at h
   cases e:n == m with
   | true=>rw [e] at h;cases h;have:n=m:=by simpa using e
           rw [this];exact List.mem_cons_self
   | false=>rw [e] at h;exact List.mem_cons_of_mem _ (lookup_mem h)
theorem cmpX_ok (co:CompOk X nv ix scope) (I:Inv X pins σ H s) {fp:List Addr} {C:Addr} (hC:s.heap.objs.size≤C) (hf:∀ b∈fp,FpOk X pins H b) (hlt:∀ b∈fp,b<s.heap.objs.size):(cmpX X nv ix scope C s H fp).Ok where
 mod:=I.mod
 kind:=co.kind
 glob:=I.ok.glob
 blt:=I.ok.blt
 above:=hC
 inj:=fun x y c a b=>I.ok.inj x y c (co.look I.ok a) (co.look I.ok b)
 has:=fun x hk=>by
  have z:∃ k,(x,k)∈scope.names∧k=.free:=by
   rcases hk with hk | hk
   · obtain ⟨k,h1,_,h3⟩:=rl_look (env:=X.env) (names:=scope.names) hk
     rcases h3 with h3 | ⟨h3,_⟩
     · exact absurd h3.symm (co.nocell _ h1)
     · exact ⟨k,h1,h3⟩
   · obtain ⟨k,h1,_,h3⟩:=rl_look (env:=X.env) (names:=scope.names) hk
     rcases h3 with h3 | ⟨_,h3⟩
     · exact ⟨k,h1,h3.symm⟩
     · cases h3
  obtain ⟨k,h1,rfl⟩:=z
  exact clsOf_has _ _ x (.inl h1)
 cab:=fun x c h _=>by cases h
 hd:=I.ok.hd
 frames:=I.ok.frames
 stk:=.inl rfl
 exf:=fun b hb=>⟨Nat.ne_of_lt (Nat.lt_of_lt_of_le (hlt b hb) hC),fun x c e=>(hf b hb).2.2.2.2.1 x c (co.look I.ok e)⟩
 bs:=fun b o e=>I.bs b o e
 bsz:=Nat.le_trans I.ok.bsz I.sz
 noex:=fun b o e hb=>by
  rcases (hf b hb).2.2.2.1 with z | z
  · exact I.ok.noex b o e z
  · exact absurd (Nat.lt_of_lt_of_le (Heap.lt_size e) (Nat.le_trans I.ok.bsz z)) (Nat.lt_irrefl _)
 exfs:=fun b hb hs=>by
  rcases List.mem_cons.mp (I.stkSub b hs) with e | h
  · exact (hf b hb).2.1 e
  · exact (hf b hb).2.2.1 h
 funs:=I.stack
 frf:=I.stkFree
abbrev lobj (its:List Value) (k:Nat):Obj:={ cls:=.type "list",data:=.seq its.toArray k }
theorem join_some {o:Option (Option V)} {v:V} (h:o.join=some v):o=some (some v):=by
 cases o with
 | none=>cases h
 | some o'=>exact congrArg some h
theorem cmp_start (co:CompOk X nv ix scope) (I:Inv X pins σ H s) {fp:List Addr} {h₁:Heap} {tk:Nat} {m:Str→Option Value} (hf:∀ b∈fp,FpOk X pins H b) (hlt:∀ b∈fp,b<s.heap.objs.size)
 (hn:h₁.Ns (s.heap.objs.size+1) m) (old:∀ b o,s.heap.get? b=some o→h₁.get? b=some o) (hD:h₁.get? s.heap.objs.size=some (lobj [] 0)) :
 Inv (cmpX X nv ix scope (s.heap.objs.size+1) s H fp) [(s.heap.objs.size,lobj [] 0)] (st0 nv ix σ) H { s with heap:=h₁,toks:=tk } where
 ok:=cmpX_ok co I (Nat.le_succ _) hf hlt
 os:=rfl
 bare:=I.bare
 base:=Un.kept old
 loc:=by
  refine ⟨m,hn,fun i x v e1 e2 hv=>?_⟩
  obtain ⟨m₀,_,hl⟩:=I.loc
  have e1':(nv++ix.map (·.1))[i]? = some x:=e1
  unfold st0 at e2
  by_cases hi:i<nv.length
  · rw [List.getElem?_append_left (by rw [List.length_map];exact hi),List.getElem?_map] at e2
    cases q:nv[i]? with
    | none=>rw [q] at e2;cases e2
    | some z=>rw [q] at e2;cases e2
  · have hi':nv.length≤i:=Nat.not_lt.mp hi
    rw [List.getElem?_append_right hi',List.getElem?_map] at e1'
    rw [List.getElem?_append_right (by rw [List.length_map];exact hi'),List.length_map] at e2
    unfold frV at e2
    rw [List.getElem?_map] at e2
    cases q:ix[i - nv.length]? with
    | none=>rw [q] at e1';cases e1'
    | some p=>
      rw [q] at e1' e2
      have hp:p∈ix:=List.mem_of_getElem? q
      have ex:p.1=x:=Option.some.inj e1'
      have ev:σ[p.2]? = some (some v):=join_some (Option.some.inj e2)
      obtain ⟨f1,f2⟩:=co.ixp hp
      have hk:=co.fk (lookup_mem f1) rfl
      obtain ⟨u,r,l⟩:=hl p.2 p.1 v f2 ev (hk.elim (fun z=>.inr (.inl z)) fun z=>.inr (.inr z))
      refine ⟨u,r,.inr ⟨?_,?_⟩⟩
      · obtain ⟨k',hk'⟩:=rl_has (env:=X.env) f1
        obtain ⟨k,h1,h2,h3⟩:=rl_look hk'
        rw [f1] at h2
        cases h2
        rw [← ex]
        rcases h3 with h3 | ⟨_,h3⟩
        · exact .inr (hk'.trans (congrArg some h3))
        · exact .inl (hk'.trans (congrArg some h3))
      · obtain ⟨c,hc⟩:=clsOf_has (env:=X.env) scope.names [] p.1 (.inl (lookup_mem f1))
        refine ⟨c,by rw [← ex];exact hc,?_⟩
        have hc':=co.look I.ok hc
        rcases l with ⟨z,_⟩ | ⟨_,c',z1,o,z2,z3⟩
        · have z':X.env.kindOf p.1=some .local:=z
          rcases hk with hk | hk
          · have hk':X.env.kindOf p.1=some .cell:=hk
            rw [z'] at hk';cases hk'
          · have hk':X.env.kindOf p.1=some .free:=hk
            rw [z'] at hk';cases hk'
        · rw [hc'] at z1
          cases z1
          exact ⟨o,old _ _ z2,z3⟩
 cell:=fun x c e=>by
  obtain ⟨v,o,h1,h2⟩:=I.cell x c (co.look I.ok e)
  exact ⟨v,o,old _ _ h1,h2⟩
 free:=I.hok.fresh (Nat.le_succ _)
 freeC:=fun x c e=>I.freeC x c (co.look I.ok e)
 pin:=fun p hp=>by
  have e:p=(s.heap.objs.size,lobj [] 0):=by simpa [cmpX] using hp
  subst e
  refine ⟨hD,I.hok.fresh (Nat.le_refl _),Nat.ne_of_lt (Nat.lt_succ_self _),fun hb=>?_,fun v z=>by cases z⟩
  rcases List.mem_cons.mp (I.stkSub _ hb) with e | h
  · exact absurd I.lt (by rw [← e];exact Nat.lt_irrefl _)
  · exact I.nofs (Nat.le_refl _) h
 hok:=I.hok.kept old
 len:=by
  show (nv.map (fun _=>none)++frV σ ix).length=(nv++ix.map (·.1)).length
  unfold frV
  simp
theorem Inv.track {D:Addr} {ys its:List _} {k:Nat} (I:Inv X pins σ H s) (rv:Vals ys its) (hz:ys.length≤sizeLine) (e:s.heap.get? D=some (lobj its k)) (hn:H D=none) (hd:FpOk X pins H D):Inv X pins σ (upd H D (.lst ys)) s:=by
 have nD:∀ b u,H b=some u→b≠D:=fun b u q z=>by rw [z,hn] at q;cases q
 obtain ⟨h1,h2,h3,h4,h5,h6⟩:=hd
 refine I.step (s:=s) (h':=s.heap) (g':=s.gens) (t':=s.toks) (d':=s.drawn) (ch:=[D]) (fun b hb=>?_) (fun b o _ _ _ q _=>q) (fun b o _ _ _ q _=>⟨o.slots,q⟩) (fun b o hb _ q=>?_) (fun b o _ q=>⟨o,q⟩)
  (fun b xs q=>by rw [upd_ne (nD b _ q)];exact q) (fun b o u q=>by rw [upd_ne (nD b _ q)];exact q) (fun b ps q=>⟨#[],by rw [upd_ne (nD b _ q),q];simp⟩) (fun m hm=>hm) (fun b u q=>?_) I.bare
 · have e:b=D:=by simpa using hb
   subst e
   exact ⟨h4,h2,h5,h6⟩
 · rw [upd_ne (fun z=>hb (by simp [z]))];exact q
 · by_cases hb:b=D
   · subst hb
     rw [upd_same] at q
     cases q
     exact ⟨hz,its,k,rv,e⟩
   · rw [upd_ne hb] at q
     exact (I.hok b u q).stay (fun c v _ r=>r) (fun c r=>by rw [upd_ne (nD c _ r)];exact r) fun c xs r=>by rw [upd_ne (nD c _ r)];exact r
theorem cmp_end {ps2:List (Addr×Obj)} {σ2:St} {H':Hp} {s':Shared} {fp:List Addr} {C:Addr} (I:Inv X pins σ H s) (hf:∀ b∈fp,FpOk X pins H b) (Ic:Inv (cmpX X nv ix scope C s H fp) ps2 σ2 H' s'):Inv X pins σ H' s':=
 I.call' (ch:=fp) Ic.os Ic.base Ic.hok Ic.bare fun b hb=>⟨(hf b hb).2.2.2.1,(hf b hb).2.1,(hf b hb).2.2.2.2.1,(hf b hb).2.2.2.2.2⟩
def PIf (X:Cx) (ifs:List Expr) (t:TT):Prop:=
 ∀ (pins:List (Addr×Obj)) (s:Shared) (σ:St) (H:Hp) (Q:Bool→Hp→Prop),Inv X pins σ H s→t σ H Q →
   wpAny (model X.prog X.w) X.A (forIn ifs true fun c r=>if r=true then do let ok ← isTrue c X.env (eval c X.env);pure (ForInStep.yield ok) else pure (ForInStep.yield r)) (TP X pins σ Q) X.xe s
@[irreducible] def ZIf (X:Cx) (ifs:List Expr) (t:TT):Prop:=PIf X ifs t
def tYes:TT:=fun _ H Q=>Q true H
theorem pif_nil:PIf X [] tYes:=fun _ _ _ H _ I h=>wpAny_tests_nil ⟨H,I,h⟩
theorem zif_nil:ZIf X [] tYes:=by with_unfolding_all exact pif_nil
theorem pif_one {c:Expr} {t:TT} (h:PT X c t):PIf X [c] t:=fun pins s σ H Q I q=>wpAny_tests_one (h pins s σ H Q I q)
theorem zif_one {c:Expr} {t:TT} (h:ZT X c t):ZIf X [c] t:=by with_unfolding_all exact pif_one h
end
section
variable {prog:Program} {w:World} {A:Around} {E:Value→Shared→Prop} {R:Result→Shared→Prop} {s:Shared}
theorem compLoop_go {elt target iter:Expr} {ifs:List Expr} {scope:Scope} {pos:Pos} {it acc:Value} {env:Env} (I:Nat→Shared→Prop)
 (turn:∀ n s,I n s→wpAny (model prog w) A (pyNext it) (fun r s₁=>match r with
   | none=>R (.ok .next) s₁
   | some v=>wpAny (model prog w) A (letOwnedTupleGo target it v) (fun _ s₁'=>wpAny (model prog w) A (assign target env v) (fun _ s₂=>
    wpAny (model prog w) A (forIn ifs true fun c r=>if r=true then do let ok ← isTrue c env (eval c env);pure (ForInStep.yield ok) else pure (ForInStep.yield r)) (fun ok s₃=>
     if ok=true then wpAny (model prog w) A (eval elt env) (fun x s₄=>
      wpAny (model prog w) A (call (.builtin "list.append") [acc,x]) (fun _ s₅=>∃ m,m<n∧I m s₅) (fun _ _=>False) s₄) (fun _ _=>False) s₃
     else ∃ m,m<n∧I m s₃) (fun _ _=>False) s₂) (fun _ _=>False) s₁') (fun _ _=>False) s₁) (fun _ _=>False) s)
 (n:Nat) (h:I n s) :
 codeAny (model prog w) A (.compLoop (.ListComp elt [⟨target,iter,ifs,0⟩] scope pos) 0 it acc env) R s:=by
 refine codeAny_loop rfl I (fun n s hI=>?_) n h
 show wpAny _ A ((compTurn (.ListComp elt [⟨target,iter,ifs,0⟩] scope pos) 0 it acc env).onRaise (fun x=>do noteFrame x env;theTreesLotGoes x)) _ _ s
 refine wpAny_noted ?_
 rw [compTurn_list]
 refine wpAny_bind (wpAny_standAt (wpAny_bind (wpAny_mono (turn n s hI) (fun r s₁ h₁=>?_) fun _ _ h'=>h'.elim)))
 cases r with
 | none=>exact wpAny_pure h₁
 | some v=>
   refine wpAny_bind (wpAny_mono h₁ (fun _ s₁' h₁'=>?_) fun _ _ h'=>h'.elim)
   refine wpAny_bind (wpAny_mono h₁' (fun _ s₂ h₂=>wpAny_bind (wpAny_mono h₂ (fun ok s₃ h₃=>?_) fun _ _ h'=>h'.elim)) fun _ _ h'=>h'.elim)
   cases ok with
   | false=>exact wpAny_pure ⟨rfl,h₃⟩
   | true=>
     exact wpAny_bind (wpAny_bind (wpAny_mono h₃ (fun x s₄ h₄=>wpAny_bind (wpAny_mono h₄ (fun _ s₅ h₅=>wpAny_pure (wpAny_pure ⟨rfl,h₅⟩)) fun _ _ h'=>h'.elim)) fun _ _ h'=>h'.elim))
end
section
variable {X:Cx} {nv:List Str} {ix:List (Str×Nat)} {scope:Scope} {pins:List (Addr×Obj)} {σ:St} {H:Hp} {s:Shared} {elt tg iter:Expr} {ifs:List Expr} {pos:Pos}
def Kp (σ σ2:St):Prop:=σ.length=σ2.length∧∀ (i:Nat) v,σ[i]? = some (some v)→σ2[i]? = some (some v)
def KpG (nv:List Str) (g:TG):Prop:=∀ (fr:St) (v:V) (H:Hp) (Q:St→Hp→Prop),g v (nv.map (fun _=>none)++fr) H Q→g v (nv.map (fun _=>none)++fr) H fun σ2 H2=>Kp (nv.map (fun _=>none)++fr) σ2∧Q σ2 H2
theorem kpg_name {x:Str}:KpG [x] (gName 0):=fun fr v H Q h=>by
 refine ⟨⟨by simp,fun i w e=>?_⟩,h⟩
 cases i with
 | zero=>cases e
 | succ i=>exact e
def CmpW (nv:List Str) (ix:List (Str×Nat)) (g:TG) (ti:TT) (te:TE) (σ:St) (J:It) (Fin:List V→Hp→Prop) (H1:Hp):Prop:=
 ∃ W:Nat→Nat→List V→Hp→Prop,(∃ m,W 0 m [] H1)∧∀ i m ys H,W i m ys H →
   (J.stop i H∧Fin ys H)∨(J.go i H∧ys.length<sizeLine∧∃ N:List V→Hp→Prop,(∀ ys' H',N ys' H'→∃ m',m' < m∧W (i+1) m' ys' H') ∧
     ∀ x H',J.yld i H x H'→g x (st0 nv ix σ) H' fun σ2 H2=>ti σ2 H2 fun b H3=>if b=true then te σ2 H3 fun y H4=>N (ys++[y]) H4 else N ys H3)
theorem comp_run {J:It} {fp:List Addr} {it:Addr} {tn:Nat→Heap→Prop} {g:TG} {ti:TT} {te:TE} {Fin:List V→Hp→Prop} {E:Value→Shared→Prop} {RR:Value→Addr→Result→Shared→Prop}
 (co:CompOk X nv ix scope) (hc:X.calm=true) (I:Inv X pins σ H s) (T:Turn X.prog X.w X.K tg J fp it tn) (st:tn 0 s.heap) (hf:∀ b∈fp,FpOk X pins H b)
 (kg:KpG nv g) (hg:∀ C s₀ H₀ fp,PG (cmpX X nv ix scope C s₀ H₀ fp) tg g) (hi:∀ C s₀ H₀ fp,PIf (cmpX X nv ix scope C s₀ H₀ fp) ifs ti) (he:∀ C s₀ H₀ fp,PE (cmpX X nv ix scope C s₀ H₀ fp) elt te)
 (q:CmpW nv ix g ti te σ J Fin H)
 (fin:∀ D C s' H' ys,Inv X pins σ (upd H' D (.lst ys)) s'→H' D=none→Fin ys H'→(∃ m,s'.heap.Ns C m)→FpOk X pins (upd H' D (.lst ys)) C→RR (.ref D) C (.ok .next) s') :
 wpAny (model X.prog X.w) X.A (newList []) (fun acc s₃=>wpAny (model X.prog X.w) X.A (newFunctionEnv scope X.env.globals (clsOf X.env scope.names []) [] X.env.qual none .none (some X.env)) (fun cenv s₄=>
  codeAny (model X.prog X.w) X.A (.compStart (.ListComp elt [⟨tg,iter,ifs,0⟩] scope pos) 0 (.ref it) acc { cenv with scope:=relabel scope X.env }) (RR acc cenv.locals) s₄) E s₃) E s:=by
 obtain ⟨W,⟨m0,w0⟩,turn⟩:=q
 refine wpAny_newObj_type (wpAny_newFunctionEnv co.nocell (by intro y hy;simp at hy) (fun h₁ hns₁ hsb₁=>?_) co.kind)
 dsimp only at hns₁ hsb₁ ⊢
 generalize hH2:s.heap.push { cls:=.type "list",dict:=none,data:=.seq ([]:List Value).toArray }=H2 at hns₁ hsb₁ ⊢
 have hC:H2.objs.size=s.heap.objs.size+1:=by rw [← hH2,Heap.size_push]
 rw [hC] at hns₁ hsb₁ ⊢
 have hDC:s.heap.objs.size≠s.heap.objs.size+1:=Nat.ne_of_lt (Nat.lt_succ_self _)
 have below:∀ b,b<s.heap.objs.size→b≠s.heap.objs.size+1∧b≠s.heap.objs.size:=fun b hb=>⟨Nat.ne_of_lt (Nat.lt_succ_of_lt hb),Nat.ne_of_lt hb⟩
 have old:∀ b o,s.heap.get? b=some o→h₁.get? b=some o:=fun b o e=>hsb₁.extBut b o (below b (Heap.lt_size e)).1 (Heap.get?_push_of_some _ (hH2▸Heap.get?_push_of_some _ e))
 have hacc:h₁.get? s.heap.objs.size=some (lobj [] 0):=hsb₁.extBut _ _ hDC (Heap.get?_push_of_some _ (hH2▸Heap.get?_push_size _ rfl))
 have hlt:∀ b∈fp,b<s.heap.objs.size:=fun b hb=>by
  obtain ⟨o,e,_⟩:=T.obj 0 _ st b hb
  exact Heap.lt_size e
 have I₁:=fun tk=>cmp_start (tk:=tk) co I hf hlt hns₁ old hacc
 have st₁:tn 0 h₁:=T.keep 0 _ _ st fun b _ o e=>old b o e
 have fpD:∀ {H':Hp},H' s.heap.objs.size=none→FpOk X pins H' s.heap.objs.size:=fun hn=>I.fpOk (Nat.le_refl _) hn
 have loop:∀ tk:Nat,codeAny (model X.prog X.w) X.A (.compLoop (.ListComp elt [⟨tg,iter,ifs,0⟩] scope pos) 0 (.ref it) (.ref s.heap.objs.size) (compEnvC scope (clsOf X.env scope.names []) (s.heap.objs.size+1) X.env))
  (RR (.ref s.heap.objs.size) (s.heap.objs.size+1)) { s with heap:=h₁,toks:=tk }:=by
  intro tk
  refine compLoop_go (fun n s'=>∃ i H' ys its k,Inv (cmpX X nv ix scope (s.heap.objs.size+1) s H fp) [(s.heap.objs.size,lobj its k)] (st0 nv ix σ) H' s'∧Vals ys its∧ys.length≤sizeLine∧tn i s'.heap∧(∀ b∈fp,H' b=none)∧W i n ys H')
   ?_ m0 ⟨0,H,[],[],0,I₁ tk,.nil,Nat.zero_le _,st₁,fun b hb=>(hf b hb).1,w0⟩
  rintro n s3 ⟨i,H3,ys,its,k,I3,rv,hz,st3,fr3,w3⟩
  have fpc:∀ {H':Hp} {its:List Value} {k:Nat},(∀ b∈fp,H' b=none)→∀ b∈fp,FpOk (cmpX X nv ix scope (s.heap.objs.size+1) s H fp) [(s.heap.objs.size,lobj its k)] H' b:=fun {H' its k} hn b hb=>by
   refine ⟨hn b hb,(below b (hlt b hb)).1,fun hs=>?_,.inl hb,fun x c e=>(hf b hb).2.2.2.2.1 x c (co.look I.ok e),fun p hp z=>?_⟩
   · rcases List.mem_cons.mp (I.stkSub b hs) with e | h
     · exact (hf b hb).2.1 e
     · exact (hf b hb).2.2.1 h
   · have e:p=(s.heap.objs.size,lobj its k):=by simpa [cmpX] using hp
     subst e
     exact (below b (hlt b hb)).2 z.symm
  have pD:=fun {ps:List (Addr×Obj)} {σ':St} {H':Hp} {s':Shared} (I':Inv (cmpX X nv ix scope (s.heap.objs.size+1) s H fp) ((s.heap.objs.size,lobj its k)::ps) σ' H' s')=>
   I'.pin (s.heap.objs.size,lobj its k) (List.mem_append_right _ List.mem_cons_self)
  rcases turn i n ys H3 w3 with ⟨stop,fin0⟩ | ⟨go,hlt',N,hN,step⟩
  · refine thn (T.done (cmpX X nv ix scope (s.heap.objs.size+1) s H fp) rfl rfl rfl hc i _ s3 _ H3 _ I3 (fpc fr3) st3 stop) fun r s4 ⟨hr,I4⟩=>?_
    subst hr
    obtain ⟨p1,p2,_⟩:=pD I4
    have I5:=(cmp_end I hf I4).track rv hz p1 p2 (fpD p2)
    obtain ⟨mC,hmC,_⟩:=I4.loc
    exact fin _ _ s4 H3 ys I5 p2 fin0 ⟨mC,hmC⟩ (I.fpOk (Nat.le_succ _) (by rw [upd_ne (Ne.symm hDC)];exact I4.free))
  · refine thn (T.item (cmpX X nv ix scope (s.heap.objs.size+1) s H fp) rfl rfl rfl hc i _ s3 _ H3 _ I3 (fpc fr3) st3 go) fun r s4 ⟨u,hr,h4⟩=>?_
    subst hr
    refine thn h4 fun _ s5 ⟨x,H5,I5,r5,y5,st5,fr5⟩=>?_
    have I5':=I5.pinned (fpc fr5) (T.obj _ _ st5)
    refine thn (hg _ _ _ _ _ s5 _ H5 x u _ I5' r5 (kg _ _ _ _ (step x H5 y5))) fun _ s6 ⟨σ6,H6,I6,kp,q6⟩=>?_
    refine thn (hi _ _ _ _ _ s6 σ6 H6 _ I6 q6) fun b s7 ⟨H7,I7,q7⟩=>?_
    have again:∀ {s7:Shared} {H7:Hp} {ys' its':List _} {k':Nat},Inv (cmpX X nv ix scope (s.heap.objs.size+1) s H fp) ([(s.heap.objs.size,lobj its' k')]++pinsAt fp s5.heap) σ6 H7 s7→Vals ys' its'→ys'.length≤sizeLine→N ys' H7 →
     ∃ m,m<n∧∃ i H' ys its k,Inv (cmpX X nv ix scope (s.heap.objs.size+1) s H fp) [(s.heap.objs.size,lobj its k)] (st0 nv ix σ) H' s7∧Vals ys its∧ys.length≤sizeLine∧tn i s7.heap∧(∀ b∈fp,H' b=none)∧W i m ys H':=fun {s7 H7 ys' its' k'} I8 rv' hz' n8=>by
     obtain ⟨m',hm,w8⟩:=hN _ _ n8
     have pn:=fun (b:Addr) (o:Obj) (hb:b∈fp) (e:s5.heap.get? b=some o)=>I8.pin (b,o) (List.mem_append_right _ (List.mem_append_right _ (mem_pinsAt hb e)))
     refine ⟨m',hm,i+1,H7,ys',its',k',(I8.unpinned).weak kp.1 kp.2,rv',hz',T.keep _ _ _ st5 fun b hb o e=>(pn b o hb e).1,fun b hb=>?_,w8⟩
     obtain ⟨o,e,d⟩:=T.obj _ _ st5 b hb
     exact (pn b o hb e).2.1
    cases b with
    | false=>
      rw [if_neg Bool.false_ne_true] at q7 ⊢
      exact again I7 rv hz q7
    | true=>
      rw [if_pos rfl] at q7 ⊢
      refine thn (he _ _ _ _ _ s7 σ6 H7 _ I7 q7) fun u8 s8 ⟨y,H8,I8,r8,q8⟩=>?_
      obtain ⟨p1,p2,p3,p4,p5⟩:=pD I8
      refine append_at (hsz:=by rw [List.size_toArray,← rv.length];exact Nat.le_of_lt hlt') p1 fun h9 hs9 hD9=>?_
      have I9:Inv (cmpX X nv ix scope (s.heap.objs.size+1) s H fp) (pinsAt fp s5.heap) σ6 H8 { s8 with heap:=h9 }:=by
       have Iu:Inv (cmpX X nv ix scope (s.heap.objs.size+1) s H fp) (pinsAt fp s5.heap) σ6 H8 s8:=I8.pins_of fun p hp=>I8.pin p (List.mem_append_right _ (List.mem_append_right _ hp))
       refine Iu.turned (t':=s8.toks) (it:=s.heap.objs.size) (fun b o hb e=>(hs9.2 b hb).trans e) p2 p3 (.inr (Nat.le_refl _)) (fun x c e z=>?_) fun p hp z=>?_
       · obtain ⟨v,o,e1,_⟩:=I.cell x c (co.look I.ok e)
         exact absurd (Heap.lt_size e1) (by rw [z];exact Nat.lt_irrefl _)
       · have hp':p∈pinsAt fp s5.heap:=by simpa [cmpX] using hp
         obtain ⟨hb,_⟩:=of_pinsAt hp'
         exact (below _ (hlt _ hb)).2 z
      have I10:Inv (cmpX X nv ix scope (s.heap.objs.size+1) s H fp) ([(s.heap.objs.size,lobj (its++[u8]) (k+1))]++pinsAt fp s5.heap) σ6 H8 { s8 with heap:=h9 }:=
       I9.pins_of fun p hp=>by
        rcases List.mem_append.mp hp with hp | hp
        · have e:p=(s.heap.objs.size,lobj (its++[u8]) (k+1)):=by simpa using hp
          subst e
          refine ⟨?_,p2,p3,p4,fun v z=>by cases z⟩
          rw [List.push_toArray] at hD9
          exact hD9
        · exact I9.pin p (List.mem_append_right _ hp)
      exact again I10 (rv.append (.cons r8 .nil)) (by rw [List.length_append,List.length_singleton];exact hlt') q8
 exact codeAny_compStart_list (loop _) (T.self _ 0 _ _ _ st₁ (loop _))
def tComp (nv:List Str) (ix:List (Str×Nat)) (wi:TI) (g:TG) (ti:TT) (te:TE):TE:=fun σ H Q=>wi σ H fun J H1=>CmpW nv ix g ti te σ J (fun ys H2=>∀ D,H2 D=none→Q (.ref D) (upd H2 D (.lst ys))) H1
theorem pe_comp {wi:TI} {g:TG} {ti:TT} {te:TE} (nv:List Str) (ix:List (Str×Nat)) (hc:X.calm=true) (co:CompOk X nv ix scope) (hit:PI X tg iter wi) (kg:KpG nv g) (hg:∀ C s₀ H₀ fp,PG (cmpX X nv ix scope C s₀ H₀ fp) tg g)
 (hi:∀ C s₀ H₀ fp,PIf (cmpX X nv ix scope C s₀ H₀ fp) ifs ti) (he:∀ C s₀ H₀ fp,PE (cmpX X nv ix scope C s₀ H₀ fp) elt te)
 (hs:∀ x,foldedSetIterable iter X.env x=pure x:=by intro _;rfl):PE X (.ListComp elt [⟨tg,iter,ifs,0⟩] scope pos) (tComp nv ix wi g ti te):=by
 intro pins s σ H Q I h
 rw [eval_ListComp]
 refine wpAny_comprehension_free (use:=none) rfl hs (closure_ok (co.cells I.ok)) co.kind co.names (thn (hit pins s σ H _ I h) fun v s1 h1=>thn h1 fun itv s2 h2=>?_)
 obtain ⟨it,fp,tn,J,H2,e,I2,T,st2,f2,q⟩:=h2
 subst e
 refine comp_run co hc I2 T st2 f2 kg hg hi he q fun D C s' H' ys I' hD fin ⟨m,hm⟩ hC=>?_
 obtain ⟨c0,c1,c2,c3,c4,c5⟩:=hC
 exact ⟨m,hm,fun h' hs'=>⟨.ref D,_,I'.turned (t':=s'.toks) (fun b o hb e=>(hs'.2 b hb).trans e) c0 c1 c3 c4 c5,rfl,fin D hD⟩⟩
theorem ze_comp {wi:TI} {g:TG} {ti:TT} {te:TE} (nv:List Str) (ix:List (Str×Nat)) (hc:X.calm=true) (co:CompOk X nv ix scope) (hit:ZI X tg iter wi) (kg:KpG nv g) (hg:∀ C s₀ H₀ fp,ZG (cmpX X nv ix scope C s₀ H₀ fp) tg g)
 (hi:∀ C s₀ H₀ fp,ZIf (cmpX X nv ix scope C s₀ H₀ fp) ifs ti) (he:∀ C s₀ H₀ fp,ZE (cmpX X nv ix scope C s₀ H₀ fp) elt te)
 (hs:∀ x,foldedSetIterable iter X.env x=pure x:=by intro _;rfl):ZE X (.ListComp elt [⟨tg,iter,ifs,0⟩] scope pos) (tComp nv ix wi g ti te):=by with_unfolding_all exact pe_comp nv ix hc co hit kg hg hi he hs
end
section
variable {nv:List Str} {ix:List (Str×Nat)} {σ:St} {H:Hp} {g:TG} {ti:TT} {te:TE} {Fin:List V→Hp→Prop} {K:PySem.W.Frag} {a:Addr} {xs:List V}
theorem cmp_list (Pv:Nat→List V→Hp→Prop) (h0:Pv 0 [] H) (hl:∀ i ys H,i≤xs.length→Pv i ys H→SqL K H a xs)
 (hs:∀ i x ys H,xs[i]? = some x→Pv i ys H→ys.length<sizeLine∧g x (st0 nv ix σ) H fun σ2 H2=>ti σ2 H2 fun b H3=>if b=true then te σ2 H3 fun y H4=>Pv (i+1) (ys++[y]) H4 else Pv (i+1) ys H3)
 (hd:∀ ys H,Pv xs.length ys H→Fin ys H):CmpW nv ix g ti te σ (Itl K a) Fin H:=by
 refine ⟨fun i m ys H=>m=xs.length - i∧i≤xs.length∧Pv i ys H,⟨xs.length,by simp,Nat.zero_le _,h0⟩,?_⟩
 rintro i m ys H ⟨rfl,hi,p⟩
 have q:=hl i ys H hi p
 by_cases hlt:i<xs.length
 · have e:=hs i xs[i] ys H (by simp [hlt]) p
   refine .inr ⟨⟨xs,xs[i],q,by simp [hlt]⟩,e.1,Pv (i+1),fun σ' H' p'=>⟨xs.length - (i+1),by omega,rfl,hlt,p'⟩,fun x H' y=>?_⟩
   obtain ⟨e',y⟩:=y
   subst e'
   exact (hs i x ys _ (y xs q) p).2
 · have e:i=xs.length:=by omega
   subst e
   exact .inl ⟨⟨xs,q,Nat.le_refl _⟩,hd ys H p⟩
theorem cmp_tup (Pv:Nat→List V→Hp→Prop) (h0:Pv 0 [] H) (hl:∀ i ys H,i≤xs.length→Pv i ys H→SqT K H a xs)
 (hs:∀ i x ys H,xs[i]? = some x→Pv i ys H→ys.length<sizeLine∧g x (st0 nv ix σ) H fun σ2 H2=>ti σ2 H2 fun b H3=>if b=true then te σ2 H3 fun y H4=>Pv (i+1) (ys++[y]) H4 else Pv (i+1) ys H3)
 (hd:∀ ys H,Pv xs.length ys H→Fin ys H):CmpW nv ix g ti te σ (Itt K a) Fin H:=by
 refine ⟨fun i m ys H=>m=xs.length - i∧i≤xs.length∧Pv i ys H,⟨xs.length,by simp,Nat.zero_le _,h0⟩,?_⟩
 rintro i m ys H ⟨rfl,hi,p⟩
 have q:=hl i ys H hi p
 by_cases hlt:i<xs.length
 · have e:=hs i xs[i] ys H (by simp [hlt]) p
   refine .inr ⟨⟨xs,xs[i],q,by simp [hlt]⟩,e.1,Pv (i+1),fun σ' H' p'=>⟨xs.length - (i+1),by omega,rfl,hlt,p'⟩,fun x H' y=>?_⟩
   obtain ⟨e',y⟩:=y
   subst e'
   exact (hs i x ys _ (y xs q) p).2
 · have e:i=xs.length:=by omega
   subst e
   exact .inl ⟨⟨xs,q,Nat.le_refl _⟩,hd ys H p⟩
end
theorem Same.new {H:Hp} {p:Addr} (h:H p=none) (o:HO):Same H (upd H p o):=fun b u q=>by rw [upd_ne (ne_of_none q h)];exact q
section
variable {X:Cx} {a b c:Expr} {ta tb tc:TE} {pos:Pos}
theorem op_mulB:OpR X (binaryOp .Mult) (rI (fun i j=>IntMulOk i j) fun i j=>.int (i*j)):=opI fun _ _ _ _ _ _ _ hc q=>mul_int q hc
def RvR (X:Cx) (r:V→Hp→VK→Prop):Prop:=
 ∀ (pins:List (Addr×Obj)) (s:Shared) (σ:St) (H:Hp) (x:V) (v vk:Value) (sl:Addr) (Q:VK),Inv X pins σ H s→RelV x v→s.heap.IsSliceOf sl .none .none vk→IsPart vk (some (-1))→r x H Q →
   ∃ T id,typeLookup (.type T) "__getitem__" = pure (some (.builtin id))∧s.TypeIs v T∧wpAny (model X.prog X.w) X.A (getItem v (.ref sl)) (EP X pins σ Q) X.xe s
def tRv (r:V→Hp→VK→Prop) (te:TE):TE:=fun σ H Q=>te σ H fun x H1=>r x H1 Q
theorem pe_rev {e:Expr} {te:TE} {p1 p2 p3:Pos} {k:Nat} {r:V→Hp→VK→Prop} (hr:RvR X r) (he:PE X e te):PE X (.Subscript e (.Slice none none (some (.UnaryOp .USub (.Constant (.int 1) k p1) p2)) p3) pos) (tRv r te):=by
 intro pins s σ H Q I h
 refine Subscript_ (thn (he pins s σ H _ I h) fun v s1 ⟨x,H1,I1,r1,q1⟩=>?_)
 refine wpAny_Slice ?_
 rw [evalPart_none]
 refine wpAny_pure ?_
 refine wpAny_pure ?_
 rw [evalPart_some]
 refine UnaryOp_ (wpAny_Constant_int (neg_int ?_))
 have I4:∀ (tk:Nat) (u:Tok),Inv X pins σ H1 { s1 with heap:=s1.heap.push { cls:=.type "slice",data:=.fields #[.none,.none,.int (-1) u] },toks:=tk }:=fun tk u=>I1.kept fun b ob q=>Heap.get?_push_of_some _ q
 obtain ⟨T,id,hT,ht,hg⟩:=hr pins _ σ H1 x v _ s1.heap.objs.size Q (I4 _ _) r1 (Heap.IsSliceOf.new ..) (IsPart.int (-1) _) q1
 exact tail_any (ops:=[v,.ref s1.heap.objs.size]) ht hT hg (by with_unfolding_all rfl)
theorem ze_rev {e:Expr} {te:TE} {p1 p2 p3:Pos} {k:Nat} {r:V→Hp→VK→Prop} (hr:RvR X r) (he:ZE X e te):ZE X (.Subscript e (.Slice none none (some (.UnaryOp .USub (.Constant (.int 1) k p1) p2)) p3) pos) (tRv r te):=by with_unfolding_all exact pe_rev hr he
def rRvL (K:PySem.W.Frag):V→Hp→VK→Prop:=fun x H Q=>∃ a xs,x=.ref a∧SqL K H a xs∧∀ p,H p=none→Q (.ref p) (upd H p (.lst xs.reverse))
theorem rv_list:RvR X (rRvL X.K):=by
 intro pins s σ H x v vk sl Q I rx hs pk h
 obtain ⟨a,xs,rfl,hx,q⟩:=h
 cases rx
 obtain ⟨its,r,ht,hz⟩:=I.list hx
 have hlen:=r.length
 refine ⟨"list",_,slot_list_getitem.lookup,ht.isList.typeIs,?_⟩
 refine wpAny_getItem_list_slice ht.isList hs .none .none pk (by decide) ?_ (by rw [List.size_toArray] <;> omega)
 rw [PySem.W.krv_pick]
 refine ⟨.ref s.heap.objs.size,_,I.laid (t':=s.toks) (o:=.lst xs.reverse) (fun b ob q=>Heap.get?_push_of_some _ q) (Nat.le_refl _) ?_,rfl,q _ (I.hok.fresh (Nat.le_refl _))⟩
 exact ⟨by rw [List.length_reverse];exact hz,its.reverse,0,r.reverse,Heap.get?_push_size _ rfl⟩
end
section
variable {prog:Program} {w:World} {A:Around} {E:Value→Shared→Prop} {s:Shared}
theorem filterMap_eq {α β:Type} {f g:α→Option β}:∀ {l:List α},(∀ a∈l,f a=g a)→l.filterMap f=l.filterMap g
 | [],_=>rfl
 | a::r,h=>by
   rw [List.filterMap_cons,List.filterMap_cons,h a List.mem_cons_self,filterMap_eq fun b hb=>h b (List.mem_cons_of_mem _ hb)]
theorem rev_pick (xs:Array Value):((List.range xs.size).filterMap fun (m:Nat)=>xs[(((xs.size:Int) - 1)+(m:Int)*(-1)).toNat]?).toArray=xs.toList.reverse.toArray:=by
 have h:=PySem.W.krv_pick xs
 unfold slicePick at h
 rw [PySem.W.krv_bounds] at h
 have h':((sliceRange ((xs.size:Int) - 1) (-1) (-1)).filterMap (xs[·]?)).toArray=xs.toList.reverse.toArray:=h
 rw [PySem.W.krv_sliceRange,List.filterMap_map] at h'
 rw [← h']
 congr 1
 refine filterMap_eq fun m hm=>?_
 have:=List.mem_range.mp hm
 show xs[_]? = xs[xs.size - 1 - m]?
 congr 1
 omega
theorem sliceApplied_rev {sl:Addr} {vk:Value} {n:Nat} {Q:Int×Int×Nat→Shared→Prop} (hs:s.heap.IsSliceOf sl .none .none vk) (pk:IsPart vk (some (-1)))
 (h:Q ((n:Int) - 1,-1,n) s):wpAny (model prog w) A (Builtin.Slice.sliceApplied (.ref sl) (pure (n:Int))) Q E s:=by
 obtain ⟨os,hos,hcs,hds⟩:=id hs
 unfold Builtin.Slice.sliceApplied Builtin.Slice.sliceFields
 refine wpAny_bind (wpAny_bind (wpAny_field hos hds (x:=.none) rfl (wpAny_bind (wpAny_field hos hds (x:=.none) rfl (wpAny_bind (wpAny_field hos hds (x:=vk) rfl (wpAny_pure ?_)))))))
 refine wpAny_bind (HT.slicePart_ pk ?_)
 show wpAny _ _ (if ((-1:Int) == 0)=true then _ else _) _ _ s
 rw [if_neg (by decide)]
 refine wpAny_bind (slicePart_none (wpAny_bind (slicePart_none (wpAny_bind (wpAny_pure ?_)))))
 show wpAny _ _ (match Builtin.Slice.sliceAdjust none none (-1) (n:Int) with | (lo,hi)=>pure (lo,(-1:Int),Builtin.Slice.slicePlaces lo hi (-1))) _ _ s
 have e1:Builtin.Slice.sliceAdjust none none (-1) (n:Int)=((n:Int) - 1,-1):=by rfl
 rw [e1]
 show wpAny _ _ (pure ((n:Int) - 1,(-1:Int),Builtin.Slice.slicePlaces ((n:Int) - 1) (-1) (-1))) _ _ s
 have e2:Builtin.Slice.slicePlaces ((n:Int) - 1) (-1) (-1)=n:=by
  unfold Builtin.Slice.slicePlaces
  rw [if_neg (by decide)]
  have e3:(- -1:Int)=1:=by decide
  rw [e3,Int.ediv_one]
  split <;> omega
 rw [e2]
 exact wpAny_pure h
theorem getItem_tuple_rev {t sl:Addr} {items:Array Value} {vk:Value} {Q:Value→Shared→Prop} (ht:IsTup s.heap t items) (hs:s.heap.IsSliceOf sl .none .none vk) (pk:IsPart vk (some (-1)))
 (h:Q (.ref s.heap.objs.size) { s with heap:=s.heap.push { cls:=.type "tuple",data:=.seq items.toList.reverse.toArray } })
 (hsz:items.size≤sizeLine):wpAny (model prog w) A (getItem (.ref t) (.ref sl)) Q E s:=by
 have htake:sizeOk (.seq items.toList.reverse.toArray):=by
  show items.toList.reverse.toArray.size≤sizeLine
  rw [List.size_toArray,List.length_reverse,Array.length_toList]
  exact hsz
 obtain ⟨os,hos,hcs,hds⟩:=id hs
 have hTs:s.TypeIs (.ref sl) "slice":=⟨os,hos,hcs⟩
 unfold getItem
 try with_reducible refine wpAny_holding ?_
 first | refine wpAny_bind (wpAny_pure ?_) | skip
 refine wpAny_bind (wpAny_sequenceKey ht.typeIs (by decide) ?_)
 refine wpAny_bind (wpAny_callSpecial?_slot (name:=Str.ofString "__getitem__") ht.typeIs PyProof.Rows.slot_tuple_getitem
  (wpAny_call_entry PyProof.Rows.slot_tuple_getitem ht.typeIs entry_tuple_getitem ?_ (args_tuple_getitem _ _)))
 show wpAny _ _ (Builtin.Tuple.tupleItemsOf (.ref t) >>= _) _ _ s
 refine wpAny_bind (tupleItemsOf_ ht ?_)
 refine wpAny_bind (wpAny_typeOf hTs ?_)
 rw [if_pos (by decide)]
 refine wpAny_bind (sliceApplied_rev hs pk ?_)
 have hno:¬ ((((items.size:Int) - 1) == 0&&(-1:Int) == 1&&items.size == items.size)=true):=by
  intro q
  rw [Bool.and_eq_true,Bool.and_eq_true] at q
  exact absurd q.1.2 (by decide)
 show wpAny _ _ (if (((items.size:Int) - 1) == 0&&(-1:Int) == 1&&items.size == items.size)=true then _ else _) _ _ s
 rw [if_neg hno,rev_pick]
 first
  | exact wpAny_bind (m:=Builtin.Tuple.tupleExact _) (wpAny_newObj_type (wpAny_pure ⟨_,rfl,wpAny_pure h⟩) htake)
  | exact wpAny_bind (m:=Builtin.Tuple.tupleExact _) (wpAny_newObj_type (wpAny_bind (wpAny_pure (wpAny_pure ⟨_,rfl,wpAny_pure h⟩))) htake)
  | exact wpAny_bind (wpAny_bind (m:=Builtin.Tuple.tupleExact _) (wpAny_newObj_type (wpAny_pure (wpAny_pure ⟨_,rfl,wpAny_pure h⟩)) htake))
  | exact wpAny_bind (wpAny_bind (m:=Builtin.Tuple.tupleExact _) (wpAny_newObj_type (wpAny_pure ⟨_,rfl,wpAny_pure h⟩) htake))
end
section
variable {X:Cx} {a b c:Expr} {ta tb tc:TE} {pos:Pos}
def rRvP (K:PySem.W.Frag):V→Hp→VK→Prop:=fun x H Q=>∃ a,x=.ref a∧((∃ xs,H a=some (.tup xs)∧∀ p,H p=none→Q (.ref p) (upd H p (.tup xs.reverse)))∨∃ xs,SqL K H a xs∧∀ p,H p=none→Q (.ref p) (upd H p (.lst xs.reverse)))
theorem rv_P:RvR X (rRvP X.K):=by
 intro pins s σ H x v vk sl Q I rx hs pk h
 obtain ⟨a,rfl,⟨xs,hx,q⟩ | ⟨xs,hx,q⟩⟩:=h
 · cases rx
   obtain ⟨its,r,ht,hz⟩:=I.tuple (SqT.of hx)
   have hlen:=r.length
   refine ⟨"tuple",_,PyProof.Rows.slot_tuple_getitem.lookup,ht.typeIs,?_⟩
   refine getItem_tuple_rev ht hs pk ?_ (by rw [List.size_toArray,← hlen];exact hz)
   refine ⟨.ref s.heap.objs.size,_,I.laid (t':=s.toks) (o:=.tup xs.reverse) (fun b ob q=>Heap.get?_push_of_some _ q) (Nat.le_refl _) ?_,rfl,q _ (I.hok.fresh (Nat.le_refl _))⟩
   exact ⟨by rw [List.length_reverse];exact hz,its.reverse,r.reverse,TupD.new _ _⟩
 · exact rv_list pins s σ H _ v vk sl Q I rx hs pk ⟨a,xs,rfl,hx,q⟩
theorem PE.imp {e:Expr} {t t':TE} (h:PE X e t) (i:∀ σ H Q,t' σ H Q→t σ H Q):PE X e t':=fun pins s σ H Q I q=>h pins s σ H Q I (i σ H Q q)
theorem OpR.imp {f:Value→Value→Sem Value} {r r':R2} (h:OpR X f r) (i:∀ x y H Q,r' x y H Q→r x y H Q):OpR X f r':=fun pins s σ H x y v u Q I rx ry q=>h pins s σ H x y v u Q I rx ry (i x y H Q q)
def tV (i:Nat):TE:=fun σ H Q=>match σ[i]? with | some (some v)=>Q v H | _=>False
theorem tV_var {i:Nat} (σ:St) (H:Hp) (Q:VK) (h:tV i σ H Q):tVar i σ H Q:=by
 unfold tV at h
 split at h
 · exact ⟨_,by assumption,h⟩
 · exact h.elim
theorem pn (i:Nat) {x:Str} {pos:Pos} (hN:X.N[i]? = some x:=by rfl) (hv:Vis X.env.scope x:=by first | exact Or.inl rfl | exact Or.inr (Or.inl rfl) | exact Or.inr (Or.inr rfl)) (hd:(x == ("__debug__" : Str))=false:=by decide)
 (hcd:(x == ("__classdict__" : Str))=false:=by decide):PE X (.Name x pos) (tV i):=(pe_var hN hv hd hcd).imp tV_var
theorem zn (i:Nat) {x:Str} {pos:Pos} (hN:X.N[i]? = some x:=by rfl) (hv:Vis X.env.scope x:=by first | exact Or.inl rfl | exact Or.inr (Or.inl rfl) | exact Or.inr (Or.inr rfl)) (hd:(x == ("__debug__" : Str))=false:=by decide)
 (hcd:(x == ("__classdict__" : Str))=false:=by decide):ZE X (.Name x pos) (tV i):=by with_unfolding_all exact pn i hN hv hd hcd
def rAddP (K:PySem.W.Frag):R2:=fun x y H Q=>match x,y with
 | .int i,.int j=>Q (.int (i+j)) H
 | .str i,.str j=>i.length+j.length≤sizeLine∧Q (.str (i++j)) H
 | .ref a,.ref b=>(∃ xs ys,H a=some (.lst xs)∧H b=some (.lst ys)∧xs.length+ys.length≤sizeLine∧∀ p,H p=none→Q (.ref p) (upd H p (.lst (xs++ys)))) ∨
  ∃ xs ys,H a=some (.tup xs)∧H b=some (.tup ys)∧xs.length+ys.length≤sizeLine∧∀ r H',Same H H'→H' r=some (.tup (xs++ys))→Q (.ref r) H'
 | _,_=>False
theorem op_catA':OpR X (binaryOp .Add) (fun x y H Q=>∃ a b xs ys,x=.ref a∧y=.ref b∧H a=some (.tup xs)∧H b=some (.tup ys)∧xs.length+ys.length≤sizeLine∧∀ r H',Same H H'→H' r=some (.tup (xs++ys))→Q (.ref r) H'):=by
 intro pins s σ H x y v u Q I rx ry h
 obtain ⟨a,b,xs,ys,rfl,rfl,ha,hb,hz,q⟩:=h
 by_cases hx:xs=[]
 · subst hx
   cases rx
   cases ry
   obtain ⟨its,r1,p1,_⟩:=I.tuple (SqT.of ha)
   obtain ⟨its2,r2,p2,_⟩:=I.tuple (SqT.of hb)
   cases r1
   obtain ⟨⟨cls,dd,data,sl⟩,ho,hc,n,hd⟩:=id p1
   obtain ⟨⟨cls2,dd2,data2,sl2⟩,ho2,hc2,n2,hd2⟩:=id p2
   simp only at hc hd hc2 hd2
   subst hc hd hc2 hd2
   exact concat_meets ⟨_,ho,rfl⟩ ⟨_,ho2,rfl⟩ noFill_tuple_add seq_tuple_add PySem.F.slot_tuple_add PySem.F.entry_tuple_add (PySem.F.args_tuple_add_2 _ _)
    (tuple_addW0 a b _ _ n n2 dd dd2 sl sl2 (by rfl)) ⟨ho,ho2,⟨.ref b,H,I,rfl,q b H (Same.refl H) hb⟩⟩
 · refine op_catT pins s σ H _ _ v u Q I rx ry ⟨a,b,xs,ys,rfl,rfl,SqT.of ha,SqT.of hb,hx,hz,fun e=>?_,fun e p hp=>?_⟩
   · subst e
     exact q a H (Same.refl H) (by rw [List.append_nil];exact ha)
   · exact q p _ (Same.new hp _) upd_same
theorem op_addP:OpR X (binaryOp .Add) (rAddP X.K):=by
 intro pins s σ H x y v u Q I rx ry h
 unfold rAddP at h
 split at h
 · exact op_add pins s σ H _ _ v u Q I rx ry ⟨_,_,rfl,rfl,h⟩
 · exact op_add_str pins s σ H _ _ v u Q I rx ry ⟨_,_,rfl,rfl,h⟩
 · rcases h with ⟨xs,ys,h1,h2,h3,q⟩ | ⟨xs,ys,h1,h2,h3,q⟩
   · exact op_cat pins s σ H _ _ v u Q I rx ry ⟨_,_,xs,ys,rfl,rfl,h1,h2,h3,q⟩
   · exact op_catA' pins s σ H _ _ v u Q I rx ry ⟨_,_,xs,ys,rfl,rfl,h1,h2,h3,q⟩
 · exact h.elim
def rP (C:Int→Int→Prop) (g:Int→Int→V):R2:=fun x y H Q=>match x,y with | .int i,.int j=>C i j∧Q (g i j) H | _,_=>False
def rP0 (g:Int→Int→V):R2:=fun x y H Q=>match x,y with | .int i,.int j=>Q (g i j) H | _,_=>False
theorem rP_rI {C:Int→Int→Prop} {g:Int→Int→V} (x y:V) (H:Hp) (Q:VK) (h:rP C g x y H Q):rI C g x y H Q:=by
 unfold rP at h
 split at h
 · exact ⟨_,_,rfl,rfl,h⟩
 · exact h.elim
theorem rP0_rI0 {g:Int→Int→V} (x y:V) (H:Hp) (Q:VK) (h:rP0 g x y H Q):rI0 g x y H Q:=by
 unfold rP0 at h
 split at h
 · exact ⟨_,_,rfl,rfl,h⟩
 · exact h.elim
theorem op_subP:OpR X (binaryOp .Sub) (rP0 fun i j=>.int (i - j)):=op_sub.imp rP0_rI0
theorem op_modP:OpR X (binaryOp .Mod) (rP (fun _ j=>0<j) fun i j=>.int (i % j)):=op_mod.imp rP_rI
theorem op_fdivP:OpR X (binaryOp .FloorDiv) (rP CDiv fun i j=>.int (i / j)):=op_fdiv.imp rP_rI
theorem op_powP:OpR X (binaryOp .Pow) (rP CPow fun i j=>.int (i ^ j.toNat)):=op_pow.imp rP_rI
theorem op_ltP:OpR X (compareOp .Lt) (rP0 fun i j=>.bl (decide (i<j))):=op_lt.imp rP0_rI0
theorem op_leP:OpR X (compareOp .LtE) (rP0 fun i j=>.bl (decide (i≤j))):=op_le.imp rP0_rI0
theorem op_gtP:OpR X (compareOp .Gt) (rP0 fun i j=>.bl (decide (j<i))):=op_gt.imp rP0_rI0
theorem op_geP:OpR X (compareOp .GtE) (rP0 fun i j=>.bl (decide (j≤i))):=op_ge.imp rP0_rI0
def rIsP (neg:Bool):R2:=fun x y H Q=>match y with
 | .non=>Q (.bl (if neg then !decide (x=y) else decide (x=y))) H
 | .bl _=>match x with
   | .flt _=>False
   | .byt _=>False
   | .ty _=>False
   | _=>Q (.bl (if neg then !decide (x=y) else decide (x=y))) H
 | _=>False
end
mutual
inductive DatV (H:Hp):V→PyData→Prop where
 | non:DatV H .non .none
 | bl (b:Bool):DatV H (.bl b) (.bool b)
 | int (i:Int):DatV H (.int i) (.int i)
 | str (x:Str):DatV H (.str x) (.str x)
 | lst {a:Addr} {xs:List V} {ds:List PyData} (e:H a=some (.lst xs)) (r:DatAll H xs ds):DatV H (.ref a) (.list ds)
 | tup {a:Addr} {xs:List V} {ds:List PyData} (e:H a=some (.tup xs)) (r:DatAll H xs ds):DatV H (.ref a) (.tuple ds)
inductive DatAll (H:Hp):List V→List PyData→Prop where
 | nil:DatAll H [] []
 | cons {x:V} {d:PyData} {xs:List V} {ds:List PyData} (h:DatV H x d) (r:DatAll H xs ds):DatAll H (x::xs) (d::ds)
end
mutual
theorem DatV.same {H H':Hp} (s:Same H H'):∀ {x:V} {d:PyData},DatV H x d→DatV H' x d
 | _,_,.non=>.non
 | _,_,.bl b=>.bl b
 | _,_,.int i=>.int i
 | _,_,.str x=>.str x
 | _,_,.lst e r=>.lst (s _ _ e) (DatAll.same s r)
 | _,_,.tup e r=>.tup (s _ _ e) (DatAll.same s r)
theorem DatAll.same {H H':Hp} (s:Same H H'):∀ {xs:List V} {ds:List PyData},DatAll H xs ds→DatAll H' xs ds
 | _,_,.nil=>.nil
 | _,_,.cons h r=>.cons (DatV.same s h) (DatAll.same s r)
end
theorem DatAll.ints {H:Hp}:∀ ns:List Int,DatAll H (ns.map V.int) (ns.map PyData.int)
 | []=>.nil
 | n::r=>.cons (.int n) (DatAll.ints r)
section
variable {X:Cx} {pins:List (Addr×Obj)} {σ:St} {H:Hp} {s:Shared}
mutual
theorem DatV.reads (I:Inv X pins σ H s):∀ {x:V} {d:PyData} {v:Value},DatV H x d→RelV x v→∃ as,Reads s.heap v d as
 | _,_,_,.non,r=>by cases r;exact ⟨_,.none⟩
 | _,_,_,.bl b,r=>by cases r;exact ⟨_,.bool b⟩
 | _,_,_,.int i,r=>by obtain ⟨t,rfl⟩:=r;exact ⟨_,.int i t⟩
 | _,_,_,.str x,r=>by obtain ⟨t,rfl⟩:=r;exact ⟨_,.str x t⟩
 | _,_,_,.lst e q,r=>by
   cases r
   obtain ⟨_,its,n,rv,h⟩:=I.lstM e
   obtain ⟨_,h⟩:=h
   obtain ⟨as,z⟩:=DatAll.reads I q rv
   exact ⟨_,reads_list_at h rfl rfl z⟩
 | _,_,_,.tup e q,r=>by
   cases r
   obtain ⟨its,rv,⟨o,h1,h2,n,h3⟩,_⟩:=I.tuple (SqT.of e)
   obtain ⟨as,z⟩:=DatAll.reads I q rv
   exact ⟨_,reads_tuple_at h1 h2 h3 z⟩
theorem DatAll.reads (I:Inv X pins σ H s):∀ {xs:List V} {ds:List PyData} {vs:List Value},DatAll H xs ds→Vals xs vs→∃ as,ReadsAll s.heap vs ds as
 | _,_,_,.nil,r=>by cases r;exact ⟨_,.nil⟩
 | _,_,_,.cons h q,r=>by
   cases r with
   | cons r1 r2=>
     obtain ⟨as,z⟩:=DatV.reads I h r1
     obtain ⟨bs,y⟩:=DatAll.reads I q r2
     exact ⟨_,.cons z y⟩
end
end
section
variable {X:Cx} {a b c:Expr} {ta tb tc:TE} {pos:Pos}
def rEqD (neg:Bool):R2:=fun x y H Q=>match scal x y with
 | true=>Q (.bl (if neg then !decide (x=y) else decide (x=y))) H
 | false=>∃ d e,DatV H x d∧DatV H y e∧SeqAt.shaped d=true∧SeqAt.shaped e=true∧Q (.bl (if neg then !PyData.eqv d e else PyData.eqv d e)) H
theorem op_eqD (hu:X.A.units+64<cLine):OpR X (compareOp .Eq) (rEqD false):=by
 intro pins s σ H x y v u Q I rx ry h
 unfold rEqD at h
 split at h
 · exact op_eq pins s σ H x y v u Q I rx ry ⟨by assumption,h⟩
 · obtain ⟨d,e,h1,h2,h3,h4,q⟩:=h
   obtain ⟨as,r1⟩:=h1.reads I rx
   obtain ⟨bs,r2⟩:=h2.reads I ry
   exact eq_dataH r1 r2 h3 h4 hu ⟨.bl _,H,I,rfl,q⟩
theorem op_neD (hu:X.A.units+64<cLine):OpR X (compareOp .NotEq) (rEqD true):=by
 intro pins s σ H x y v u Q I rx ry h
 unfold rEqD at h
 split at h
 · exact op_ne pins s σ H x y v u Q I rx ry ⟨by assumption,h⟩
 · obtain ⟨d,e,h1,h2,h3,h4,q⟩:=h
   obtain ⟨as,r1⟩:=h1.reads I rx
   obtain ⟨bs,r2⟩:=h2.reads I ry
   exact ne_dataH r1 r2 h3 h4 hu ⟨.bl _,H,I,rfl,q⟩
theorem op_isP:OpR X (compareOp .Is) (rIsP false):=by
 intro pins s σ H x y v u Q I rx ry h
 unfold rIsP at h
 split at h
 · exact op_isN pins s σ H x _ v u Q I rx ry ⟨rfl,h⟩
 · rename_i k
   cases ry
   split at h
   · exact h.elim
   · exact h.elim
   · exact h.elim
   · rename_i hf hb ht
     cases x with
     | non=>cases rx;exact wpAny_is_plain rfl (fin_bl I h (by simp))
     | bl j=>cases rx;exact wpAny_is_plain rfl (fin_bl I h (by rw [Bool.eq_iff_iff];simp))
     | int j=>obtain ⟨t,rfl⟩:=rx;exact wpAny_is_plain rfl (fin_bl I h (by simp))
     | str j=>obtain ⟨t,rfl⟩:=rx;exact wpAny_is_plain rfl (fin_bl I h (by simp))
     | byt j=>exact absurd rfl (hb j)
     | flt j=>exact absurd rfl (hf j)
     | ref j=>cases rx;exact wpAny_is_plain rfl (fin_bl I h (by simp))
     | ty j=>exact absurd rfl (ht j)
 · exact h.elim
theorem op_isntP:OpR X (compareOp .IsNot) (rIsP true):=by
 intro pins s σ H x y v u Q I rx ry h
 unfold rIsP at h
 split at h
 · exact op_notN pins s σ H x _ v u Q I rx ry ⟨rfl,h⟩
 · rename_i k
   cases ry
   split at h
   · exact h.elim
   · exact h.elim
   · exact h.elim
   · rename_i hf hb ht
     cases x with
     | non=>cases rx;exact wpAny_isNot_plain rfl (fin_bl I h (by simp))
     | bl j=>cases rx;exact wpAny_isNot_plain rfl (fin_bl I h (by rw [Bool.eq_iff_iff];simp))
     | int j=>obtain ⟨t,rfl⟩:=rx;exact wpAny_isNot_plain rfl (fin_bl I h (by simp))
     | str j=>obtain ⟨t,rfl⟩:=rx;exact wpAny_isNot_plain rfl (fin_bl I h (by simp))
     | byt j=>exact absurd rfl (hb j)
     | flt j=>exact absurd rfl (hf j)
     | ref j=>cases rx;exact wpAny_isNot_plain rfl (fin_bl I h (by simp))
     | ty j=>exact absurd rfl (ht j)
 · exact h.elim
def tBlP (t:TE):TT:=fun σ H Q=>t σ H fun x H1=>match x with | .bl c=>Q c H1 | _=>False
theorem blP {x:V} {P:Bool→Prop} (h:match x with | .bl c=>P c | _=>False):∃ c,x=.bl c∧P c:=by
 cases x <;> first | exact ⟨_,rfl,h⟩ | exact h.elim
theorem pt_cmpP {op:CmpOp} {r:R2} (ho:OpR X (compareOp op) r) (ha:PE X a ta) (hb:PE X b tb) (hm:behindInMarks op b=false):PT X (.Compare a [op] [b] pos) (tBlP (tOp r ta tb)):=by
 intro pins s σ H Q I h
 refine wpAny_isTrue_Compare1 (binT ha hb I h fun v u s2 x y H2 I2 rx ry q=>?_) hm
 refine thn (ho pins s2 σ H2 x y v u _ I2 rx ry q) fun z s3 ⟨w',H3,I3,r3,q3⟩=>?_
 obtain ⟨k,rfl,q3⟩:=blP q3
 cases r3
 exact wpAny_truthy_bool ⟨H3,I3,q3⟩
theorem zt_cmpP {op:CmpOp} {r:R2} (ho:OpR X (compareOp op) r) (ha:ZE X a ta) (hb:ZE X b tb) (hm:behindInMarks op b=false):ZT X (.Compare a [op] [b] pos) (tBlP (tOp r ta tb)):=by with_unfolding_all exact pt_cmpP ho ha hb hm
theorem pt_valP {e:Expr} {t:TE} (h:PE X e t) (he:∀ whole,isTrue e X.env whole=(do let v ← whole;standAt e.pos;holding [v] (truthy v)):=by intro _;rfl):PT X e (tBlP t):=by
 intro pins s σ H Q I q
 refine isTrue_plain (thn (h pins s σ H _ I q) fun v s1 ⟨x,H1,I1,r1,q1⟩=>?_) (he _)
 obtain ⟨k,rfl,q1⟩:=blP q1
 cases r1
 exact wpAny_truthy_bool ⟨H1,I1,q1⟩
theorem zt_valP {e:Expr} {t:TE} (h:ZE X e t) (he:∀ whole,isTrue e X.env whole=(do let v ← whole;standAt e.pos;holding [v] (truthy v)):=by intro _;rfl):ZT X e (tBlP t):=by with_unfolding_all exact pt_valP h he
def tAndP (ta tb:TE):TE:=fun σ H Q=>ta σ H fun x H1=>match x with | .bl c=>if c=true then tb σ H1 Q else Q (.bl false) H1 | _=>False
def tNotP (ta:TE):TE:=fun σ H Q=>ta σ H fun x H1=>match x with | .bl c=>Q (.bl (!c)) H1 | _=>False
variable {rest:List Expr}
theorem pe_andP (ha:PE X a ta) (hb:PE X (.BoolOp .And (b::rest) pos) tb):PE X (.BoolOp .And (a::b::rest) pos) (tAndP ta tb):=by
 intro pins s σ H Q I h
 refine BoolOp_and (thn (ha pins s σ H _ I h) fun v s1 ⟨x,H1,I1,r1,q1⟩=>?_)
 obtain ⟨c,rfl,q1⟩:=blP q1
 cases r1
 refine wpAny_truthy_bool ?_
 cases c with
 | true=>exact hb pins s1 σ H1 Q I1 q1
 | false=>exact ⟨.bl false,H1,I1,rfl,q1⟩
theorem ze_andP (ha:ZE X a ta) (hb:ZE X (.BoolOp .And (b::rest) pos) tb):ZE X (.BoolOp .And (a::b::rest) pos) (tAndP ta tb):=by with_unfolding_all exact pe_andP ha hb
theorem pe_notP (ha:PE X a ta):PE X (.UnaryOp .Not a pos) (tNotP ta):=by
 intro pins s σ H Q I h
 refine UnaryOp_ (thn (ha pins s σ H _ I h) fun v s1 ⟨x,H1,I1,r1,q1⟩=>?_)
 obtain ⟨c,rfl,q1⟩:=blP q1
 cases r1
 exact not_of (wpAny_truthy_bool ⟨.bl (!c),H1,I1,rfl,q1⟩)
theorem ze_notP (ha:ZE X a ta):ZE X (.UnaryOp .Not a pos) (tNotP ta):=by with_unfolding_all exact pe_notP ha
def rIxP (K:PySem.W.Frag):R2:=fun x y H Q=>match x,y with
 | .ref p,.int i=>(∃ xs,(SqL K H p xs∨H p=some (.tup xs))∧∃ v,atI xs i=some v∧Q v H)
 | _,_=>False
theorem ix_P:IxR X (rIxP X.K):=by
 intro value slice pins s σ H x y v u Q I rx ry h hs
 unfold rIxP at h
 split at h
 · obtain ⟨xs,h1 | h1,w,e,q⟩:=h
   · exact ix_list value slice pins s σ H _ _ v u Q I rx ry ⟨_,xs,_,w,rfl,rfl,h1,e,q⟩ hs
   · exact ix_tup value slice pins s σ H _ _ v u Q I rx ry ⟨_,xs,_,w,rfl,rfl,SqT.of h1,e,q⟩ hs
 · exact h.elim
theorem CallR.imp {f:Value} {r r':List V→Hp→VK→Prop} (h:CallR X f r) (i:∀ xs H Q,r' xs H Q→r xs H Q):CallR X f r':=fun pins s σ H xs us Q I rs q=>h pins s σ H xs us Q I rs (i xs H Q q)
def rLenP (K:PySem.W.Frag):List V→Hp→VK→Prop:=fun xs H Q=>match xs with
 | [.ref p]=>∃ ys,(SqL K H p ys∨H p=some (.tup ys))∧Q (.int ys.length) H
 | _=>False
theorem call_lenP:CallR X (.builtin "len") (rLenP X.K):=call_len_seq.imp fun xs H Q h=>by
 unfold rLenP at h
 split at h
 · obtain ⟨ys,h1 | h1,q⟩:=h
   · exact ⟨_,ys,rfl,.inl h1,q⟩
   · exact ⟨_,ys,rfl,.inr (SqT.of h1),q⟩
 · exact h.elim
def tyName (H:Hp):V→Option String
 | .non=>some "NoneType"
 | .bl _=>some "bool"
 | .int _=>some "int"
 | .str _=>some "str"
 | .ref a=>match H a with
   | some (.lst _)=>some "list"
   | some (.tup _)=>some "tuple"
   | some (.dK _)=>some "dict"
   | _=>none
 | _=>none
def subTy (t c:String):Bool:=t == c||(t == "bool"&&c == "int")
theorem tyOf_name {K:PySem.W.Frag} {H:Hp} {x:V} {t:String} (h:tyName H x=some t):TyOf K H x (.type t):=by
 unfold tyName at h
 split at h
 all_goals first | (cases h;constructor) | skip
 · split at h
   all_goals first | (cases h;constructor;assumption) | cases h
 · cases h
def rIsiP:List V→Hp→VK→Prop:=fun xs H Q=>match xs with
 | [x,.ty c]=>∃ t,tyName H x=some t∧(c == "int"||c == "bool"||c == "tuple"||c == "str"||c == "list")=true∧Q (.bl (subTy t c)) H
 | _=>False
theorem kit_of {K:PySem.W.Frag} {H:Hp} {x:V} {t c:String} (h:tyName H x=some t) (hc:(c == "int"||c == "bool"||c == "tuple"||c == "str"||c == "list")=true):PySem.W.kitOne K (.type t) (.type c)=some (subTy t c):=by
 have ht:t∈["NoneType","bool","int","str","list","tuple","dict"]:=by
  unfold tyName at h
  split at h
  all_goals first | (cases h;decide) | skip
  · split at h
    all_goals first | (cases h;decide) | cases h
  · cases h
 have hc':c∈["int","bool","tuple","str","list"]:=by
  simp only [Bool.or_eq_true,beq_iff_eq] at hc
  simp only [List.mem_cons,List.not_mem_nil,or_false]
  rcases hc with (((hc | hc) | hc) | hc) | hc <;> simp [hc]
 have all:(["NoneType","bool","int","str","list","tuple","dict"].all fun t=>["int","bool","tuple","str","list"].all fun c=>decide (PySem.W.kitOne [] (.type t) (.type c)=some (subTy t c)))=true:=by decide +kernel
 have e:PySem.W.kitOne K (.type t) (.type c)=PySem.W.kitOne [] (.type t) (.type c):=rfl
 rw [e]
 exact of_decide_eq_true (List.all_eq_true.mp (List.all_eq_true.mp all t ht) c hc')
theorem call_isiP:CallR X (.builtin "isinstance") rIsiP:=by
 intro pins s σ H xs us Q I r h
 unfold rIsiP at h
 split at h
 · obtain ⟨t,h1,h2,q⟩:=h
   obtain ⟨u,w',rfl,r1,r2⟩:=vals2 r
   cases r2
   exact isinst_ok I r1 (tyOf_name h1) (kit_of h1 h2) fun tk=>⟨.bl _,H,I.tok tk,rfl,q⟩
 · exact h.elim
def rTupP (K:PySem.W.Frag):List V→Hp→VK→Prop:=fun xs H Q=>match xs with
 | [.ref p]=>∃ ys,(SqL K H p ys∨H p=some (.tup ys))∧∀ r H',Same H H'→H' r=some (.tup ys)→Q (.ref r) H'
 | _=>False
theorem call_tupP:CallR X (.type "tuple") (rTupP X.K):=call_tuple_of.imp fun xs H Q h=>by
 unfold rTupP at h
 split at h
 · obtain ⟨ys,h1 | h1,q⟩:=h
   · exact ⟨_,ys,rfl,.inl ⟨h1,fun l hl=>q l _ (Same.new hl _) upd_same⟩⟩
   · exact ⟨_,ys,rfl,.inr ⟨SqT.of h1,q _ H (Same.refl H) h1⟩⟩
 · exact h.elim
def rLstP (K:PySem.W.Frag):List V→Hp→VK→Prop:=fun xs H Q=>match xs with
 | [.ref p]=>∃ ys,(SqL K H p ys∨H p=some (.tup ys))∧∀ l,H l=none→Q (.ref l) (upd H l (.lst ys))
 | _=>False
theorem call_lstP:CallR X (.type "list") (rLstP X.K):=call_list_of.imp fun xs H Q h=>by
 unfold rLstP at h
 split at h
 · obtain ⟨ys,h1 | h1,q⟩:=h
   · exact ⟨_,ys,rfl,.inl h1,q⟩
   · exact ⟨_,ys,rfl,.inr (SqT.of h1),q⟩
 · exact h.elim
def rMinP:List V→Hp→VK→Prop:=fun xs H Q=>match xs with
 | [.int i,.int j]=>Q (.int (if j<i then j else i)) H
 | _=>False
theorem call_minP (hc:X.calm=true):CallR X (.builtin "min") rMinP:=(call_min2 hc).imp fun xs H Q h=>by
 unfold rMinP at h
 split at h
 · exact ⟨_,_,rfl,h⟩
 · exact h.elim
structure FnA (P:Program) (w:World) (K:PySem.W.Frag) (mg:Str→Option Value) (base:Heap) (x:Str) (k:Nat) (ps:List Str) (sp:Sp):Prop where
 ex:∃ f fd,FnOk P w K mg base CX0 k f fd ps sp∧Binds K fd ps []∧PySem.W.keepIn K (.ref f)=true∧mg x=some (.ref f)
def tFn (sp:Sp) (t:TA):TE:=fun σ H Q=>t σ H fun vs H1=>sp vs H1 Q E0
theorem pe_fn {x:Str} {k k':Nat} {ps:List Str} {sp:Sp} {e:Expr} {es:List Expr} {t:TA} {p:Pos} (F:FnA X.prog X.w X.K X.mg X.base x k ps sp) (hr:Room k' X.A) (hk:k≤k') (hg:Gl X x)
 (ha:PA X (e::es) t) (hdb:(x == ("__debug__" : Str))=false:=by decide) (he:starEach (e::es) X.env=(false,eval e X.env)::starEach es X.env:=by rfl) (hpl:(backTo pos (starEach es X.env)).any (·.1)=false:=by rfl) :
 PE X (.Call (.Name x p) (e::es) [] pos) (tFn sp t):=by
 obtain ⟨f,fd,F1,b1,k1,m1⟩:=F.ex
 refine (pe_call (F1.mono hk) hr hg m1 k1 b1 .nil pass0 ha hdb he hpl).imp fun σ H Q h=>?_
 have e:(fun (vs:List V) (H1:Hp)=>sp (vs++[]) H1 Q E0)=fun vs H1=>sp vs H1 Q E0:=by
  funext vs H1
  rw [List.append_nil]
 show t σ H fun vs H1=>sp (vs++[]) H1 Q E0
 rw [e]
 exact h
theorem ze_fn {x:Str} {k k':Nat} {ps:List Str} {sp:Sp} {e:Expr} {es:List Expr} {t:TA} {p:Pos} (F:FnA X.prog X.w X.K X.mg X.base x k ps sp) (hr:Room k' X.A) (hk:k≤k') (hg:Gl X x)
 (ha:ZA X (e::es) t) (hdb:(x == ("__debug__" : Str))=false:=by decide) (he:starEach (e::es) X.env=(false,eval e X.env)::starEach es X.env:=by rfl) (hpl:(backTo pos (starEach es X.env)).any (·.1)=false:=by rfl) :
 ZE X (.Call (.Name x p) (e::es) [] pos) (tFn sp t):=by with_unfolding_all exact pe_fn F hr hk hg ha hdb he hpl
end
theorem pe_ty {X:Cx} {x:Str} {T:String} {pos:Pos} (hg:Gl X x) (hm:X.mg x=none) (hv:bootBuiltins x=some (.type T)) (hn:x≠"__name__":=by decide) (hd:(x == ("__debug__" : Str))=false:=by decide):PE X (.Name x pos) (tC (.ty T)):=
 pe_bltn hg hm hv (show RelV (.ty T) (.type T) from rfl) hn hd
theorem iteD {p:Prop} [Decidable p] {A B:Prop} (h1:p→A) (h2:¬ p→B):if decide p=true then A else B:=by
 by_cases h:p
 · rw [decide_eq_true h];exact iteT (h1 h)
 · rw [decide_eq_false h];exact iteF (h2 h)
theorem iteB {b:Bool} {A B:Prop} (h1:b=true→A) (h2:b=false→B):if b=true then A else B:=by
 cases b with
 | true=>exact iteT (h1 rfl)
 | false=>exact iteF (h2 rfl)
theorem boot_isinstance:bootBuiltins "isinstance" = some (.builtin "isinstance"):=by decide +kernel
theorem boot_sorted':bootBuiltins "sorted" = some (.builtin "sorted"):=by decide +kernel
theorem boot_min':bootBuiltins "min" = some (.builtin "min"):=by decide +kernel
theorem boot_all':bootBuiltins "all" = some (.builtin "all"):=by decide +kernel
theorem boot_int':bootBuiltins "int" = some (.type "int"):=by decide +kernel
theorem boot_bool':bootBuiltins "bool" = some (.type "bool"):=by decide +kernel
theorem boot_tuple':bootBuiltins "tuple" = some (.type "tuple"):=by decide +kernel
theorem boot_list':bootBuiltins "list" = some (.type "list"):=by decide +kernel
def rAllP (K:PySem.W.Frag):List V→Hp→VK→Prop:=fun xs H Q=>match xs with
 | [.ref p]=>∃ bs:List Bool,SqL K H p (bs.map V.bl)∧Q (.bl (bs.all id)) H
 | _=>False
theorem call_allP {X:Cx} (hc:X.calm=true):CallR X (.builtin "all") (rAllP X.K):=by
 intro pins s σ H xs us Q I r h
 unfold rAllP at h
 split at h
 · rename_i p
   obtain ⟨bs,hq,q⟩:=h
   obtain ⟨u,rfl,rx⟩:=vals1 r
   cases rx
   obtain ⟨its,rv,pl,hz⟩:=I.list hq
   have hlen:its.length=bs.length:=by rw [← rv.length,List.length_map]
   have hlt:p<s.heap.objs.size:=by
    obtain ⟨_,e,_⟩:=pl.isList
    exact Heap.lt_size e
   refine call_all_walk (wpAny_pyIter_list pl.isList ?_)
   have W:Walks X.prog X.w X.A.in1 s.heap.objs.size [s.heap.objs.size,p] [s.heap.objs.size] its.toArray.size _ _:=Walks.list (show X.A.in1.handled=none from I.ok.hd hc) s.heap.objs.size p (Nat.ne_of_lt hlt) its.toArray
   refine ⟨s.heap.objs.size,_,_,_,_,_,fun i=>bs.getD i false,rfl,W,⟨⟨_,Heap.get?_push_size _ rfl,rfl,rfl⟩,pl.isList.push _⟩,?_,fun h' tk hk=>?_⟩
   · intro i v s' Q' E' hP hQ
     have hP':its[i]? = some v:=by simpa using hP
     have hi:i<bs.length:=by rw [← hlen];exact (List.getElem?_eq_some_iff.mp hP').1
     obtain ⟨w',e1,e2⟩:=rv.get (i:=i) (x:=.bl bs[i]) (by rw [List.getElem?_map,List.getElem?_eq_getElem hi];rfl)
     rw [hP'] at e1
     cases e1
     cases e2
     refine wpAny_truthy_bool ?_
     have e:bs.getD i false=bs[i]:=by rw [List.getD_eq_getElem?_getD,List.getElem?_eq_getElem hi];rfl
     have hQ':Q' (bs.getD i false) s':=hQ
     rw [e] at hQ'
     exact hQ'
   · have I1:Inv X pins σ H { s with heap:=h',toks:=tk }:=I.kept fun b o e=>hk b o (by simpa using Nat.ne_of_lt (Heap.lt_size e)) (Heap.get?_push_of_some _ e)
     refine ⟨.bl _,H,I1,rfl,?_⟩
     have e:(List.range its.toArray.size).all (fun i=>bs.getD i false)=bs.all id:=by
      rw [List.size_toArray,hlen]
      have key:∀ l:List Bool,(List.range l.length).all (fun i=>l.getD i false)=l.all id:=by
       intro l
       rw [Bool.eq_iff_iff,List.all_eq_true,List.all_eq_true]
       constructor
       · intro h x hx
         obtain ⟨i,hi,rfl⟩:=List.mem_iff_getElem.mp hx
         have:=h i (List.mem_range.mpr hi)
         rw [List.getD_eq_getElem?_getD,List.getElem?_eq_getElem hi] at this
         exact this
       · intro h i hi
         have hi':=List.mem_range.mp hi
         rw [List.getD_eq_getElem?_getD,List.getElem?_eq_getElem hi']
         exact h _ (List.getElem_mem hi')
      exact key bs
     rw [e]
     exact q
 · exact h.elim
theorem dk_empty {P:Program} {w:World} {H:Hp} (h:Heap) (hb:sysModules<h.objs.size):ObjOk P w H (h.push { cls:=.type "dict",data:=.dict #[] }) h.objs.size (.dK []):=
 ⟨Nat.zero_le _,beq_eq_false_iff_ne.mpr (Ne.symm (Nat.ne_of_lt hb)),[],.nil,Heap.DictOf.new h⟩
def tDNewK:TE:=fun _ H Q=>∀ p,H p=none→Q (.ref p) (upd H p (.dK []))
theorem Inv.big {X:Cx} {pins:List (Addr×Obj)} {σ:St} {H:Hp} {s:Shared} (I:Inv X pins σ H s):sysModules<s.heap.objs.size:=by
 have h:mainGlobals<s.heap.objs.size:=(I.mod.glob.keeps I.bk).lt
 exact Nat.lt_trans (by decide) h
theorem pe_dnewK {X:Cx} {pos:Pos}:PE X (.Dict [] [] pos) tDNewK:=fun pins s σ H Q I h=>
 wpAny_Dict_empty ⟨.ref s.heap.objs.size,_,I.laid (a:=s.heap.objs.size) (o:=.dK []) (t':=s.toks) (fun _ _ q=>Heap.get?_push_of_some _ q) (Nat.le_refl _) (dk_empty s.heap I.big),rfl,h _ (I.hok.fresh (Nat.le_refl _))⟩
theorem ze_dnewK {X:Cx} {pos:Pos}:ZE X (.Dict [] [] pos) tDNewK:=by with_unfolding_all exact pe_dnewK
def tPar3 (i j k:Nat) (ta:TA):TS:=fun D σ H=>ta σ H fun vs H1=>match vs with | [v,w,z]=>D.nx (((σ.set i (some v)).set j (some w)).set k (some z)) H1 | _=>False
theorem ps_par3 {X:Cx} {pos:Pos} {i j k:Nat} {x y z:Str} {a b c:Expr} {ta:TA} {px py pz pt:Pos} {kt k2 pt2} (hc:X.calm=true) (hN:X.N.Nodup) (hi:X.N[i]? = some x) (hj:X.N[j]? = some y) (hk:X.N[k]? = some z) (hij:i≠j) (hik:i≠k) (hjk:j≠k)
 (hx:X.env.scope.names.lookup x=some .local) (hy:X.env.scope.names.lookup y=some .local) (hz:X.env.scope.names.lookup z=some .local) (ha:PA X [a,b,c] ta)
 (hw:swappedStores [.Tuple [.Name x px,.Name y py,.Name z pz] kt pt] (.Tuple [a,b,c] k2 pt2) X.env=pure (some [x,y,z]))
 (hs:swapsWithSole [.Tuple [.Name x px,.Name y py,.Name z pz] kt pt] (.Tuple [a,b,c] k2 pt2) pos.line X.env=pure false:=by rfl) :
 PS X (.Assign [.Tuple [.Name x px,.Name y py,.Name z pz] kt pt] (.Tuple [a,b,c] k2 pt2) pos) (tPar3 i j k ta):=by
 intro pins s σ H D I h
 rw [exec_Assign_arm]
 refine wpAny_bind (wpAny_standAt ?_)
 rw [hs]
 refine wpAny_bind (wpAny_pure ?_)
 rw [if_neg (by decide)]
 refine wpAny_bind (Tuple_ (thn (ha _ pins s σ H _ I h) fun us s1 ⟨vs,H1,I1,r1,q1⟩=>?_))
 obtain ⟨v,w,t,e1,q1⟩:∃ v w t,vs=[v,w,t]∧D.nx (((σ.set i (some v)).set j (some w)).set k (some t)) H1:=by
  match vs,q1 with
  | [v,w,t],q1=>exact ⟨v,w,t,rfl,q1⟩
  | [],q1=>exact q1.elim
  | [_],q1=>exact q1.elim
  | [_,_],q1=>exact q1.elim
  | _::_::_::_::_,q1=>exact q1.elim
 subst e1
 obtain ⟨u1,u2,u3,rfl,rv,rw',rz⟩:∃ u1 u2 u3,us=[u1,u2,u3]∧RelV v u1∧RelV w u2∧RelV t u3:=by
  cases r1 with
  | cons p q=>
    cases q with
    | cons p' q'=>
      cases q' with
      | cons p2 q2=>
        cases q2
        exact ⟨_,_,_,rfl,p,p',p2⟩
 refine wpAny_newObj_type ?_ (by show 3≤sizeLine;decide)
 have I2:Inv X pins σ H1 { s1 with heap:=s1.heap.push { cls:=.type "tuple",data:=.seq [u1,u2,u3].toArray } }:=I1.kept (t':=s1.toks) fun b o e=>Heap.get?_push_of_some _ e
 rw [hw]
 refine wpAny_bind (wpAny_pure ?_)
 show wpAny (model X.prog X.w) X.A (do rule "assign.swapped-stores";let items ← unpackItems (.ref s1.heap.objs.size) 3 none;assignInOrder [fun v=>bindName X.env z v,fun v=>bindName X.env y v,fun v=>bindName X.env x v] items.reverse;pure Flow.next) _ _ _
 refine wpAny_bind (wpAny_rule (wpAny_bind (unpackItems_tuple (items:=#[u1,u2,u3]) (I.ok.hd hc) (IsTup.new s1.heap _) fun h' hx'=>?_)))
 have I3:=I2.kept (h':=h') (t':=s1.toks) fun b o e=>hx' b o (Nat.ne_of_lt (Heap.lt_size e)) e
 show wpAny _ _ (assignInOrder [fun v=>bindName X.env z v,fun v=>bindName X.env y v,fun v=>bindName X.env x v] [u3,u2,u1] >>= fun _=>pure Flow.next) _ _ _
 refine wpAny_bind (assignInOrder_cons (wpAny_bindName (store_ok I3 hN hk (.inl hz) rz (fun s2 I4=>?_) (.inr hz))))
 refine assignInOrder_cons (wpAny_bindName (store_ok I4 hN hj (.inl hy) rw' (fun s3 I5=>?_) (.inr hy)))
 refine assignInOrder_cons (wpAny_bindName (store_ok I5 hN hi (.inl hx) rv (fun s4 I6=>assignInOrder_nil (wpAny_pure ?_)) (.inr hx)))
 have e:((σ.set k (some t)).set j (some w)).set i (some v)=((σ.set i (some v)).set j (some w)).set k (some t):=by
  rw [List.set_comm _ _ (Ne.symm hij),List.set_comm _ _ (Ne.symm hik),List.set_comm _ _ (Ne.symm hjk)]
 rw [e] at I6
 exact ⟨_,H1,I6,q1⟩
theorem zs_par3 {X:Cx} {pos:Pos} {i j k:Nat} {x y z:Str} {a b c:Expr} {ta:TA} {px py pz pt:Pos} {kt k2 pt2} (hc:X.calm=true) (hN:X.N.Nodup) (hi:X.N[i]? = some x) (hj:X.N[j]? = some y) (hk:X.N[k]? = some z) (hij:i≠j) (hik:i≠k) (hjk:j≠k)
 (hx:X.env.scope.names.lookup x=some .local) (hy:X.env.scope.names.lookup y=some .local) (hz:X.env.scope.names.lookup z=some .local) (ha:ZA X [a,b,c] ta)
 (hw:swappedStores [.Tuple [.Name x px,.Name y py,.Name z pz] kt pt] (.Tuple [a,b,c] k2 pt2) X.env=pure (some [x,y,z]))
 (hs:swapsWithSole [.Tuple [.Name x px,.Name y py,.Name z pz] kt pt] (.Tuple [a,b,c] k2 pt2) pos.line X.env=pure false:=by rfl) :
 ZS X (.Assign [.Tuple [.Name x px,.Name y py,.Name z pz] kt pt] (.Tuple [a,b,c] k2 pt2) pos) (tPar3 i j k ta):=by with_unfolding_all exact ps_par3 hc hN hi hj hk hij hik hjk hx hy hz ha hw hs
section
variable {X:Cx} {e:Expr} {es:List Expr} {t:TA} {p pos:Pos}
theorem pcb_len (hg:Gl X "len") (hm:X.mg "len" = none) (ha:PA X (e::es) t) (he:starEach (e::es) X.env=(false,eval e X.env)::starEach es X.env) (hpl:(backTo pos (starEach es X.env)).any (·.1)=false) :
 PE X (.Call (.Name "len" p) (e::es) [] pos) (tCB (rLenP X.K) t):=pe_callB call_lenP hg hm PySem.boot_len ha (by decide) (by decide) he hpl
theorem zcb_len (hg:Gl X "len") (hm:X.mg "len" = none) (ha:ZA X (e::es) t) (he:starEach (e::es) X.env=(false,eval e X.env)::starEach es X.env) (hpl:(backTo pos (starEach es X.env)).any (·.1)=false) :
 ZE X (.Call (.Name "len" p) (e::es) [] pos) (tCB (rLenP X.K) t):=by with_unfolding_all exact pcb_len hg hm ha he hpl
theorem pcb_isinstance (hg:Gl X "isinstance") (hm:X.mg "isinstance" = none) (ha:PA X (e::es) t) (he:starEach (e::es) X.env=(false,eval e X.env)::starEach es X.env) (hpl:(backTo pos (starEach es X.env)).any (·.1)=false) :
 PE X (.Call (.Name "isinstance" p) (e::es) [] pos) (tCB rIsiP t):=pe_callB call_isiP hg hm boot_isinstance ha (by decide) (by decide) he hpl
theorem zcb_isinstance (hg:Gl X "isinstance") (hm:X.mg "isinstance" = none) (ha:ZA X (e::es) t) (he:starEach (e::es) X.env=(false,eval e X.env)::starEach es X.env) (hpl:(backTo pos (starEach es X.env)).any (·.1)=false) :
 ZE X (.Call (.Name "isinstance" p) (e::es) [] pos) (tCB rIsiP t):=by with_unfolding_all exact pcb_isinstance hg hm ha he hpl
theorem pcb_min (hc:X.calm=true) (hg:Gl X "min") (hm:X.mg "min" = none) (ha:PA X (e::es) t) (he:starEach (e::es) X.env=(false,eval e X.env)::starEach es X.env) (hpl:(backTo pos (starEach es X.env)).any (·.1)=false) :
 PE X (.Call (.Name "min" p) (e::es) [] pos) (tCB rMinP t):=pe_callB (call_minP hc) hg hm boot_min' ha (by decide) (by decide) he hpl
theorem zcb_min (hc:X.calm=true) (hg:Gl X "min") (hm:X.mg "min" = none) (ha:ZA X (e::es) t) (he:starEach (e::es) X.env=(false,eval e X.env)::starEach es X.env) (hpl:(backTo pos (starEach es X.env)).any (·.1)=false) :
 ZE X (.Call (.Name "min" p) (e::es) [] pos) (tCB rMinP t):=by with_unfolding_all exact pcb_min hc hg hm ha he hpl
theorem pcb_all (hc:X.calm=true) (hg:Gl X "all") (hm:X.mg "all" = none) (ha:PA X (e::es) t) (he:starEach (e::es) X.env=(false,eval e X.env)::starEach es X.env) (hpl:(backTo pos (starEach es X.env)).any (·.1)=false) :
 PE X (.Call (.Name "all" p) (e::es) [] pos) (tCB (rAllP X.K) t):=pe_callB (call_allP hc) hg hm boot_all' ha (by decide) (by decide) he hpl
theorem zcb_all (hc:X.calm=true) (hg:Gl X "all") (hm:X.mg "all" = none) (ha:ZA X (e::es) t) (he:starEach (e::es) X.env=(false,eval e X.env)::starEach es X.env) (hpl:(backTo pos (starEach es X.env)).any (·.1)=false) :
 ZE X (.Call (.Name "all" p) (e::es) [] pos) (tCB (rAllP X.K) t):=by with_unfolding_all exact pcb_all hc hg hm ha he hpl
theorem pcb_tuple (hg:Gl X "tuple") (hm:X.mg "tuple" = none) (ha:PA X (e::es) t) (he:starEach (e::es) X.env=(false,eval e X.env)::starEach es X.env) (hpl:(backTo pos (starEach es X.env)).any (·.1)=false) :
 PE X (.Call (.Name "tuple" p) (e::es) [] pos) (tCB (rTupP X.K) t):=pe_callTy call_tupP hg hm boot_tuple' ha (by decide) (by decide) he hpl
theorem zcb_tuple (hg:Gl X "tuple") (hm:X.mg "tuple" = none) (ha:ZA X (e::es) t) (he:starEach (e::es) X.env=(false,eval e X.env)::starEach es X.env) (hpl:(backTo pos (starEach es X.env)).any (·.1)=false) :
 ZE X (.Call (.Name "tuple" p) (e::es) [] pos) (tCB (rTupP X.K) t):=by with_unfolding_all exact pcb_tuple hg hm ha he hpl
theorem pcb_list (hg:Gl X "list") (hm:X.mg "list" = none) (ha:PA X (e::es) t) (he:starEach (e::es) X.env=(false,eval e X.env)::starEach es X.env) (hpl:(backTo pos (starEach es X.env)).any (·.1)=false) :
 PE X (.Call (.Name "list" p) (e::es) [] pos) (tCB (rLstP X.K) t):=pe_callTy call_lstP hg hm boot_list' ha (by decide) (by decide) he hpl
theorem zcb_list (hg:Gl X "list") (hm:X.mg "list" = none) (ha:ZA X (e::es) t) (he:starEach (e::es) X.env=(false,eval e X.env)::starEach es X.env) (hpl:(backTo pos (starEach es X.env)).any (·.1)=false) :
 ZE X (.Call (.Name "list" p) (e::es) [] pos) (tCB (rLstP X.K) t):=by with_unfolding_all exact pcb_list hg hm ha he hpl
theorem pty_int (hg:Gl X "int") (hm:X.mg "int" = none):PE X (.Name "int" pos) (tC (.ty "int")):=pe_ty hg hm boot_int' (by decide) (by decide)
theorem zty_int (hg:Gl X "int") (hm:X.mg "int" = none):ZE X (.Name "int" pos) (tC (.ty "int")):=by with_unfolding_all exact pty_int hg hm
theorem pty_bool (hg:Gl X "bool") (hm:X.mg "bool" = none):PE X (.Name "bool" pos) (tC (.ty "bool")):=pe_ty hg hm boot_bool' (by decide) (by decide)
theorem zty_bool (hg:Gl X "bool") (hm:X.mg "bool" = none):ZE X (.Name "bool" pos) (tC (.ty "bool")):=by with_unfolding_all exact pty_bool hg hm
theorem pty_tuple (hg:Gl X "tuple") (hm:X.mg "tuple" = none):PE X (.Name "tuple" pos) (tC (.ty "tuple")):=pe_ty hg hm boot_tuple' (by decide) (by decide)
theorem zty_tuple (hg:Gl X "tuple") (hm:X.mg "tuple" = none):ZE X (.Name "tuple" pos) (tC (.ty "tuple")):=by with_unfolding_all exact pty_tuple hg hm
end
section
variable {X:Cx}
theorem Inv.moved {wr:List Addr} {pins:List (Addr×Obj)} {σ:St} {H:Hp} {s s':Shared} {h2:Heap} {t2:Nat} (I:Inv X pins σ H s) (m:Moved wr (fun a b=>b=a) { s with heap:=h2,toks:=t2 } s') (hk:∀ b o,s.heap.get? b=some o→b∉wr∧h2.get? b=some o):Inv X pins σ H s':=by
 have e:s'={ s with heap:=s'.heap,toks:=s'.toks }:=by
  obtain ⟨_,h2,h3,h4,_⟩:=m
  cases s'
  simp only at h2 h3 h4
  subst h2 h3 h4
  rfl
 rw [e]
 exact I.kept fun b o q=>m.heap b o (hk b o q).1 (hk b o q).2
def rSumP (K:PySem.W.Frag):List V→Hp→VK→Prop:=fun xs H Q=>match xs with
 | [.ref p]=>∃ ns:List Int,(SqL K H p (ns.map V.int)∨H p=some (.tup (ns.map V.int)))∧Q (.int ns.sum) H
 | _=>False
theorem preSum_ext {f g:Nat→Int}:∀ n,(∀ i,i<n→f i=g i)→preSum f n=preSum g n
 | 0,_=>rfl
 | n+1,h=>by
   show preSum f n+f n=preSum g n+g n
   rw [preSum_ext n fun i hi=>h i (by omega),h n (by omega)]
theorem preSum_succ (f:Nat→Int):∀ n,preSum f (n+1)=f 0+preSum (fun i=>f (i+1)) n
 | 0=>by show (0:Int)+f 0=f 0+0;omega
 | n+1=>by
   show preSum f (n+1)+f (n+1)=f 0+(preSum (fun i=>f (i+1)) n+f (n+1))
   rw [preSum_succ f n];omega
theorem preSum_list:∀ ns:List Int,preSum (fun i=>ns.getD i 0) ns.length=ns.sum
 | []=>rfl
 | n::r=>by
   rw [List.length_cons,preSum_succ,List.sum_cons]
   have e:preSum (fun i=>(n::r).getD (i+1) 0) r.length=preSum (fun i=>r.getD i 0) r.length:=preSum_ext _ fun i _=>by simp
   rw [e,preSum_list r]
   rfl
theorem ints_at {ns:List Int} {its:List Value} (rv:Vals (ns.map V.int) its) {i:Nat} {v:Value} (h:its.toArray[i]? = some v):∃ t,v=.int (ns.getD i 0) t:=by
 have h':its[i]? = some v:=by simpa using h
 have hl:its.length=ns.length:=by rw [← rv.length,List.length_map]
 have hi:i<ns.length:=by rw [← hl];exact (List.getElem?_eq_some_iff.mp h').1
 obtain ⟨w',e1,t,e2⟩:=rv.get (i:=i) (x:=.int ns[i]) (by rw [List.getElem?_map,List.getElem?_eq_getElem hi];rfl)
 rw [h'] at e1
 cases e1
 refine ⟨t,?_⟩
 rw [e2,List.getD_eq_getElem?_getD,List.getElem?_eq_getElem hi]
 rfl
theorem call_sumP (hc:X.calm=true):CallR X (.builtin "sum") (rSumP X.K):=by
 intro pins s σ H xs us Q I r h
 unfold rSumP at h
 split at h
 · rename_i p
   obtain ⟨ns,hq,q⟩:=h
   obtain ⟨u,rfl,rx⟩:=vals1 r
   cases rx
   have hh:X.A.in1.handled=none:=I.ok.hd hc
   rcases hq with hq | hq
   · obtain ⟨its,rv,pl,hz⟩:=I.list hq
     have hlt:p<s.heap.objs.size:=by
      obtain ⟨_,e,_⟩:=pl.isList
      exact Heap.lt_size e
     refine call_sum_walkAnyS (wpAny_pyIter_list pl.isList ?_)
     refine ⟨s.heap.objs.size,_,_,_,_,_,_,fun i=>ns.getD i 0,rfl,(Walks.list hh s.heap.objs.size p (Nat.ne_of_lt hlt) its.toArray).toS,⟨⟨_,Heap.get?_push_size _ rfl,rfl,rfl⟩,pl.isList.push _⟩,?_,fun i v hv=>ints_at rv hv,fun s' t' m=>?_⟩
     · intro b hb
       rw [Heap.size_push]
       rcases List.mem_cons.mp hb with rfl | hb
       · exact Nat.lt_succ_self _
       · rcases List.mem_cons.mp hb with rfl | hb
         · exact Nat.lt_succ_of_lt hlt
         · cases hb
     · have I1:Inv X pins σ H s':=I.moved m fun b o e=>⟨by simpa using Nat.ne_of_lt (Heap.lt_size e),Heap.get?_push_of_some _ e⟩
       refine ⟨.int _,H,I1,⟨t',rfl⟩,?_⟩
       rw [List.size_toArray,← rv.length,List.length_map,preSum_list]
       exact q
   · obtain ⟨its,rv,pl,hz⟩:=I.tuple (SqT.of hq)
     have hlt:p<s.heap.objs.size:=pl.lt
     refine call_sum_walkAnyS (wpAny_pyIter_tuple (show s.heap.IsTuple p its.toArray from pl) ?_)
     refine ⟨s.heap.objs.size,_,_,_,_,_,_,fun i=>ns.getD i 0,rfl,(Walks.tuple hh s.heap.objs.size p (Nat.ne_of_lt hlt) its.toArray).toS,⟨⟨_,Heap.get?_push_size _ rfl,rfl,rfl⟩,?_⟩,?_,fun i v hv=>ints_at rv hv,fun s' t' m=>?_⟩
     · exact IsTup.keeps pl fun b o e=>Heap.get?_push_of_some _ e
     · intro b hb
       rw [Heap.size_push]
       rcases List.mem_cons.mp hb with rfl | hb
       · exact Nat.lt_succ_self _
       · rcases List.mem_cons.mp hb with rfl | hb
         · exact Nat.lt_succ_of_lt hlt
         · cases hb
     · have I1:Inv X pins σ H s':=I.moved m fun b o e=>⟨by simpa using Nat.ne_of_lt (Heap.lt_size e),Heap.get?_push_of_some _ e⟩
       refine ⟨.int _,H,I1,⟨t',rfl⟩,?_⟩
       rw [List.size_toArray,← rv.length,List.length_map,preSum_list]
       exact q
 · exact h.elim
def rMax1P (K:PySem.W.Frag):List V→Hp→VK→Prop:=fun xs H Q=>match xs with
 | [.int i,.int j]=>Q (.int (if j > i then j else i)) H
 | [.ref p]=>∃ ns:List Int,(SqL K H p (ns.map V.int)∨H p=some (.tup (ns.map V.int)))∧ns≠[]∧∀ M,M∈ns→(∀ n∈ns,n≤M)→Q (.int M) H
 | _=>False
theorem best_is {ns:List Int} (h:ns≠[]):ns.getD (argBest (fun i j=>decide (ns.getD i 0 > ns.getD j 0)) (ns.length - 1)) 0∈ns∧∀ n∈ns,n≤ns.getD (argBest (fun i j=>decide (ns.getD i 0 > ns.getD j 0)) (ns.length - 1)) 0:=by
 have hp:0<ns.length:=List.length_pos_iff.mpr h
 obtain ⟨h1,h2⟩:=argBest_gt (fun i=>ns.getD i 0) (ns.length - 1)
 have hlt:argBest (fun i j=>decide (ns.getD i 0 > ns.getD j 0)) (ns.length - 1)<ns.length:=by omega
 refine ⟨?_,fun n hn=>?_⟩
 · rw [List.getD_eq_getElem?_getD,List.getElem?_eq_getElem hlt]
   exact List.getElem_mem hlt
 · obtain ⟨i,hi,rfl⟩:=List.mem_iff_getElem.mp hn
   have:=h2 i (by omega)
   have e:ns.getD i 0=ns[i]:=by rw [List.getD_eq_getElem?_getD,List.getElem?_eq_getElem hi];rfl
   rw [e] at this
   exact this
theorem call_maxP (hc:X.calm=true):CallR X (.builtin "max") (rMax1P X.K):=by
 intro pins s σ H xs us Q I r h
 unfold rMax1P at h
 split at h
 · exact call_max2 hc pins s σ H _ us Q I r ⟨_,_,rfl,h⟩
 · rename_i p
   obtain ⟨ns,hq,hne,q⟩:=h
   obtain ⟨u,rfl,rx⟩:=vals1 r
   cases rx
   have hh:X.A.in1.handled=none:=I.ok.hd hc
   have hb:=best_is hne
   rcases hq with hq | hq
   · obtain ⟨its,rv,pl,hz⟩:=I.list hq
     have hlen:its.length=ns.length:=by rw [← rv.length,List.length_map]
     have hlt:p<s.heap.objs.size:=by
      obtain ⟨_,e,_⟩:=pl.isList
      exact Heap.lt_size e
     refine call_max_walk (wpAny_pyIter_list pl.isList ?_)
     refine ⟨s.heap.objs.size,_,_,_,_,_,_,rfl,Walks.list hh s.heap.objs.size p (Nat.ne_of_lt hlt) its.toArray,⟨⟨_,Heap.get?_push_size _ rfl,rfl,rfl⟩,pl.isList.push _⟩,?_,?_,CmpOf.ints_gt (fun i=>ns.getD i 0) (fun i v hv=>ints_at rv hv),fun v h' tk hv hk=>?_⟩
     · intro b hb
       rw [Heap.size_push]
       rcases List.mem_cons.mp hb with rfl | hb
       · exact Nat.lt_succ_self _
       · rcases List.mem_cons.mp hb with rfl | hb
         · exact Nat.lt_succ_of_lt hlt
         · cases hb
     · rw [List.size_toArray,hlen];exact List.length_pos_iff.mpr hne
     · obtain ⟨t,rfl⟩:=ints_at rv hv
       refine ⟨.int _,H,I.kept fun b o e=>hk b o (by simpa using Nat.ne_of_lt (Heap.lt_size e)) (Heap.get?_push_of_some _ e),⟨t,rfl⟩,?_⟩
       rw [List.size_toArray,hlen]
       exact q _ hb.1 hb.2
   · obtain ⟨its,rv,pl,hz⟩:=I.tuple (SqT.of hq)
     have hlen:its.length=ns.length:=by rw [← rv.length,List.length_map]
     have hlt:p<s.heap.objs.size:=pl.lt
     refine call_max_walk (wpAny_pyIter_tuple (show s.heap.IsTuple p its.toArray from pl) ?_)
     refine ⟨s.heap.objs.size,_,_,_,_,_,_,rfl,Walks.tuple hh s.heap.objs.size p (Nat.ne_of_lt hlt) its.toArray,⟨⟨_,Heap.get?_push_size _ rfl,rfl,rfl⟩,IsTup.keeps pl fun b o e=>Heap.get?_push_of_some _ e⟩,?_,?_,CmpOf.ints_gt (fun i=>ns.getD i 0) (fun i v hv=>ints_at rv hv),fun v h' tk hv hk=>?_⟩
     · intro b hb
       rw [Heap.size_push]
       rcases List.mem_cons.mp hb with rfl | hb
       · exact Nat.lt_succ_self _
       · rcases List.mem_cons.mp hb with rfl | hb
         · exact Nat.lt_succ_of_lt hlt
         · cases hb
     · rw [List.size_toArray,hlen];exact List.length_pos_iff.mpr hne
     · obtain ⟨t,rfl⟩:=ints_at rv hv
       refine ⟨.int _,H,I.kept fun b o e=>hk b o (by simpa using Nat.ne_of_lt (Heap.lt_size e)) (Heap.get?_push_of_some _ e),⟨t,rfl⟩,?_⟩
       rw [List.size_toArray,hlen]
       exact q _ hb.1 hb.2
 · exact h.elim
theorem noFill_tuple_mul:fillsNumberSlot (.type "tuple") "mul" = pure false:=
 PySem.fillsNumberSlot_seq (id:="tuple.__mul__") (r:=some (.builtin "tuple.__rmul__")) F.slot_tuple_mul.lookup (by decide +kernel) F.slot_tuple_rmul.lookup (by decide +kernel)
theorem repeat_tuple:seqRepeat? (.type "tuple")=pure (some (.builtin "tuple.__mul__")):=by
 unfold seqRepeat?
 rw [PySem.seqSlot_of (T:="tuple") (name:="__mul__") (id:="tuple.__mul__") F.slot_tuple_mul.lookup (by decide +kernel),PySem.seqSlot_of (T:="tuple") (name:="__rmul__") (id:="tuple.__rmul__") F.slot_tuple_rmul.lookup (by decide +kernel)]
 rfl
theorem int_rmul_tuple (a:Int) (t:Tok) (l:Addr) (items:Array Value) (n:Nat) :
 Meets (Builtin.«int.__rmul__» ⟨[.int a t,.ref l],[]⟩) (fun _ R s=>s.heap.get? l=some { cls:=.type "tuple",dict:=none,data:=.seq items n,slots:=#[] }∧R (.ok (.ret Value.notImplemented)) s):=
 .of_wp fun prog w A R s h=>by obtain ⟨hp,g,d,tk,os⟩:=s;obtain ⟨hl,h⟩:=h;wp_walk;exact ⟨_,rfl,h⟩
theorem tuple_mul_same (l:Addr) (items:Array Value) (n:Nat) (x:Int) (u:Tok) (h1:(decide (x < -(2 ^ 63))||decide (x≥2 ^ 63))=false) (h2:(items.isEmpty||x == 1)=true) :
 Meets (Builtin.«tuple.__mul__» ⟨[.ref l,.int x u],[]⟩) (fun _ R s=>s.heap.get? l=some { cls:=.type "tuple",dict:=none,data:=.seq items n,slots:=#[] }∧R (.ok (.ret (.ref l))) s):=
 .of_wp fun prog w A R s h=>by
  obtain ⟨hp,g,d,tk,os⟩:=s;obtain ⟨hl,h⟩:=h
  wp_walk;refine wpAny_ite_false (by rw [h1];rfl) ?_;wp_walk;exact ⟨_,rfl,h⟩
theorem tuple_mul_none (l:Addr) (items:Array Value) (n:Nat) (x:Int) (u:Tok) (h1:(decide (x < -(2 ^ 63))||decide (x≥2 ^ 63))=false) (h2:(items.isEmpty||x == 1)=false) (h3:(decide (x≤0)||items.isEmpty)=true) :
 Meets (Builtin.«tuple.__mul__» ⟨[.ref l,.int x u],[]⟩) (fun _ R s=>s.heap.get? l=some { cls:=.type "tuple",dict:=none,data:=.seq items n,slots:=#[] }∧R (.ok (.ret (.ref s.heap.objs.size))) { s with heap:=s.heap.push { cls:=.type "tuple",data:=.seq #[] } }):=
 .of_wp fun prog w A R s h=>by
  obtain ⟨hp,g,d,tk,os⟩:=s;obtain ⟨hl,h⟩:=h
  wp_walk;refine wpAny_ite_false (by rw [h1];rfl) ?_;wp_walk;exact ⟨_,rfl,h⟩
theorem tuple_mul_many (l:Addr) (items:Array Value) (n:Nat) (x:Int) (u:Tok) (h1:(decide (x < -(2 ^ 63))||decide (x≥2 ^ 63))=false) (h2:(items.isEmpty||x == 1)=false) (h3:(decide (x≤0)||items.isEmpty)=false) (h4:decide ((items.size:Int)*x > (2 ^ 63 - 1) / 8)=false) (h5:Builtin.Tuple.tupleTooMany ((items.size:Int)*x)=false) (hz:((List.replicate x.toNat items).foldl (·++·) #[]).size≤sizeLine) :
 Meets (Builtin.«tuple.__mul__» ⟨[.ref l,.int x u],[]⟩) (fun _ R s=>s.heap.get? l=some { cls:=.type "tuple",dict:=none,data:=.seq items n,slots:=#[] }∧R (.ok (.ret (.ref s.heap.objs.size))) { s with heap:=s.heap.push { cls:=.type "tuple",data:=.seq ((List.replicate x.toNat items).foldl (·++·) #[]) } }):=
 .of_wp fun prog w A R s h=>by
  obtain ⟨hp,g,d,tk,os⟩:=s;obtain ⟨hl,h⟩:=h
  wp_walk;refine wpAny_ite_false (by rw [h1];rfl) ?_;wp_walk;refine wpAny_ite_false h4 ?_;wp_walk;exact ⟨_,rfl,h⟩
end
section
variable {X:Cx}
def rMulQ:R2:=fun x y H Q=>match x,y with
 | .int i,.int j=>IntMulOk i j∧Q (.int (i*j)) H
 | .ref a,.int k=>(-(2 ^ 63)≤k∧k<2 ^ 63)∧((∃ xs,H a=some (.lst xs)∧xs.length*k.toNat≤sizeLine∧∀ p,H p=none→Q (.ref p) (upd H p (.lst (List.replicate k.toNat xs).flatten))) ∨
  ∃ xs,H a=some (.tup xs)∧xs.length*k.toNat≤sizeLine∧∀ r H',Same H H'→H' r=some (.tup (List.replicate k.toNat xs).flatten)→Q (.ref r) H')
 | _,_=>False
theorem op_mulQ:OpR X (binaryOp .Mult) rMulQ:=by
 intro pins s σ H x y v u Q I rx ry h
 unfold rMulQ at h
 split at h
 · exact op_mulB pins s σ H _ _ v u Q I rx ry ⟨_,_,rfl,rfl,h⟩
 · obtain ⟨⟨hk1,hk2⟩,⟨xs,h1,h4,q⟩ | ⟨xs,hH,hz,q⟩⟩:=h
   · exact op_rep pins s σ H _ _ v u Q I rx ry ⟨_,_,xs,rfl,rfl,h1,hk1,hk2,h4,q⟩
   rename_i l k
   cases rx
   obtain ⟨t,rfl⟩:=ry
   obtain ⟨z,its,r,n,e⟩:=I.hok l _ hH
   have hl:its.length=xs.length:=r.length.symm
   have hemp:its.toArray.isEmpty=xs.isEmpty:=by
    cases r <;> rfl
   have g1:(decide (k < -(2 ^ 63))||decide (k≥2 ^ 63))=false:=by
    rw [Bool.or_eq_false_iff]
    exact ⟨decide_eq_false (by omega),decide_eq_false (by omega)⟩
   refine wpAny_binaryOp_repeat_ref (T:="tuple") (U:="int") (by decide) ⟨_,e,rfl⟩ (fun s'=>typeIs_int s' k t) noFill_tuple_mul F.fills_int_mul F.slot_int_rmul repeat_tuple F.slot_int_index.lookup
    (call_meets F.slot_int_rmul (typeIs_int s k t) F.entry_int_rmul (F.args_int_rmul_2 _ _) (int_rmul_tuple k t l its.toArray n) ⟨e,rfl,⟨_,e,rfl⟩,?_⟩)
   by_cases c1:(its.toArray.isEmpty||k == 1)=true
   · refine call_meets F.slot_tuple_mul ⟨_,e,rfl⟩ F.entry_tuple_mul (F.args_tuple_mul_2 _ _) (tuple_mul_same l its.toArray n k t g1 c1) ⟨e,?_⟩
     refine ⟨.ref l,H,I,rfl,q l H (Same.refl H) ?_⟩
     rw [hH]
     rw [Bool.or_eq_true] at c1
     rcases c1 with c1 | c1
     · rw [hemp,List.isEmpty_iff] at c1
       subst c1
       have:(List.replicate k.toNat ([]:List V)).flatten=[]:=by
        induction k.toNat with
        | zero=>rfl
        | succ m ih=>rw [List.replicate_succ,List.flatten_cons,ih];rfl
       rw [this]
     · have:k=1:=by simpa using c1
       subst this
       show some (HO.tup xs)=some (.tup (List.replicate 1 xs).flatten)
       simp
   · have c1':(its.toArray.isEmpty||k == 1)=false:=by simpa using c1
     have he:its.toArray.isEmpty=false:=(Bool.or_eq_false_iff.mp c1').1
     by_cases c2:k≤0
     · refine call_meets F.slot_tuple_mul ⟨_,e,rfl⟩ F.entry_tuple_mul (F.args_tuple_mul_2 _ _) (tuple_mul_none l its.toArray n k t g1 c1' (by rw [decide_eq_true c2];rfl)) ⟨e,?_⟩
       have e0:(List.replicate k.toNat xs).flatten=[]:=by
        have:k.toNat=0:=by omega
        rw [this];rfl
       have I2:Inv X pins σ (upd H s.heap.objs.size (.tup [])) { s with heap:=s.heap.push { cls:=.type "tuple",data:=.seq #[] } }:=
        I.laid (t':=s.toks) (o:=.tup []) (fun b ob q=>Heap.get?_push_of_some _ q) (Nat.le_refl _) ⟨Nat.zero_le _,[],.nil,TupD.new _ _⟩
       exact ⟨.ref s.heap.objs.size,_,I2,rfl,q _ _ (Same.new (I.hok.fresh (Nat.le_refl _)) _) (by rw [e0];exact upd_same)⟩
     · have hcast:(its.toArray.size:Int)*k=((xs.length*k.toNat:Nat):Int):=by
        rw [List.size_toArray,hl]
        have:k=(k.toNat:Int):=by omega
        conv=>lhs;rw [this]
        norm_cast
       have hb:(sizeLine:Nat)≤(2 ^ 63 - 1) / 8:=by decide
       have g4:decide ((its.toArray.size:Int)*k > (2 ^ 63 - 1) / 8)=false:=by
        refine decide_eq_false ?_
        rw [hcast]
        omega
       have g5:Builtin.Tuple.tupleTooMany ((its.toArray.size:Int)*k)=false:=by
        unfold Builtin.Tuple.tupleTooMany
        rw [hcast]
        exact decide_eq_false (by omega)
       have f0:List.foldl (fun x1 x2=>x1++x2) #[] (List.replicate k.toNat its.toArray)=(List.replicate k.toNat its).flatten.toArray:=by
        have:=foldl_rep its k.toNat []
        rw [List.nil_append] at this
        exact this
       refine call_meets F.slot_tuple_mul ⟨_,e,rfl⟩ F.entry_tuple_mul (F.args_tuple_mul_2 _ _) (tuple_mul_many l its.toArray n k t g1 c1' (by rw [decide_eq_false c2,he];rfl) g4 g5 (by rw [f0,List.size_toArray,len_rep,hl,Nat.mul_comm];exact hz)) ⟨e,?_⟩
       rw [f0]
       have I2:Inv X pins σ (upd H s.heap.objs.size (.tup (List.replicate k.toNat xs).flatten)) { s with heap:=s.heap.push { cls:=.type "tuple",data:=.seq (List.replicate k.toNat its).flatten.toArray } }:=
        I.laid (t':=s.toks) (o:=.tup (List.replicate k.toNat xs).flatten) (fun b ob q=>Heap.get?_push_of_some _ q) (Nat.le_refl _) ⟨by rw [len_rep,Nat.mul_comm];exact hz,_,r.rep k.toNat,TupD.new _ _⟩
       exact ⟨.ref s.heap.objs.size,_,I2,rfl,q _ _ (Same.new (I.hok.fresh (Nat.le_refl _)) _) upd_same⟩
 · exact h.elim
def tTruP (K:PySem.W.Frag) (te:TE):TT:=fun σ H Q=>te σ H fun x H1=>match x with
 | .bl c=>Q c H1
 | .int i=>Q (i != 0) H1
 | .ref p=>∃ xs,(SqL K H1 p xs∨H1 p=some (.tup xs))∧Q (!xs.isEmpty) H1
 | _=>False
theorem pt_truP {a:Expr} {ta:TE} (ha:PE X a ta) (he:∀ whole,isTrue a X.env whole=(do let v ← whole;standAt a.pos;holding [v] (truthy v)):=by intro _;rfl):PT X a (tTruP X.K ta):=by
 intro pins s σ H Q I h
 refine isTrue_plain (thn (ha pins s σ H _ I h) fun v s1 ⟨x,H1,I1,r1,q1⟩=>?_) (he _)
 refine tru_ok pins s1 σ H1 x v Q I1 r1 ?_
 dsimp only at q1
 split at q1
 · exact ⟨_,rfl,q1⟩
 · exact ⟨_,rfl,q1⟩
 · obtain ⟨xs,h1 | h1,q⟩:=q1
   · exact ⟨_,.inl ⟨xs,h1,rfl⟩,q⟩
   · exact ⟨_,.inr (.inl ⟨xs,SqT.of h1,rfl⟩),q⟩
 · exact q1.elim
theorem zt_truP {a:Expr} {ta:TE} (ha:ZE X a ta) (he:∀ whole,isTrue a X.env whole=(do let v ← whole;standAt a.pos;holding [v] (truthy v)):=by intro _;rfl):ZT X a (tTruP X.K ta):=by with_unfolding_all exact pt_truP ha he
end
section
variable {X:Cx} {e:Expr} {es:List Expr} {t:TA} {p pos:Pos}
theorem boot_sum':bootBuiltins "sum" = some (.builtin "sum"):=by decide +kernel
theorem boot_max':bootBuiltins "max" = some (.builtin "max"):=by decide +kernel
theorem pcb_sum (hc:X.calm=true) (hg:Gl X "sum") (hm:X.mg "sum" = none) (ha:PA X (e::es) t) (he:starEach (e::es) X.env=(false,eval e X.env)::starEach es X.env) (hpl:(backTo pos (starEach es X.env)).any (·.1)=false) :
 PE X (.Call (.Name "sum" p) (e::es) [] pos) (tCB (rSumP X.K) t):=pe_callB (call_sumP hc) hg hm boot_sum' ha (by decide) (by decide) he hpl
theorem zcb_sum (hc:X.calm=true) (hg:Gl X "sum") (hm:X.mg "sum" = none) (ha:ZA X (e::es) t) (he:starEach (e::es) X.env=(false,eval e X.env)::starEach es X.env) (hpl:(backTo pos (starEach es X.env)).any (·.1)=false) :
 ZE X (.Call (.Name "sum" p) (e::es) [] pos) (tCB (rSumP X.K) t):=by with_unfolding_all exact pcb_sum hc hg hm ha he hpl
theorem pcb_max (hc:X.calm=true) (hg:Gl X "max") (hm:X.mg "max" = none) (ha:PA X (e::es) t) (he:starEach (e::es) X.env=(false,eval e X.env)::starEach es X.env) (hpl:(backTo pos (starEach es X.env)).any (·.1)=false) :
 PE X (.Call (.Name "max" p) (e::es) [] pos) (tCB (rMax1P X.K) t):=pe_callB (call_maxP hc) hg hm boot_max' ha (by decide) (by decide) he hpl
theorem zcb_max (hc:X.calm=true) (hg:Gl X "max") (hm:X.mg "max" = none) (ha:ZA X (e::es) t) (he:starEach (e::es) X.env=(false,eval e X.env)::starEach es X.env) (hpl:(backTo pos (starEach es X.env)).any (·.1)=false) :
 ZE X (.Call (.Name "max" p) (e::es) [] pos) (tCB (rMax1P X.K) t):=by with_unfolding_all exact pcb_max hc hg hm ha he hpl
def rAppP:V→List V→Hp→VK→Prop:=fun x vs H Q=>match x,vs with
 | .ref l,[y]=>∃ xs,H l=some (.lst xs)∧xs.length<sizeLine∧Q .non (upd H l (.lst (xs++[y])))
 | _,_=>False
theorem mt_appP:MtM X "list.append" rAppP:=fun pins s σ H x vs v us Q I rx rv h=>by
 unfold rAppP at h
 split at h
 · obtain ⟨xs,h1,h2,q⟩:=h
   exact mt_append pins s σ H _ _ v us Q I rx rv ⟨_,xs,_,rfl,rfl,h1,h2,q⟩
 · exact h.elim
variable {o:Expr} {to:TE} {apos cpos:Pos}
theorem pm_append (ho:PE X o to) (ha:PA X (e::es) t) (hbase:attributeBase o "append" X.env (eval o X.env)=eval o X.env:=by rfl)
 (hfew:((backTo cpos (starEach (e::es) X.env)).all (fun x=>!x.1)&&(backToKw cpos (keywordEach [] X.env)).all (fun x=>x.1.isSome)
   && decide ((e::es).length+([]:List Keyword).length+(if ([]:List Keyword).isEmpty then 0 else 1)<30))=true:=by rfl)
 (hline:(apos.endLine == cpos.line)=true:=by rfl) (hs:starEach (e::es) X.env=(false,eval e X.env)::starEach es X.env:=by rfl) (hplain:(backTo cpos (starEach es X.env)).any (·.1)=false:=by rfl) :
 PE X (.Call (.Attribute o "append" apos) (e::es) [] cpos) (fun σ H Q=>to σ H fun x H1=>tyV X.K "list" x H1∧t σ H1 fun xs H2=>rAppP x xs H2 Q):=
 pe_bm PySem.F.plainAttrs_list PySem.F.slot_list_append PySem.F.type_list_append mt_appP ho ha hbase hfew hline hs hplain
theorem zm_append (ho:ZE X o to) (ha:ZA X (e::es) t) (hbase:attributeBase o "append" X.env (eval o X.env)=eval o X.env:=by rfl)
 (hfew:((backTo cpos (starEach (e::es) X.env)).all (fun x=>!x.1)&&(backToKw cpos (keywordEach [] X.env)).all (fun x=>x.1.isSome)
   && decide ((e::es).length+([]:List Keyword).length+(if ([]:List Keyword).isEmpty then 0 else 1)<30))=true:=by rfl)
 (hline:(apos.endLine == cpos.line)=true:=by rfl) (hs:starEach (e::es) X.env=(false,eval e X.env)::starEach es X.env:=by rfl) (hplain:(backTo cpos (starEach es X.env)).any (·.1)=false:=by rfl) :
 ZE X (.Call (.Attribute o "append" apos) (e::es) [] cpos) (fun σ H Q=>to σ H fun x H1=>tyV X.K "list" x H1∧t σ H1 fun xs H2=>rAppP x xs H2 Q):=by with_unfolding_all exact pm_append ho ha hbase hfew hline hs hplain
theorem tyL {K:PySem.W.Frag} {H:Hp} {l:Addr} {xs:List V} (h:H l=some (.lst xs)):tyV K "list" (.ref l) H:=.inl ⟨rfl,xs,SqL.of h⟩
end
theorem DatV.ints {H:Hp} {a:Addr} {ns:List Int} (e:H a=some (.tup (ns.map V.int))):DatV H (.ref a) (.tuple (ns.map PyData.int)):=.tup e (DatAll.ints ns)
def PrAt (H:Hp) (v:V) (p:Int×Int):Prop:=∃ b,v=.ref b∧H b=some (.tup [.int p.1,.int p.2])
inductive Prs (H:Hp):List V→List (Int×Int)→Prop where
 | nil:Prs H [] []
 | cons {v p vs ps}:PrAt H v p→Prs H vs ps→Prs H (v::vs) (p::ps)
theorem Prs.same {H H':Hp} (y:Same H H'):∀ {vs ps},Prs H vs ps→Prs H' vs ps
 | _,_,.nil=>.nil
 | _,_,.cons ⟨b,e,h⟩ r=>.cons ⟨b,e,y _ _ h⟩ (Prs.same y r)
theorem Prs.length {H:Hp}:∀ {vs ps},Prs H vs ps→vs.length=ps.length
 | _,_,.nil=>rfl
 | _,_,.cons _ r=>by rw [List.length_cons,List.length_cons,Prs.length r]
theorem Prs.get {H:Hp}:∀ {vs ps} {i:Nat} {v:V},Prs H vs ps→vs[i]? = some v→∃ p,ps[i]? = some p∧PrAt H v p
 | _,_,_,_,.nil,h=>by simp at h
 | _,_,0,_,.cons h _,e=>by simp at e;subst e;exact ⟨_,rfl,h⟩
 | _,_,i+1,_,.cons _ r,e=>by
   obtain ⟨p,h1,h2⟩:=Prs.get (i:=i) r (by simpa using e)
   exact ⟨p,by simpa using h1,h2⟩
theorem Prs.snoc {H:Hp} {v:V} {p:Int×Int} (h:PrAt H v p):∀ {vs ps},Prs H vs ps→Prs H (vs++[v]) (ps++[p])
 | _,_,.nil=>.cons h .nil
 | _,_,.cons q r=>.cons q (Prs.snoc h r)
theorem Prs.set {H:Hp} {v:V} {p:Int×Int} (h:PrAt H v p):∀ {vs ps} (i:Nat),Prs H vs ps→Prs H (vs.set i v) (ps.set i p)
 | _,_,_,.nil=>.nil
 | _,_,0,.cons _ r=>.cons h r
 | _,_,i+1,.cons q r=>.cons q (Prs.set h i r)
theorem Same.updN {H H':Hp} {t:Addr} {o:HO} (y:Same H H') (h:H t=none):Same H (upd H' t o):=fun b u e=>by
 rw [upd_ne (ne_of_none e h)]
 exact y b u e
theorem Prs.updL {H:Hp} {t:Addr} {xs ys:List V} (h:H t=some (.lst xs)):∀ {us ps},Prs H us ps→Prs (upd H t (.lst ys)) us ps
 | _,_,.nil=>.nil
 | _,_,.cons ⟨b,e,hb⟩ r=>.cons ⟨b,e,by rw [upd_ne (ne_of hb h (by intro z;cases z))];exact hb⟩ (Prs.updL h r)
theorem Prs.nilOf {H:Hp} {us ps} (r:Prs H us ps):us.isEmpty=ps.isEmpty:=by cases r <;> rfl
theorem Prs.split {H:Hp} {us:List V} {i:List (Int×Int)} {q:Int×Int} (r:Prs H us (i++[q])):∃ vs b,us=vs++[.ref b]∧vs.length=i.length∧H b=some (.tup [.int q.1,.int q.2]):=by
 have hl:=r.length
 rw [List.length_append,List.length_singleton] at hl
 have hne:us≠[]:=by intro e;subst e;simp at hl
 have e:=List.dropLast_concat_getLast hne
 have hd:us.dropLast.length=i.length:=by rw [List.length_dropLast];omega
 obtain ⟨p,h1,b,h2,h3⟩:=r.get (i:=i.length) (v:=us.getLast hne) (by
  rw [List.getLast_eq_getElem,List.getElem?_eq_getElem (by omega)]
  congr 2
  omega)
 have:p=q:=by simpa using h1.symm
 subst this
 exact ⟨us.dropLast,b,by rw [← h2];exact e.symm,hd,h3⟩
theorem canInts:∀ ns:List Int,PyData.canLayAll0 (ns.map PyData.int)=true∧PyData.depthAll (ns.map PyData.int)≤1
 | []=>⟨by simp [PyData.canLayAll0],by simp [PyData.depthAll]⟩
 | n::r=>by
   obtain ⟨h1,h2⟩:=canInts r
   refine ⟨by simp only [List.map_cons,PyData.canLayAll0,PyData.canLay0,h1,Bool.and_self],?_⟩
   simp only [List.map_cons,PyData.depthAll,PyData.depth]
   omega
theorem shaped_ints (ns:List Int):SeqAt.shaped (.tuple (ns.map PyData.int))=true:=by
 obtain ⟨h1,h2⟩:=canInts ns
 unfold SeqAt.shaped
 rw [Bool.and_eq_true]
 exact ⟨by simp only [PyData.canLay0];exact h1,decide_eq_true (by simp only [PyData.depth];omega)⟩
theorem shaped_list_ints (ns:List Int):SeqAt.shaped (.list (ns.map PyData.int))=true:=by
 obtain ⟨h1,h2⟩:=canInts ns
 unfold SeqAt.shaped
 rw [Bool.and_eq_true]
 exact ⟨by simp only [PyData.canLay0];exact h1,decide_eq_true (by simp only [PyData.depth];omega)⟩
theorem eqv_self {d:PyData} (h:SeqAt.shaped d=true):PyData.eqv d d=true:=SeqAt.eqv_refl d (SeqAt.canLay_of_shaped h)
theorem SqL.same {K:PySem.W.Frag} {H H':Hp} {a:Addr} {xs:List V} (e:Same H H') (h:SqL K H a xs):SqL K H' a xs:=by
 rcases h with (h | ⟨o,h⟩) | h
 · exact .inl (.inl (e _ _ h))
 · exact .inl (.inr ⟨o,e _ _ h⟩)
 · exact .inr h
theorem while_by2 {c:TT} {tb:TS} {D:Ends} {σ:St} {H:Hp} (Pv:Nat→St→Hp→Prop) (m0:Nat) (h0:Pv m0 σ H)
 (hs:∀ m σ H,Pv m σ H→c σ H fun b H1=>if b=true then ∃ N:St→Hp→Prop,(∀ σ' H',N σ' H'→∃ m',m' < m∧Pv m' σ' H')∧tb { D with nx:=N,ct:=N,bk:=D.nx } σ H1 else D.nx σ H1):tWhile c tb D σ H:=⟨Pv,⟨m0,h0⟩,hs⟩
inductive Tps (H:Hp):List V→List (List Int)→Prop where
 | nil:Tps H [] []
 | cons {b:Addr} {ls:List Int} {vs lss}:H b=some (.tup (ls.map V.int))→Tps H vs lss→Tps H (.ref b::vs) (ls::lss)
theorem Tps.same {H H':Hp} (y:Same H H'):∀ {vs ps},Tps H vs ps→Tps H' vs ps
 | _,_,.nil=>.nil
 | _,_,.cons h r=>.cons (y _ _ h) (Tps.same y r)
theorem Tps.length {H:Hp}:∀ {vs ps},Tps H vs ps→vs.length=ps.length
 | _,_,.nil=>rfl
 | _,_,.cons _ r=>by rw [List.length_cons,List.length_cons,Tps.length r]
theorem Tps.get {H:Hp}:∀ {vs ps} {i:Nat} {v:V},Tps H vs ps→vs[i]? = some v→∃ ls b,ps[i]? = some ls∧v=.ref b∧H b=some (.tup (ls.map V.int))
 | _,_,_,_,.nil,h=>by simp at h
 | _,_,0,_,.cons h _,e=>by simp at e;exact ⟨_,_,rfl,e.symm,h⟩
 | _,_,i+1,_,.cons _ r,e=>by
   obtain ⟨ls,b,h1,h2⟩:=Tps.get (i:=i) r (by simpa using e)
   exact ⟨ls,b,by simpa using h1,h2⟩
theorem Tps.snoc {H:Hp} {b:Addr} {ls:List Int} (h:H b=some (.tup (ls.map V.int))):∀ {vs ps},Tps H vs ps→Tps H (vs++[.ref b]) (ps++[ls])
 | _,_,.nil=>.cons h .nil
 | _,_,.cons q r=>.cons q (Tps.snoc h r)
section
variable {X:Cx}
def IntG (mg:Str→Option Value) (x:Str) (i:Int):Prop:=∃ t,mg x=some (.int i t)
theorem pe_ig {x:Str} {i:Int} {pos:Pos} (hg:Gl X x) (hm:IntG X.mg x i) (hd:(x == ("__debug__" : Str))=false:=by decide):PE X (.Name x pos) (tC (.int i)):=by
 obtain ⟨t,e⟩:=hm
 exact pe_glob hg e ⟨t,rfl⟩ hd
theorem ze_ig {x:Str} {i:Int} {pos:Pos} (hg:Gl X x) (hm:IntG X.mg x i) (hd:(x == ("__debug__" : Str))=false:=by decide):ZE X (.Name x pos) (tC (.int i)):=by with_unfolding_all exact pe_ig hg hm hd
end
section
variable {X:Cx} {K:PySem.W.Frag}
theorem pi_tup' {tg l:Expr} {tl:TE} (hl:PE X l tl) (h:X.K=K):PI X tg l (iTup K tl):=by subst h;exact pi_tup hl
theorem zi_tup' {tg l:Expr} {tl:TE} (hl:ZE X l tl) (h:X.K=K):ZI X tg l (iTup K tl):=by with_unfolding_all exact pi_tup' hl h
theorem pi_list' {tg l:Expr} {tl:TE} (hl:PE X l tl) (h:X.K=K):PI X tg l (iList K tl):=by subst h;exact pi_list hl
theorem zi_list' {tg l:Expr} {tl:TE} (hl:ZE X l tl) (h:X.K=K):ZI X tg l (iList K tl):=by with_unfolding_all exact pi_list' hl h
end
section
variable {prog:Program} {w:World} {A:Around} {E:Value→Shared→Prop} {s:Shared}
theorem nextOf_tup_item {it t:Addr} {i:Nat} {items:Array Value} {x:Value} {Q:Value→Shared→Prop} (hit:s.heap.IsTupleIter it t i) (ht:s.heap.IsTuple t items) (hx:items[i]? = some x)
 (hQ:∀ h',h'.IsTupleIter it t (i+1)→Heap.SameBut it s.heap h'→Q x { s with heap:=h' }):wpAny (model prog w) A (Builtin.SmallTypes.nextOf (.ref it)) Q E s:=by
 obtain ⟨ot,h1,c1,d1⟩:=id hit
 obtain ⟨og,h2,c2,n2,d2⟩:=ht
 unfold Builtin.SmallTypes.nextOf
 refine wpAny_bind (wpAny_callSpecial?_slot hit.typeIs F.slot_tuple_iterator_next (wpAny_call_entry F.slot_tuple_iterator_next hit.typeIs F.entry_tuple_iterator_next ?_ (F.args_tuple_iterator_next_1 _)))
 refine wpAny_bind (m:=field (.ref it) 0) (wpAny_field h1 d1 (x:=.ref t) rfl ?_)
 have hnn:¬ ((Value.ref t == Value.none)=true):=fun z=>Bool.false_ne_true z
 show wpAny _ _ (if (Value.ref t == Value.none)=true then _ else _) _ _ _
 rw [if_neg hnn]
 refine wpAny_bind (m:=field (.ref it) 1) (wpAny_field h1 d1 (x:=.int i 0) rfl (wpAny_bind (m:=seqItems? (.ref t)) (wpAny_seqItems h2 d2 ?_)))
 simp only [Int.toNat_natCast,hx]
 refine wpAny_bind (wpAny_setField h1 d1 (by simp) (wpAny_pure ⟨_,rfl,wpAny_pure (hQ _ ⟨_,Heap.get?_update_self _ h1 (Obj.isFreed_of_fields (Obj.data_mapFields d1 _)),(Obj.cls_mapFields ..).trans c1,?_⟩ (Heap.SameBut.update ..))⟩))
 rw [Obj.data_mapFields d1]
 simp [rawInt]
theorem nextOf_tup_end {it t:Addr} {i:Nat} {items:Array Value} {Q:Value→Shared→Prop} (hh:A.handled=none) (hit:s.heap.IsTupleIter it t i) (ht:s.heap.IsTuple t items) (hx:items[i]? = none)
 (hE:∀ h' e,Heap.ExtBut it s.heap h'→(∃ o,h'.get? e=some o∧o.cls=.type "StopIteration")→E (.ref e) { s with heap:=h' }):wpAny (model prog w) A (Builtin.SmallTypes.nextOf (.ref it)) Q E s:=by
 obtain ⟨ot,h1,c1,d1⟩:=id hit
 obtain ⟨og,h2,c2,n2,d2⟩:=ht
 unfold Builtin.SmallTypes.nextOf
 refine wpAny_bind (wpAny_callSpecial?_slot hit.typeIs F.slot_tuple_iterator_next (wpAny_call_entry F.slot_tuple_iterator_next hit.typeIs F.entry_tuple_iterator_next ?_ (F.args_tuple_iterator_next_1 _)))
 refine wpAny_bind (m:=field (.ref it) 0) (wpAny_field h1 d1 (x:=.ref t) rfl ?_)
 have hnn:¬ ((Value.ref t == Value.none)=true):=fun z=>Bool.false_ne_true z
 show wpAny _ _ (if (Value.ref t == Value.none)=true then _ else _) _ _ _
 rw [if_neg hnn]
 refine wpAny_bind (m:=field (.ref it) 1) (wpAny_field h1 d1 (x:=.int i 0) rfl (wpAny_bind (m:=seqItems? (.ref t)) (wpAny_seqItems h2 d2 ?_)))
 simp only [Int.toNat_natCast,hx]
 refine wpAny_bind (wpAny_rule (wpAny_bind (wpAny_setField h1 d1 (by simp) (wpAny_bind (m:=newExc (.type "StopIteration") []) ?_))))
 simp only [newExc,newTuple,raiseNew]
 refine wpAny_bind (wpAny_newObj_type (wpAny_bind (m:=firstArgMember _ _) (wpAny_of_eq (a:=Value.none) (by first | rfl | (simp only [firstArgMember];rfl)) (wpAny_newObj_type (wpAny_bind (wpAny_handled ?_)) (by size_fits)))) (by size_fits))
 first | rw [show A.in1.handled=none from hh] | rw [hh]
 exact wpAny_bind (wpAny_pure (wpAny_throw (hE _ _ (((Heap.SameBut.update ..).extBut.push _).push _) ⟨_,Heap.get?_push_size _ rfl,rfl⟩)))
end
section
variable {X:Cx} {pins:List (Addr×Obj)} {σ:St} {H:Hp} {s:Shared}
theorem Inv.turned2 {h':Heap} {t':Nat} {e it:Addr} (I:Inv X pins σ H s) (hk:∀ b o,b≠e→b≠it→s.heap.get? b=some o→h'.get? b=some o) (fe:FpOk X pins H e) (fi:FpOk X pins H it):Inv X pins σ H { s with heap:=h',toks:=t' }:=by
 have ne:∀ {b},b∉[e,it]→b≠e∧b≠it:=fun {b} hb=>⟨fun z=>hb (by simp [z]),fun z=>hb (by simp [z])⟩
 refine I.step (g':=s.gens) (d':=s.drawn) (ch:=[e,it]) (fun b hb=>?_) (fun b o _ _ hb q _=>hk b o (ne hb).1 (ne hb).2 q) (fun b o _ _ hb q _=>⟨o.slots,hk b o (ne hb).1 (ne hb).2 q⟩) (fun b o _ _ n=>n) (fun b o hb q=>⟨o,hk b o (ne hb).1 (ne hb).2 q⟩)
  (fun _ _ q=>q) (fun _ _ _ q=>q) (fun b ps q=>⟨#[],by rw [q];simp⟩) (fun m hm=>?_) (fun b u q=>?_) I.bare
 · rcases List.mem_cons.mp hb with rfl | hb
   · exact ⟨fe.2.2.2.1,fe.2.1,fe.2.2.2.2.1,fe.2.2.2.2.2⟩
   · have:b=it:=by simpa using hb
     subst this
     exact ⟨fi.2.2.2.1,fi.2.1,fi.2.2.2.2.1,fi.2.2.2.2.2⟩
 · obtain ⟨o,es,ep,ho,r⟩:=hm
   exact ⟨o,es,ep,hk _ o (Ne.symm fe.2.1) (Ne.symm fi.2.1) ho,r⟩
 · refine (I.hok b u q).stay (fun c v hc r=>?_) (fun c r=>r) fun c xs r=>r
   have nn:∀ x,FpOk X pins H x→c≠x:=fun x fx z=>by
    subst z
    rcases hc with rfl | hc
    · rw [fx.1] at q;cases q
    · rw [fx.1] at hc;cases hc
   exact hk c v (nn e fe) (nn it fi) r
theorem Inv.trackT {D:Addr} {ys:List V} {its:List Value} (I:Inv X pins σ H s) (rv:Vals ys its) (hz:ys.length≤sizeLine) (e:TupD s.heap D its.toArray) (hd:FpOk X pins H D):Inv X pins σ (upd H D (.tup ys)) s:=by
 obtain ⟨h1,h2,h3,h4,h5,h6⟩:=hd
 have nD:∀ b u,H b=some u→b≠D:=fun b u q z=>by rw [z,h1] at q;cases q
 refine I.step (s:=s) (h':=s.heap) (g':=s.gens) (t':=s.toks) (d':=s.drawn) (ch:=[D]) (fun b hb=>?_) (fun b o _ _ _ q _=>q) (fun b o _ _ _ q _=>⟨o.slots,q⟩) (fun b o hb _ q=>?_) (fun b o _ q=>⟨o,q⟩)
  (fun b xs q=>(upd_ne (nD b _ q)).trans q) (fun b o u q=>(upd_ne (nD b _ q)).trans q) (fun b ps q=>⟨#[],by rw [upd_ne (nD b _ q),q];simp⟩) (fun m hm=>hm) (fun b u q=>?_) I.bare
 · have:b=D:=by simpa using hb
   subst this
   exact ⟨h4,h2,h5,h6⟩
 · rw [upd_ne (fun z=>hb (by simp [z]))];exact q
 · by_cases hb:b=D
   · subst hb
     rw [upd_same] at q
     cases q
     exact ⟨hz,its,rv,e⟩
   · rw [upd_ne hb] at q
     exact (I.hok b u q).stay (fun c v _ r=>r) (fun c r=>(upd_ne (nD c _ r)).trans r) fun c xs r=>(upd_ne (nD c _ r)).trans r
theorem boot_enumerate':bootBuiltins "enumerate" = some (.type "enumerate"):=by decide +kernel
variable {e:Expr} {es:List Expr} {t:TA} {p pos:Pos}
end
def Itq (h:Heap) (i l:Addr) (k:Nat) (xs:Array Value):Prop:=(h.IsListIter i l k∧h.IsList l xs)∨(h.IsTupleIter i l k∧h.IsTuple l xs)
theorem Itq.at {h h':Heap} {i l:Addr} {k:Nat} {xs:Array Value} (x:Itq h i l k xs) (hi:∀ o,h.get? i=some o→h'.get? i=some o) (hl:∀ o,h.get? l=some o→h'.get? l=some o):Itq h' i l k xs:=
 x.elim (fun a=>.inl ⟨a.1.at hi,a.2.at hl⟩) fun a=>.inr ⟨a.1.at hi,a.2.at hl⟩
theorem Itq.but {h h':Heap} {i l z:Addr} {k:Nat} {xs:Array Value} (x:Itq h i l k xs) (e:Heap.ExtBut z h h') (n1:i≠z) (n2:l≠z):Itq h' i l k xs:=x.at (fun o q=>e _ _ n1 q) fun o q=>e _ _ n2 q
section
variable {prog:Program} {w:World} {A:Around} {E:Value→Shared→Prop} {s:Shared}
theorem Itq.item {i l:Addr} {k:Nat} {xs:Array Value} {v:Value} {Q:Value→Shared→Prop} (x:Itq s.heap i l k xs) (hne:l≠i) (hx:xs[k]? = some v)
 (hQ:∀ h',Itq h' i l (k+1) xs→Heap.SameBut i s.heap h'→Q v { s with heap:=h' }):wpAny (model prog w) A (Builtin.SmallTypes.nextOf (.ref i)) Q E s:=by
 rcases x with ⟨x1,x2⟩ | ⟨x1,x2⟩
 · exact wpAny_nextOf_list_item x1 x2 hx fun h' a b=>hQ h' (.inl ⟨a,x2.extBut b.extBut hne⟩) b
 · exact nextOf_tup_item x1 x2 hx fun h' a b=>hQ h' (.inr ⟨a,x2.extBut b.extBut hne⟩) b
theorem Itq.fin {i l:Addr} {k:Nat} {xs:Array Value} {Q:Value→Shared→Prop} (hh:A.handled=none) (x:Itq s.heap i l k xs) (hx:xs[k]? = none)
 (hE:∀ h' e,Heap.ExtBut i s.heap h'→(∃ o,h'.get? e=some o∧o.cls=.type "StopIteration")→E (.ref e) { s with heap:=h' }):wpAny (model prog w) A (Builtin.SmallTypes.nextOf (.ref i)) Q E s:=by
 rcases x with ⟨x1,x2⟩ | ⟨x1,x2⟩
 · exact wpAny_nextOf_list_end hh x1 x2 hx hE
 · exact nextOf_tup_end hh x1 x2 hx hE
theorem zq_item {z TI TO i1 i2 l1 l2:Addr} {k1 k2:Nat} {xs ys:Array Value} {x y a b:Value} {Q:Value→Shared→Prop} (D:ZipApart z TI TO i1 i2 l1 l2) (n12:l1≠TI) (n22:l2≠TI)
 (hz:IsZip s.heap z TI TO .none) (hTI:IsPair s.heap TI (.ref i1) (.ref i2)) (hTO:IsPair s.heap TO a b) (h1:Itq s.heap i1 l1 k1 xs) (h2:Itq s.heap i2 l2 k2 ys) (hx:xs[k1]? = some x) (hy:ys[k2]? = some y)
 (hQ:∀ h',IsZip h' z TI TO (rawInt s.heap.objs.size)→IsPair h' TO x y→Itq h' i1 l1 (k1+1) xs→Itq h' i2 l2 (k2+1) ys→IsPair h' s.heap.objs.size x y→h'.objs.size=s.heap.objs.size+1 →
   (∀ c o,c≠z→c≠TO→c≠i1→c≠i2→s.heap.get? c=some o→h'.get? c=some o)→Q (.ref s.heap.objs.size) { s with heap:=h' }) :
 wpAny (model prog w) A (Builtin.«zip.__next__» ⟨[.ref z],[]⟩) (fun fin s'=>∃ v,fin=.done (.ret v)∧Q v s') E s:=by
 show wpAny _ _ (field (.ref z) 2 >>= _) _ _ _;refine wpAny_bind (wpAny_field hz rfl (x:=.bool false) rfl ?_)
 show wpAny _ _ (field (.ref z) 3 >>= _) _ _ _;refine wpAny_bind (wpAny_field hz rfl (x:=.ref TI) rfl ?_)
 refine wpAny_bind (wpAny_seqItems hTI rfl ?_);show wpAny _ _ (Builtin.SmallTypes.ownedTupleIsFree (.ref z) >>= _) _ _ _
 refine wpAny_bind ?_;unfold Builtin.SmallTypes.ownedTupleIsFree
 refine wpAny_bind (wpAny_field hz rfl (x:=.none) rfl (wpAny_pure ?_));simp only [if_true]
 refine wpAny_bind (wpAny_rule ?_);refine wpAny_bind (wpAny_field hz rfl (x:=.ref TO) rfl ?_)
 refine wpAny_bind (wpAny_setField_rec hz (by simp) fun g1 hz1 e1=>?_)
 replace hz1:IsZip g1 z TI TO .ellipsis:=hz1
 refine wpAny_bind ?_;simp only [List.zipIdx_cons,List.zipIdx_nil,List.forIn_cons,List.forIn_nil]
 refine wpAny_bind (wpAny_bind (wpAny_onRaise ?_));show wpAny _ _ (Builtin.SmallTypes.nextOf (.ref i1) >>= _) _ _ _
 have h1a:Itq g1 i1 l1 k1 xs:=h1.but e1.extBut D.i1z D.l1z
 have h2a:Itq g1 i2 l2 k2 ys:=h2.but e1.extBut D.i2z D.l2z
 refine wpAny_bind (Itq.item (s:={ s with heap:=g1 }) h1a D.l1i1 hx fun g2 h1b e2=>wpAny_pure ?_)
 have hTO2:IsPair g2 TO a b:=e2.extBut _ _ D.TOi1 (e1.extBut _ _ D.TOz hTO)
 have h2b:Itq g2 i2 l2 k2 ys:=h2a.but e2.extBut (Ne.symm D.i12) D.l2i1
 refine wpAny_bind (wpAny_seqItems hTO2 rfl ?_);refine wpAny_bind (wpAny_updateSeq_pair hTO2 fun g3 hTO3 e3=>?_)
 replace hTO3:IsPair g3 TO x b:=hTO3
 have h1c:Itq g3 i1 l1 (k1+1) xs:=h1b.but e3.extBut (Ne.symm D.TOi1) D.l1TO
 have h2c:Itq g3 i2 l2 k2 ys:=h2b.but e3.extBut (Ne.symm D.TOi2) D.l2TO
 refine wpAny_bind (wpAny_letGo (wpAny_pure ?_));refine wpAny_bind (wpAny_bind (wpAny_onRaise ?_))
 show wpAny _ _ (Builtin.SmallTypes.nextOf (.ref i2) >>= _) _ _ _
 refine wpAny_bind (Itq.item (s:={ s with heap:=g3 }) h2c D.l2i2 hy fun g4 h2d e4=>wpAny_pure ?_)
 have hTO4:IsPair g4 TO x b:=e4.extBut _ _ D.TOi2 hTO3
 have h1d:Itq g4 i1 l1 (k1+1) xs:=h1c.but e4.extBut D.i12 D.l1i2
 refine wpAny_bind (wpAny_seqItems hTO4 rfl ?_);refine wpAny_bind (wpAny_updateSeq_pair hTO4 fun g5 hTO5 e5=>?_)
 replace hTO5:IsPair g5 TO x y:=hTO5
 have h1e:Itq g5 i1 l1 (k1+1) xs:=h1d.but e5.extBut (Ne.symm D.TOi1) D.l1TO
 have h2e:Itq g5 i2 l2 (k2+1) ys:=h2d.but e5.extBut (Ne.symm D.TOi2) D.l2TO
 refine wpAny_bind (wpAny_letGo (wpAny_pure (wpAny_pure ?_)));refine wpAny_bind (wpAny_seqItems hTO5 rfl ?_);refine wpAny_bind (wpAny_newTuple ?_)
 have hsz:g5.objs.size=s.heap.objs.size:=by rw [e5.1,e4.1,e3.1,e2.1,e1.1]
 have hz5:IsZip g5 z TI TO .ellipsis:=e5.extBut _ _ (Ne.symm D.TOz) (e4.extBut _ _ (Ne.symm D.i2z) (e3.extBut _ _ (Ne.symm D.TOz) (e2.extBut _ _ (Ne.symm D.i1z) hz1)))
 have k5:∀ c o,c≠z→c≠TO→c≠i1→c≠i2→s.heap.get? c=some o→g5.get? c=some o:=fun c o c1 c2 c3 c4 q=>e5.extBut _ _ c2 (e4.extBut _ _ c4 (e3.extBut _ _ c2 (e2.extBut _ _ c3 (e1.extBut _ _ c1 q))))
 have zlt:z<g5.objs.size:=Heap.lt_size hz5
 show wpAny _ _ (Builtin.SmallTypes.ownedTupleHandOut (.ref z) (.ref g5.objs.size) >>= _) _ _ _
 refine wpAny_bind ?_;unfold Builtin.SmallTypes.ownedTupleHandOut
 have hz6:IsZip (g5.push { cls:=.type "tuple",data:=.seq #[x,y] }) z TI TO .ellipsis:=Heap.get?_push_of_some _ hz5
 refine wpAny_bind (wpAny_setField_rec hz6 (by simp) fun g7 hz7 e7=>?_)
 replace hz7:IsZip g7 z TI TO (rawInt g5.objs.size):=hz7
 refine wpAny_setField_rec hz7 (by simp) fun g8 hz8 e8=>?_
 replace hz8:IsZip g8 z TI TO (rawInt g5.objs.size):=hz8
 have up:∀ c o,c≠z→g5.get? c=some o→g8.get? c=some o:=fun c o c1 q=>e8.extBut _ _ c1 (e7.extBut _ _ c1 (Heap.get?_push_of_some _ q))
 have hT8:IsPair g8 g5.objs.size x y:=e8.extBut _ _ (Nat.ne_of_gt zlt) (e7.extBut _ _ (Nat.ne_of_gt zlt) (Heap.get?_push_size _ rfl))
 have hs8:g8.objs.size=g5.objs.size+1:=by rw [e8.1,e7.1,Heap.size_push]
 rw [hsz] at hz8 hT8 hs8
 refine wpAny_pure ⟨_,rfl,?_⟩;show Q (.ref g5.objs.size) _;rw [hsz]
 exact hQ g8 hz8 (up _ _ D.TOz hTO5) (h1e.at (fun o q=>up _ o D.i1z q) fun o q=>up _ o D.l1z q) (h2e.at (fun o q=>up _ o D.i2z q) fun o q=>up _ o D.l2z q) hT8 hs8 fun c o c1 c2 c3 c4 q=>up c o c1 (k5 c o c1 c2 c3 c4 q)
theorem zq_end {z TI TO i1 i2 l1 l2:Addr} {k1 k2:Nat} {xs ys:Array Value} {a b:Value} {Q:PySem.Fin→Shared→Prop} (hh:A.handled=none) (D:ZipApart z TI TO i1 i2 l1 l2)
 (hz:IsZip s.heap z TI TO .none) (hTI:IsPair s.heap TI (.ref i1) (.ref i2)) (hTO:IsPair s.heap TO a b) (h1:Itq s.heap i1 l1 k1 xs) (h2:Itq s.heap i2 l2 k2 ys) (hend:xs[k1]? = none∨ys[k2]? = none)
 (hE:∀ h' e,(∀ c o,c≠z→c≠TO→c≠i1→c≠i2→s.heap.get? c=some o→h'.get? c=some o)→(∃ o,h'.get? e=some o∧o.cls=.type "StopIteration")→E (.ref e) { s with heap:=h' }):wpAny (model prog w) A (Builtin.«zip.__next__» ⟨[.ref z],[]⟩) Q E s:=by
 show wpAny _ _ (field (.ref z) 2 >>= _) _ _ _;refine wpAny_bind (wpAny_field hz rfl (x:=.bool false) rfl ?_)
 show wpAny _ _ (field (.ref z) 3 >>= _) _ _ _;refine wpAny_bind (wpAny_field hz rfl (x:=.ref TI) rfl ?_)
 refine wpAny_bind (wpAny_seqItems hTI rfl ?_);show wpAny _ _ (Builtin.SmallTypes.ownedTupleIsFree (.ref z) >>= _) _ _ _
 refine wpAny_bind ?_;unfold Builtin.SmallTypes.ownedTupleIsFree
 refine wpAny_bind (wpAny_field hz rfl (x:=.none) rfl (wpAny_pure ?_));simp only [if_true]
 refine wpAny_bind (wpAny_rule ?_);refine wpAny_bind (wpAny_field hz rfl (x:=.ref TO) rfl ?_)
 refine wpAny_bind (wpAny_setField_rec hz (by simp) fun g1 hz1 e1=>?_)
 replace hz1:IsZip g1 z TI TO .ellipsis:=hz1
 refine wpAny_bind ?_;simp only [List.zipIdx_cons,List.zipIdx_nil,List.forIn_cons,List.forIn_nil]
 refine wpAny_bind (wpAny_bind (wpAny_onRaise ?_));show wpAny _ _ (Builtin.SmallTypes.nextOf (.ref i1) >>= _) _ _ _
 have h1a:Itq g1 i1 l1 k1 xs:=h1.but e1.extBut D.i1z D.l1z
 have h2a:Itq g1 i2 l2 k2 ys:=h2.but e1.extBut D.i2z D.l2z
 cases hx:xs[k1]? with
 | none=>
   refine wpAny_bind (Itq.fin (s:={ s with heap:=g1 }) hh h1a hx fun g2 e e2 he=>?_)
   obtain ⟨oe,hoe,hce⟩:=he
   have hz2:IsZip g2 z TI TO .ellipsis:=e2 _ _ (Ne.symm D.i1z) hz1
   have hez:e≠z:=fun q=>by subst q;rw [hz2] at hoe;cases hoe;simp at hce
   exact wpAny_setField_rec hz2 (by simp) fun g3 _ e3=>hE g3 e (fun c o c1 _ c3 _ q=>e3.extBut _ _ c1 (e2 _ _ c3 (e1.extBut _ _ c1 q))) ⟨oe,e3.extBut _ _ hez hoe,hce⟩
 | some x=>
   have hy:ys[k2]? = none:=by
    rcases hend with h | h
    · rw [hx] at h;cases h
    · exact h
   refine wpAny_bind (Itq.item (s:={ s with heap:=g1 }) h1a D.l1i1 hx fun g2 h1b e2=>wpAny_pure ?_)
   have hTO2:IsPair g2 TO a b:=e2.extBut _ _ D.TOi1 (e1.extBut _ _ D.TOz hTO)
   have h2b:Itq g2 i2 l2 k2 ys:=h2a.but e2.extBut (Ne.symm D.i12) D.l2i1
   refine wpAny_bind (wpAny_seqItems hTO2 rfl ?_);refine wpAny_bind (wpAny_updateSeq_pair hTO2 fun g3 hTO3 e3=>?_)
   have h2c:Itq g3 i2 l2 k2 ys:=h2b.but e3.extBut (Ne.symm D.TOi2) D.l2TO
   refine wpAny_bind (wpAny_letGo (wpAny_pure ?_));refine wpAny_bind (wpAny_bind (wpAny_onRaise ?_))
   show wpAny _ _ (Builtin.SmallTypes.nextOf (.ref i2) >>= _) _ _ _
   refine wpAny_bind (Itq.fin (s:={ s with heap:=g3 }) hh h2c hy fun g4 e e4 he=>?_)
   obtain ⟨oe,hoe,hce⟩:=he
   have hz4:IsZip g4 z TI TO .ellipsis:=e4 _ _ (Ne.symm D.i2z) (e3.extBut _ _ (Ne.symm D.TOz) (e2.extBut _ _ (Ne.symm D.i1z) hz1))
   have hez:e≠z:=fun q=>by subst q;rw [hz4] at hoe;cases hoe;simp at hce
   exact wpAny_setField_rec hz4 (by simp) fun g5 _ e5=>hE g5 e (fun c o c1 c2 c3 c4 q=>e5.extBut _ _ c1 (e4 _ _ c4 (e3.extBut _ _ c2 (e2.extBut _ _ c3 (e1.extBut _ _ c1 q))))) ⟨oe,e5.extBut _ _ hez hoe,hce⟩
def itCls (b:Bool):String:=if b then "tuple_iterator" else "list_iterator"
def IsSq (h:Heap) (b:Bool) (l:Addr) (xs:Array Value):Prop:=if b=true then h.IsTuple l xs else h.IsList l xs
abbrev zqI (b:Bool) (l:Addr):Obj:={ cls:=.type (itCls b),data:=.fields #[.ref l,.int 0 0] }
theorem IsSq.push {h:Heap} {b:Bool} {l:Addr} {xs:Array Value} (x:IsSq h b l xs) (o:Obj):IsSq (h.push o) b l xs:=by
 cases b with
 | true=>exact (show h.IsTuple l xs from x).at fun u q=>Heap.get?_push_of_some _ q
 | false=>exact (show h.IsList l xs from x).push o
theorem iter_sq {b:Bool} {l:Addr} {xs:Array Value} {Q:Value→Shared→Prop} (x:IsSq s.heap b l xs) (h:Q (.ref s.heap.objs.size) { s with heap:=s.heap.push (zqI b l) }):wpAny (model prog w) A (pyIter (.ref l)) Q E s:=by
 cases b with
 | true=>exact wpAny_pyIter_tuple (show s.heap.IsTuple l xs from x) h
 | false=>exact wpAny_pyIter_list (show s.heap.IsList l xs from x) h
end
abbrev zq1 (h:Heap) (b:Bool) (l:Addr):Heap:=h.push (zqI b l)
abbrev zq2 (h:Heap) (b c:Bool) (l m:Addr):Heap:=(zq1 h b l).push (zqI c m)
abbrev zq3 (h:Heap) (b c:Bool) (l m:Addr):Heap:=(zq2 h b c l m).push { cls:=.type "tuple",data:=.seq #[.ref h.objs.size,.ref (zq1 h b l).objs.size] }
abbrev zq4 (h:Heap) (b c:Bool) (l m:Addr):Heap:=(zq3 h b c l m).push { cls:=.type "tuple",data:=.seq #[.none,.none] }
abbrev zq5 (h:Heap) (b c:Bool) (l m:Addr):Heap:=(zq4 h b c l m).push { cls:=.type "zip",data:=.fields #[.none,.bool false,.bool false,.ref (zq2 h b c l m).objs.size,.ref (zq3 h b c l m).objs.size] }
theorem meets_zq (b c:Bool) (l m:Addr) (xs ys:Array Value):Meets (Builtin.«zip.__new__» ⟨[.type "zip",.ref l,.ref m],[]⟩) (fun _ R s=>IsSq s.heap b l xs∧IsSq s.heap c m ys∧R (.ok (.ret (.ref (zq4 s.heap b c l m).objs.size))) { s with heap:=zq5 s.heap b c l m }):=
 .of_wp fun prog w A R s h=>by
  obtain ⟨hp,g,d,tk,os⟩:=s;obtain ⟨q1,q2,h⟩:=h
  have hsub:=sub_zip
  have r1:IsSq (Shared.heap ⟨hp,g,d,tk,os⟩) b l xs:=q1
  have r2:IsSq (Shared.heap ⟨hp.push (zqI b l),g,d,tk,os⟩) c m ys:=IsSq.push q2 _
  wp_walk using iter_sq r1,iter_sq r2
  exact ⟨_,rfl,h⟩
section
variable {prog:Program} {w:World} {A:Around} {E:Value→Shared→Prop} {s:Shared}
theorem call_zq {b c:Bool} {l m:Addr} {xs ys:Array Value} {Q:Value→Shared→Prop} (q1:IsSq s.heap b l xs) (q2:IsSq s.heap c m ys)
 (h:∀ h',IsZip h' (s.heap.objs.size+4) (s.heap.objs.size+2) (s.heap.objs.size+3) .none→IsPair h' (s.heap.objs.size+2) (.ref s.heap.objs.size) (.ref (s.heap.objs.size+1)) →
   IsPair h' (s.heap.objs.size+3) .none .none→Itq h' s.heap.objs.size l 0 xs→Itq h' (s.heap.objs.size+1) m 0 ys→(∀ c o,s.heap.get? c=some o→h'.get? c=some o)→Q (.ref (s.heap.objs.size+4)) { s with heap:=h' }) :
 wpAny (model prog w) A (call (.type "zip") [.ref l,.ref m]) Q E s:=by
 refine callType_new F.called_zip (by decide) (F.typeCall_zip_2 _ _) (F.newCall_zip_2 _ _) (fun obj=>F.args_object_init_3 obj _ _) F.entry_zip_new (meets_zq b c l m xs ys) ⟨q1,q2,?_⟩
 have z1:(zq1 s.heap b l).objs.size=s.heap.objs.size+1:=Heap.size_push ..
 have z2:(zq2 s.heap b c l m).objs.size=s.heap.objs.size+2:=by rw [Heap.size_push,z1]
 have z3:(zq3 s.heap b c l m).objs.size=s.heap.objs.size+3:=by rw [Heap.size_push,z2]
 have z4:(zq4 s.heap b c l m).objs.size=s.heap.objs.size+4:=by rw [Heap.size_push,z3]
 have g5:(zq5 s.heap b c l m).get? (zq4 s.heap b c l m).objs.size=some _:=Heap.get?_push_size _ rfl
 have g4:(zq5 s.heap b c l m).get? (zq3 s.heap b c l m).objs.size=some _:=Heap.get?_push_of_some _ (Heap.get?_push_size _ rfl)
 have g3:(zq5 s.heap b c l m).get? (zq2 s.heap b c l m).objs.size=some _:=Heap.get?_push_of_some _ (Heap.get?_push_of_some _ (Heap.get?_push_size _ rfl))
 have g2:(zq5 s.heap b c l m).get? (zq1 s.heap b l).objs.size=some (zqI c m):=Heap.get?_push_of_some _ (Heap.get?_push_of_some _ (Heap.get?_push_of_some _ (Heap.get?_push_size _ rfl)))
 have g1:(zq5 s.heap b c l m).get? s.heap.objs.size=some (zqI b l):=Heap.get?_push_of_some _ (Heap.get?_push_of_some _ (Heap.get?_push_of_some _ (Heap.get?_push_of_some _ (Heap.get?_push_size _ rfl))))
 have kp:∀ c' o,s.heap.get? c'=some o→(zq5 s.heap b c l m).get? c'=some o:=fun c' o q=>Heap.get?_push_of_some _ (Heap.get?_push_of_some _ (Heap.get?_push_of_some _ (Heap.get?_push_of_some _ (Heap.get?_push_of_some _ q))))
 show _∧_
 rw [z2,z3,z4] at g5
 rw [z1,z2] at g3
 rw [z3] at g4
 rw [z1] at g2
 rw [z4]
 have j1:Itq (zq5 s.heap b c l m) s.heap.objs.size l 0 xs:=by
  cases b with
  | true=>exact .inr ⟨⟨_,g1,rfl,rfl⟩,(show s.heap.IsTuple l xs from q1).at fun o q=>kp _ o q⟩
  | false=>exact .inl ⟨⟨_,g1,rfl,rfl⟩,(show s.heap.IsList l xs from q1).at fun o q=>kp _ o q⟩
 have j2:Itq (zq5 s.heap b c l m) (s.heap.objs.size+1) m 0 ys:=by
  cases c with
  | true=>exact .inr ⟨⟨_,g2,rfl,rfl⟩,(show s.heap.IsTuple m ys from q2).at fun o q=>kp _ o q⟩
  | false=>exact .inl ⟨⟨_,g2,rfl,rfl⟩,(show s.heap.IsList m ys from q2).at fun o q=>kp _ o q⟩
 exact ⟨⟨_,g5,rfl⟩,h _ g5 g3 g4 j1 j2 kp⟩
end
section
variable {X:Cx} {pins:List (Addr×Obj)} {σ:St} {H:Hp} {s:Shared}
theorem Inv.turnedL {h':Heap} {t':Nat} {ch:List Addr} (I:Inv X pins σ H s) (hk:∀ b o,b∉ch→s.heap.get? b=some o→h'.get? b=some o) (fc:∀ e∈ch,FpOk X pins H e):Inv X pins σ H { s with heap:=h',toks:=t' }:=by
 refine I.step (g':=s.gens) (d':=s.drawn) (ch:=ch) (fun b hb=>?_) (fun b o _ _ hb q _=>hk b o hb q) (fun b o _ _ hb q _=>⟨o.slots,hk b o hb q⟩) (fun b o _ _ n=>n) (fun b o hb q=>⟨o,hk b o hb q⟩)
  (fun _ _ q=>q) (fun _ _ _ q=>q) (fun b ps q=>⟨#[],by rw [q];simp⟩) (fun m hm=>?_) (fun b u q=>?_) I.bare
 · have f:=fc b hb
   exact ⟨f.2.2.2.1,f.2.1,f.2.2.2.2.1,f.2.2.2.2.2⟩
 · obtain ⟨o,es,ep,ho,r⟩:=hm
   exact ⟨o,es,ep,hk _ o (fun z=>(fc _ z).2.1 rfl) ho,r⟩
 · refine (I.hok b u q).stay (fun c v hc r=>hk c v (fun z=>?_) r) (fun c r=>r) fun c xs r=>r
   have f:=fc c z
   rcases hc with rfl | hc
   · rw [f.1] at q;cases q
   · rw [f.1] at hc;cases hc
def SqK (H:Hp) (c:Bool) (a:Addr) (xs:List V):Prop:=H a=some (if c=true then HO.tup xs else HO.lst xs)
theorem SqK.inj {c:Bool} {a:Addr} {xs ys:List V} (h:SqK H c a xs) (h':SqK H c a ys):xs=ys:=by
 unfold SqK at h h'
 rw [h] at h'
 cases c <;> (injection h' with h';injection h')
theorem SqK.ne {c:Bool} {a b:Addr} {xs:List V} (h:SqK H c a xs) (hb:H b=none):a≠b:=fun z=>by
 subst z
 unfold SqK at h
 rw [hb] at h;cases h
theorem SqK.same {H':Hp} {c:Bool} {a:Addr} {xs:List V} (h:SqK H c a xs) (y:Same H H'):SqK H' c a xs:=y _ _ h
theorem SqK.tup {a:Addr} {xs:List V} (h:H a=some (.tup xs)):SqK H true a xs:=h
theorem Inv.sqK {c:Bool} {a:Addr} {xs:List V} (I:Inv X pins σ H s) (h:SqK H c a xs):∃ its:List Value,Vals xs its∧IsSq s.heap c a its.toArray:=by
 cases c with
 | true=>
   obtain ⟨its,r,p,_⟩:=I.tuple (SqT.of h)
   exact ⟨its,r,(show s.heap.IsTuple a its.toArray from p)⟩
 | false=>
   obtain ⟨its,r,p,_⟩:=I.list (SqL.of h)
   exact ⟨its,r,p.isList⟩
def Itz (c d:Bool) (a b:Addr):It:=⟨fun i H=>∃ xs ys x y,SqK H c a xs∧SqK H d b ys∧xs[i]? = some x∧ys[i]? = some y,
 fun i H v H'=>∃ p,H p=none∧v=.ref p∧∀ xs ys,SqK H c a xs→SqK H d b ys→∃ x y,xs[i]? = some x∧ys[i]? = some y∧H'=upd H p (.tup [x,y]),
 fun i H=>∃ xs ys,SqK H c a xs∧SqK H d b ys∧(xs[i]? = none∨ys[i]? = none)⟩
def Itk (h:Heap) (c:Bool) (i l:Addr) (k:Nat):Prop:=if c=true then h.IsTupleIter i l k else h.IsListIter i l k
theorem Itk.at {h h':Heap} {c:Bool} {i l:Addr} {k:Nat} (x:Itk h c i l k) (hi:∀ o,h.get? i=some o→h'.get? i=some o):Itk h' c i l k:=by
 cases c with
 | true=>exact (show h.IsTupleIter i l k from x).at hi
 | false=>exact (show h.IsListIter i l k from x).at hi
theorem Itk.obj {h:Heap} {c:Bool} {i l:Addr} {k:Nat} (x:Itk h c i l k):∃ o,h.get? i=some o∧∀ v,o.data≠.cell v:=by
 cases c with
 | true=>obtain ⟨o,e,_,d⟩:=(show h.IsTupleIter i l k from x);exact ⟨o,e,fun v z=>by rw [d] at z;cases z⟩
 | false=>obtain ⟨o,e,_,d⟩:=(show h.IsListIter i l k from x);exact ⟨o,e,fun v z=>by rw [d] at z;cases z⟩
theorem Itk.q {h:Heap} {c:Bool} {i l:Addr} {k:Nat} {xs:Array Value} (x:Itk h c i l k) (q:IsSq h c l xs):Itq h i l k xs:=by
 cases c with
 | true=>exact .inr ⟨x,q⟩
 | false=>exact .inl ⟨x,q⟩
theorem two_cls {h:Heap} {l:Addr} {xs ys:Array Value} (p:h.IsTuple l xs) (q:h.IsList l ys):False:=by
 obtain ⟨o,e,c1,_⟩:=p
 obtain ⟨o',e',c2,_⟩:=q
 rw [e] at e';cases e'
 rw [c1] at c2
 injection c2 with c2
 exact absurd c2 (by decide)
theorem Itq.k {h:Heap} {c:Bool} {i l:Addr} {k:Nat} {xs:Array Value} (x:Itq h i l k xs) (q:IsSq h c l xs):Itk h c i l k:=by
 rcases x with ⟨x1,x2⟩ | ⟨x1,x2⟩
 · cases c with
   | false=>exact x1
   | true=>exact (two_cls (show h.IsTuple l xs from q) x2).elim
 · cases c with
   | true=>exact x1
   | false=>exact (two_cls x2 (show h.IsList l xs from q)).elim
theorem IsSq.at {h h':Heap} {c:Bool} {l:Addr} {xs:Array Value} (x:IsSq h c l xs) (hl:∀ o,h.get? l=some o→h'.get? l=some o):IsSq h' c l xs:=by
 cases c with
 | true=>exact (show h.IsTuple l xs from x).at hl
 | false=>exact (show h.IsList l xs from x).at hl
def ZTn (c d:Bool) (z TI TO i1 i2 a b:Addr) (i:Nat) (h:Heap):Prop:=IsZip h z TI TO .none∧IsPair h TI (.ref i1) (.ref i2)∧(∃ u v,IsPair h TO u v)∧Itk h c i1 a i∧Itk h d i2 b i
structure ZAp (z TI TO i1 i2:Addr):Prop where
 h1:TI≠z
 h2:TO≠z
 h3:i1≠z
 h4:i2≠z
 h5:TI≠TO
 h6:TI≠i1
 h7:TI≠i2
 h8:TO≠i1
 h9:TO≠i2
 h10:i1≠i2
theorem ZAp.apart {z TI TO i1 i2 a b:Addr} (p:ZAp z TI TO i1 i2) (ha:∀ e∈[z,TI,TO,i1,i2],a≠e) (hb:∀ e∈[z,TI,TO,i1,i2],b≠e):ZipApart z TI TO i1 i2 a b:=
 ⟨p.h1,p.h2,p.h3,p.h4,p.h5,p.h6,p.h7,p.h8,p.h9,p.h10,ha _ (by simp),ha _ (by simp),ha _ (by simp),ha _ (by simp),hb _ (by simp),hb _ (by simp),hb _ (by simp),hb _ (by simp)⟩
theorem turn_zip {P:Program} {w:World} {K:PySem.W.Frag} {elts:List Expr} {k:Nat} {pos:Pos} {c d:Bool} {z TI TO i1 i2 a b:Addr} (ap:ZAp z TI TO i1 i2) :
 Turn P w K (.Tuple elts k pos) (Itz c d a b) [z,TI,TO,i1,i2] z (ZTn c d z TI TO i1 i2 a b) where
 mem:=List.mem_cons_self ..
 obj:=fun i h st e he=>by
  obtain ⟨hz,hTI,⟨u,v,hTO⟩,k1,k2⟩:=st
  simp only [List.mem_cons,List.not_mem_nil,or_false] at he
  rcases he with rfl | rfl | rfl | rfl | rfl
  · exact ⟨_,hz,fun v q=>by cases q⟩
  · exact ⟨_,hTI,fun v q=>by cases q⟩
  · exact ⟨_,hTO,fun v q=>by cases q⟩
  · exact k1.obj
  · exact k2.obj
 keep:=fun i h h' st kp=>by
  obtain ⟨hz,hTI,⟨u,v,hTO⟩,k1,k2⟩:=st
  exact ⟨kp z (by simp) _ hz,kp TI (by simp) _ hTI,⟨u,v,kp TO (by simp) _ hTO⟩,k1.at fun o q=>kp i1 (by simp) o q,k2.at fun o q=>kp i2 (by simp) o q⟩
 item:=by
  intro X hP hw hK hc i pins s σ H E I hf st hg
  subst hP hw hK
  obtain ⟨xs,ys,x,y,ha,hb,hx,hy⟩:=hg
  obtain ⟨hz,hTI,⟨u,v,hTO⟩,k1,k2⟩:=st
  obtain ⟨its,rv,q1⟩:=I.sqK ha
  obtain ⟨jts,rw',q2⟩:=I.sqK hb
  obtain ⟨u1,hu1,ru1⟩:=rv.get hx
  obtain ⟨u2,hu2,ru2⟩:=rw'.get hy
  have na:∀ e∈[z,TI,TO,i1,i2],a≠e:=fun e he=>ha.ne (hf e he).1
  have nb:∀ e∈[z,TI,TO,i1,i2],b≠e:=fun e he=>hb.ne (hf e he).1
  have D:=ap.apart na nb
  have hT:s.TypeIs (.ref z) "zip":=⟨_,hz,rfl⟩
  have step:wpAny (model X.prog X.w) X.A (pyNext (.ref z)) (fun r s1=>∃ h',r=some (.ref s.heap.objs.size)∧s1={ s with heap:=h' }∧IsZip h' z TI TO (rawInt s.heap.objs.size)∧IsPair h' TO u1 u2∧Itq h' i1 a (i+1) its.toArray∧Itq h' i2 b (i+1) jts.toArray∧IsPair h' s.heap.objs.size u1 u2∧∀ c o,c≠z→c≠TO→c≠i1→c≠i2→s.heap.get? c=some o→h'.get? c=some o) E s:=by
   unfold pyNext
   exact wpAny_bind (wpAny_attempt (wpAny_callSpecial?_slot (name:=Str.ofString "__next__") hT F.slot_zip_next (wpAny_call_entry F.slot_zip_next hT F.entry_zip_next (zq_item D (na _ (by simp)) (nb _ (by simp)) hz hTI hTO (k1.q q1) (k2.q q2) (by simpa using hu1) (by simpa using hu2) fun h' a1 a2 a3 a4 a5 a6 a7=>wpAny_pure ⟨h',rfl,rfl,a1,a2,a3,a4,a5,a7⟩) (F.args_zip_next_1 _))))
  refine thn step fun r s1 ⟨h',e1,e2,a1,a2,a3,a4,a5,a7⟩=>?_
  subst e1 e2
  refine ⟨_,rfl,wpAny_letOwnedTupleGo_zip a1 fun h2 b1 b2=>?_⟩
  have hn:H s.heap.objs.size=none:=I.hok.fresh (Nat.le_refl _)
  have zlt:z<s.heap.objs.size:=Heap.lt_size hz
  have up:∀ c o,c∉[z,TO,i1,i2]→s.heap.get? c=some o→h2.get? c=some o:=fun c o hc' q=>by
   simp only [List.mem_cons,List.not_mem_nil,or_false,not_or] at hc'
   exact b2.extBut _ _ hc'.1 (a7 c o hc'.1 hc'.2.1 hc'.2.2.1 hc'.2.2.2 q)
  have I1:Inv X pins σ H { s with heap:=h2,toks:=s.toks }:=I.turnedL (ch:=[z,TO,i1,i2]) up fun e he=>hf e (by
   simp only [List.mem_cons,List.not_mem_nil,or_false] at he ⊢
   rcases he with rfl | rfl | rfl | rfl <;> simp)
  have hTd:TupD h2 s.heap.objs.size [u1,u2].toArray:=⟨0,b2.extBut _ _ (Nat.ne_of_gt zlt) a5⟩
  have I2:=I1.trackT (ys:=[x,y]) (.cons ru1 (.cons ru2 .nil)) (by show 2≤sizeLine;decide) hTd (I.fpOk (Nat.le_refl _) hn)
  have q1':IsSq h' c a its.toArray:=q1.at fun o q=>a7 _ o (na _ (by simp)) (na _ (by simp)) (na _ (by simp)) (na _ (by simp)) q
  have q2':IsSq h' d b jts.toArray:=q2.at fun o q=>a7 _ o (nb _ (by simp)) (nb _ (by simp)) (nb _ (by simp)) (nb _ (by simp)) q
  refine ⟨.ref s.heap.objs.size,_,I2,rfl,⟨_,hn,rfl,fun xs' ys' ha' hb'=>?_⟩,⟨b1,b2.extBut _ _ ap.h1 (a7 _ _ ap.h1 ap.h5 ap.h6 ap.h7 hTI),⟨_,_,b2.extBut _ _ ap.h2 a2⟩,(a3.k q1').at fun o q=>b2.extBut _ _ ap.h3 q,(a4.k q2').at fun o q=>b2.extBut _ _ ap.h4 q⟩,fun e he=>?_⟩
  · cases ha.inj ha'
    cases hb.inj hb'
    exact ⟨x,y,hx,hy,rfl⟩
  · have le:e<s.heap.objs.size:=by
     obtain ⟨o,q,_⟩:∃ o,s.heap.get? e=some o∧True:=by
      simp only [List.mem_cons,List.not_mem_nil,or_false] at he
      rcases he with rfl | rfl | rfl | rfl | rfl
      · exact ⟨_,hz,trivial⟩
      · exact ⟨_,hTI,trivial⟩
      · exact ⟨_,hTO,trivial⟩
      · obtain ⟨o,q,_⟩:=k1.obj;exact ⟨o,q,trivial⟩
      · obtain ⟨o,q,_⟩:=k2.obj;exact ⟨o,q,trivial⟩
     exact Heap.lt_size q
    rw [upd_ne (Nat.ne_of_lt le)]
    exact (hf e he).1
 done:=by
  intro X hP hw hK hc i pins s σ H E I hf st hg
  subst hP hw hK
  obtain ⟨xs,ys,ha,hb,hend⟩:=hg
  obtain ⟨hz,hTI,⟨u,v,hTO⟩,k1,k2⟩:=st
  obtain ⟨its,rv,q1⟩:=I.sqK ha
  obtain ⟨jts,rw',q2⟩:=I.sqK hb
  have na:∀ e∈[z,TI,TO,i1,i2],a≠e:=fun e he=>ha.ne (hf e he).1
  have nb:∀ e∈[z,TI,TO,i1,i2],b≠e:=fun e he=>hb.ne (hf e he).1
  have D:=ap.apart na nb
  have hT:s.TypeIs (.ref z) "zip":=⟨_,hz,rfl⟩
  have e1:its.toArray[i]? = none∨jts.toArray[i]? = none:=by
   have l1:=rv.length
   have l2:=rw'.length
   rcases hend with h | h
   · left
     rw [List.getElem?_eq_none_iff] at h
     simp;omega
   · right
     rw [List.getElem?_eq_none_iff] at h
     simp;omega
  unfold pyNext
  refine wpAny_bind (wpAny_attempt (wpAny_callSpecial?_slot (name:=Str.ofString "__next__") hT F.slot_zip_next (wpAny_call_entry F.slot_zip_next hT F.entry_zip_next (zq_end (I.ok.hd hc) D hz hTI hTO (k1.q q1) (k2.q q2) e1 fun h' e hk he=>?_) (F.args_zip_next_1 _))))
  obtain ⟨o,ho,hcl⟩:=he
  refine wpAny_bind (wpAny_isInstance (T:="StopIteration") (b:=true) ⟨o,ho,hcl⟩ isSubtype_stop (wpAny_pure ⟨rfl,?_⟩))
  refine I.turnedL (t':=s.toks) (ch:=[z,TO,i1,i2]) (fun c o hc' q=>?_) fun e he=>hf e (by
   simp only [List.mem_cons,List.not_mem_nil,or_false] at he ⊢
   rcases he with rfl | rfl | rfl | rfl <;> simp)
  simp only [List.mem_cons,List.not_mem_nil,or_false,not_or] at hc'
  exact hk c o hc'.1 hc'.2.1 hc'.2.2.1 hc'.2.2.2 q
 self:=fun A i s Q E st h=>wpAny_pyIter_zip st.1 h
theorem boot_zip':bootBuiltins "zip" = some (.type "zip"):=by decide +kernel
def iZip (ta:TA):TI:=fun σ H R=>ta σ H fun vs H1=>match vs with
 | [.ref a,.ref b]=>∃ c d xs ys,SqK H1 c a xs∧SqK H1 d b ys∧R (Itz c d a b) H1
 | _=>False
theorem pi_zip {l m:Expr} {ta:TA} {elts:List Expr} {k:Nat} {tp p pos:Pos} (hg:Gl X "zip") (hm:X.mg "zip" = none) (ha:PA X [l,m] ta) (hs:starEach [l,m] X.env=[(false,eval l X.env),(false,eval m X.env)]:=by rfl) (hs2:starEach [m] X.env=[(false,eval m X.env)]:=by rfl) :
 PI X (.Tuple elts k tp) (.Call (.Name "zip" p) [l,m] [] pos) (iZip ta):=by
 intro pins s σ H R I h
 refine Call_ (ld_blt I hg hm boot_zip' (PyProof.Rows.callWith_type1 (thn (ha pos pins s σ H _ I h) fun us s1 ⟨vs,H1,I1,r1,q1⟩=>?_) (by rw [hs,hs2]) (by rw [hs2];rfl)))
 dsimp only at q1
 split at q1
 · rename_i a b
   obtain ⟨c,d,xs,ys,ka,kb,q⟩:=q1
   obtain ⟨u,u',rfl,rx,ry⟩:=vals2 r1
   cases rx
   cases ry
   obtain ⟨its,rv,p1⟩:=I1.sqK ka
   obtain ⟨jts,rv',p2⟩:=I1.sqK kb
   refine call_zq p1 p2 fun h' hz hTI hTO j1 j2 hk=>?_
   have I2:Inv X pins σ H1 { s1 with heap:=h' }:=I1.kept (t':=s1.toks) hk
   have ap:ZAp (s1.heap.objs.size+4) (s1.heap.objs.size+2) (s1.heap.objs.size+3) s1.heap.objs.size (s1.heap.objs.size+1):=by
    have e:∀ n m:Nat,n≠m→s1.heap.objs.size+n≠s1.heap.objs.size+m:=fun n m h z=>h (Nat.add_left_cancel z)
    exact ⟨e 2 4 (by decide),e 3 4 (by decide),e 0 4 (by decide),e 1 4 (by decide),e 2 3 (by decide),e 2 0 (by decide),e 2 1 (by decide),e 3 0 (by decide),e 3 1 (by decide),e 0 1 (by decide)⟩
   refine wpAny_pyIter_zip (s:={ s1 with heap:=h' }) hz ⟨s1.heap.objs.size+4,_,_,_,H1,rfl,I2,turn_zip ap,⟨hz,hTI,⟨_,_,hTO⟩,j1.k (p1.at fun o q=>hk _ o q),j2.k (p2.at fun o q=>hk _ o q)⟩,fun e he=>?_,q⟩
   have hb':s1.heap.objs.size≤e:=by
    simp only [List.mem_cons,List.not_mem_nil,or_false] at he
    rcases he with rfl | rfl | rfl | rfl | rfl
    · exact Nat.le_add_right _ 4
    · exact Nat.le_add_right _ 2
    · exact Nat.le_add_right _ 3
    · exact Nat.le_refl _
    · exact Nat.le_add_right _ 1
   exact I1.fpOk hb' (I1.hok.fresh hb')
 · exact q1.elim
theorem zi_zip {l m:Expr} {ta:TA} {elts:List Expr} {k:Nat} {tp p pos:Pos} (hg:Gl X "zip") (hm:X.mg "zip" = none) (ha:ZA X [l,m] ta) (hs:starEach [l,m] X.env=[(false,eval l X.env),(false,eval m X.env)]:=by rfl) (hs2:starEach [m] X.env=[(false,eval m X.env)]:=by rfl) :
 ZI X (.Tuple elts k tp) (.Call (.Name "zip" p) [l,m] [] pos) (iZip ta):=by with_unfolding_all exact pi_zip hg hm ha hs hs2
theorem cmp_zip {nv:List Str} {ix:List (Str×Nat)} {σ:St} {g:TG} {ti:TT} {te:TE} {Fin:List V→Hp→Prop} {c d:Bool} {a b:Addr} {xs ys:List V} (Pv:Nat→List V→Hp→Prop) (h0:Pv 0 [] H) (hl:∀ i zs H,i≤min xs.length ys.length→Pv i zs H→SqK H c a xs∧SqK H d b ys)
 (hn:∀ i zs H,i<min xs.length ys.length→Pv i zs H→zs.length<sizeLine)
 (hs:∀ i x y zs H p,xs[i]? = some x→ys[i]? = some y→Pv i zs H→H p=none→g (.ref p) (st0 nv ix σ) (upd H p (.tup [x,y])) fun σ2 H2=>ti σ2 H2 fun b H3=>if b=true then te σ2 H3 fun y H4=>Pv (i+1) (zs++[y]) H4 else Pv (i+1) zs H3)
 (hd:∀ zs H,Pv (min xs.length ys.length) zs H→Fin zs H):CmpW nv ix g ti te σ (Itz c d a b) Fin H:=by
 refine ⟨fun i m zs H=>m=min xs.length ys.length - i∧i≤min xs.length ys.length∧Pv i zs H,⟨_,rfl,Nat.zero_le _,h0⟩,?_⟩
 rintro i m zs H ⟨rfl,hi,p⟩
 obtain ⟨q1,q2⟩:=hl i zs H hi p
 by_cases hlt:i<min xs.length ys.length
 · have l1:i<xs.length:=by omega
   have l2:i<ys.length:=by omega
   refine .inr ⟨⟨xs,ys,xs[i],ys[i],q1,q2,by simp [l1],by simp [l2]⟩,hn i zs H hlt p,Pv (i+1),fun σ' H' p'=>⟨_,by omega,rfl,hlt,p'⟩,fun x H' y=>?_⟩
   obtain ⟨pp,hn',rfl,hy⟩:=y
   obtain ⟨x1,y1,e1,e2,rfl⟩:=hy xs ys q1 q2
   exact hs i x1 y1 zs H pp e1 e2 p hn'
 · have e:i=min xs.length ys.length:=by omega
   refine .inl ⟨⟨xs,ys,q1,q2,?_⟩,hd zs H (e▸p)⟩
   by_cases l1:i<xs.length
   · right;rw [List.getElem?_eq_none_iff];omega
   · left;rw [List.getElem?_eq_none_iff];omega
theorem kpg_two {K:PySem.W.Frag} {x y:Str}:KpG [x,y] (gTup K 2 (gCons (gName 0) (gCons (gName 1) gNil))):=fun fr v H Q h=>by
 obtain ⟨a,xs,e,hq,hl,v1,r1,e1,v2,r2,e2,e3,q⟩:=h
 refine ⟨a,xs,e,hq,hl,v1,r1,e1,v2,r2,e2,e3,⟨by simp,fun i w e=>?_⟩,q⟩
 match i,e with
 | 0,e=>cases e
 | 1,e=>cases e
 | i+2,e=>exact e
theorem drawsK {prog:Program} {w:World} {A:Around} (hh:A.handled=none) (c:Bool) (it l:Addr) (hne:l≠it) (items:Array Value) :
 Draws prog w A it [it,l] items.size (fun i v=>items[i]? = some v) (fun i h=>Itk h c it l i∧IsSq h c l items) where
 live:=fun _ _ st=>let ⟨o,ho,_⟩:=st.1.obj;⟨o,ho⟩
 frame:=fun _ _ _ st k=>⟨st.1.at fun o e=>k it (List.mem_cons_self ..) o e,st.2.at fun o e=>k l (by simp) o e⟩
 item:=fun i s Q E hi st hQ=>Itq.item (v:=items[i]) (st.1.q st.2) hne (by simp [hi]) fun h' a b=>hQ items[i] h' s.toks (by simp [hi]) ⟨a.k (st.2.at fun o e=>b.extBut _ _ hne e),st.2.at fun o e=>b.extBut _ _ hne e⟩ b
 done:=fun s Q E st hE=>Itq.fin hh (st.1.q st.2) (by simp) hE
theorem meets_enumK (c:Bool) (l:Addr) (items:Array Value) :
 Meets (Builtin.«enumerate.__new__» ⟨[.type "enumerate",.ref l],[]⟩) (fun _ R s=>IsSq s.heap c l items ∧
  R (.ok (.ret (.ref (s.heap.push (zqI c l)).objs.size))) { s with heap:=(s.heap.push (zqI c l)).push { cls:=.type "enumerate",data:=.fields #[.none,.bool false,.ref s.heap.objs.size,rawInt 0,.none,.none] } }):=
 .of_wp fun prog w A R s h=>by
  obtain ⟨hp,g,d,tk,os⟩:=s
  obtain ⟨hl,h⟩:=h
  have hsub:=sub_enumerate
  have hS:IsSq (Shared.heap ⟨hp,g,d,tk,os⟩) c l items:=hl
  obtain ⟨o,ho,_⟩:∃ o,hp.get? l=some o∧True:=by
   cases c with
   | true=>obtain ⟨o,e,_⟩:=(show hp.IsTuple l items from hl);exact ⟨o,e,trivial⟩
   | false=>obtain ⟨o,e,_⟩:=(show hp.IsList l items from hl);exact ⟨o,e,trivial⟩
  wp_walk using AutoSeq1.wpAny_loadPart' ho
  refine wpAny_stack_any fun st=>wpAny_pure ?_
  split
  · rename_i c' _ _ _ _ _
    cases (c' == Value.type "enumerate") <;> (wp_walk using AutoSeq1.wpAny_loadPart' ho,iter_sq hS) <;> exact ⟨_,rfl,h⟩
  · wp_walk using AutoSeq1.wpAny_loadPart' ho,iter_sq hS
    exact ⟨_,rfl,h⟩
def ItE (c:Bool) (a:Addr):It:=⟨fun i H=>∃ xs x,SqK H c a xs∧xs[i]? = some x,fun i H v H'=>∃ p,H p=none∧v=.ref p∧∀ xs,SqK H c a xs→∃ y,xs[i]? = some y∧H'=upd H p (.tup [.int i,y]),fun i H=>∃ xs,SqK H c a xs∧xs.length=i⟩
theorem turn_enumK {P:Program} {w:World} {K:PySem.W.Frag} {elts:List Expr} {k:Nat} {pos:Pos} {c:Bool} {e it a:Addr} (hei:e≠it) :
 Turn P w K (.Tuple elts k pos) (ItE c a) [e,it] e (fun i h=>(∃ old,IsEnum h e it i old)∧Itk h c it a i) where
 mem:=List.mem_cons_self ..
 obj:=fun i h st b hb=>by
  obtain ⟨⟨old,he⟩,kt⟩:=st
  rcases List.mem_cons.mp hb with rfl | hb
  · exact ⟨_,he,fun v z=>by cases z⟩
  · have:b=it:=by simpa using hb
    subst this
    exact kt.obj
 keep:=fun i h h' st k=>⟨let ⟨old,he⟩:=st.1;⟨old,k e (by simp) _ he⟩,st.2.at fun o q=>k it (by simp) o q⟩
 item:=by
  intro X hP hw hK hc i pins s σ H E I hf st hg
  subst hP hw hK
  obtain ⟨xs,x,hq,hx⟩:=hg
  obtain ⟨⟨old,he⟩,hit⟩:=st
  obtain ⟨its,rv,p⟩:=I.sqK hq
  obtain ⟨u,hu,ru⟩:=rv.get hx
  have fe:=hf e (by simp)
  have fi:=hf it (by simp)
  have hae:a≠e:=hq.ne fe.1
  have hai:a≠it:=hq.ne fi.1
  have hlt:i<its.toArray.size:=by rw [List.size_toArray];exact (List.getElem?_eq_some_iff.mp hu).1
  refine wpAny_pyNext_enum_itemD (drawsK (A:=X.A.in1) (I.ok.hd hc) c it a hai its.toArray) he ⟨hit,p⟩ hlt hei (by simp [hei,Ne.symm hae]) fun x' h' tk hPx ho hst' hTup hsz hk=>?_
  have ex:x'=u:=by
   have:its[i]? = some x':=by simpa using hPx
   rw [hu] at this
   exact (Option.some.inj this).symm
  subst ex
  refine ⟨_,rfl,wpAny_letOwnedTupleGo_enum ho fun h2 he2 hs2=>?_⟩
  have hel:e<s.heap.objs.size:=Heap.lt_size he
  have I1:Inv X pins σ H { s with heap:=h2,toks:=tk+1 }:=I.turned2 (fun b o n1 n2 q=>(hs2.2 b n1).trans (hk b o n1 n2 q)) fe fi
  have hTd:TupD h2 s.heap.objs.size [.int i tk,x'].toArray:=⟨0,(hs2.2 _ (Nat.ne_of_gt hel)).trans hTup⟩
  have hn:H s.heap.objs.size=none:=I.hok.fresh (Nat.le_refl _)
  have I2:=I1.trackT (ys:=[.int i,x]) (.cons ⟨tk,rfl⟩ (.cons ru .nil)) (by show 2≤sizeLine;decide) hTd (I.fpOk (Nat.le_refl _) hn)
  have hil:it<s.heap.objs.size:=by obtain ⟨o,q,_⟩:=hit.obj;exact Heap.lt_size q
  refine ⟨.ref s.heap.objs.size,_,I2,rfl,⟨_,hn,rfl,fun ys hy=>?_⟩,⟨⟨x',by simpa using he2⟩,hst'.1.at fun o q=>(hs2.2 it (Ne.symm hei)).trans q⟩,fun b hb=>?_⟩
  · cases hq.inj hy
    exact ⟨x,hx,rfl⟩
  · rcases List.mem_cons.mp hb with rfl | hb
    · rw [upd_ne (Nat.ne_of_lt hel)];exact fe.1
    · have:b=it:=by simpa using hb
      subst this
      rw [upd_ne (Nat.ne_of_lt hil)];exact fi.1
 done:=by
  intro X hP hw hK hc i pins s σ H E I hf st hg
  subst hP hw hK
  obtain ⟨xs,hq,hx⟩:=hg
  obtain ⟨⟨old,he⟩,hit⟩:=st
  obtain ⟨its,rv,p⟩:=I.sqK hq
  have fi:=hf it (by simp)
  have hai:a≠it:=hq.ne fi.1
  have hn:its.toArray.size=i:=by rw [List.size_toArray,← rv.length];exact hx
  refine wpAny_pyNext_enum_endD (drawsK (A:=X.A.in1) (I.ok.hd hc) c it a hai its.toArray) he ⟨by rw [hn];exact hit,p⟩ fun h' hb=>⟨rfl,I.turned (t':=s.toks) (it:=it) (fun b o n q=>hb b o n q) fi.1 fi.2.1 fi.2.2.2.1 fi.2.2.2.2.1 fi.2.2.2.2.2⟩
 self:=fun A i s Q E st h=>let ⟨⟨_,he⟩,_⟩:=st;wpAny_pyIter_enum he h
theorem call_enumK {prog:Program} {w:World} {A:Around} {E:Value→Shared→Prop} {s:Shared} {c:Bool} {l:Addr} {items:Array Value} {Q:Value→Shared→Prop} (hL:IsSq s.heap c l items)
 (h:∀ h',IsEnum h' (s.heap.objs.size+1) s.heap.objs.size 0 .none→Itk h' c s.heap.objs.size l 0→(∀ b o,s.heap.get? b=some o→h'.get? b=some o)→Q (.ref (s.heap.objs.size+1)) { s with heap:=h' }) :
 wpAny (model prog w) A (call (.type "enumerate") [.ref l]) Q E s:=by
 have hz:(s.heap.push (zqI c l)).objs.size=s.heap.objs.size+1:=Heap.size_push ..
 refine callType_new F.called_enumerate (by decide) (F.typeCall_enumerate_1 _) (F.newCall_enumerate_1 _) (fun obj=>F.args_object_init_2 obj _) F.entry_enumerate_new (meets_enumK c l items) ⟨hL,?_⟩
 have g:=Heap.get?_push_size (s.heap.push (zqI c l)) (o:={ cls:=.type "enumerate",data:=.fields #[.none,.bool false,.ref s.heap.objs.size,rawInt 0,.none,.none] }) rfl
 rw [hz] at g
 show _∧_
 rw [hz]
 refine ⟨⟨_,g,rfl⟩,h _ g ?_ fun b o q=>Heap.get?_push_of_some _ (Heap.get?_push_of_some _ q)⟩
 have e:=Heap.get?_push_of_some { cls:=.type "enumerate",data:=.fields #[.none,.bool false,.ref s.heap.objs.size,rawInt 0,.none,.none] } (Heap.get?_push_size s.heap (o:=zqI c l) rfl)
 cases c with
 | true=>exact ⟨_,e,rfl,rfl⟩
 | false=>exact ⟨_,e,rfl,rfl⟩
def iEnumK (ta:TA):TI:=fun σ H R=>ta σ H fun vs H1=>match vs with
 | [.ref a]=>∃ c xs,SqK H1 c a xs∧R (ItE c a) H1
 | _=>False
theorem pi_enumK {l:Expr} {ta:TA} {elts:List Expr} {k:Nat} {tp p pos:Pos} (hg:Gl X "enumerate") (hm:X.mg "enumerate" = none) (ha:PA X [l] ta) (hs:starEach [l] X.env=[(false,eval l X.env)]:=by rfl) :
 PI X (.Tuple elts k tp) (.Call (.Name "enumerate" p) [l] [] pos) (iEnumK ta):=by
 intro pins s σ H R I h
 refine Call_ (ld_blt I hg hm boot_enumerate' (PyProof.Rows.callWith_type1 (thn (ha pos pins s σ H _ I h) fun us s1 ⟨vs,H1,I1,r1,q1⟩=>?_) hs rfl))
 dsimp only at q1
 split at q1
 · rename_i a
   obtain ⟨c,xs,hx,q⟩:=q1
   obtain ⟨u,rfl,rx⟩:=vals1 r1
   cases rx
   obtain ⟨its,rv,pt⟩:=I1.sqK hx
   refine call_enumK pt fun h' he hit hk=>?_
   have I2:Inv X pins σ H1 { s1 with heap:=h' }:=I1.kept (t':=s1.toks) hk
   refine wpAny_pyIter_enum (s:={ s1 with heap:=h' }) he ⟨s1.heap.objs.size+1,[s1.heap.objs.size+1,s1.heap.objs.size],_,_,H1,rfl,I2,turn_enumK (Nat.succ_ne_self _),⟨⟨_,he⟩,hit⟩,fun b hb=>?_,q⟩
   have hb':s1.heap.objs.size≤b:=by
    rcases List.mem_cons.mp hb with rfl | hb
    · exact Nat.le_succ _
    · have:b=s1.heap.objs.size:=by simpa using hb
      exact Nat.le_of_eq this.symm
   exact I1.fpOk hb' (I1.hok.fresh hb')
 · exact q1.elim
theorem zi_enumK {l:Expr} {ta:TA} {elts:List Expr} {k:Nat} {tp p pos:Pos} (hg:Gl X "enumerate") (hm:X.mg "enumerate" = none) (ha:ZA X [l] ta) (hs:starEach [l] X.env=[(false,eval l X.env)]:=by rfl) :
 ZI X (.Tuple elts k tp) (.Call (.Name "enumerate" p) [l] [] pos) (iEnumK ta):=by with_unfolding_all exact pi_enumK hg hm ha hs
theorem cmp_enumK {nv:List Str} {ix:List (Str×Nat)} {σ:St} {g:TG} {ti:TT} {te:TE} {Fin:List V→Hp→Prop} {c:Bool} {a:Addr} {xs:List V} (Pv:Nat→List V→Hp→Prop) (h0:Pv 0 [] H) (hl:∀ i zs H,i≤xs.length→Pv i zs H→SqK H c a xs)
 (hn:∀ i zs H,i<xs.length→Pv i zs H→zs.length<sizeLine)
 (hs:∀ i x zs H p,xs[i]? = some x→Pv i zs H→H p=none→g (.ref p) (st0 nv ix σ) (upd H p (.tup [.int i,x])) fun σ2 H2=>ti σ2 H2 fun b H3=>if b=true then te σ2 H3 fun y H4=>Pv (i+1) (zs++[y]) H4 else Pv (i+1) zs H3)
 (hd:∀ zs H,Pv xs.length zs H→Fin zs H):CmpW nv ix g ti te σ (ItE c a) Fin H:=by
 refine ⟨fun i m zs H=>m=xs.length - i∧i≤xs.length∧Pv i zs H,⟨_,rfl,Nat.zero_le _,h0⟩,?_⟩
 rintro i m zs H ⟨rfl,hi,p⟩
 have q:=hl i zs H hi p
 by_cases hlt:i<xs.length
 · refine .inr ⟨⟨xs,xs[i],q,by simp [hlt]⟩,hn i zs H hlt p,Pv (i+1),fun σ' H' p'=>⟨_,by omega,rfl,hlt,p'⟩,fun x H' y=>?_⟩
   obtain ⟨pp,hn',rfl,hy⟩:=y
   obtain ⟨z,hz,rfl⟩:=hy xs q
   exact hs i z zs H pp hz p hn'
 · have e:i=xs.length:=by omega
   subst e
   exact .inl ⟨⟨xs,q,rfl⟩,hd zs H p⟩
end
end L2
namespace SRV
open PySem
open PyProof.Rows hiding K SortedTo K_bubble K_mirror K_congr K_mirror_equal
class KV where
 sh:Shared
 kind:SortKind
 kv:Keyed→Int
 good:Keyed→Prop
 lt:∀ {prog:Program} {w:World} {A:Around} {E:Value→Shared→Prop} {st:SortSt} {x y:Keyed} {Q:Option Bool→SortSt→Prop},kindOf st=kind→good x→good y→Q (some (decide (kv x<kv y))) st→wpS (model prog w) A E sh (lt' x y) Q st
variable [KV]
def kv (p:Keyed):Int:=KV.kv p
def IsI (p:Keyed):Prop:=KV.good p
def AllI (xs:Array Keyed):Prop:=∀ p∈xs.toList,IsI p
def K (xs:Array Keyed) (i:Nat):Int:=match xs[i]? with
 | some p=>kv p
 | none=>0
def SortedTo (xs:Array Keyed) (k:Nat):Prop:=∀ i j,i≤j→j<k→K xs i≤K xs j
theorem K_congr {xs ys:Array Keyed} {i j:Nat} (h:xs[i]? = ys[j]?):K xs i=K ys j:=by unfold K;rw [h]
theorem K_bubble {xs:Array Keyed} {src d:Nat} (hs:src<xs.size) (hd:d≤src) (k:Nat) :
 K (bubble xs src d) k=if k=src - d then K xs src else if src - d<k∧k≤src then K xs (k - 1) else K xs k:=by
 have e:=getElem?_bubble hs d hd k
 by_cases h1:k=src - d
 · rw [if_pos h1] at e ⊢;exact K_congr e
 · rw [if_neg h1] at e ⊢
   by_cases h2:src - d<k∧k≤src
   · rw [if_pos h2] at e ⊢;exact K_congr e
   · rw [if_neg h2] at e ⊢;exact K_congr e
theorem K_mirror {xs:Array Keyed} {i j:Nat} (hj:j≤xs.size) (k:Nat) :
 K (mirror xs i j ((j - i) / 2)) k=if i≤k∧k<j then K xs (i+j - 1 - k) else K xs k:=by
 have e:=getElem?_mirror_all (i:=i) hj k
 by_cases h1:i≤k∧k<j
 · rw [if_pos h1] at e ⊢;exact K_congr e
 · rw [if_neg h1] at e ⊢;exact K_congr e
theorem K_mirror_equal {xs:Array Keyed} {i j:Nat} (hj:j≤xs.size) (heq:∀ k,i≤k→k<j→K xs k=K xs (j - 1)) (k:Nat) :
 K (mirror xs i j ((j - i) / 2)) k=K xs k:=by
 rw [K_mirror hj]
 split
 · rename_i h
   rw [heq k h.1 h.2,heq (i+j - 1 - k) (by omega) (by omega)]
 · rfl
section
variable {prog:Program} {w:World} {A:Around} {E:Value→Shared→Prop}
theorem s_lt {st:SortSt} {x y:Keyed} {Q:Option Bool→SortSt→Prop} (hk:kindOf st=KV.kind) (hx:IsI x) (hy:IsI y) (h:Q (some (decide (kv x<kv y))) st):wpS (model prog w) A E KV.sh (lt' x y) Q st:=KV.lt hk hx hy h
theorem s_elem {st:SortSt} {xs:Array Keyed} {i:Nat} {p:Keyed} {Q:Keyed→SortSt→Prop} (e:xs[i]? = some p) (h:Q p st):wpS (model prog w) A E KV.sh (elem' xs i) Q st:=by
 rw [elem'_eq,e];exact wpS_pure h
def gal:Bool→Keyed→Array Keyed→Nat→Nat→Nat→StateT SortSt Sem (Option Nat):=sortPriv% PySem.Builtin.gallop
theorem gal_eq (lf:Bool) (ky:Keyed) (ar:Array Keyed) (bs n ht:Nat):gal lf ky ar bs n ht=(do
 let byd (i:Nat):StateT SortSt Sem (Option Bool):=do
  let x ← elem' ar (bs+i)
  if lf then lt' x ky else return (← lt' ky x).map (!·)
 let mut la:=0
 let mut os:=1
 let mut lo:=0
 let mut hi:=0
 let some rt ← byd ht | return none
 if rt then
  let mo:=n - ht
  for _ in [0:n] do
   if os≥mo then break
   let some mr ← byd (ht+os) | return none
   if !mr then break
   la:=os
   os:=2*os+1
  lo:=ht+la+1
  hi:=ht+min os mo
 else
  let mo:=ht+1
  for _ in [0:n] do
   if os≥mo then break
   let some fd ← byd (ht - os) | return none
   if fd then break
   la:=os
   os:=2*os+1
  lo:=ht+1 - min os mo
  hi:=ht - la
 for _ in [0:n] do
  if lo≥hi then break
  let m:=lo+(hi - lo) / 2
  let some mr ← byd m | return none
  if mr then lo:=m+1 else hi:=m
 return some hi):=rfl
def Byd (lf:Bool) (ky:Keyed) (ar:Array Keyed) (bs i:Nat):Bool:=if lf then decide (K ar (bs+i)<kv ky) else !decide (kv ky<K ar (bs+i))
theorem K_of {ar:Array Keyed} {i:Nat} {p:Keyed} (e:ar[i]? = some p):K ar i=kv p:=by unfold K;rw [e]
theorem at_of {ar:Array Keyed} {i:Nat} (h:i<ar.size) (hI:AllI ar):∃ p,ar[i]? = some p∧IsI p:=⟨ar[i],getElem?_pos ar i h,hI _ (by simp)⟩
theorem s_byd {st:SortSt} {lf:Bool} {ky:Keyed} {ar:Array Keyed} {bs i:Nat} {Q:Option Bool→SortSt→Prop} (hk:kindOf st=KV.kind) (hI:AllI ar) (hy:IsI ky) (hi:bs+i<ar.size) (h:Q (some (Byd lf ky ar bs i)) st) :
 wpS (model prog w) A E KV.sh (do let x ← elem' ar (bs+i);if lf then lt' x ky else return (← lt' ky x).map (!·)) Q st:=by
 obtain ⟨p,e,hp⟩:=at_of hi hI
 have hK:=K_of e
 unfold Byd at h
 refine wpS_bind (s_elem e ?_)
 cases lf with
 | true=>
   simp only [if_true] at h ⊢
   rw [hK] at h
   exact s_lt hk hp hy h
 | false=>
   simp only [Bool.false_eq_true,if_false] at h ⊢
   rw [hK] at h
   exact wpS_bind (s_lt hk hy hp (wpS_pure h))
theorem s_gal {st:SortSt} {lf:Bool} {ky:Keyed} {ar:Array Keyed} {bs n ht c:Nat} {Q:Option Nat→SortSt→Prop} (hk:kindOf st=KV.kind) (hI:AllI ar) (hy:IsI ky) (hn:bs+n≤ar.size) (hh:ht<n) (hc:c≤n)
 (cut:∀ i,i<n→Byd lf ky ar bs i=decide (i<c)) (h:Q (some c) st):wpS (model prog w) A E KV.sh (gal lf ky ar bs n ht) Q st:=by
 have byd:∀ {i:Nat} {R:Option Bool→SortSt→Prop},i<n→R (some (decide (i<c))) st→wpS (model prog w) A E KV.sh (do let x ← elem' ar (bs+i);if lf then lt' x ky else return (← lt' ky x).map (!·)) R st:=fun {i R} hi hR=>
  s_byd hk hI hy (by omega) (by rw [cut i hi];exact hR)
 rw [gal_eq]
 dsimp only
 refine wpS_bind (byd hh ?_)
 by_cases hr:ht<c
 · simp only [hr,decide_true,if_true]
   refine wpS_bind (wpS_mono (wpS_forRange (I:=fun x r st'=>st=st'∧∃ l o,r=(none,l,o)∧ht+l<c∧l<o∧x+1≤o) (Q:=fun r st'=>st=st'∧∃ l o,r=(none,l,o)∧ht+l<c∧l<o∧c≤ht+min o (n - ht)) ?_ ?_ ⟨rfl,0,1,rfl,by omega,by omega,by omega⟩) ?_)
   · rintro x r st' _ hx ⟨rfl,l,o,rfl,g1,g2,g3⟩
     dsimp only
     by_cases hge:o≥n - ht
     · rw [if_pos hge]
       exact wpS_pure ⟨rfl,l,o,rfl,g1,g2,by omega⟩
     · rw [if_neg hge]
       refine wpS_bind (byd (by omega) ?_)
       by_cases hm:ht+o<c
       · simp only [hm,decide_true,Bool.not_true,Bool.false_eq_true,if_false]
         exact wpS_pure ⟨rfl,_,_,rfl,hm,by omega,by omega⟩
       · simp only [hm,decide_false,Bool.not_false,if_true]
         exact wpS_pure ⟨rfl,l,o,rfl,g1,g2,by omega⟩
   · rintro r st' ⟨rfl,l,o,rfl,g1,g2,g3⟩
     exact ⟨rfl,l,o,rfl,g1,g2,by omega⟩
   · rintro r st' ⟨rfl,l,o,rfl,g1,g2,g3⟩
     dsimp only
     refine wpS_bind (wpS_mono (wpS_forRange (I:=fun x r st'=>st=st'∧∃ l u,r=(none,l,u)∧l≤c∧c≤u∧u≤n∧u - l≤n - x) (Q:=fun r st'=>st=st'∧∃ l,r=(none,l,c)) ?_ ?_ ⟨rfl,(ht+l+1),(ht+min o (n - ht)),rfl,(by omega),g3,(by omega),by omega⟩) ?_)
     · rintro x r st' _ hx ⟨rfl,l,u,rfl,g1,g2,g3,g4⟩
       dsimp only
       by_cases hge:l≥u
       · rw [if_pos hge]
         have:u=c:=by omega
         subst this
         exact wpS_pure ⟨rfl,l,rfl⟩
       · rw [if_neg hge]
         refine wpS_bind (byd (by omega) ?_)
         by_cases hm:l+(u - l) / 2<c
         · simp only [hm,decide_true,if_true]
           exact wpS_pure ⟨rfl,_,_,rfl,by omega,g2,g3,by omega⟩
         · simp only [hm,decide_false,Bool.false_eq_true,if_false]
           exact wpS_pure ⟨rfl,_,_,rfl,g1,by omega,by omega,by omega⟩
     · rintro r st' ⟨rfl,l,u,rfl,g1,g2,g3,g4⟩
       have:u=c:=by
        have:max 0 n=n:=by omega
        omega
       subst this
       exact ⟨rfl,l,rfl⟩
     · rintro r st' ⟨rfl,l,rfl⟩
       exact wpS_pure h
 · simp only [hr,decide_false,Bool.false_eq_true,if_false]
   refine wpS_bind (wpS_mono (wpS_forRange (I:=fun x r st'=>st=st'∧∃ l o,r=(none,l,o)∧c≤ht - l∧l≤ht∧l<o∧x+1≤o) (Q:=fun r st'=>st=st'∧∃ l o,r=(none,l,o)∧c≤ht - l∧l≤ht∧l<o∧ht+1 - min o (ht+1)≤c) ?_ ?_ ⟨rfl,0,1,rfl,by omega,by omega,by omega,by omega⟩) ?_)
   · rintro x r st' _ hx ⟨rfl,l,o,rfl,g1,g0,g2,g3⟩
     dsimp only
     by_cases hge:o≥ht+1
     · rw [if_pos hge]
       exact wpS_pure ⟨rfl,l,o,rfl,g1,g0,g2,by omega⟩
     · rw [if_neg hge]
       refine wpS_bind (byd (by omega) ?_)
       by_cases hm:ht - o<c
       · simp only [hm,decide_true,if_true]
         exact wpS_pure ⟨rfl,l,o,rfl,g1,g0,g2,by omega⟩
       · simp only [hm,decide_false,Bool.false_eq_true,if_false]
         exact wpS_pure ⟨rfl,_,_,rfl,by omega,by omega,by omega,by omega⟩
   · rintro r st' ⟨rfl,l,o,rfl,g1,g0,g2,g3⟩
     exact ⟨rfl,l,o,rfl,g1,g0,g2,by omega⟩
   · rintro r st' ⟨rfl,l,o,rfl,g1,g0,g2,g3⟩
     dsimp only
     refine wpS_bind (wpS_mono (wpS_forRange (I:=fun x r st'=>st=st'∧∃ l u,r=(none,l,u)∧l≤c∧c≤u∧u≤n∧u - l≤n - x) (Q:=fun r st'=>st=st'∧∃ l,r=(none,l,c)) ?_ ?_ ⟨rfl,(ht+1 - min o (ht+1)),(ht - l),rfl,g3,g1,(by omega),by omega⟩) ?_)
     · rintro x r st' _ hx ⟨rfl,l,u,rfl,g1,g2,g3,g4⟩
       dsimp only
       by_cases hge:l≥u
       · rw [if_pos hge]
         have:u=c:=by omega
         subst this
         exact wpS_pure ⟨rfl,l,rfl⟩
       · rw [if_neg hge]
         refine wpS_bind (byd (by omega) ?_)
         by_cases hm:l+(u - l) / 2<c
         · simp only [hm,decide_true,if_true]
           exact wpS_pure ⟨rfl,_,_,rfl,by omega,g2,g3,by omega⟩
         · simp only [hm,decide_false,Bool.false_eq_true,if_false]
           exact wpS_pure ⟨rfl,_,_,rfl,g1,by omega,by omega,by omega⟩
     · rintro r st' ⟨rfl,l,u,rfl,g1,g2,g3,g4⟩
       have:u=c:=by
        have:max 0 n=n:=by omega
        omega
       subst this
       exact ⟨rfl,l,rfl⟩
     · rintro r st' ⟨rfl,l,rfl⟩
       exact wpS_pure h
end
open PyProof.Rows hiding K SortedTo K_bubble K_mirror K_congr K_mirror_equal
variable [KV]
def Le (x y:Keyed):Prop:=kv x≤kv y
structure MI (A B:List Keyed) (o:List Keyed) (ia ib:Nat):Prop where
 perm:o.Perm (A.take ia++B.take ib)
 srt:o.Pairwise Le
 lea:∀ x∈o,∀ y∈A.drop ia,kv x≤kv y
 leb:∀ x∈o,∀ y∈B.drop ib,kv x≤kv y
structure Mer (A B:List Keyed) (o:List Keyed):Prop where
 perm:o.Perm (A++B)
 srt:o.Pairwise Le
theorem pw_drop {l:List Keyed} (h:l.Pairwise Le) {i:Nat} (hi:i<l.length):∀ y∈l.drop (i+1),kv l[i]≤kv y:=by
 have e:l.drop i=l[i]::l.drop (i+1):=List.drop_eq_getElem_cons hi
 have h2:(l.drop i).Pairwise Le:=h.sublist (List.drop_sublist i l)
 rw [e] at h2
 exact (List.pairwise_cons.mp h2).1
theorem mem_drop_succ {l:List Keyed} {i:Nat} {y:Keyed} (h:y∈l.drop (i+1)):y∈l.drop i:=by
 rw [← List.drop_drop] at h
 exact List.mem_of_mem_drop h
theorem MI.pushB {A B o:List Keyed} {ia ib:Nat} (m:MI A B o ia ib) (hB:B.Pairwise Le) (hi:ib<B.length) (h:∀ z∈A.drop ia,kv B[ib]≤kv z):MI A B (o++[B[ib]]) ia (ib+1):=by
 have hm:B[ib]∈B.drop ib:=by rw [List.drop_eq_getElem_cons hi];exact List.mem_cons_self
 refine ⟨?_,?_,fun x hx y hy=>?_,fun x hx y hy=>?_⟩
 · have e:B.take (ib+1)=B.take ib++[B[ib]]:=by rw [List.take_succ,List.getElem?_eq_getElem hi];rfl
   rw [e,← List.append_assoc]
   exact m.perm.append_right _
 · refine List.pairwise_append.mpr ⟨m.srt,List.pairwise_singleton _ _,fun x hx y hy=>?_⟩
   rw [List.mem_singleton.mp hy]
   exact m.leb x hx _ hm
 · rcases List.mem_append.mp hx with hx | hx
   · exact m.lea x hx y hy
   · rw [List.mem_singleton.mp hx];exact h y hy
 · rcases List.mem_append.mp hx with hx | hx
   · exact m.leb x hx y (mem_drop_succ hy)
   · rw [List.mem_singleton.mp hx];exact pw_drop hB hi y hy
theorem MI.pushA {A B o:List Keyed} {ia ib:Nat} (m:MI A B o ia ib) (hA:A.Pairwise Le) (hi:ia<A.length) (h:∀ z∈B.drop ib,kv A[ia]≤kv z):MI A B (o++[A[ia]]) (ia+1) ib:=by
 have hm:A[ia]∈A.drop ia:=by rw [List.drop_eq_getElem_cons hi];exact List.mem_cons_self
 refine ⟨?_,?_,fun x hx y hy=>?_,fun x hx y hy=>?_⟩
 · have e:A.take (ia+1)=A.take ia++[A[ia]]:=by rw [List.take_succ,List.getElem?_eq_getElem hi];rfl
   rw [e,List.append_assoc]
   refine (m.perm.append_right _).trans ?_
   rw [List.append_assoc]
   exact List.Perm.append_left _ List.perm_append_comm
 · refine List.pairwise_append.mpr ⟨m.srt,List.pairwise_singleton _ _,fun x hx y hy=>?_⟩
   rw [List.mem_singleton.mp hy]
   exact m.lea x hx _ hm
 · rcases List.mem_append.mp hx with hx | hx
   · exact m.lea x hx y (mem_drop_succ hy)
   · rw [List.mem_singleton.mp hx];exact pw_drop hA hi y hy
 · rcases List.mem_append.mp hx with hx | hx
   · exact m.leb x hx y hy
   · rw [List.mem_singleton.mp hx];exact h y hy
theorem MI.extA {A B o:List Keyed} {ia ib:Nat} (m:MI A B o ia ib) (hA:A.Pairwise Le):∀ (k:Nat),ia+k≤A.length→(∀ i (hi:ia+i<A.length),i<k→∀ z∈B.drop ib,kv A[ia+i]≤kv z)→MI A B (o++(A.drop ia).take k) (ia+k) ib
 | 0,_,_=>by rw [List.take_zero,List.append_nil];exact m
 | k+1,hk,h=>by
   have ih:=MI.extA m hA k (by omega) fun i hi hik=>h i hi (by omega)
   have hi:ia+k<A.length:=by omega
   have e:(A.drop ia).take (k+1)=(A.drop ia).take k++[A[ia+k]]:=by rw [List.take_succ,List.getElem?_drop,List.getElem?_eq_getElem hi];rfl
   rw [e,← List.append_assoc]
   exact ih.pushA hA hi (h k hi (by omega))
theorem MI.extB {A B o:List Keyed} {ia ib:Nat} (m:MI A B o ia ib) (hB:B.Pairwise Le):∀ (k:Nat),ib+k≤B.length→(∀ i (hi:ib+i<B.length),i<k→∀ z∈A.drop ia,kv B[ib+i]≤kv z)→MI A B (o++(B.drop ib).take k) ia (ib+k)
 | 0,_,_=>by rw [List.take_zero,List.append_nil];exact m
 | k+1,hk,h=>by
   have ih:=MI.extB m hB k (by omega) fun i hi hik=>h i hi (by omega)
   have hi:ib+k<B.length:=by omega
   have e:(B.drop ib).take (k+1)=(B.drop ib).take k++[B[ib+k]]:=by rw [List.take_succ,List.getElem?_drop,List.getElem?_eq_getElem hi];rfl
   rw [e,← List.append_assoc]
   exact ih.pushB hB hi (h k hi (by omega))
theorem perm_mid (a b c d:List Keyed):(a++b++(c++d)).Perm (a++c++(b++d)):=by
 rw [List.append_assoc,List.append_assoc]
 refine List.Perm.append_left a ?_
 rw [← List.append_assoc,← List.append_assoc]
 exact List.Perm.append_right d List.perm_append_comm
theorem MI.finAB {A B o:List Keyed} {ia ib:Nat} (m:MI A B o ia ib) (hA:A.Pairwise Le) (hB:B.Pairwise Le) (h:∀ x∈A.drop ia,∀ y∈B.drop ib,kv x≤kv y):Mer A B (o++A.drop ia++B.drop ib):=by
 refine ⟨?_,?_⟩
 · have e:=(m.perm.append_right (A.drop ia++B.drop ib)).trans (perm_mid (A.take ia) (B.take ib) (A.drop ia) (B.drop ib))
   rw [List.take_append_drop,List.take_append_drop] at e
   rw [List.append_assoc];exact e
 · refine List.pairwise_append.mpr ⟨List.pairwise_append.mpr ⟨m.srt,hA.sublist (List.drop_sublist _ _),fun x hx y hy=>m.lea x hx y hy⟩,hB.sublist (List.drop_sublist _ _),fun x hx y hy=>?_⟩
   rcases List.mem_append.mp hx with hx | hx
   · exact m.leb x hx y hy
   · exact h x hx y hy
theorem MI.finBA {A B o:List Keyed} {ia ib:Nat} (m:MI A B o ia ib) (hA:A.Pairwise Le) (hB:B.Pairwise Le) (h:∀ x∈A.drop ia,∀ y∈B.drop ib,kv y≤kv x):Mer A B (o++B.drop ib++A.drop ia):=by
 refine ⟨?_,?_⟩
 · have e:=(m.perm.append_right (A.drop ia++B.drop ib)).trans (perm_mid (A.take ia) (B.take ib) (A.drop ia) (B.drop ib))
   rw [List.take_append_drop,List.take_append_drop] at e
   rw [List.append_assoc]
   exact (List.Perm.append_left o List.perm_append_comm).trans e
 · refine List.pairwise_append.mpr ⟨List.pairwise_append.mpr ⟨m.srt,hB.sublist (List.drop_sublist _ _),fun x hx y hy=>m.leb x hx y hy⟩,hA.sublist (List.drop_sublist _ _),fun x hx y hy=>?_⟩
   rcases List.mem_append.mp hx with hx | hx
   · exact m.lea x hx y hy
   · exact h y hy x hx
def mlo:Array Keyed→Array Keyed→StateT SortSt Sem (Array Keyed):=sortPriv% PySem.Builtin.mergeLo
def setG:Nat→StateT SortSt Sem Unit:=sortPriv% PySem.Builtin.setMinGallop
theorem setG_eq (g:Nat):setG g=modify fun z=>SortSt.mk' (kindOf z) (arrOf z) (pendingOf z) g (failedOf z):=rfl
theorem mlo_eq (xa xb:Array Keyed):mlo xa xb=(do
 rule "list.sort.merge-lo"
 let tot:=xa.size+xb.size
 let dn (ou:Array Keyed) (i j:Nat):=ou++xa.extract i xa.size++xb.extract j xb.size
 let la (ou:Array Keyed) (i j:Nat):=ou++xb.extract j xb.size++xa.extract i xa.size
 let mut ou:Array Keyed:=#[← elem' xb 0]
 let mut i:=0
 let mut j:=1
 if j == xb.size then return dn ou i j
 if i+1 == xa.size then return la ou i j
 let mut mg:=gallopOf (← get)
 for _ in [0:tot] do
  let mut ac:=0
  let mut bc:=0
  for _ in [0:tot] do
   let some bw ← lt' (← elem' xb j) (← elem' xa i) | return dn ou i j
   if bw then
    ou:=ou.push (← elem' xb j);j:=j+1;bc:=bc+1;ac:=0
    if j == xb.size then return dn ou i j
    if bc≥mg then break
   else
    ou:=ou.push (← elem' xa i);i:=i+1;ac:=ac+1;bc:=0
    if i+1 == xa.size then return la ou i j
    if ac≥mg then break
  rule "list.sort.gallop"
  mg:=mg+1
  for _ in [0:tot] do
   if mg > 1 then mg:=mg - 1
   setG mg
   let some k ← gal false (← elem' xb j) xa i (xa.size - i) 0 | return dn ou i j
   ac:=k
   if k > 0 then
    ou:=ou++xa.extract i (i+k);i:=i+k
    if i+1 == xa.size then return la ou i j
    if i == xa.size then return dn ou i j
   ou:=ou.push (← elem' xb j);j:=j+1
   if j == xb.size then return dn ou i j
   let some k ← gal true (← elem' xa i) xb j (xb.size - j) 0 | return dn ou i j
   bc:=k
   if k > 0 then
    ou:=ou++xb.extract j (j+k);j:=j+k
    if j == xb.size then return dn ou i j
   ou:=ou.push (← elem' xa i);i:=i+1
   if i+1 == xa.size then return la ou i j
   if ac<7&&bc<7 then break
  mg:=mg+1
  setG mg
 unsupported "internal:list.sort.merge-bound"):=rfl
open PyProof.Rows hiding K SortedTo K_bubble K_mirror K_congr K_mirror_equal
variable [KV]
structure SameSt (a b:SortSt):Prop where
 kind:kindOf b=kindOf a
 arr:arrOf b=arrOf a
 pend:pendingOf b=pendingOf a
 fail:failedOf b=failedOf a
theorem SameSt.refl (a:SortSt):SameSt a a:=⟨rfl,rfl,rfl,rfl⟩
theorem SameSt.setG {a b:SortSt} (h:SameSt a b) (g:Nat):SameSt a (SortSt.mk' (kindOf b) (arrOf b) (pendingOf b) g (failedOf b)):=⟨h.kind,h.arr,h.pend,h.fail⟩
theorem toL_end (o x y:Array Keyed) (i j:Nat):(o++x.extract i x.size++y.extract j y.size).toList=o.toList++x.toList.drop i++y.toList.drop j:=by
 have e:∀ (z:Array Keyed) (k:Nat),(z.extract k z.size).toList=z.toList.drop k:=fun z k=>by
  rw [Array.toList_extract,List.extract_eq_drop_take,List.take_of_length_le]
  rw [List.length_drop,Array.length_toList]
  exact Nat.le_refl _
 rw [Array.toList_append,Array.toList_append,e,e]
theorem toL_ext (o x:Array Keyed) (i k:Nat):(o++x.extract i (i+k)).toList=o.toList++(x.toList.drop i).take k:=by
 rw [Array.toList_append,Array.toList_extract,List.extract_eq_drop_take,Nat.add_sub_cancel_left]
section
variable {A B:List Keyed} {o:List Keyed} {ia ib:Nat}
theorem drop_len {l:List Keyed} {i:Nat} (h:i=l.length):l.drop i=[]:=List.drop_of_length_le (by omega)
theorem one_left {l:List Keyed} {i:Nat} (h:i+1=l.length):∀ x∈l.drop i,kv x=kv (l[l.length - 1]'(by omega)):=fun x hx=>by
 have e:l.drop i=l[i]::l.drop (i+1):=List.drop_eq_getElem_cons (by omega)
 rw [e,drop_len h] at hx
 have:x=l[i]:=by simpa using hx
 subst this
 congr 2
 omega
end
section
variable {prog:Program} {w:World} {A:Around} {E:Value→Shared→Prop}
theorem s_elemL {st:SortSt} {xs:Array Keyed} {i:Nat} {Q:Keyed→SortSt→Prop} (hi:i<xs.toList.length) (h:Q xs.toList[i] st):wpS (model prog w) A E KV.sh (elem' xs i) Q st:=
 s_elem (by rw [← Array.getElem?_toList,List.getElem?_eq_getElem hi]) h
theorem s_setG {st:SortSt} {g:Nat} {Q:Unit→SortSt→Prop} (h:Q () (SortSt.mk' (kindOf st) (arrOf st) (pendingOf st) g (failedOf st))):wpS (model prog w) A E KV.sh (setG g) Q st:=by
 rw [setG_eq];exact wpS_modify h
theorem cut_of {xs:Array Keyed} (hs:xs.toList.Pairwise Le) (ky:Keyed) (lf:Bool) (bs n:Nat) (hn:bs+n≤xs.size):∃ c,c≤n∧∀ i,i<n→Byd lf ky xs bs i=decide (i<c):=by
 have mono:∀ i j,i≤j→bs+j<xs.size→K xs (bs+i)≤K xs (bs+j):=fun i j hij hj=>by
  have e1:xs[bs+i]? = some (xs.toList[bs+i]'(by rw [Array.length_toList];omega)):=by rw [← Array.getElem?_toList,List.getElem?_eq_getElem]
  have e2:xs[bs+j]? = some (xs.toList[bs+j]'(by rw [Array.length_toList];omega)):=by rw [← Array.getElem?_toList,List.getElem?_eq_getElem]
  rw [K_of e1,K_of e2]
  by_cases h:i=j
  · subst h;exact Int.le_refl _
  · exact List.pairwise_iff_getElem.mp hs _ _ _ _ (by omega)
 have down:∀ i j,i≤j→j<n→Byd lf ky xs bs j=true→Byd lf ky xs bs i=true:=fun i j hij hj h=>by
  have:=mono i j hij (by omega)
  unfold Byd at h ⊢
  cases lf with
  | true=>simp only [if_true,decide_eq_true_eq] at h ⊢;omega
  | false=>simp only [Bool.false_eq_true,if_false,Bool.not_eq_true',decide_eq_false_iff_not] at h ⊢;omega
 induction n with
 | zero=>exact ⟨0,Nat.le_refl _,fun i hi=>absurd hi (Nat.not_lt_zero _)⟩
 | succ n ih=>
   obtain ⟨c,hc,hd⟩:=ih (by omega) (fun i j hij hj h=>down i j hij (by omega) h)
   by_cases hb:Byd lf ky xs bs n=true
   · refine ⟨n+1,Nat.le_refl _,fun i hi=>?_⟩
     rw [decide_eq_true hi]
     exact down i n (by omega) (by omega) hb
   · refine ⟨c,by omega,fun i hi=>?_⟩
     by_cases h:i=n
     · subst h
       rw [decide_eq_false (by omega)]
       exact Bool.not_eq_true _▸(by simpa using hb)
     · exact hd i (by omega)
theorem K_at {xs:Array Keyed} {i:Nat} (hi:i<xs.toList.length):K xs i=kv xs.toList[i]:=K_of (by rw [← Array.getElem?_toList,List.getElem?_eq_getElem hi])
end
open PyProof.Rows hiding K SortedTo K_bubble K_mirror K_congr K_mirror_equal
variable [KV]
theorem mem_dropE {l:List Keyed} {k:Nat} {z:Keyed} (h:z∈l.drop k):∃ u,∃ h:k+u<l.length,z=l[k+u]:=by
 obtain ⟨u,hu,rfl⟩:=List.mem_iff_getElem.mp h
 rw [List.length_drop] at hu
 exact ⟨u,by omega,by rw [List.getElem_drop]⟩
theorem head_le {l:List Keyed} (h:l.Pairwise Le) {i:Nat} (hi:i<l.length):∀ z∈l.drop i,kv l[i]≤kv z:=fun z hz=>by
 rw [List.drop_eq_getElem_cons hi] at hz
 rcases List.mem_cons.mp hz with rfl | hz
 · exact Int.le_refl _
 · exact pw_drop h hi z hz
theorem gfalse {xs:Array Keyed} {ky:Keyed} {bs n c:Nat} (hn:bs+n=xs.toList.length) (cut:∀ i,i<n→Byd false ky xs bs i=decide (i<c)) :
 (∀ t (h:bs+t<xs.toList.length),t<c→kv xs.toList[bs+t]≤kv ky)∧(∀ z∈xs.toList.drop (bs+c),kv ky<kv z):=by
 constructor
 · intro t h ht
   have:=cut t (by omega)
   rw [decide_eq_true ht] at this
   unfold Byd at this
   rw [K_at h] at this
   simp only [Bool.false_eq_true,if_false,Bool.not_eq_true',decide_eq_false_iff_not] at this
   omega
 · intro z hz
   obtain ⟨u,hu,rfl⟩:=mem_dropE hz
   have:=cut (c+u) (by omega)
   rw [decide_eq_false (by omega)] at this
   unfold Byd at this
   have e:bs+(c+u)=bs+c+u:=by omega
   rw [e,K_at hu] at this
   simpa using this
theorem gtrue {xs:Array Keyed} {ky:Keyed} {bs n c:Nat} (hn:bs+n=xs.toList.length) (cut:∀ i,i<n→Byd true ky xs bs i=decide (i<c)) :
 (∀ t (h:bs+t<xs.toList.length),t<c→kv xs.toList[bs+t]<kv ky)∧(∀ z∈xs.toList.drop (bs+c),kv ky≤kv z):=by
 constructor
 · intro t h ht
   have:=cut t (by omega)
   rw [decide_eq_true ht] at this
   unfold Byd at this
   rw [K_at h] at this
   simpa using this
 · intro z hz
   obtain ⟨u,hu,rfl⟩:=mem_dropE hz
   have:=cut (c+u) (by omega)
   rw [decide_eq_false (by omega)] at this
   unfold Byd at this
   have e:bs+(c+u)=bs+c+u:=by omega
   rw [e,K_at hu] at this
   simpa using this
theorem MI.start {A B:List Keyed} (hB:B.Pairwise Le) (hb:0<B.length) (h0:∀ z∈A,kv B[0]≤kv z):MI A B [B[0]] 0 1:=by
 have m:MI A B [] 0 0:=⟨by simp,List.Pairwise.nil,fun x hx=>(nomatch hx),fun x hx=>(nomatch hx)⟩
 exact m.pushB hB hb fun z hz=>h0 z (by simpa using hz)
theorem MI.doneB {xa xb ou:Array Keyed} {i j:Nat} (m:MI xa.toList xb.toList ou.toList i j) (hA:xa.toList.Pairwise Le) (hB:xb.toList.Pairwise Le) (h:j=xb.toList.length):Mer xa.toList xb.toList (ou++xa.extract i xa.size++xb.extract j xb.size).toList:=by
 rw [toL_end]
 exact m.finAB hA hB fun x _ y hy=>by rw [drop_len h] at hy;cases hy
theorem MI.doneA {xa xb ou:Array Keyed} {i j:Nat} (m:MI xa.toList xb.toList ou.toList i j) (hA:xa.toList.Pairwise Le) (hB:xb.toList.Pairwise Le) (h:i=xa.toList.length):Mer xa.toList xb.toList (ou++xa.extract i xa.size++xb.extract j xb.size).toList:=by
 rw [toL_end]
 exact m.finAB hA hB fun x hx y _=>by rw [drop_len h] at hx;cases hx
theorem MI.last {xa xb ou:Array Keyed} {i j:Nat} (m:MI xa.toList xb.toList ou.toList i j) (hA:xa.toList.Pairwise Le) (hB:xb.toList.Pairwise Le) (h:i+1=xa.toList.length) (hl:∀ z∈xb.toList,kv z≤kv (xa.toList[xa.toList.length - 1]'(by omega))):Mer xa.toList xb.toList (ou++xb.extract j xb.size++xa.extract i xa.size).toList:=by
 rw [toL_end]
 exact m.finBA hA hB fun x hx y hy=>by rw [one_left h x hx];exact hl y (List.mem_of_mem_drop hy)
section
variable {prog:Program} {w:World} {A:Around} {E:Value→Shared→Prop}
theorem s_mlo {st:SortSt} {xa xb:Array Keyed} {Q:Array Keyed→SortSt→Prop} (hk:kindOf st=KV.kind) (hIa:AllI xa) (hIb:AllI xb) (hA:xa.toList.Pairwise Le) (hB:xb.toList.Pairwise Le) (ha:0<xa.toList.length) (hb:0<xb.toList.length)
 (h0:∀ z∈xa.toList,kv (xb.toList[0])≤kv z) (hl:∀ z∈xb.toList,kv z≤kv (xa.toList[xa.toList.length - 1]'(by omega)))
 (h:∀ o st',SameSt st st'→Mer xa.toList xb.toList o.toList→Q o st'):wpS (model prog w) A E KV.sh (mlo xa xb) Q st:=by
 have hsa:xa.size=xa.toList.length:=(Array.length_toList ..).symm
 have hsb:xb.size=xb.toList.length:=(Array.length_toList ..).symm
 rw [mlo_eq]
 refine wpS_bind (wpS_lift (wpAny_rule ⟨rfl,?_⟩))
 dsimp only
 refine wpS_bind (s_elemL hb ?_)
 have m0:MI xa.toList xb.toList (#[xb.toList[0]]:Array Keyed).toList 0 1:=MI.start hB hb h0
 by_cases c1:1=xb.size
 · rw [if_pos (by simpa using c1)]
   exact wpS_pure (h _ _ (SameSt.refl _) (m0.doneB hA hB (by omega)))
 rw [if_neg (by simpa using c1)]
 by_cases c2:0+1=xa.size
 · rw [if_pos (by simpa using c2)]
   exact wpS_pure (h _ _ (SameSt.refl _) (m0.last hA hB (by omega) hl))
 rw [if_neg (by simpa using c2)]
 refine wpS_bind (wpS_get ?_)
 refine wpS_bind (wpS_mono (wpS_forRange (I:=fun x c st'=>SameSt st st'∧∃ ou i j mg,c=(none,ou,i,j,mg)∧MI xa.toList xb.toList ou.toList i j∧i+1<xa.size∧j<xb.toList.length∧x+1≤i+j) (Q:=fun c st'=>SameSt st st'∧∃ res rest,c=(some res,rest)∧Mer xa.toList xb.toList res.toList) ?step ?fin ⟨SameSt.refl _,_,_,_,_,rfl,m0,by omega,by omega,by omega⟩) ?post)
 case post=>
  rintro c st' ⟨sm,res,rest,rfl,me⟩
  exact wpS_pure (h _ _ sm me)
 case fin=>
  rintro c st' ⟨sm,ou,i,j,mg,rfl,m,hi,hj,hx⟩
  exfalso
  omega
 case step=>
  rintro x c st1 _ hx ⟨sm,ou,i,j,mg,rfl,m,hi,hj,hx2⟩
  dsimp only
  refine wpS_bind (wpS_mono (wpS_forRange (I:=fun y c st'=>SameSt st st'∧∃ ou i j ac bc,c=(none,ou,i,j,ac,bc)∧MI xa.toList xb.toList ou.toList i j∧i+1<xa.size∧j<xb.toList.length∧x+1+min y 1≤i+j)
   (Q:=fun c st'=>SameSt st st'∧((∃ res rest,c=(some res,rest)∧Mer xa.toList xb.toList res.toList)∨∃ ou i j ac bc,c=(none,ou,i,j,ac,bc)∧MI xa.toList xb.toList ou.toList i j∧i+1<xa.size∧j<xb.toList.length∧x+2≤i+j)) ?s1 ?f1 ⟨sm,_,_,_,_,_,rfl,m,hi,hj,by omega⟩) ?p1)
  case f1=>
   rintro c st2 ⟨sm2,ou,i,j,ac,bc,rfl,m,hi,hj,hx3⟩
   exact ⟨sm2,.inr ⟨_,_,_,_,_,rfl,m,hi,hj,by omega⟩⟩
  case s1=>
   rintro y c st2 _ hy ⟨sm2,ou,i,j,ac,bc,rfl,m,hi,hj,hx3⟩
   dsimp only
   refine wpS_bind (s_elemL hj (wpS_bind (s_elemL (i:=i) (by omega) ?_)))
   refine wpS_bind (s_lt (sm2.kind.trans hk) (hIb _ (List.getElem_mem _)) (hIa _ (List.getElem_mem _)) ?_)
   by_cases bw:kv xb.toList[j]<kv (xa.toList[i]'(by omega))
   · simp only [bw,decide_true,if_true]
     refine wpS_bind (s_elemL hj ?_)
     have m2:MI xa.toList xb.toList (ou.push xb.toList[j]).toList i (j+1):=by
      rw [Array.toList_push]
      exact m.pushB hB hj fun z hz=>Int.le_trans (Int.le_of_lt bw) (head_le hA (by omega) z hz)
     by_cases e1:j+1=xb.size
     · rw [if_pos (by simpa using e1)]
       exact wpS_pure ⟨sm2,.inl ⟨_,_,rfl,m2.doneB hA hB (by omega)⟩⟩
     · rw [if_neg (by simpa using e1)]
       split
       · exact wpS_pure ⟨sm2,.inr ⟨_,_,_,_,_,rfl,m2,hi,by omega,by omega⟩⟩
       · exact wpS_pure ⟨sm2,_,_,_,_,_,rfl,m2,hi,by omega,by omega⟩
   · simp only [bw,decide_false,Bool.false_eq_true,if_false]
     refine wpS_bind (s_elemL (i:=i) (by omega) ?_)
     have m2:MI xa.toList xb.toList (ou.push (xa.toList[i]'(by omega))).toList (i+1) j:=by
      rw [Array.toList_push]
      exact m.pushA hA (by omega) fun z hz=>Int.le_trans (Int.not_lt.mp bw) (head_le hB hj z hz)
     by_cases e1:i+1+1=xa.size
     · rw [if_pos (by simpa using e1)]
       exact wpS_pure ⟨sm2,.inl ⟨_,_,rfl,m2.last hA hB (by omega) hl⟩⟩
     · rw [if_neg (by simpa using e1)]
       split
       · exact wpS_pure ⟨sm2,.inr ⟨_,_,_,_,_,rfl,m2,by omega,hj,by omega⟩⟩
       · exact wpS_pure ⟨sm2,_,_,_,_,_,rfl,m2,by omega,hj,by omega⟩
  case p1=>
   rintro c st2 ⟨sm2,⟨res,rest,rfl,me⟩ | ⟨ou,i,j,ac,bc,rfl,m,hi,hj,hx3⟩⟩
   · exact wpS_pure ⟨sm2,_,_,rfl,me⟩
   dsimp only
   refine wpS_bind (wpS_lift (wpAny_rule ⟨rfl,?_⟩))
   refine wpS_bind (wpS_mono (wpS_forRange (I:=fun y c st'=>SameSt st st'∧∃ ou i j mg ac bc,c=(none,ou,i,j,mg,ac,bc)∧MI xa.toList xb.toList ou.toList i j∧i+1<xa.size∧j<xb.toList.length∧x+2≤i+j)
    (Q:=fun c st'=>SameSt st st'∧((∃ res rest,c=(some res,rest)∧Mer xa.toList xb.toList res.toList)∨∃ ou i j mg ac bc,c=(none,ou,i,j,mg,ac,bc)∧MI xa.toList xb.toList ou.toList i j∧i+1<xa.size∧j<xb.toList.length∧x+2≤i+j)) ?s2 ?f2 ⟨sm2,_,_,_,_,_,_,rfl,m,hi,hj,hx3⟩) ?p2)
   case f2=>
    rintro c st3 ⟨sm3,ou,i,j,mg,ac,bc,rfl,m,hi,hj,hx4⟩
    exact ⟨sm3,.inr ⟨_,_,_,_,_,_,rfl,m,hi,hj,hx4⟩⟩
   case p2=>
    rintro c st3 ⟨sm3,⟨res,rest,rfl,me⟩ | ⟨ou,i,j,mg,ac,bc,rfl,m,hi,hj,hx4⟩⟩
    · exact wpS_pure ⟨sm3,_,_,rfl,me⟩
    · dsimp only
      refine wpS_bind (s_setG ?_)
      exact wpS_pure ⟨sm3.setG _,_,_,_,_,rfl,m,hi,hj,by omega⟩
   case s2=>
    rintro y c st3 _ hy ⟨sm3',ou,i,j,mg,ac,bc,rfl,m,hi,hj,hx4⟩
    dsimp only
    have sm3:=fun g=>sm3'.setG g
    obtain ⟨c1,hc1,cut1⟩:=cut_of hA xb.toList[j] false i (xa.size - i) (by omega)
    obtain ⟨le1,gt1⟩:=gfalse (by omega) cut1
    have m1:MI xa.toList xb.toList (ou++xa.extract i (i+c1)).toList (i+c1) j:=by
     rw [toL_ext]
     exact m.extA hA c1 (by omega) fun t ht htc z hz=>Int.le_trans (le1 t ht htc) (head_le hB hj z hz)
    by_cases hmg:mg > 1
    · rw [if_pos hmg]
      refine wpS_bind (s_setG (wpS_bind (s_elemL hj ?_)))
      refine wpS_bind (s_gal (c:=c1) ((sm3 _).kind.trans hk) hIa (hIb _ (List.getElem_mem _)) (by omega) (by omega) hc1 cut1 ?_)
      dsimp only
      by_cases k0:c1 > 0
      · rw [if_pos k0]
        by_cases e1:i+c1+1=xa.size
        · rw [if_pos (by simpa using e1)]
          exact wpS_pure ⟨sm3 _,.inl ⟨_,_,rfl,m1.last hA hB (by omega) hl⟩⟩
        · rw [if_neg (by simpa using e1)]
          by_cases e2:i+c1=xa.size
          · rw [if_pos (by simpa using e2)]
            exact wpS_pure ⟨sm3 _,.inl ⟨_,_,rfl,m1.doneA hA hB (by omega)⟩⟩
          · rw [if_neg (by simpa using e2)]
            refine wpS_bind (s_elemL hj ?_)
            have M2:MI xa.toList xb.toList (Array.push (ou++xa.extract i (i+c1)) xb.toList[j]).toList (i+c1) (j+1):=by rw [Array.toList_push];exact MI.pushB m1 hB hj (fun z hz=>Int.le_of_lt (gt1 z hz))
            by_cases e3:j+1=xb.size
            · rw [if_pos (by simpa using e3)]
              exact wpS_pure ⟨sm3 _,.inl ⟨_,_,rfl,M2.doneB hA hB (by omega)⟩⟩
            · rw [if_neg (by simpa using e3)]
              refine wpS_bind (s_elemL (i:=(i+c1)) (by omega) ?_)
              obtain ⟨c2,hc2,cut2⟩:=cut_of hB (xa.toList[(i+c1)]'(by omega)) true (j+1) (xb.size - (j+1)) (by omega)
              obtain ⟨lt2,ge2⟩:=gtrue (by omega) cut2
              refine wpS_bind (s_gal (c:=c2) ((sm3 _).kind.trans hk) hIb (hIa _ (List.getElem_mem _)) (by omega) (by omega) hc2 cut2 ?_)
              dsimp only
              by_cases k1:c2 > 0
              · rw [if_pos k1]
                have M3:MI xa.toList xb.toList (Array.push (ou++xa.extract i (i+c1)) xb.toList[j]++xb.extract (j+1) (j+1+c2)).toList (i+c1) (j+1+c2):=by
                 rw [toL_ext]
                 exact M2.extB hB c2 (by omega) fun t ht htc z hz=>Int.le_trans (Int.le_of_lt (lt2 t ht htc)) (head_le hA (by omega) z hz)
                by_cases e4:j+1+c2=xb.size
                · rw [if_pos (by simpa using e4)]
                  exact wpS_pure ⟨sm3 _,.inl ⟨_,_,rfl,M3.doneB hA hB (by omega)⟩⟩
                · rw [if_neg (by simpa using e4)]
                  refine wpS_bind (s_elemL (i:=(i+c1)) (by omega) ?_)
                  have M4:MI xa.toList xb.toList (Array.push (Array.push (ou++xa.extract i (i+c1)) xb.toList[j]++xb.extract (j+1) (j+1+c2)) (xa.toList[(i+c1)]'(by omega))).toList ((i+c1)+1) (j+1+c2):=by rw [Array.toList_push];exact MI.pushA M3 hA (by omega) ge2
                  by_cases e5:(i+c1)+1+1=xa.size
                  · rw [if_pos (by simpa using e5)]
                    exact wpS_pure ⟨sm3 _,.inl ⟨_,_,rfl,M4.last hA hB (by omega) hl⟩⟩
                  · rw [if_neg (by simpa using e5)]
                    split
                    · exact wpS_pure ⟨sm3 _,.inr ⟨_,_,_,_,_,_,rfl,M4,by omega,by omega,by omega⟩⟩
                    · exact wpS_pure ⟨sm3 _,_,_,_,_,_,_,rfl,M4,by omega,by omega,by omega⟩
              · rw [if_neg k1]
                have c20:c2=0:=by omega
                refine wpS_bind (s_elemL (i:=(i+c1)) (by omega) ?_)
                have M4:MI xa.toList xb.toList (Array.push (Array.push (ou++xa.extract i (i+c1)) xb.toList[j]) (xa.toList[(i+c1)]'(by omega))).toList ((i+c1)+1) (j+1):=by rw [Array.toList_push];exact MI.pushA M2 hA (by omega) (fun z hz=>ge2 z (by rw [c20,Nat.add_zero];exact hz))
                by_cases e5:(i+c1)+1+1=xa.size
                · rw [if_pos (by simpa using e5)]
                  exact wpS_pure ⟨sm3 _,.inl ⟨_,_,rfl,M4.last hA hB (by omega) hl⟩⟩
                · rw [if_neg (by simpa using e5)]
                  split
                  · exact wpS_pure ⟨sm3 _,.inr ⟨_,_,_,_,_,_,rfl,M4,by omega,by omega,by omega⟩⟩
                  · exact wpS_pure ⟨sm3 _,_,_,_,_,_,_,rfl,M4,by omega,by omega,by omega⟩
      · rw [if_neg k0]
        have c10:c1=0:=by omega
        refine wpS_bind (s_elemL hj ?_)
        have M2:MI xa.toList xb.toList (Array.push ou xb.toList[j]).toList i (j+1):=by rw [Array.toList_push];exact MI.pushB m hB hj (fun z hz=>Int.le_of_lt (gt1 z (by rw [c10,Nat.add_zero];exact hz)))
        by_cases e3:j+1=xb.size
        · rw [if_pos (by simpa using e3)]
          exact wpS_pure ⟨sm3 _,.inl ⟨_,_,rfl,M2.doneB hA hB (by omega)⟩⟩
        · rw [if_neg (by simpa using e3)]
          refine wpS_bind (s_elemL (i:=i) (by omega) ?_)
          obtain ⟨c2,hc2,cut2⟩:=cut_of hB (xa.toList[i]'(by omega)) true (j+1) (xb.size - (j+1)) (by omega)
          obtain ⟨lt2,ge2⟩:=gtrue (by omega) cut2
          refine wpS_bind (s_gal (c:=c2) ((sm3 _).kind.trans hk) hIb (hIa _ (List.getElem_mem _)) (by omega) (by omega) hc2 cut2 ?_)
          dsimp only
          by_cases k1:c2 > 0
          · rw [if_pos k1]
            have M3:MI xa.toList xb.toList (Array.push ou xb.toList[j]++xb.extract (j+1) (j+1+c2)).toList i (j+1+c2):=by
             rw [toL_ext]
             exact M2.extB hB c2 (by omega) fun t ht htc z hz=>Int.le_trans (Int.le_of_lt (lt2 t ht htc)) (head_le hA (by omega) z hz)
            by_cases e4:j+1+c2=xb.size
            · rw [if_pos (by simpa using e4)]
              exact wpS_pure ⟨sm3 _,.inl ⟨_,_,rfl,M3.doneB hA hB (by omega)⟩⟩
            · rw [if_neg (by simpa using e4)]
              refine wpS_bind (s_elemL (i:=i) (by omega) ?_)
              have M4:MI xa.toList xb.toList (Array.push (Array.push ou xb.toList[j]++xb.extract (j+1) (j+1+c2)) (xa.toList[i]'(by omega))).toList (i+1) (j+1+c2):=by rw [Array.toList_push];exact MI.pushA M3 hA (by omega) ge2
              by_cases e5:i+1+1=xa.size
              · rw [if_pos (by simpa using e5)]
                exact wpS_pure ⟨sm3 _,.inl ⟨_,_,rfl,M4.last hA hB (by omega) hl⟩⟩
              · rw [if_neg (by simpa using e5)]
                split
                · exact wpS_pure ⟨sm3 _,.inr ⟨_,_,_,_,_,_,rfl,M4,by omega,by omega,by omega⟩⟩
                · exact wpS_pure ⟨sm3 _,_,_,_,_,_,_,rfl,M4,by omega,by omega,by omega⟩
          · rw [if_neg k1]
            have c20:c2=0:=by omega
            refine wpS_bind (s_elemL (i:=i) (by omega) ?_)
            have M4:MI xa.toList xb.toList (Array.push (Array.push ou xb.toList[j]) (xa.toList[i]'(by omega))).toList (i+1) (j+1):=by rw [Array.toList_push];exact MI.pushA M2 hA (by omega) (fun z hz=>ge2 z (by rw [c20,Nat.add_zero];exact hz))
            by_cases e5:i+1+1=xa.size
            · rw [if_pos (by simpa using e5)]
              exact wpS_pure ⟨sm3 _,.inl ⟨_,_,rfl,M4.last hA hB (by omega) hl⟩⟩
            · rw [if_neg (by simpa using e5)]
              split
              · exact wpS_pure ⟨sm3 _,.inr ⟨_,_,_,_,_,_,rfl,M4,by omega,by omega,by omega⟩⟩
              · exact wpS_pure ⟨sm3 _,_,_,_,_,_,_,rfl,M4,by omega,by omega,by omega⟩
    · rw [if_neg hmg]
      refine wpS_bind (s_setG (wpS_bind (s_elemL hj ?_)))
      refine wpS_bind (s_gal (c:=c1) ((sm3 _).kind.trans hk) hIa (hIb _ (List.getElem_mem _)) (by omega) (by omega) hc1 cut1 ?_)
      dsimp only
      by_cases k0:c1 > 0
      · rw [if_pos k0]
        by_cases e1:i+c1+1=xa.size
        · rw [if_pos (by simpa using e1)]
          exact wpS_pure ⟨sm3 _,.inl ⟨_,_,rfl,m1.last hA hB (by omega) hl⟩⟩
        · rw [if_neg (by simpa using e1)]
          by_cases e2:i+c1=xa.size
          · rw [if_pos (by simpa using e2)]
            exact wpS_pure ⟨sm3 _,.inl ⟨_,_,rfl,m1.doneA hA hB (by omega)⟩⟩
          · rw [if_neg (by simpa using e2)]
            refine wpS_bind (s_elemL hj ?_)
            have M2:MI xa.toList xb.toList (Array.push (ou++xa.extract i (i+c1)) xb.toList[j]).toList (i+c1) (j+1):=by rw [Array.toList_push];exact MI.pushB m1 hB hj (fun z hz=>Int.le_of_lt (gt1 z hz))
            by_cases e3:j+1=xb.size
            · rw [if_pos (by simpa using e3)]
              exact wpS_pure ⟨sm3 _,.inl ⟨_,_,rfl,M2.doneB hA hB (by omega)⟩⟩
            · rw [if_neg (by simpa using e3)]
              refine wpS_bind (s_elemL (i:=(i+c1)) (by omega) ?_)
              obtain ⟨c2,hc2,cut2⟩:=cut_of hB (xa.toList[(i+c1)]'(by omega)) true (j+1) (xb.size - (j+1)) (by omega)
              obtain ⟨lt2,ge2⟩:=gtrue (by omega) cut2
              refine wpS_bind (s_gal (c:=c2) ((sm3 _).kind.trans hk) hIb (hIa _ (List.getElem_mem _)) (by omega) (by omega) hc2 cut2 ?_)
              dsimp only
              by_cases k1:c2 > 0
              · rw [if_pos k1]
                have M3:MI xa.toList xb.toList (Array.push (ou++xa.extract i (i+c1)) xb.toList[j]++xb.extract (j+1) (j+1+c2)).toList (i+c1) (j+1+c2):=by
                 rw [toL_ext]
                 exact M2.extB hB c2 (by omega) fun t ht htc z hz=>Int.le_trans (Int.le_of_lt (lt2 t ht htc)) (head_le hA (by omega) z hz)
                by_cases e4:j+1+c2=xb.size
                · rw [if_pos (by simpa using e4)]
                  exact wpS_pure ⟨sm3 _,.inl ⟨_,_,rfl,M3.doneB hA hB (by omega)⟩⟩
                · rw [if_neg (by simpa using e4)]
                  refine wpS_bind (s_elemL (i:=(i+c1)) (by omega) ?_)
                  have M4:MI xa.toList xb.toList (Array.push (Array.push (ou++xa.extract i (i+c1)) xb.toList[j]++xb.extract (j+1) (j+1+c2)) (xa.toList[(i+c1)]'(by omega))).toList ((i+c1)+1) (j+1+c2):=by rw [Array.toList_push];exact MI.pushA M3 hA (by omega) ge2
                  by_cases e5:(i+c1)+1+1=xa.size
                  · rw [if_pos (by simpa using e5)]
                    exact wpS_pure ⟨sm3 _,.inl ⟨_,_,rfl,M4.last hA hB (by omega) hl⟩⟩
                  · rw [if_neg (by simpa using e5)]
                    split
                    · exact wpS_pure ⟨sm3 _,.inr ⟨_,_,_,_,_,_,rfl,M4,by omega,by omega,by omega⟩⟩
                    · exact wpS_pure ⟨sm3 _,_,_,_,_,_,_,rfl,M4,by omega,by omega,by omega⟩
              · rw [if_neg k1]
                have c20:c2=0:=by omega
                refine wpS_bind (s_elemL (i:=(i+c1)) (by omega) ?_)
                have M4:MI xa.toList xb.toList (Array.push (Array.push (ou++xa.extract i (i+c1)) xb.toList[j]) (xa.toList[(i+c1)]'(by omega))).toList ((i+c1)+1) (j+1):=by rw [Array.toList_push];exact MI.pushA M2 hA (by omega) (fun z hz=>ge2 z (by rw [c20,Nat.add_zero];exact hz))
                by_cases e5:(i+c1)+1+1=xa.size
                · rw [if_pos (by simpa using e5)]
                  exact wpS_pure ⟨sm3 _,.inl ⟨_,_,rfl,M4.last hA hB (by omega) hl⟩⟩
                · rw [if_neg (by simpa using e5)]
                  split
                  · exact wpS_pure ⟨sm3 _,.inr ⟨_,_,_,_,_,_,rfl,M4,by omega,by omega,by omega⟩⟩
                  · exact wpS_pure ⟨sm3 _,_,_,_,_,_,_,rfl,M4,by omega,by omega,by omega⟩
      · rw [if_neg k0]
        have c10:c1=0:=by omega
        refine wpS_bind (s_elemL hj ?_)
        have M2:MI xa.toList xb.toList (Array.push ou xb.toList[j]).toList i (j+1):=by rw [Array.toList_push];exact MI.pushB m hB hj (fun z hz=>Int.le_of_lt (gt1 z (by rw [c10,Nat.add_zero];exact hz)))
        by_cases e3:j+1=xb.size
        · rw [if_pos (by simpa using e3)]
          exact wpS_pure ⟨sm3 _,.inl ⟨_,_,rfl,M2.doneB hA hB (by omega)⟩⟩
        · rw [if_neg (by simpa using e3)]
          refine wpS_bind (s_elemL (i:=i) (by omega) ?_)
          obtain ⟨c2,hc2,cut2⟩:=cut_of hB (xa.toList[i]'(by omega)) true (j+1) (xb.size - (j+1)) (by omega)
          obtain ⟨lt2,ge2⟩:=gtrue (by omega) cut2
          refine wpS_bind (s_gal (c:=c2) ((sm3 _).kind.trans hk) hIb (hIa _ (List.getElem_mem _)) (by omega) (by omega) hc2 cut2 ?_)
          dsimp only
          by_cases k1:c2 > 0
          · rw [if_pos k1]
            have M3:MI xa.toList xb.toList (Array.push ou xb.toList[j]++xb.extract (j+1) (j+1+c2)).toList i (j+1+c2):=by
             rw [toL_ext]
             exact M2.extB hB c2 (by omega) fun t ht htc z hz=>Int.le_trans (Int.le_of_lt (lt2 t ht htc)) (head_le hA (by omega) z hz)
            by_cases e4:j+1+c2=xb.size
            · rw [if_pos (by simpa using e4)]
              exact wpS_pure ⟨sm3 _,.inl ⟨_,_,rfl,M3.doneB hA hB (by omega)⟩⟩
            · rw [if_neg (by simpa using e4)]
              refine wpS_bind (s_elemL (i:=i) (by omega) ?_)
              have M4:MI xa.toList xb.toList (Array.push (Array.push ou xb.toList[j]++xb.extract (j+1) (j+1+c2)) (xa.toList[i]'(by omega))).toList (i+1) (j+1+c2):=by rw [Array.toList_push];exact MI.pushA M3 hA (by omega) ge2
              by_cases e5:i+1+1=xa.size
              · rw [if_pos (by simpa using e5)]
                exact wpS_pure ⟨sm3 _,.inl ⟨_,_,rfl,M4.last hA hB (by omega) hl⟩⟩
              · rw [if_neg (by simpa using e5)]
                split
                · exact wpS_pure ⟨sm3 _,.inr ⟨_,_,_,_,_,_,rfl,M4,by omega,by omega,by omega⟩⟩
                · exact wpS_pure ⟨sm3 _,_,_,_,_,_,_,rfl,M4,by omega,by omega,by omega⟩
          · rw [if_neg k1]
            have c20:c2=0:=by omega
            refine wpS_bind (s_elemL (i:=i) (by omega) ?_)
            have M4:MI xa.toList xb.toList (Array.push (Array.push ou xb.toList[j]) (xa.toList[i]'(by omega))).toList (i+1) (j+1):=by rw [Array.toList_push];exact MI.pushA M2 hA (by omega) (fun z hz=>ge2 z (by rw [c20,Nat.add_zero];exact hz))
            by_cases e5:i+1+1=xa.size
            · rw [if_pos (by simpa using e5)]
              exact wpS_pure ⟨sm3 _,.inl ⟨_,_,rfl,M4.last hA hB (by omega) hl⟩⟩
            · rw [if_neg (by simpa using e5)]
              split
              · exact wpS_pure ⟨sm3 _,.inr ⟨_,_,_,_,_,_,rfl,M4,by omega,by omega,by omega⟩⟩
              · exact wpS_pure ⟨sm3 _,_,_,_,_,_,_,rfl,M4,by omega,by omega,by omega⟩
end
open PyProof.Rows hiding K SortedTo K_bubble K_mirror K_congr K_mirror_equal
variable [KV]
structure MH (A B:List Keyed) (o:List Keyed) (na nb:Nat):Prop where
 perm:o.Perm (A.drop na++B.drop nb)
 srt:o.Pairwise Le
 lea:∀ x∈o,∀ y∈A.take na,kv y≤kv x
 leb:∀ x∈o,∀ y∈B.take nb,kv y≤kv x
theorem pw_take {l:List Keyed} (h:l.Pairwise Le) {i:Nat} (hi:i<l.length):∀ y∈l.take i,kv y≤kv l[i]:=fun y hy=>by
 obtain ⟨u,hu,rfl⟩:=List.mem_iff_getElem.mp hy
 rw [List.length_take] at hu
 rw [List.getElem_take]
 exact List.pairwise_iff_getElem.mp h _ _ _ _ (by omega)
theorem mem_take_succ {l:List Keyed} {i:Nat} {y:Keyed} (h:y∈l.take i):y∈l.take (i+1):=(List.take_sublist_take_left (Nat.le_succ i)).mem h
theorem mem_take_at {l:List Keyed} {i:Nat} (hi:i<l.length):l[i]∈l.take (i+1):=by
 rw [List.take_succ,List.getElem?_eq_getElem hi]
 exact List.mem_append_right _ (List.mem_singleton.mpr rfl)
theorem MH.pushA {A B o:List Keyed} {na nb:Nat} (m:MH A B o (na+1) nb) (hA:A.Pairwise Le) (hi:na<A.length) (h:∀ z∈B.take nb,kv z≤kv A[na]):MH A B (A[na]::o) na nb:=by
 refine ⟨?_,?_,fun x hx y hy=>?_,fun x hx y hy=>?_⟩
 · rw [List.drop_eq_getElem_cons hi,List.cons_append]
   exact List.Perm.cons _ m.perm
 · exact List.pairwise_cons.mpr ⟨fun x hx=>m.lea x hx _ (mem_take_at hi),m.srt⟩
 · rcases List.mem_cons.mp hx with rfl | hx
   · exact pw_take hA hi y hy
   · exact m.lea x hx y (mem_take_succ hy)
 · rcases List.mem_cons.mp hx with rfl | hx
   · exact h y hy
   · exact m.leb x hx y hy
theorem MH.pushB {A B o:List Keyed} {na nb:Nat} (m:MH A B o na (nb+1)) (hB:B.Pairwise Le) (hi:nb<B.length) (h:∀ z∈A.take na,kv z≤kv B[nb]):MH A B (B[nb]::o) na nb:=by
 refine ⟨?_,?_,fun x hx y hy=>?_,fun x hx y hy=>?_⟩
 · rw [List.drop_eq_getElem_cons hi]
   exact (List.Perm.cons _ m.perm).trans List.perm_middle.symm
 · exact List.pairwise_cons.mpr ⟨fun x hx=>m.leb x hx _ (mem_take_at hi),m.srt⟩
 · rcases List.mem_cons.mp hx with rfl | hx
   · exact h y hy
   · exact m.lea x hx y hy
 · rcases List.mem_cons.mp hx with rfl | hx
   · exact pw_take hB hi y hy
   · exact m.leb x hx y (mem_take_succ hy)
theorem MH.extA {A B o:List Keyed} {nb:Nat} (hA:A.Pairwise Le):∀ (k c:Nat),MH A B o (c+k) nb→c+k≤A.length→(∀ i (hi:i<A.length),c≤i→i<c+k→∀ z∈B.take nb,kv z≤kv A[i])→MH A B ((A.drop c).take k++o) c nb
 | 0,c,m,_,_=>by rw [List.take_zero];exact m
 | k+1,c,m,hk,h=>by
   have m':MH A B o (c+1+k) nb:=by rw [show c+1+k=c+(k+1) by omega];exact m
   have ih:=MH.extA hA k (c+1) m' (by omega) fun i hi h1 h2=>h i hi (by omega) (by omega)
   have hi:c<A.length:=by omega
   rw [List.drop_eq_getElem_cons hi,List.take_succ_cons,List.cons_append]
   exact ih.pushA hA hi (h c hi (Nat.le_refl _) (by omega))
theorem MH.extB {A B o:List Keyed} {na:Nat} (hB:B.Pairwise Le):∀ (k c:Nat),MH A B o na (c+k)→c+k≤B.length→(∀ i (hi:i<B.length),c≤i→i<c+k→∀ z∈A.take na,kv z≤kv B[i])→MH A B ((B.drop c).take k++o) na c
 | 0,c,m,_,_=>by rw [List.take_zero];exact m
 | k+1,c,m,hk,h=>by
   have m':MH A B o na (c+1+k):=by rw [show c+1+k=c+(k+1) by omega];exact m
   have ih:=MH.extB hB k (c+1) m' (by omega) fun i hi h1 h2=>h i hi (by omega) (by omega)
   have hi:c<B.length:=by omega
   rw [List.drop_eq_getElem_cons hi,List.take_succ_cons,List.cons_append]
   exact ih.pushB hB hi (h c hi (Nat.le_refl _) (by omega))
theorem MH.finAB {A B o:List Keyed} {na nb:Nat} (m:MH A B o na nb) (hA:A.Pairwise Le) (hB:B.Pairwise Le) (h:∀ x∈A.take na,∀ y∈B.take nb,kv x≤kv y):Mer A B (A.take na++B.take nb++o):=by
 refine ⟨?_,?_⟩
 · have e:=(List.Perm.append_left (A.take na++B.take nb) m.perm).trans (perm_mid (A.take na) (B.take nb) (A.drop na) (B.drop nb))
   rw [List.take_append_drop,List.take_append_drop] at e
   exact e
 · refine List.pairwise_append.mpr ⟨List.pairwise_append.mpr ⟨hA.sublist (List.take_sublist _ _),hB.sublist (List.take_sublist _ _),fun x hx y hy=>h x hx y hy⟩,m.srt,fun x hx y hy=>?_⟩
   rcases List.mem_append.mp hx with hx | hx
   · exact m.lea y hy x hx
   · exact m.leb y hy x hx
theorem MH.finBA {A B o:List Keyed} {na nb:Nat} (m:MH A B o na nb) (hA:A.Pairwise Le) (hB:B.Pairwise Le) (h:∀ x∈A.take na,∀ y∈B.take nb,kv y≤kv x):Mer A B (B.take nb++A.take na++o):=by
 refine ⟨?_,?_⟩
 · have e:=(List.Perm.append_left (A.take na++B.take nb) m.perm).trans (perm_mid (A.take na) (B.take nb) (A.drop na) (B.drop nb))
   rw [List.take_append_drop,List.take_append_drop] at e
   exact (List.Perm.append_right o List.perm_append_comm).trans e
 · refine List.pairwise_append.mpr ⟨List.pairwise_append.mpr ⟨hB.sublist (List.take_sublist _ _),hA.sublist (List.take_sublist _ _),fun x hx y hy=>h y hy x hx⟩,m.srt,fun x hx y hy=>?_⟩
   rcases List.mem_append.mp hx with hx | hx
   · exact m.leb y hy x hx
   · exact m.lea y hy x hx
theorem toL_front (o x y:Array Keyed) (i j:Nat):(x.extract 0 i++y.extract 0 j++o.reverse).toList=x.toList.take i++y.toList.take j++o.toList.reverse:=by
 have e:∀ (z:Array Keyed) (k:Nat),(z.extract 0 k).toList=z.toList.take k:=fun z k=>by
  rw [Array.toList_extract,List.extract_eq_drop_take,List.drop_zero,Nat.sub_zero]
 rw [Array.toList_append,Array.toList_append,e,e,Array.toList_reverse]
theorem toL_pushR (o:Array Keyed) (z:Keyed):(o.push z).toList.reverse=z::o.toList.reverse:=by
 rw [Array.toList_push,List.reverse_append];rfl
theorem toL_extR (o x:Array Keyed) (c n:Nat):(o++(x.extract c n).reverse).toList.reverse=(x.toList.drop c).take (n - c)++o.toList.reverse:=by
 rw [Array.toList_append,List.reverse_append,Array.toList_reverse,List.reverse_reverse,Array.toList_extract,List.extract_eq_drop_take]
def MHa (xa xb ou:Array Keyed) (na nb:Nat):Prop:=MH xa.toList xb.toList ou.toList.reverse na nb
section
variable {xa xb ou:Array Keyed} {na nb:Nat}
theorem MHa.done0 (m:MHa xa xb ou na nb) (hA:xa.toList.Pairwise Le) (hB:xb.toList.Pairwise Le) (h:na=0∨nb=0):Mer xa.toList xb.toList (xa.extract 0 na++xb.extract 0 nb++ou.reverse).toList:=by
 rw [toL_front]
 refine MH.finAB m hA hB fun x hx y hy=>?_
 rcases h with h | h
 · rw [h] at hx;simp at hx
 · rw [h] at hy;simp at hy
theorem MHa.first (m:MHa xa xb ou na nb) (hA:xa.toList.Pairwise Le) (hB:xb.toList.Pairwise Le) (hb:0<xb.toList.length) (h:nb=1) (h0:∀ z∈xa.toList,kv xb.toList[0]≤kv z):Mer xa.toList xb.toList (xb.extract 0 nb++xa.extract 0 na++ou.reverse).toList:=by
 rw [toL_front]
 refine MH.finBA m hA hB fun x hx y hy=>?_
 rw [h,List.take_succ,List.getElem?_eq_getElem hb] at hy
 have:y=xb.toList[0]:=by simpa using hy
 rw [this]
 exact h0 x (List.mem_of_mem_take hx)
theorem MHa.pushA (m:MHa xa xb ou (na+1) nb) (hA:xa.toList.Pairwise Le) (hi:na<xa.toList.length) (h:∀ z∈xb.toList.take nb,kv z≤kv xa.toList[na]):MHa xa xb (ou.push xa.toList[na]) na nb:=by
 unfold MHa;rw [toL_pushR];exact MH.pushA m hA hi h
theorem MHa.pushB (m:MHa xa xb ou na (nb+1)) (hB:xb.toList.Pairwise Le) (hi:nb<xb.toList.length) (h:∀ z∈xa.toList.take na,kv z≤kv xb.toList[nb]):MHa xa xb (ou.push xb.toList[nb]) na nb:=by
 unfold MHa;rw [toL_pushR];exact MH.pushB m hB hi h
theorem MHa.extA {c:Nat} (m:MHa xa xb ou na nb) (hA:xa.toList.Pairwise Le) (hc:c≤na) (hn:na≤xa.toList.length) (h:∀ i (hi:i<xa.toList.length),c≤i→i<na→∀ z∈xb.toList.take nb,kv z≤kv xa.toList[i]):MHa xa xb (ou++(xa.extract c na).reverse) c nb:=by
 unfold MHa;rw [toL_extR]
 exact MH.extA hA (na - c) c (by rw [show c+(na - c)=na by omega];exact m) (by omega) fun i hi h1 h2=>h i hi h1 (by omega)
theorem MHa.extB {c:Nat} (m:MHa xa xb ou na nb) (hB:xb.toList.Pairwise Le) (hc:c≤nb) (hn:nb≤xb.toList.length) (h:∀ i (hi:i<xb.toList.length),c≤i→i<nb→∀ z∈xa.toList.take na,kv z≤kv xb.toList[i]):MHa xa xb (ou++(xb.extract c nb).reverse) na c:=by
 unfold MHa;rw [toL_extR]
 exact MH.extB hB (nb - c) c (by rw [show c+(nb - c)=nb by omega];exact m) (by omega) fun i hi h1 h2=>h i hi h1 (by omega)
end
theorem ffalse {xs:Array Keyed} {ky:Keyed} {n c:Nat} (hn:n≤xs.toList.length) (hc:c≤n) (cut:∀ i,i<n→Byd false ky xs 0 i=decide (i<c)) :
 (∀ z∈xs.toList.take c,kv z≤kv ky)∧(∀ i (h:i<xs.toList.length),c≤i→i<n→kv ky<kv xs.toList[i]):=by
 have key:∀ i (h:i<xs.toList.length),i<n→(!decide (kv ky<kv xs.toList[i]))=decide (i<c):=fun i h hi=>by
  have:=cut i hi
  unfold Byd at this
  rw [Nat.zero_add,K_at h] at this
  simpa using this
 constructor
 · intro z hz
   obtain ⟨u,hu,rfl⟩:=List.mem_iff_getElem.mp hz
   rw [List.length_take] at hu
   have:=key u (by omega) (by omega)
   rw [List.getElem_take]
   rw [decide_eq_true (show u<c by omega)] at this
   simpa using this
 · intro i h h1 h2
   have:=key i h h2
   rw [decide_eq_false (show ¬ i<c by omega)] at this
   simpa using this
theorem ftrue {xs:Array Keyed} {ky:Keyed} {n c:Nat} (hn:n≤xs.toList.length) (hc:c≤n) (cut:∀ i,i<n→Byd true ky xs 0 i=decide (i<c)) :
 (∀ z∈xs.toList.take c,kv z<kv ky)∧(∀ i (h:i<xs.toList.length),c≤i→i<n→kv ky≤kv xs.toList[i]):=by
 have key:∀ i (h:i<xs.toList.length),i<n→decide (kv xs.toList[i]<kv ky)=decide (i<c):=fun i h hi=>by
  have:=cut i hi
  unfold Byd at this
  rw [Nat.zero_add,K_at h] at this
  simpa using this
 constructor
 · intro z hz
   obtain ⟨u,hu,rfl⟩:=List.mem_iff_getElem.mp hz
   rw [List.length_take] at hu
   have:=key u (by omega) (by omega)
   rw [List.getElem_take]
   rw [decide_eq_true (show u<c by omega)] at this
   simpa using this
 · intro i h h1 h2
   have:=key i h h2
   rw [decide_eq_false (show ¬ i<c by omega)] at this
   simpa using this
theorem take_le {l:List Keyed} (h:l.Pairwise Le) {n:Nat} (hn:n<l.length):∀ z∈l.take (n+1),kv z≤kv l[n]:=fun z hz=>by
 rw [List.take_succ,List.getElem?_eq_getElem hn] at hz
 rcases List.mem_append.mp hz with hz | hz
 · exact pw_take h hn z hz
 · have:z=l[n]:=by simpa using hz
   rw [this];exact Int.le_refl _
def mhi:Array Keyed→Array Keyed→StateT SortSt Sem (Array Keyed):=sortPriv% PySem.Builtin.mergeHi
theorem mhi_eq (xa xb:Array Keyed):mhi xa xb=(do
 rule "list.sort.merge-hi"
 let tot:=xa.size+xb.size
 let dn (ou:Array Keyed) (i j:Nat):=xa.extract 0 i++xb.extract 0 j++ou.reverse
 let fb (ou:Array Keyed) (i j:Nat):=xb.extract 0 j++xa.extract 0 i++ou.reverse
 let mut i:=xa.size - 1
 let mut j:=xb.size
 let mut ou:Array Keyed:=#[← elem' xa i]
 if i == 0 then return dn ou i j
 if j == 1 then return fb ou i j
 let mut mg:=gallopOf (← get)
 for _ in [0:tot] do
  let mut ac:=0
  let mut bc:=0
  for _ in [0:tot] do
   let some aw ← lt' (← elem' xb (j - 1)) (← elem' xa (i - 1)) | return dn ou i j
   if aw then
    i:=i - 1;ou:=ou.push (← elem' xa i);ac:=ac+1;bc:=0
    if i == 0 then return dn ou i j
    if ac≥mg then break
   else
    j:=j - 1;ou:=ou.push (← elem' xb j);bc:=bc+1;ac:=0
    if j == 1 then return fb ou i j
    if bc≥mg then break
  rule "list.sort.gallop"
  mg:=mg+1
  for _ in [0:tot] do
   if mg > 1 then mg:=mg - 1
   setG mg
   let some t ← gal false (← elem' xb (j - 1)) xa 0 i (i - 1) | return dn ou i j
   let k:=i - t
   ac:=k
   if k > 0 then
    ou:=ou++(xa.extract t i).reverse;i:=t
    if i == 0 then return dn ou i j
   j:=j - 1;ou:=ou.push (← elem' xb j)
   if j == 1 then return fb ou i j
   let some t ← gal true (← elem' xa (i - 1)) xb 0 j (j - 1) | return dn ou i j
   let k:=j - t
   bc:=k
   if k > 0 then
    ou:=ou++(xb.extract t j).reverse;j:=t
    if j == 1 then return fb ou i j
    if j == 0 then return dn ou i j
   i:=i - 1;ou:=ou.push (← elem' xa i)
   if i == 0 then return dn ou i j
   if ac<7&&bc<7 then break
  mg:=mg+1
  setG mg
 unsupported "internal:list.sort.merge-bound"):=rfl
open PyProof.Rows hiding K SortedTo K_bubble K_mirror K_congr K_mirror_equal
variable [KV]
section
variable {prog:Program} {w:World} {A:Around} {E:Value→Shared→Prop}
theorem s_mhi {st:SortSt} {xa xb:Array Keyed} {Q:Array Keyed→SortSt→Prop} (hk:kindOf st=KV.kind) (hIa:AllI xa) (hIb:AllI xb) (hA:xa.toList.Pairwise Le) (hB:xb.toList.Pairwise Le) (ha:0<xa.toList.length) (hb:0<xb.toList.length)
 (h0:∀ z∈xa.toList,kv (xb.toList[0])≤kv z) (hl:∀ z∈xb.toList,kv z≤kv (xa.toList[xa.toList.length - 1]'(by omega)))
 (h:∀ o st',SameSt st st'→Mer xa.toList xb.toList o.toList→Q o st'):wpS (model prog w) A E KV.sh (mhi xa xb) Q st:=by
 have hsa:xa.size=xa.toList.length:=(Array.length_toList ..).symm
 have hsb:xb.size=xb.toList.length:=(Array.length_toList ..).symm
 rw [mhi_eq]
 refine wpS_bind (wpS_lift (wpAny_rule ⟨rfl,?_⟩))
 dsimp only
 refine wpS_bind (s_elemL (i:=xa.size - 1) (by omega) ?_)
 have m0:MHa xa xb #[xa.toList[xa.size - 1]'(by omega)] (xa.size - 1) xb.size:=by
  have mm:MHa xa xb #[] (xa.size - 1+1) xb.size:=by
   refine ⟨?_,List.Pairwise.nil,fun x hx=>(nomatch hx),fun x hx=>(nomatch hx)⟩
   rw [drop_len (show xa.size - 1+1=xa.toList.length by omega),drop_len hsb]
   exact List.Perm.refl _
  refine mm.pushA hA (by omega) fun z hz=>?_
  have:=hl z (List.mem_of_mem_take hz)
  have e:xa.toList[xa.toList.length - 1]'(by omega)=xa.toList[xa.size - 1]'(by omega):=by congr 1
  rw [← e];exact this
 by_cases c1:xa.size - 1=0
 · rw [if_pos (by simpa using c1)]
   exact wpS_pure (h _ _ (SameSt.refl _) (m0.done0 hA hB (.inl c1)))
 rw [if_neg (by simpa using c1)]
 by_cases c2:xb.size=1
 · rw [if_pos (by simpa using c2)]
   exact wpS_pure (h _ _ (SameSt.refl _) (m0.first hA hB hb c2 h0))
 rw [if_neg (by simpa using c2)]
 refine wpS_bind (wpS_get ?_)
 refine wpS_bind (wpS_mono (wpS_forRange (I:=fun x c st'=>SameSt st st'∧∃ i j ou mg,c=(none,i,j,ou,mg)∧MHa xa xb ou i j∧0<i∧i<xa.size∧1<j∧j≤xb.size∧i+j+x+1≤xa.size+xb.size) (Q:=fun c st'=>SameSt st st'∧∃ res rest,c=(some res,rest)∧Mer xa.toList xb.toList res.toList) ?step ?fin ⟨SameSt.refl _,_,_,_,_,rfl,m0,by omega,by omega,by omega,by omega,by omega⟩) ?post)
 case post=>
  rintro c st' ⟨sm,res,rest,rfl,me⟩
  exact wpS_pure (h _ _ sm me)
 case fin=>
  rintro c st' ⟨sm,i,j,ou,mg,rfl,m,hi,hi2,hj,hj2,hx⟩
  exfalso
  omega
 case step=>
  rintro x c st1 _ hx ⟨sm,i,j,ou,mg,rfl,m,hi,hi2,hj,hj2,hx2⟩
  dsimp only
  refine wpS_bind (wpS_mono (wpS_forRange (I:=fun y c st'=>SameSt st st'∧∃ i j ou ac bc,c=(none,i,j,ou,ac,bc)∧MHa xa xb ou i j∧0<i∧i<xa.size∧1<j∧j≤xb.size∧i+j+x+1+min y 1≤xa.size+xb.size)
   (Q:=fun c st'=>SameSt st st'∧((∃ res rest,c=(some res,rest)∧Mer xa.toList xb.toList res.toList)∨∃ i j ou ac bc,c=(none,i,j,ou,ac,bc)∧MHa xa xb ou i j∧0<i∧i<xa.size∧1<j∧j≤xb.size∧i+j+x+2≤xa.size+xb.size)) ?s1 ?f1 ⟨sm,_,_,_,_,_,rfl,m,hi,hi2,hj,hj2,by omega⟩) ?p1)
  case f1=>
   rintro c st2 ⟨sm2,i,j,ou,ac,bc,rfl,m,hi,hi2,hj,hj2,hx3⟩
   exact ⟨sm2,.inr ⟨_,_,_,_,_,rfl,m,hi,hi2,hj,hj2,by omega⟩⟩
  case s1=>
   rintro y c st2 _ hy ⟨sm2,i,j,ou,ac,bc,rfl,m,hi,hi2,hj,hj2,hx3⟩
   dsimp only
   refine wpS_bind (s_elemL (i:=j - 1) (by omega) (wpS_bind (s_elemL (i:=i - 1) (by omega) ?_)))
   refine wpS_bind (s_lt (sm2.kind.trans hk) (hIb _ (List.getElem_mem _)) (hIa _ (List.getElem_mem _)) ?_)
   by_cases aw:kv (xb.toList[j - 1]'(by omega))<kv (xa.toList[i - 1]'(by omega))
   · simp only [aw,decide_true,if_true]
     refine wpS_bind (s_elemL (i:=i - 1) (by omega) ?_)
     have m2:MHa xa xb (ou.push (xa.toList[i - 1]'(by omega))) (i - 1) j:=MHa.pushA (by rw [show i - 1+1=i by omega];exact m) hA (by omega) fun z hz=>by
      refine Int.le_trans ?_ (Int.le_of_lt aw)
      exact take_le hB (n:=j - 1) (by omega) z (by rw [show j - 1+1=j by omega];exact hz)
     by_cases e1:i - 1=0
     · rw [if_pos (by simpa using e1)]
       exact wpS_pure ⟨sm2,.inl ⟨_,_,rfl,m2.done0 hA hB (.inl e1)⟩⟩
     · rw [if_neg (by simpa using e1)]
       split
       · exact wpS_pure ⟨sm2,.inr ⟨_,_,_,_,_,rfl,m2,by omega,by omega,hj,hj2,by omega⟩⟩
       · exact wpS_pure ⟨sm2,_,_,_,_,_,rfl,m2,by omega,by omega,hj,hj2,by omega⟩
   · simp only [aw,decide_false,Bool.false_eq_true,if_false]
     refine wpS_bind (s_elemL (i:=j - 1) (by omega) ?_)
     have m2:MHa xa xb (ou.push (xb.toList[j - 1]'(by omega))) i (j - 1):=MHa.pushB (by rw [show j - 1+1=j by omega];exact m) hB (by omega) fun z hz=>by
      refine Int.le_trans ?_ (Int.not_lt.mp aw)
      exact take_le hA (n:=i - 1) (by omega) z (by rw [show i - 1+1=i by omega];exact hz)
     by_cases e1:j - 1=1
     · rw [if_pos (by simpa using e1)]
       exact wpS_pure ⟨sm2,.inl ⟨_,_,rfl,m2.first hA hB hb e1 h0⟩⟩
     · rw [if_neg (by simpa using e1)]
       split
       · exact wpS_pure ⟨sm2,.inr ⟨_,_,_,_,_,rfl,m2,hi,hi2,by omega,by omega,by omega⟩⟩
       · exact wpS_pure ⟨sm2,_,_,_,_,_,rfl,m2,hi,hi2,by omega,by omega,by omega⟩
  case p1=>
   rintro c st2 ⟨sm2,⟨res,rest,rfl,me⟩ | ⟨i,j,ou,ac,bc,rfl,m,hi,hi2,hj,hj2,hx3⟩⟩
   · exact wpS_pure ⟨sm2,_,_,rfl,me⟩
   dsimp only
   refine wpS_bind (wpS_lift (wpAny_rule ⟨rfl,?_⟩))
   refine wpS_bind (wpS_mono (wpS_forRange (I:=fun y c st'=>SameSt st st'∧∃ i j ou mg ac bc,c=(none,i,j,ou,mg,ac,bc)∧MHa xa xb ou i j∧0<i∧i<xa.size∧1<j∧j≤xb.size∧i+j+x+2≤xa.size+xb.size)
    (Q:=fun c st'=>SameSt st st'∧((∃ res rest,c=(some res,rest)∧Mer xa.toList xb.toList res.toList)∨∃ i j ou mg ac bc,c=(none,i,j,ou,mg,ac,bc)∧MHa xa xb ou i j∧0<i∧i<xa.size∧1<j∧j≤xb.size∧i+j+x+2≤xa.size+xb.size)) ?s2 ?f2 ⟨sm2,_,_,_,_,_,_,rfl,m,hi,hi2,hj,hj2,hx3⟩) ?p2)
   case f2=>
    rintro c st3 ⟨sm3,i,j,ou,mg,ac,bc,rfl,m,hi,hi2,hj,hj2,hx4⟩
    exact ⟨sm3,.inr ⟨_,_,_,_,_,_,rfl,m,hi,hi2,hj,hj2,hx4⟩⟩
   case p2=>
    rintro c st3 ⟨sm3,⟨res,rest,rfl,me⟩ | ⟨i,j,ou,mg,ac,bc,rfl,m,hi,hi2,hj,hj2,hx4⟩⟩
    · exact wpS_pure ⟨sm3,_,_,rfl,me⟩
    · dsimp only
      refine wpS_bind (s_setG ?_)
      exact wpS_pure ⟨sm3.setG _,_,_,_,_,rfl,m,hi,hi2,hj,hj2,by omega⟩
   case s2=>
    rintro y c st3 _ hy ⟨sm3',i,j,ou,mg,ac,bc,rfl,m,hi,hi2,hj,hj2,hx4⟩
    dsimp only
    have sm3:=fun g=>sm3'.setG g
    obtain ⟨c1,hc1,cut1⟩:=cut_of hA (xb.toList[j - 1]'(by omega)) false 0 i (by omega)
    obtain ⟨le1,gt1⟩:=ffalse (by omega) hc1 cut1
    have m1:MHa xa xb (ou++(xa.extract c1 i).reverse) c1 j:=m.extA hA hc1 (by omega) fun t ht h1 h2 z hz=>by
     refine Int.le_trans ?_ (Int.le_of_lt (gt1 t ht h1 h2))
     exact take_le hB (n:=j - 1) (by omega) z (by rw [show j - 1+1=j by omega];exact hz)
    by_cases hmg:mg > 1
    · rw [if_pos hmg]
      refine wpS_bind (s_setG (wpS_bind (s_elemL (i:=j - 1) (by omega) ?_)))
      refine wpS_bind (s_gal (c:=c1) ((sm3 _).kind.trans hk) hIa (hIb _ (List.getElem_mem _)) (by omega) (by omega) hc1 cut1 ?_)
      dsimp only
      by_cases k0:i - c1 > 0
      · rw [if_pos k0]
        by_cases e1:c1=0
        · rw [if_pos (by simpa using e1)]
          exact wpS_pure ⟨sm3 _,.inl ⟨_,_,rfl,m1.done0 hA hB (.inl e1)⟩⟩
        · rw [if_neg (by simpa using e1)]
          refine wpS_bind (s_elemL (i:=j - 1) (by omega) ?_)
          have M2:MHa xa xb (Array.push (ou++(xa.extract c1 i).reverse) (xb.toList[j - 1]'(by omega))) c1 (j - 1):=MHa.pushB (by rw [show j - 1+1=j by omega];exact m1) hB (by omega) (fun z hz=>le1 z hz)
          by_cases e3:j - 1=1
          · rw [if_pos (by simpa using e3)]
            exact wpS_pure ⟨sm3 _,.inl ⟨_,_,rfl,M2.first hA hB hb e3 h0⟩⟩
          · rw [if_neg (by simpa using e3)]
            refine wpS_bind (s_elemL (i:=c1 - 1) (by omega) ?_)
            obtain ⟨c2,hc2,cut2⟩:=cut_of hB (xa.toList[c1 - 1]'(by omega)) true 0 (j - 1) (by omega)
            obtain ⟨lt2,ge2⟩:=ftrue (by omega) hc2 cut2
            refine wpS_bind (s_gal (c:=c2) ((sm3 _).kind.trans hk) hIb (hIa _ (List.getElem_mem _)) (by omega) (by omega) hc2 cut2 ?_)
            dsimp only
            by_cases k1:j - 1 - c2 > 0
            · rw [if_pos k1]
              have M3:MHa xa xb (Array.push (ou++(xa.extract c1 i).reverse) (xb.toList[j - 1]'(by omega))++(xb.extract c2 (j - 1)).reverse) c1 c2:=M2.extB hB hc2 (by omega) fun t ht h1 h2 z hz=>by
               refine Int.le_trans ?_ (ge2 t ht h1 h2)
               exact take_le hA (n:=c1 - 1) (by omega) z (by rw [show c1 - 1+1=c1 by omega];exact hz)
              by_cases e4:c2=1
              · rw [if_pos (by simpa using e4)]
                exact wpS_pure ⟨sm3 _,.inl ⟨_,_,rfl,M3.first hA hB hb e4 h0⟩⟩
              · rw [if_neg (by simpa using e4)]
                by_cases e6:c2=0
                · rw [if_pos (by simpa using e6)]
                  exact wpS_pure ⟨sm3 _,.inl ⟨_,_,rfl,M3.done0 hA hB (.inr e6)⟩⟩
                · rw [if_neg (by simpa using e6)]
                  refine wpS_bind (s_elemL (i:=c1 - 1) (by omega) ?_)
                  have M4:MHa xa xb (Array.push (Array.push (ou++(xa.extract c1 i).reverse) (xb.toList[j - 1]'(by omega))++(xb.extract c2 (j - 1)).reverse) (xa.toList[c1 - 1]'(by omega))) (c1 - 1) c2:=MHa.pushA (by rw [show c1 - 1+1=c1 by omega];exact M3) hA (by omega) (fun z hz=>Int.le_of_lt (lt2 z hz))
                  by_cases e5:c1 - 1=0
                  · rw [if_pos (by simpa using e5)]
                    exact wpS_pure ⟨sm3 _,.inl ⟨_,_,rfl,M4.done0 hA hB (.inl e5)⟩⟩
                  · rw [if_neg (by simpa using e5)]
                    split
                    · exact wpS_pure ⟨sm3 _,.inr ⟨_,_,_,_,_,_,rfl,M4,by omega,by omega,by omega,by omega,by omega⟩⟩
                    · exact wpS_pure ⟨sm3 _,_,_,_,_,_,_,rfl,M4,by omega,by omega,by omega,by omega,by omega⟩
            · rw [if_neg k1]
              have c20:c2=j - 1:=by omega
              refine wpS_bind (s_elemL (i:=c1 - 1) (by omega) ?_)
              have M4:MHa xa xb (Array.push (Array.push (ou++(xa.extract c1 i).reverse) (xb.toList[j - 1]'(by omega))) (xa.toList[c1 - 1]'(by omega))) (c1 - 1) (j - 1):=MHa.pushA (by rw [show c1 - 1+1=c1 by omega];exact M2) hA (by omega) (fun z hz=>Int.le_of_lt (lt2 z (by rw [c20];exact hz)))
              by_cases e5:c1 - 1=0
              · rw [if_pos (by simpa using e5)]
                exact wpS_pure ⟨sm3 _,.inl ⟨_,_,rfl,M4.done0 hA hB (.inl e5)⟩⟩
              · rw [if_neg (by simpa using e5)]
                split
                · exact wpS_pure ⟨sm3 _,.inr ⟨_,_,_,_,_,_,rfl,M4,by omega,by omega,by omega,by omega,by omega⟩⟩
                · exact wpS_pure ⟨sm3 _,_,_,_,_,_,_,rfl,M4,by omega,by omega,by omega,by omega,by omega⟩
      · rw [if_neg k0]
        have c10:c1=i:=by omega
        refine wpS_bind (s_elemL (i:=j - 1) (by omega) ?_)
        have M2:MHa xa xb (Array.push ou (xb.toList[j - 1]'(by omega))) i (j - 1):=MHa.pushB (by rw [show j - 1+1=j by omega];exact m) hB (by omega) (fun z hz=>le1 z (by rw [c10];exact hz))
        by_cases e3:j - 1=1
        · rw [if_pos (by simpa using e3)]
          exact wpS_pure ⟨sm3 _,.inl ⟨_,_,rfl,M2.first hA hB hb e3 h0⟩⟩
        · rw [if_neg (by simpa using e3)]
          refine wpS_bind (s_elemL (i:=i - 1) (by omega) ?_)
          obtain ⟨c2,hc2,cut2⟩:=cut_of hB (xa.toList[i - 1]'(by omega)) true 0 (j - 1) (by omega)
          obtain ⟨lt2,ge2⟩:=ftrue (by omega) hc2 cut2
          refine wpS_bind (s_gal (c:=c2) ((sm3 _).kind.trans hk) hIb (hIa _ (List.getElem_mem _)) (by omega) (by omega) hc2 cut2 ?_)
          dsimp only
          by_cases k1:j - 1 - c2 > 0
          · rw [if_pos k1]
            have M3:MHa xa xb (Array.push ou (xb.toList[j - 1]'(by omega))++(xb.extract c2 (j - 1)).reverse) i c2:=M2.extB hB hc2 (by omega) fun t ht h1 h2 z hz=>by
             refine Int.le_trans ?_ (ge2 t ht h1 h2)
             exact take_le hA (n:=i - 1) (by omega) z (by rw [show i - 1+1=i by omega];exact hz)
            by_cases e4:c2=1
            · rw [if_pos (by simpa using e4)]
              exact wpS_pure ⟨sm3 _,.inl ⟨_,_,rfl,M3.first hA hB hb e4 h0⟩⟩
            · rw [if_neg (by simpa using e4)]
              by_cases e6:c2=0
              · rw [if_pos (by simpa using e6)]
                exact wpS_pure ⟨sm3 _,.inl ⟨_,_,rfl,M3.done0 hA hB (.inr e6)⟩⟩
              · rw [if_neg (by simpa using e6)]
                refine wpS_bind (s_elemL (i:=i - 1) (by omega) ?_)
                have M4:MHa xa xb (Array.push (Array.push ou (xb.toList[j - 1]'(by omega))++(xb.extract c2 (j - 1)).reverse) (xa.toList[i - 1]'(by omega))) (i - 1) c2:=MHa.pushA (by rw [show i - 1+1=i by omega];exact M3) hA (by omega) (fun z hz=>Int.le_of_lt (lt2 z hz))
                by_cases e5:i - 1=0
                · rw [if_pos (by simpa using e5)]
                  exact wpS_pure ⟨sm3 _,.inl ⟨_,_,rfl,M4.done0 hA hB (.inl e5)⟩⟩
                · rw [if_neg (by simpa using e5)]
                  split
                  · exact wpS_pure ⟨sm3 _,.inr ⟨_,_,_,_,_,_,rfl,M4,by omega,by omega,by omega,by omega,by omega⟩⟩
                  · exact wpS_pure ⟨sm3 _,_,_,_,_,_,_,rfl,M4,by omega,by omega,by omega,by omega,by omega⟩
          · rw [if_neg k1]
            have c20:c2=j - 1:=by omega
            refine wpS_bind (s_elemL (i:=i - 1) (by omega) ?_)
            have M4:MHa xa xb (Array.push (Array.push ou (xb.toList[j - 1]'(by omega))) (xa.toList[i - 1]'(by omega))) (i - 1) (j - 1):=MHa.pushA (by rw [show i - 1+1=i by omega];exact M2) hA (by omega) (fun z hz=>Int.le_of_lt (lt2 z (by rw [c20];exact hz)))
            by_cases e5:i - 1=0
            · rw [if_pos (by simpa using e5)]
              exact wpS_pure ⟨sm3 _,.inl ⟨_,_,rfl,M4.done0 hA hB (.inl e5)⟩⟩
            · rw [if_neg (by simpa using e5)]
              split
              · exact wpS_pure ⟨sm3 _,.inr ⟨_,_,_,_,_,_,rfl,M4,by omega,by omega,by omega,by omega,by omega⟩⟩
              · exact wpS_pure ⟨sm3 _,_,_,_,_,_,_,rfl,M4,by omega,by omega,by omega,by omega,by omega⟩
    · rw [if_neg hmg]
      refine wpS_bind (s_setG (wpS_bind (s_elemL (i:=j - 1) (by omega) ?_)))
      refine wpS_bind (s_gal (c:=c1) ((sm3 _).kind.trans hk) hIa (hIb _ (List.getElem_mem _)) (by omega) (by omega) hc1 cut1 ?_)
      dsimp only
      by_cases k0:i - c1 > 0
      · rw [if_pos k0]
        by_cases e1:c1=0
        · rw [if_pos (by simpa using e1)]
          exact wpS_pure ⟨sm3 _,.inl ⟨_,_,rfl,m1.done0 hA hB (.inl e1)⟩⟩
        · rw [if_neg (by simpa using e1)]
          refine wpS_bind (s_elemL (i:=j - 1) (by omega) ?_)
          have M2:MHa xa xb (Array.push (ou++(xa.extract c1 i).reverse) (xb.toList[j - 1]'(by omega))) c1 (j - 1):=MHa.pushB (by rw [show j - 1+1=j by omega];exact m1) hB (by omega) (fun z hz=>le1 z hz)
          by_cases e3:j - 1=1
          · rw [if_pos (by simpa using e3)]
            exact wpS_pure ⟨sm3 _,.inl ⟨_,_,rfl,M2.first hA hB hb e3 h0⟩⟩
          · rw [if_neg (by simpa using e3)]
            refine wpS_bind (s_elemL (i:=c1 - 1) (by omega) ?_)
            obtain ⟨c2,hc2,cut2⟩:=cut_of hB (xa.toList[c1 - 1]'(by omega)) true 0 (j - 1) (by omega)
            obtain ⟨lt2,ge2⟩:=ftrue (by omega) hc2 cut2
            refine wpS_bind (s_gal (c:=c2) ((sm3 _).kind.trans hk) hIb (hIa _ (List.getElem_mem _)) (by omega) (by omega) hc2 cut2 ?_)
            dsimp only
            by_cases k1:j - 1 - c2 > 0
            · rw [if_pos k1]
              have M3:MHa xa xb (Array.push (ou++(xa.extract c1 i).reverse) (xb.toList[j - 1]'(by omega))++(xb.extract c2 (j - 1)).reverse) c1 c2:=M2.extB hB hc2 (by omega) fun t ht h1 h2 z hz=>by
               refine Int.le_trans ?_ (ge2 t ht h1 h2)
               exact take_le hA (n:=c1 - 1) (by omega) z (by rw [show c1 - 1+1=c1 by omega];exact hz)
              by_cases e4:c2=1
              · rw [if_pos (by simpa using e4)]
                exact wpS_pure ⟨sm3 _,.inl ⟨_,_,rfl,M3.first hA hB hb e4 h0⟩⟩
              · rw [if_neg (by simpa using e4)]
                by_cases e6:c2=0
                · rw [if_pos (by simpa using e6)]
                  exact wpS_pure ⟨sm3 _,.inl ⟨_,_,rfl,M3.done0 hA hB (.inr e6)⟩⟩
                · rw [if_neg (by simpa using e6)]
                  refine wpS_bind (s_elemL (i:=c1 - 1) (by omega) ?_)
                  have M4:MHa xa xb (Array.push (Array.push (ou++(xa.extract c1 i).reverse) (xb.toList[j - 1]'(by omega))++(xb.extract c2 (j - 1)).reverse) (xa.toList[c1 - 1]'(by omega))) (c1 - 1) c2:=MHa.pushA (by rw [show c1 - 1+1=c1 by omega];exact M3) hA (by omega) (fun z hz=>Int.le_of_lt (lt2 z hz))
                  by_cases e5:c1 - 1=0
                  · rw [if_pos (by simpa using e5)]
                    exact wpS_pure ⟨sm3 _,.inl ⟨_,_,rfl,M4.done0 hA hB (.inl e5)⟩⟩
                  · rw [if_neg (by simpa using e5)]
                    split
                    · exact wpS_pure ⟨sm3 _,.inr ⟨_,_,_,_,_,_,rfl,M4,by omega,by omega,by omega,by omega,by omega⟩⟩
                    · exact wpS_pure ⟨sm3 _,_,_,_,_,_,_,rfl,M4,by omega,by omega,by omega,by omega,by omega⟩
            · rw [if_neg k1]
              have c20:c2=j - 1:=by omega
              refine wpS_bind (s_elemL (i:=c1 - 1) (by omega) ?_)
              have M4:MHa xa xb (Array.push (Array.push (ou++(xa.extract c1 i).reverse) (xb.toList[j - 1]'(by omega))) (xa.toList[c1 - 1]'(by omega))) (c1 - 1) (j - 1):=MHa.pushA (by rw [show c1 - 1+1=c1 by omega];exact M2) hA (by omega) (fun z hz=>Int.le_of_lt (lt2 z (by rw [c20];exact hz)))
              by_cases e5:c1 - 1=0
              · rw [if_pos (by simpa using e5)]
                exact wpS_pure ⟨sm3 _,.inl ⟨_,_,rfl,M4.done0 hA hB (.inl e5)⟩⟩
              · rw [if_neg (by simpa using e5)]
                split
                · exact wpS_pure ⟨sm3 _,.inr ⟨_,_,_,_,_,_,rfl,M4,by omega,by omega,by omega,by omega,by omega⟩⟩
                · exact wpS_pure ⟨sm3 _,_,_,_,_,_,_,rfl,M4,by omega,by omega,by omega,by omega,by omega⟩
      · rw [if_neg k0]
        have c10:c1=i:=by omega
        refine wpS_bind (s_elemL (i:=j - 1) (by omega) ?_)
        have M2:MHa xa xb (Array.push ou (xb.toList[j - 1]'(by omega))) i (j - 1):=MHa.pushB (by rw [show j - 1+1=j by omega];exact m) hB (by omega) (fun z hz=>le1 z (by rw [c10];exact hz))
        by_cases e3:j - 1=1
        · rw [if_pos (by simpa using e3)]
          exact wpS_pure ⟨sm3 _,.inl ⟨_,_,rfl,M2.first hA hB hb e3 h0⟩⟩
        · rw [if_neg (by simpa using e3)]
          refine wpS_bind (s_elemL (i:=i - 1) (by omega) ?_)
          obtain ⟨c2,hc2,cut2⟩:=cut_of hB (xa.toList[i - 1]'(by omega)) true 0 (j - 1) (by omega)
          obtain ⟨lt2,ge2⟩:=ftrue (by omega) hc2 cut2
          refine wpS_bind (s_gal (c:=c2) ((sm3 _).kind.trans hk) hIb (hIa _ (List.getElem_mem _)) (by omega) (by omega) hc2 cut2 ?_)
          dsimp only
          by_cases k1:j - 1 - c2 > 0
          · rw [if_pos k1]
            have M3:MHa xa xb (Array.push ou (xb.toList[j - 1]'(by omega))++(xb.extract c2 (j - 1)).reverse) i c2:=M2.extB hB hc2 (by omega) fun t ht h1 h2 z hz=>by
             refine Int.le_trans ?_ (ge2 t ht h1 h2)
             exact take_le hA (n:=i - 1) (by omega) z (by rw [show i - 1+1=i by omega];exact hz)
            by_cases e4:c2=1
            · rw [if_pos (by simpa using e4)]
              exact wpS_pure ⟨sm3 _,.inl ⟨_,_,rfl,M3.first hA hB hb e4 h0⟩⟩
            · rw [if_neg (by simpa using e4)]
              by_cases e6:c2=0
              · rw [if_pos (by simpa using e6)]
                exact wpS_pure ⟨sm3 _,.inl ⟨_,_,rfl,M3.done0 hA hB (.inr e6)⟩⟩
              · rw [if_neg (by simpa using e6)]
                refine wpS_bind (s_elemL (i:=i - 1) (by omega) ?_)
                have M4:MHa xa xb (Array.push (Array.push ou (xb.toList[j - 1]'(by omega))++(xb.extract c2 (j - 1)).reverse) (xa.toList[i - 1]'(by omega))) (i - 1) c2:=MHa.pushA (by rw [show i - 1+1=i by omega];exact M3) hA (by omega) (fun z hz=>Int.le_of_lt (lt2 z hz))
                by_cases e5:i - 1=0
                · rw [if_pos (by simpa using e5)]
                  exact wpS_pure ⟨sm3 _,.inl ⟨_,_,rfl,M4.done0 hA hB (.inl e5)⟩⟩
                · rw [if_neg (by simpa using e5)]
                  split
                  · exact wpS_pure ⟨sm3 _,.inr ⟨_,_,_,_,_,_,rfl,M4,by omega,by omega,by omega,by omega,by omega⟩⟩
                  · exact wpS_pure ⟨sm3 _,_,_,_,_,_,_,rfl,M4,by omega,by omega,by omega,by omega,by omega⟩
          · rw [if_neg k1]
            have c20:c2=j - 1:=by omega
            refine wpS_bind (s_elemL (i:=i - 1) (by omega) ?_)
            have M4:MHa xa xb (Array.push (Array.push ou (xb.toList[j - 1]'(by omega))) (xa.toList[i - 1]'(by omega))) (i - 1) (j - 1):=MHa.pushA (by rw [show i - 1+1=i by omega];exact M2) hA (by omega) (fun z hz=>Int.le_of_lt (lt2 z (by rw [c20];exact hz)))
            by_cases e5:i - 1=0
            · rw [if_pos (by simpa using e5)]
              exact wpS_pure ⟨sm3 _,.inl ⟨_,_,rfl,M4.done0 hA hB (.inl e5)⟩⟩
            · rw [if_neg (by simpa using e5)]
              split
              · exact wpS_pure ⟨sm3 _,.inr ⟨_,_,_,_,_,_,rfl,M4,by omega,by omega,by omega,by omega,by omega⟩⟩
              · exact wpS_pure ⟨sm3 _,_,_,_,_,_,_,rfl,M4,by omega,by omega,by omega,by omega,by omega⟩
end
open PyProof.Rows hiding K SortedTo K_bubble K_mirror K_congr K_mirror_equal
variable [KV]
def PM:List (Nat×Nat×Nat)→List (List Keyed)→Nat→Prop
 | [],[],_=>True
 | p::r,l::ls,lo=>p.1=lo∧p.2.1=l.length∧PM r ls (lo+l.length)
 | _,_,_=>False
theorem PM.len:∀ {ps:List (Nat×Nat×Nat)} {ls:List (List Keyed)} {lo:Nat},PM ps ls lo→ps.length=ls.length
 | [],[],_,_=>rfl
 | _::r,_::ls,lo,h=>by rw [List.length_cons,List.length_cons,PM.len h.2.2]
 | [],_::_,_,h=>h.elim
 | _::_,[],_,h=>h.elim
theorem PM.at:∀ {ps:List (Nat×Nat×Nat)} {a:List (List Keyed)} {l:List Keyed} {b:List (List Keyed)} {lo:Nat},PM ps (a++l::b) lo→∃ pw,ps[a.length]? = some (lo+a.flatten.length,l.length,pw)
 | (s,n,p)::r,[],l,b,lo,h=>⟨p,by have h1:=h.1;have h2:=h.2.1;simp only at h1 h2;subst h1 h2;rfl⟩
 | p::r,x::a,l,b,lo,h=>by
   obtain ⟨pw,e⟩:=PM.at (a:=a) h.2.2
   refine ⟨pw,?_⟩
   rw [List.length_cons,List.getElem?_cons_succ,e,List.flatten_cons,List.length_append,Nat.add_assoc]
 | [],[],_,_,_,h=>h.elim
 | [],_::_,_,_,_,h=>h.elim
theorem PM.merge:∀ {ps:List (Nat×Nat×Nat)} {a:List (List Keyed)} {l m:List Keyed} {b:List (List Keyed)} {lo:Nat} {x:List Keyed} {pw:Nat},PM ps (a++l::m::b) lo→x.length=l.length+m.length →
 PM ((ps.set a.length (lo+a.flatten.length,l.length+m.length,pw)).eraseIdx (a.length+1)) (a++x::b) lo
 | p::q::r,[],l,m,b,lo,x,pw,h,hx=>by
   obtain ⟨h1,h2,h3,h4,h5⟩:=h
   show PM ((lo+0,l.length+m.length,pw)::r) (x::b) lo
   refine ⟨rfl,hx.symm,?_⟩
   rw [hx,← Nat.add_assoc]
   exact h5
 | p::r,y::a,l,m,b,lo,x,pw,h,hx=>by
   obtain ⟨h1,h2,h3⟩:=h
   have ih:=PM.merge (pw:=pw) h3 hx
   show PM (p::((r.set a.length _).eraseIdx (a.length+1))) (y::(a++x::b)) lo
   refine ⟨h1,h2,?_⟩
   rw [List.flatten_cons,List.length_append,← Nat.add_assoc]
   exact ih
 | [],[],_,_,_,_,_,_,h,_=>h.elim
 | [_],[],_,_,_,_,_,_,h,_=>h.2.2.elim
 | [],_::_,_,_,_,_,_,_,h,_=>h.elim
theorem seg_at {xs:Array Keyed} {pre R post:List Keyed} (e:xs.toList=pre++R++post) {t:Nat} (ht:t<R.length):xs[pre.length+t]? = some R[t]:=by
 rw [← Array.getElem?_toList,e,List.append_assoc,List.getElem?_append_right (by omega),Nat.add_sub_cancel_left,List.getElem?_append_left ht,List.getElem?_eq_getElem ht]
theorem cut_seg {xs:Array Keyed} {R:List Keyed} (hs:R.Pairwise Le) (ky:Keyed) (lf:Bool) (bs:Nat) (hK:∀ t (h:t<R.length),K xs (bs+t)=kv R[t]):∃ c,c≤R.length∧∀ i,i<R.length→Byd lf ky xs bs i=decide (i<c):=by
 have down:∀ i j,i≤j→j<R.length→Byd lf ky xs bs j=true→Byd lf ky xs bs i=true:=fun i j hij hj h=>by
  have hm:kv (R[i]'(by omega))≤kv R[j]:=by
   by_cases e:i=j
   · subst e;exact Int.le_refl _
   · exact List.pairwise_iff_getElem.mp hs _ _ _ _ (by omega)
  unfold Byd at h ⊢
  rw [hK j hj] at h
  rw [hK i (by omega)]
  cases lf with
  | true=>simp only [if_true,decide_eq_true_eq] at h ⊢;omega
  | false=>simp only [Bool.false_eq_true,if_false,Bool.not_eq_true',decide_eq_false_iff_not] at h ⊢;omega
 have main:∀ n,n≤R.length→∃ c,c≤n∧∀ i,i<n→Byd lf ky xs bs i=decide (i<c):=by
  intro n
  induction n with
  | zero=>exact fun _=>⟨0,Nat.le_refl _,fun i hi=>absurd hi (Nat.not_lt_zero _)⟩
  | succ n ih=>
    intro hn
    obtain ⟨c,hc,hd⟩:=ih (by omega)
    by_cases hb:Byd lf ky xs bs n=true
    · refine ⟨n+1,Nat.le_refl _,fun i hi=>?_⟩
      rw [decide_eq_true hi]
      exact down i n (by omega) (by omega) hb
    · refine ⟨c,by omega,fun i hi=>?_⟩
      by_cases h:i=n
      · subst h
        rw [decide_eq_false (by omega)]
        exact Bool.not_eq_true _▸(by simpa using hb)
      · exact hd i (by omega)
 exact main _ (Nat.le_refl _)
theorem write_back:∀ (l:List Keyed) (k off:Nat) (xs:Array Keyed),off+k+l.length≤xs.size→((l.zipIdx k).foldl (fun a (x:Keyed×Nat)=>a.setIfInBounds (off+x.2) x.1) xs).toList=xs.toList.take (off+k)++l++xs.toList.drop (off+k+l.length)
 | [],k,off,xs,_=>by simp
 | p::l,k,off,xs,h=>by
   rw [List.zipIdx_cons,List.foldl_cons]
   rw [List.length_cons] at h
   rw [write_back l (k+1) off _ (by rw [Array.size_setIfInBounds];omega)]
   rw [Array.toList_setIfInBounds]
   have hlen:off+k<xs.toList.length:=by rw [Array.length_toList];omega
   rw [List.drop_set_of_lt (by omega),List.length_cons]
   have e1:(xs.toList.set (off+k) p).take (off+(k+1))=xs.toList.take (off+k)++[p]:=by
    rw [← Nat.add_assoc,List.take_succ,List.take_set_of_le (by omega),List.getElem?_set_self hlen]
    rfl
   have e2:off+(k+1)+l.length=off+k+(l.length+1):=by omega
   rw [e1,e2]
   simp
theorem pw3 {a b c:List Keyed} (ha:a.Pairwise Le) (hb:b.Pairwise Le) (hc:c.Pairwise Le) (hab:∀ x∈a,∀ y∈b,kv x≤kv y) (hac:∀ x∈a,∀ y∈c,kv x≤kv y) (hbc:∀ x∈b,∀ y∈c,kv x≤kv y):(a++b++c).Pairwise Le:=by
 refine List.pairwise_append.mpr ⟨List.pairwise_append.mpr ⟨ha,hb,hab⟩,hc,fun x hx y hy=>?_⟩
 rcases List.mem_append.mp hx with hx | hx
 · exact hac x hx y hy
 · exact hbc x hx y hy
def mat:Nat→StateT SortSt Sem Bool:=sortPriv% PySem.Builtin.mergeAt
theorem mat_is:mergeAt'=mat:=rfl
theorem mat_eq (i:Nat):mat i=(do
 let z ← get
 let (some (p,n,pw),some (q,m,_)):=((pendingOf z)[i]?,(pendingOf z)[i+1]?) | unsupported "internal:list.sort.pending"
 set (setPending z (((pendingOf z).setIfInBounds i (p,n+m,pw)).eraseIdxIfInBounds (i+1)))
 let some k ← gal false (← elem' (arrOf z) q) (arrOf z) p n 0 | return false
 let (p,n):=(p+k,n - k)
 if n == 0 then return true
 let some m ← gal true (← elem' (arrOf z) (p+n - 1)) (arrOf z) q m (m - 1) | return false
 if m == 0 then return true
 let x:=(arrOf z).extract p q
 let y:=(arrOf z).extract q (q+m)
 let mg ← if n≤m then mlo x y else mhi x y
 modify fun v=>setArr v (mg.toList.zipIdx.foldl (fun a (u,j)=>a.setIfInBounds (p+j) u) (arrOf v))
 return (failedOf (← get)).isNone):=rfl
open PyProof.Rows hiding K SortedTo K_bubble K_mirror K_congr K_mirror_equal
variable [KV]
theorem s_set {prog:Program} {w:World} {A:Around} {E:Value→Shared→Prop} {st v:SortSt} {Q:PUnit→SortSt→Prop} (h:Q ⟨⟩ v):wpS (model prog w) A E KV.sh (set v:StateT SortSt Sem PUnit) Q st:=by
 unfold wpS
 rw [StateT.run_set]
 exact wpAny_pure ⟨rfl,h⟩
theorem drop_pre:∀ (p z:List Keyed) (c:Nat),(p++z).drop (p.length+c)=z.drop c
 | [],z,c=>by simp
 | x::p,z,c=>by
   rw [List.length_cons,show p.length+1+c=p.length+c+1 by omega,List.cons_append,List.drop_succ_cons]
   exact drop_pre p z c
theorem ext_seg {xs:Array Keyed} {pre R post:List Keyed} (e:xs.toList=pre++R++post) (c d:Nat) (hd:d≤R.length) (hc:c≤d):(xs.extract (pre.length+c) (pre.length+d)).toList=(R.drop c).take (d - c):=by
 rw [Array.toList_extract,List.extract_eq_drop_take,e,List.append_assoc,drop_pre]
 have:(R++post).drop c=R.drop c++post:=List.drop_append_of_le_length (by omega)
 rw [this,show pre.length+d - (pre.length+c)=d - c by omega,List.take_append_of_le_length (by rw [List.length_drop];omega)]
theorem AllI.sub {xs ys:Array Keyed} (h:AllI xs) (hs:∀ p∈ys.toList,p∈xs.toList):AllI ys:=fun p hp=>h p (hs p hp)
section
variable {prog:Program} {w:World} {A:Around} {E:Value→Shared→Prop}
structure Kept (a b:SortSt):Prop where
 kind:kindOf b=kindOf a
 fail:failedOf b=failedOf a
theorem s_mat {st:SortSt} {L1 L2:List (List Keyed)} {R1 R2 rest:List Keyed} {Q:Bool→SortSt→Prop} (hk:kindOf st=KV.kind) (hf:failedOf st=none) (hI:AllI (arrOf st))
 (ha:(arrOf st).toList=(L1++R1::R2::L2).flatten++rest) (pm:PM (pendingOf st).toList (L1++R1::R2::L2) 0) (n1:R1≠[]) (n2:R2≠[]) (s1:R1.Pairwise Le) (s2:R2.Pairwise Le)
 (h:∀ st' R,Kept st st'→R.Perm (R1++R2)→R.Pairwise Le→(arrOf st').toList=(L1++R::L2).flatten++rest→PM (pendingOf st').toList (L1++R::L2) 0→Q true st'):wpS (model prog w) A E KV.sh (mat L1.length) Q st:=by
 have p1:0<R1.length:=List.length_pos_iff.mpr n1
 have p2:0<R2.length:=List.length_pos_iff.mpr n2
 obtain ⟨pw,e1⟩:=pm.at
 have e2':=(show PM (pendingOf st).toList ((L1++[R1])++R2::L2) 0 by rw [List.append_assoc];exact pm).at
 obtain ⟨pw2,e2⟩:=e2'
 rw [List.length_append,List.length_singleton,List.flatten_append,List.flatten_cons,List.flatten_nil,List.append_nil,List.length_append] at e2
 rw [Array.getElem?_toList] at e1 e2
 have ea:(arrOf st).toList=L1.flatten++R1++(R2++L2.flatten++rest):=by rw [ha];simp
 have eb:(arrOf st).toList=(L1.flatten++R1)++R2++(L2.flatten++rest):=by rw [ha];simp
 have hsz:(arrOf st).size=L1.flatten.length+R1.length+R2.length+L2.flatten.length+rest.length:=by
  rw [← Array.length_toList,ha]
  simp only [List.flatten_append,List.flatten_cons,List.length_append]
  omega
 have pmR:∀ R:List Keyed,R.length=R1.length+R2.length→PM (((pendingOf st).setIfInBounds L1.length (0+L1.flatten.length,R1.length+R2.length,pw)).eraseIdxIfInBounds (L1.length+1)).toList (L1++R::L2) 0:=fun R hR=>by
  have:=PM.merge (pw:=pw) pm hR
  rw [Array.toList_eraseIdxIfInBounds,Array.toList_setIfInBounds]
  exact this
 have join:(L1++(R1++R2)::L2).flatten++rest=(arrOf st).toList:=by rw [ha];simp
 rw [mat_eq]
 refine wpS_bind (wpS_get ?_)
 rw [e1,e2]
 dsimp only
 refine wpS_bind (s_set ?_)
 have g2:(arrOf st)[0+(L1.flatten.length+R1.length)]? = some R2[0]:=by
  have:=seg_at eb p2
  rw [List.length_append,Nat.add_zero] at this
  rw [Nat.zero_add];exact this
 refine wpS_bind (s_elem g2 ?_)
 have hK1:∀ t (ht:t<R1.length),K (arrOf st) (0+L1.flatten.length+t)=kv R1[t]:=fun t ht=>by
  rw [Nat.zero_add];exact K_of (seg_at ea ht)
 have hK2:∀ t (ht:t<R2.length),K (arrOf st) (0+(L1.flatten.length+R1.length)+t)=kv R2[t]:=fun t ht=>by
  have:=K_of (seg_at eb ht)
  rw [List.length_append] at this
  rw [Nat.zero_add];exact this
 have hI2:IsI R2[0]:=hI _ (by rw [eb];exact List.mem_append_left _ (List.mem_append_right _ (List.getElem_mem _)))
 obtain ⟨c,hc,cut⟩:=cut_seg s1 R2[0] false (0+L1.flatten.length) hK1
 have lo:∀ t (ht:t<R1.length),t<c→kv R1[t]≤kv R2[0]:=fun t ht htc=>by
  have:=cut t ht
  unfold Byd at this
  rw [hK1 t ht,decide_eq_true htc] at this
  simp only [Bool.false_eq_true,if_false,Bool.not_eq_true',decide_eq_false_iff_not] at this
  omega
 have up:∀ t (ht:t<R1.length),c≤t→kv R2[0]<kv R1[t]:=fun t ht htc=>by
  have:=cut t ht
  unfold Byd at this
  rw [hK1 t ht,decide_eq_false (show ¬ t<c by omega)] at this
  simpa using this
 refine wpS_bind (s_gal (st:=setPending st _) (c:=c) hk hI hI2 (by omega) p1 hc cut ?_)
 dsimp only
 have b0:∀ y∈R2,kv R2[0]≤kv y:=fun y hy=>head_le s2 p2 y (by simpa using hy)
 by_cases c1:R1.length - c=0
 · rw [if_pos (by simpa using c1)]
   refine wpS_pure (h _ (R1++R2) ⟨rfl,rfl⟩ (List.Perm.refl _) ?_ join.symm (pmR _ (by rw [List.length_append])))
   refine List.pairwise_append.mpr ⟨s1,s2,fun x hx y hy=>?_⟩
   obtain ⟨t,ht,rfl⟩:=List.mem_iff_getElem.mp hx
   exact Int.le_trans (lo t ht (by omega)) (b0 y hy)
 rw [if_neg (by simpa using c1)]
 have gl:(arrOf st)[0+L1.flatten.length+c+(R1.length - c) - 1]? = some (R1[R1.length - 1]'(by omega)):=by
  have:=seg_at ea (t:=R1.length - 1) (by omega)
  rw [show 0+L1.flatten.length+c+(R1.length - c) - 1=L1.flatten.length+(R1.length - 1) by omega];exact this
 refine wpS_bind (s_elem gl ?_)
 have hI1:IsI (R1[R1.length - 1]'(by omega)):=hI _ (by rw [ea];exact List.mem_append_left _ (List.mem_append_right _ (List.getElem_mem _)))
 obtain ⟨d,hd,cut2⟩:=cut_seg s2 (R1[R1.length - 1]'(by omega)) true (0+(L1.flatten.length+R1.length)) hK2
 have lo2:∀ t (ht:t<R2.length),t<d→kv R2[t]<kv (R1[R1.length - 1]'(by omega)):=fun t ht htc=>by
  have:=cut2 t ht
  unfold Byd at this
  rw [hK2 t ht,decide_eq_true htc] at this
  simpa using this
 have up2:∀ t (ht:t<R2.length),d≤t→kv (R1[R1.length - 1]'(by omega))≤kv R2[t]:=fun t ht htc=>by
  have:=cut2 t ht
  unfold Byd at this
  rw [hK2 t ht,decide_eq_false (show ¬ t<d by omega)] at this
  simpa using this
 refine wpS_bind (s_gal (st:=setPending st _) (c:=d) hk hI hI1 (by omega) (by omega) hd cut2 ?_)
 dsimp only
 have lastA:∀ x∈R1,kv x≤kv (R1[R1.length - 1]'(by omega)):=fun x hx=>by
  refine take_le s1 (n:=R1.length - 1) (by omega) x ?_
  rw [List.take_of_length_le (by omega)];exact hx
 by_cases c2:d=0
 · rw [if_pos (by simpa using c2)]
   refine wpS_pure (h _ (R1++R2) ⟨rfl,rfl⟩ (List.Perm.refl _) ?_ join.symm (pmR _ (by rw [List.length_append])))
   refine List.pairwise_append.mpr ⟨s1,s2,fun x hx y hy=>?_⟩
   exact Int.le_trans (lastA x hx) (Int.le_trans (up2 0 p2 (by omega)) (b0 y hy))
 rw [if_neg (by simpa using c2)]
 have ex:((arrOf st).extract (0+L1.flatten.length+c) (0+(L1.flatten.length+R1.length))).toList=R1.drop c:=by
  have:=ext_seg ea c R1.length (Nat.le_refl _) hc
  rw [Nat.zero_add,Nat.zero_add,this,List.take_of_length_le (by rw [List.length_drop];exact Nat.le_refl _)]
 have ey:((arrOf st).extract (0+(L1.flatten.length+R1.length)) (0+(L1.flatten.length+R1.length)+d)).toList=R2.take d:=by
  have:=ext_seg eb 0 d hd (Nat.zero_le _)
  rw [List.length_append,Nat.add_zero,List.drop_zero,Nat.sub_zero] at this
  rw [Nat.zero_add];exact this
 generalize hx:(arrOf st).extract (0+L1.flatten.length+c) (0+(L1.flatten.length+R1.length))=xx at ex ⊢
 generalize hy:(arrOf st).extract (0+(L1.flatten.length+R1.length)) (0+(L1.flatten.length+R1.length)+d)=yy at ey ⊢
 have Ix:AllI xx:=hI.sub fun p hp=>by rw [ex] at hp;rw [ea];exact List.mem_append_left _ (List.mem_append_right _ (List.mem_of_mem_drop hp))
 have Iy:AllI yy:=hI.sub fun p hp=>by rw [ey] at hp;rw [eb];exact List.mem_append_left _ (List.mem_append_right _ (List.mem_of_mem_take hp))
 have Sx:xx.toList.Pairwise Le:=by rw [ex];exact s1.sublist (List.drop_sublist _ _)
 have Sy:yy.toList.Pairwise Le:=by rw [ey];exact s2.sublist (List.take_sublist _ _)
 have lx:xx.toList.length=R1.length - c:=by rw [ex,List.length_drop]
 have ly:yy.toList.length=d:=by rw [ey,List.length_take];omega
 have y0:yy.toList[0]'(by omega)=R2[0]:=by simp only [ey,List.getElem_take]
 have xl:xx.toList[xx.toList.length - 1]'(by omega)=R1[R1.length - 1]'(by omega):=by
  simp only [ex,List.getElem_drop,List.length_drop]
  congr 1
  omega
 have h0:∀ z∈xx.toList,kv (yy.toList[0]'(by omega))≤kv z:=fun z hz=>by
  rw [y0]
  rw [ex] at hz
  obtain ⟨u,hu,rfl⟩:=mem_dropE hz
  exact Int.le_of_lt (up _ hu (by omega))
 have hl:∀ z∈yy.toList,kv z≤kv (xx.toList[xx.toList.length - 1]'(by omega)):=fun z hz=>by
  rw [xl]
  rw [ey] at hz
  obtain ⟨u,hu,rfl⟩:=List.mem_iff_getElem.mp hz
  rw [List.length_take] at hu
  rw [List.getElem_take]
  exact Int.le_of_lt (lo2 u (by omega) (by omega))
 have fin:∀ (o:Array Keyed) (st2:SortSt),SameSt (setPending st (((pendingOf st).setIfInBounds L1.length (0+L1.flatten.length,R1.length+R2.length,pw)).eraseIdxIfInBounds (L1.length+1))) st2→Mer xx.toList yy.toList o.toList →
  wpS (model prog w) A E KV.sh (do modify fun v=>setArr v (o.toList.zipIdx.foldl (fun a (u,j)=>a.setIfInBounds (0+L1.flatten.length+c+j) u) (arrOf v));return (failedOf (← get)).isNone) Q st2:=by
  intro o st2 sm me
  refine wpS_bind (wpS_modify (wpS_bind (wpS_get ?_)))
  have hf2:failedOf st2=none:=sm.fail.trans hf
  show wpS _ _ _ _ (pure (failedOf st2).isNone) Q _
  rw [hf2]
  have harr:arrOf st2=arrOf st:=sm.arr
  have lo':o.toList.length=R1.length - c+d:=by rw [me.perm.length_eq,List.length_append,lx,ly]
  have hwb:=write_back o.toList 0 (0+L1.flatten.length+c) (arrOf st) (by rw [lo'];omega)
  refine wpS_pure (h _ (R1.take c++o.toList++R2.drop d) ⟨sm.kind,sm.fail⟩ ?_ ?_ ?_ ?_)
  · have e:=me.perm
    rw [ex,ey] at e
    have e3:(R1.take c++o.toList++R2.drop d).Perm (R1.take c++(R1.drop c++R2.take d)++R2.drop d):=List.Perm.append_right _ (List.Perm.append_left _ e)
    have e4:R1.take c++(R1.drop c++R2.take d)++R2.drop d=R1++R2:=by
     rw [← List.append_assoc,List.take_append_drop,List.append_assoc,List.take_append_drop]
    rw [e4] at e3
    exact e3
  · have om:∀ z∈o.toList,z∈R1.drop c∨z∈R2.take d:=fun z hz=>by
     have:=me.perm.mem_iff.mp hz
     rw [ex,ey] at this
     exact List.mem_append.mp this
    have ta:∀ x∈R1.take c,kv x≤kv R2[0]:=fun x hx=>by
     obtain ⟨u,hu,rfl⟩:=List.mem_iff_getElem.mp hx
     rw [List.length_take] at hu
     rw [List.getElem_take]
     exact lo u (by omega) (by omega)
    have td:∀ y∈R2.drop d,kv (R1[R1.length - 1]'(by omega))≤kv y:=fun y hy=>by
     obtain ⟨u,hu,rfl⟩:=mem_dropE hy
     exact up2 _ hu (by omega)
    refine pw3 (s1.sublist (List.take_sublist _ _)) me.srt (s2.sublist (List.drop_sublist _ _)) (fun x hx y hy=>?_) (fun x hx y hy=>?_) (fun x hx y hy=>?_)
    · rcases om y hy with hy | hy
      · obtain ⟨u,hu,rfl⟩:=mem_dropE hy
        exact Int.le_trans (ta x hx) (Int.le_of_lt (up _ hu (by omega)))
      · exact Int.le_trans (ta x hx) (b0 y (List.mem_of_mem_take hy))
    · exact Int.le_trans (ta x hx) (b0 y (List.mem_of_mem_drop hy))
    · rcases om x hx with hx | hx
      · exact Int.le_trans (lastA x (List.mem_of_mem_drop hx)) (td y hy)
      · obtain ⟨u,hu,rfl⟩:=List.mem_iff_getElem.mp hx
        rw [List.length_take] at hu
        rw [List.getElem_take]
        exact Int.le_trans (Int.le_of_lt (lo2 u (by omega) (by omega))) (td y hy)
  · show (o.toList.zipIdx.foldl (fun a (x:Keyed×Nat)=>a.setIfInBounds (0+L1.flatten.length+c+x.2) x.1) (arrOf st2)).toList=_
    rw [harr]
    refine hwb.trans ?_
    rw [Nat.add_zero,lo']
    have t1:(arrOf st).toList.take (0+L1.flatten.length+c)=L1.flatten++R1.take c:=by
     rw [ea,List.append_assoc,Nat.zero_add,List.take_append,List.take_of_length_le (by omega),Nat.add_sub_cancel_left,List.take_append_of_le_length (by omega)]
    have t2:(arrOf st).toList.drop (0+L1.flatten.length+c+(R1.length - c+d))=R2.drop d++(L2.flatten++rest):=by
     rw [eb,List.append_assoc,show 0+L1.flatten.length+c+(R1.length - c+d)=(L1.flatten++R1).length+d by rw [List.length_append];omega,drop_pre,List.drop_append_of_le_length (by omega)]
    rw [t1,t2]
    simp only [List.flatten_append,List.flatten_cons,List.append_assoc]
  · show PM (pendingOf st2).toList _ _
    rw [sm.pend]
    refine pmR _ ?_
    rw [List.length_append,List.length_append,List.length_take,List.length_drop,lo']
    omega
 by_cases c3:R1.length - c≤d
 · rw [if_pos c3]
   exact wpS_bind (s_mlo hk Ix Iy Sx Sy (by omega) (by omega) h0 hl fun o st2 sm me=>fin o st2 sm me)
 · rw [if_neg c3]
   exact wpS_bind (s_mhi hk Ix Iy Sx Sy (by omega) (by omega) h0 hl fun o st2 sm me=>fin o st2 sm me)
end
open PyProof.Rows hiding K SortedTo K_bubble K_mirror K_congr K_mirror_equal
variable [KV]
structure SX (a₀:Array Keyed) (lo:Nat) (st₀ st:SortSt):Prop where
 perm:(arrOf st).Perm a₀
 kind:kindOf st=KV.kind
 fail:failedOf st=none
 pend:pendingOf st=pendingOf st₀
 pre:∀ k,k<lo→(arrOf st)[k]? = a₀[k]?
theorem SX.size {a₀:Array Keyed} {lo:Nat} {st₀ st:SortSt} (h:SX a₀ lo st₀ st):(arrOf st).size=a₀.size:=h.perm.size_eq
theorem SX.setA {a₀:Array Keyed} {lo:Nat} {st₀ st:SortSt} (h:SX a₀ lo st₀ st) {xs:Array Keyed} (hp:xs.Perm (arrOf st)) (he:∀ k,k<lo→xs[k]? = (arrOf st)[k]?):SX a₀ lo st₀ (setArr st xs):=
 ⟨hp.trans h.perm,h.kind,h.fail,h.pend,fun k hk=>(he k hk).trans (h.pre k hk)⟩
def SrtL (xs:Array Keyed) (lo n:Nat):Prop:=∀ i j,i≤j→j<n→K xs (lo+i)≤K xs (lo+j)
def NonL (xs:Array Keyed) (lo n:Nat):Prop:=∀ i j,i≤j→j<n→K xs (lo+j)≤K xs (lo+i)
section
variable {prog:Program} {w:World} {A:Around} {E:Value→Shared→Prop} {a₀:Array Keyed} {lo:Nat} {st₀:SortSt}
theorem sx_lt {st:SortSt} {i j:Nat} {Q:Option Bool→SortSt→Prop} (hX:SX a₀ lo st₀ st) (h0:AllI a₀) (hi:i<a₀.size) (hj:j<a₀.size) (h:Q (some (decide (K (arrOf st) i<K (arrOf st) j))) st):wpS (model prog w) A E KV.sh (ltAt' i j) Q st:=by
 have get:∀ k,k<a₀.size→∃ p,(arrOf st)[k]? = some p∧IsI p:=fun k hk=>by
  have hk':k<(arrOf st).size:=by rw [hX.size];exact hk
  have hm:(arrOf st)[k]∈a₀.toList:=(Array.perm_iff_toList_perm.mp hX.perm).mem_iff.mp (by simp)
  exact ⟨_,getElem?_pos (arrOf st) k hk',h0 _ hm⟩
 obtain ⟨p,e1,g1⟩:=get i hi
 obtain ⟨q,e2,g2⟩:=get j hj
 rw [K_of e1,K_of e2] at h
 rw [ltAt'_eq]
 exact wpS_bind (wpS_get (wpS_bind (s_elem e1 (wpS_bind (s_elem e2 (s_lt hX.kind g1 g2 h))))))
theorem sx_mirror {st:SortSt} {i j:Nat} (hX:SX a₀ lo st₀ st) (hi:lo≤i) (hj:j≤a₀.size):SX a₀ lo st₀ (setArr st (mirror (arrOf st) i j ((j - i) / 2))):=
 hX.setA (mirror_perm _ _ _ _) fun k hk=>by
  rw [getElem?_mirror_all (by rw [hX.size];exact hj),if_neg (by omega)]
theorem s_bin {st:SortSt} {n ok:Nat} {Q:Bool→SortSt→Prop} (h0:AllI a₀) (hn:lo+n≤a₀.size) (hok:ok≤n) (hX:SX a₀ lo st₀ st) (hs:SrtL (arrOf st) lo ok)
 (h:∀ st',SX a₀ lo st₀ st'→SrtL (arrOf st') lo n→Q true st'):wpS (model prog w) A E KV.sh (binarySort' lo n ok) Q st:=by
 rw [binarySort'_eq]
 refine wpS_bind (wpS_mono (wpS_forRange (I:=fun k c z=>c=(none,())∧SX a₀ lo st₀ z∧SrtL (arrOf z) lo (min k n)) (Q:=fun c z=>c=(none,())∧SX a₀ lo st₀ z∧SrtL (arrOf z) lo n) ?st1 ?fi1 ?in1) ?po1)
 case po1=>rintro c z ⟨rfl,zX,zs⟩;exact wpS_pure (h z zX zs)
 case in1=>
  refine ⟨rfl,hX,fun i j hij hj=>?_⟩
  by_cases h1:ok=0
  · have:i=j:=by omega
    subst this;exact Int.le_refl _
  · exact hs i j hij (by omega)
 case fi1=>
  rintro c z ⟨hc,zX,zs⟩
  refine ⟨hc,zX,?_⟩
  rwa [show min (max (max ok 1) n) n=n by omega] at zs
 case st1=>
  rintro k c z hak hkn ⟨rfl,zX,zs⟩
  rw [show min k n=k by omega] at zs
  refine wpS_bind (wpS_mono (wpS_forRange (I:=fun x c v=>z=v∧∃ l r,c=(none,l,r)∧l≤r∧r≤k∧r - l≤k - x∧(∀ i,i<l→K (arrOf z) (lo+i)≤K (arrOf z) (lo+k))∧(∀ i,r≤i→i<k→K (arrOf z) (lo+k)<K (arrOf z) (lo+i)))
   (Q:=fun c v=>z=v∧∃ l r,c=(none,l,r)∧l≤k∧(∀ i,i<l→K (arrOf z) (lo+i)≤K (arrOf z) (lo+k))∧(∀ i,l≤i→i<k→K (arrOf z) (lo+k)<K (arrOf z) (lo+i))) ?ist ?ifi ⟨rfl,0,k,rfl,by omega,by omega,by omega,fun i hi=>by omega,fun i g1 g2=>by omega⟩) ?ipo)
  case ifi=>
   rintro c v ⟨rfl,l,r,rfl,hlr,hrk,hm,hlo,hhi⟩
   have:l=r:=by omega
   subst this
   exact ⟨rfl,l,l,rfl,hrk,hlo,hhi⟩
  case ist=>
   rintro x c v _ hxk ⟨rfl,l,r,rfl,hlr,hrk,hm,hlo,hhi⟩
   dsimp only
   by_cases hge:l≥r
   · rw [if_pos hge]
     have:l=r:=by omega
     subst this
     exact wpS_pure ⟨rfl,l,l,rfl,hrk,hlo,hhi⟩
   · rw [if_neg hge]
     refine wpS_bind (sx_lt zX h0 (by omega) (by omega) ?_)
     by_cases hz:K (arrOf z) (lo+k)<K (arrOf z) (lo+(l+r) / 2)
     · simp only [hz,decide_true,if_true]
       exact wpS_pure ⟨rfl,l,(l+r) / 2,rfl,by omega,by omega,by omega,hlo,fun i g1 g2=>Int.lt_of_lt_of_le hz (zs _ _ g1 g2)⟩
     · simp only [hz,decide_false,Bool.false_eq_true,if_false]
       exact wpS_pure ⟨rfl,(l+r) / 2+1,r,rfl,by omega,by omega,by omega,fun i g1=>Int.le_trans (zs i ((l+r) / 2) (by omega) (by omega)) (Int.not_lt.mp hz),hhi⟩
  case ipo=>
   rintro c v ⟨rfl,l,r,rfl,hlk,hlo,hhi⟩
   show wpS _ _ _ _ (do moveDown' (lo+k) (lo+l);pure (ForInStep.yield (none,()))) _ _
   rw [moveDown'_eq]
   have hks:lo+k<(arrOf z).size:=by rw [zX.size];omega
   have hd:lo+k - (lo+k - (lo+l))=lo+l:=by omega
   refine wpS_bind (wpS_modify (wpS_pure ⟨rfl,zX.setA (bubble_perm _ _ _) fun q hq=>?_,?_⟩))
   · rw [getElem?_bubble hks _ (by omega),hd,if_neg (by omega),if_neg (by omega)]
   · rw [show min (k+1) n=k+1 by omega]
     intro i j hij hj
     show K (bubble (arrOf z) (lo+k) (lo+k - (lo+l))) (lo+i)≤K (bubble (arrOf z) (lo+k) (lo+k - (lo+l))) (lo+j)
     rw [K_bubble hks (by omega),K_bubble hks (by omega),hd]
     have back:∀ q,0<q→lo+q - 1=lo+(q - 1):=fun q hq=>by omega
     repeat' split
     all_goals first
      | (exfalso;omega)
      | exact Int.le_refl _
      | exact hlo _ (by omega)
      | (rw [back j (by omega)];exact Int.le_of_lt (hhi _ (by omega) (by omega)))
      | exact Int.le_of_lt (hhi _ (by omega) (by omega))
      | (rw [back i (by omega),back j (by omega)];exact zs _ _ (by omega) (by omega))
      | (rw [back i (by omega)];exact zs _ _ (by omega) (by omega))
      | (rw [back j (by omega)];exact zs _ _ (by omega) (by omega))
      | exact zs _ _ (by omega) (by omega)
end
open PyProof.Rows hiding K SortedTo K_bubble K_mirror K_congr K_mirror_equal
variable [KV]
def upL (lo a m:Nat):StateT SortSt Sem (Option (Option Nat)×Nat):=
 forIn [a:m] ((none,a):Option (Option Nat)×Nat) fun _ c=>do
  let t ← ltAt' (lo+c.snd) (lo+c.snd - 1)
  match t with
  | some b=>if b=true then pure (.done (none,c.snd)) else pure (.yield (none,c.snd+1))
  | _=>pure (.done (some none,c.snd))
def dnL (lo a m:Nat):StateT SortSt Sem (Option (Option Nat)×Nat×Nat):=
 forIn [a:m] ((none,a,0):Option (Option Nat)×Nat×Nat) fun _ c=>do
  let t ← ltAt' (lo+c.snd.fst) (lo+c.snd.fst - 1)
  match t with
  | some b=>
    if b=true then
     if c.snd.snd > 0 then do
      reverseSlice' (lo+c.snd.fst - (c.snd.snd+1)) (lo+c.snd.fst)
      pure (.yield (none,c.snd.fst+1,0))
     else pure (.yield (none,c.snd.fst+1,0))
    else do
     let u ← ltAt' (lo+c.snd.fst - 1) (lo+c.snd.fst)
     match u with
     | some d=>if d=true then pure (.done (none,c.snd.fst,c.snd.snd)) else pure (.yield (none,c.snd.fst+1,c.snd.snd+1))
     | _=>pure (.done (some none,c.snd.fst,c.snd.snd))
  | _=>pure (.done (some none,c.snd.fst,c.snd.snd))
def enL (lo a m:Nat):StateT SortSt Sem (Option Nat):=do
 reverseSlice' lo (lo+a)
 let c ← upL lo a m
 match c.fst with
 | some r=>pure r
 | none=>pure (some c.snd)
def faL (lo a m:Nat):StateT SortSt Sem (Option Nat):=do
 liftM (rule "list.sort.descending-run")
 let c ← dnL lo (a+1) m
 match c.fst with
 | some r=>pure r
 | none=>
   if c.snd.snd > 0 then do
    reverseSlice' (lo+c.snd.fst - (c.snd.snd+1)) (lo+c.snd.fst)
    enL lo c.snd.fst m
   else enL lo c.snd.fst m
theorem run_eq (lo m:Nat):countRun' lo m=(do
 let c ← upL lo 1 m
 match c.fst with
 | some r=>pure r
 | none=>
   if (c.snd == m)=true then pure (some c.snd)
   else if c.snd > 1 then do
    let t ← ltAt' lo (lo+c.snd - 1)
    match t with
    | some b=>if b=true then pure (some c.snd) else do
     reverseSlice' lo (lo+c.snd)
     faL lo c.snd m
    | _=>pure none
   else faL lo c.snd m):=by
 rw [countRun'_eq]
 dsimp only
 unfold faL enL dnL upL
 congr 1
 funext c
 obtain ⟨r,k⟩:=c
 cases r with
 | some r=>rfl
 | none=>
   dsimp only
   split
   · rfl
   · split
     · congr 1
       funext t
       cases t with
       | none=>rfl
       | some b=>
         dsimp only
         split
         · rfl
         · congr 1
           funext _y
           congr 1
           funext _x
           congr 1
           congr 1
           funext y
           obtain ⟨r,k,q⟩:=y
           cases r with
           | some r=>rfl
           | none=>
             dsimp only
             split
             · congr 1
               funext _z
               congr 1
               funext _x
               congr 1
               funext y
               obtain ⟨r,k⟩:=y
               cases r <;> rfl
             · congr 1
               funext _x
               congr 1
               funext y
               obtain ⟨r,k⟩:=y
               cases r <;> rfl
     · skip
       congr 1
       funext _x
       congr 1
       congr 1
       funext y
       obtain ⟨r,k,q⟩:=y
       cases r with
       | some r=>rfl
       | none=>
         dsimp only
         split
         · congr 1
           funext _z
           congr 1
           funext _x
           congr 1
           funext y
           obtain ⟨r,k⟩:=y
           cases r <;> rfl
         · congr 1
           funext _x
           congr 1
           funext y
           obtain ⟨r,k⟩:=y
           cases r <;> rfl
section
variable {prog:Program} {w:World} {A:Around} {E:Value→Shared→Prop} {a₀:Array Keyed} {lo:Nat} {st₀:SortSt}
theorem s_rev {st:SortSt} {i j:Nat} {Q:Unit→SortSt→Prop} (h:Q () (setArr st (mirror (arrOf st) i j ((j - i) / 2)))):wpS (model prog w) A E KV.sh (reverseSlice' i j) Q st:=by
 rw [reverseSlice'_eq]
 exact wpS_modify h
theorem back1 {lo x:Nat} (h:1≤x):lo+x - 1=lo+(x - 1):=by omega
theorem s_up {st:SortSt} {a m:Nat} {Q:Option (Option Nat)×Nat→SortSt→Prop} (h0:AllI a₀) (hm:lo+m≤a₀.size) (ha:1≤a) (ham:a≤m) (hX:SX a₀ lo st₀ st)
 (hs:SrtL (arrOf st) lo a)
 (h:∀ n,a≤n→n≤m→SrtL (arrOf st) lo n→(n=m∨K (arrOf st) (lo+n)<K (arrOf st) (lo+(n - 1)))→Q (none,n) st):wpS (model prog w) A E KV.sh (upL lo a m) Q st:=by
 unfold upL
 refine wpS_forRange (I:=fun x c v=>st=v∧c=(none,x)∧SrtL (arrOf st) lo x) ?s1 ?f1 ⟨rfl,rfl,hs⟩
 case f1=>
  rintro c v ⟨rfl,rfl,g⟩
  rw [show max a m=m by omega] at g ⊢
  exact h m ham (Nat.le_refl _) g (.inl rfl)
 case s1=>
  rintro x c v hax hxm ⟨rfl,rfl,g⟩
  dsimp only
  rw [back1 (by omega)]
  refine wpS_bind (sx_lt hX h0 (by omega) (by omega) ?_)
  by_cases hl:K (arrOf st) (lo+x)<K (arrOf st) (lo+(x - 1))
  · simp only [hl,decide_true,if_true]
    exact wpS_pure (h x hax (by omega) g (.inr hl))
  · simp only [hl,decide_false,Bool.false_eq_true,if_false]
    refine wpS_pure ⟨rfl,rfl,fun i j hij hj=>?_⟩
    rcases Nat.lt_or_ge j x with q | q
    · exact g i j hij q
    · obtain rfl:j=x:=by omega
      rcases Nat.eq_or_lt_of_le hij with rfl | q2
      · exact Int.le_refl _
      · exact Int.le_trans (g i (j - 1) (by omega) (by omega)) (Int.not_lt.mp hl)
theorem s_en {st:SortSt} {a m:Nat} {Q:Option Nat→SortSt→Prop} (h0:AllI a₀) (hm:lo+m≤a₀.size) (ha:1≤a) (ham:a≤m) (hX:SX a₀ lo st₀ st)
 (hs:NonL (arrOf st) lo a) (h:∀ n v,SX a₀ lo st₀ v→1≤n→n≤m→SrtL (arrOf v) lo n→Q (some n) v):wpS (model prog w) A E KV.sh (enL lo a m) Q st:=by
 unfold enL
 have hz:lo+a≤(arrOf st).size:=by rw [hX.size];omega
 refine wpS_bind (s_rev ?_)
 have hX':=sx_mirror (i:=lo) (j:=lo+a) hX (Nat.le_refl _) (by omega)
 refine wpS_bind (s_up h0 hm ha ham hX' ?_ fun n g1 g2 g3 _=>wpS_pure (h n _ hX' (by omega) g2 g3))
 intro i j hij hj
 show K (mirror (arrOf st) lo (lo+a) ((lo+a - lo) / 2)) _≤K (mirror (arrOf st) lo (lo+a) ((lo+a - lo) / 2)) _
 rw [K_mirror hz,K_mirror hz,if_pos (by omega),if_pos (by omega),show lo+(lo+a) - 1 - (lo+i)=lo+(a - 1 - i) by omega,show lo+(lo+a) - 1 - (lo+j)=lo+(a - 1 - j) by omega]
 exact hs _ _ (by omega) (by omega)
def Alike (xs:Array Keyed) (lo n q:Nat):Prop:=∀ i,lo+n - (q+1)≤i→i<lo+n→K xs i=K xs (lo+n - 1)
theorem alike0 {xs:Array Keyed} {n:Nat} (h:1≤n):Alike xs lo n 0:=fun i a b=>by
 obtain rfl:i=lo+n - 1:=by omega
 rfl
theorem s_dn {st:SortSt} {a m:Nat} {Q:Option (Option Nat)×Nat×Nat→SortSt→Prop} (h0:AllI a₀) (hm:lo+m≤a₀.size) (ha:1≤a) (ham:a≤m) (hX:SX a₀ lo st₀ st)
 (hs:NonL (arrOf st) lo a)
 (h:∀ n q v,SX a₀ lo st₀ v→a≤n→n≤m→NonL (arrOf v) lo n→q+1≤n→Alike (arrOf v) lo n q→Q (none,n,q) v):wpS (model prog w) A E KV.sh (dnL lo a m) Q st:=by
 unfold dnL
 refine wpS_forRange (I:=fun x c v=>∃ q,c=(none,x,q)∧SX a₀ lo st₀ v∧NonL (arrOf v) lo x∧q+1≤x∧Alike (arrOf v) lo x q) ?s1 ?f1 ⟨0,rfl,hX,hs,by omega,alike0 ha⟩
 case f1=>
  rintro c v ⟨q,rfl,vX,vs,vq,va⟩
  rw [show max a m=m by omega] at vs vq va ⊢
  exact h m q v vX ham (Nat.le_refl _) vs vq va
 case s1=>
  rintro x c v hax hxm ⟨q,rfl,vX,vs,vq,va⟩
  dsimp only
  have hz:lo+x≤(arrOf v).size:=by rw [vX.size];omega
  have grow:∀ xs:Array Keyed,(∀ k,K xs k=K (arrOf v) k)→K (arrOf v) (lo+x)≤K (arrOf v) (lo+(x - 1))→NonL xs lo (x+1):=by
   intro xs hk hl i j hij hj
   rw [hk,hk]
   rcases Nat.lt_or_ge j x with g | g
   · exact vs i j hij g
   · obtain rfl:j=x:=by omega
     rcases Nat.eq_or_lt_of_le hij with rfl | g2
     · exact Int.le_refl _
     · exact Int.le_trans hl (vs i (j - 1) (by omega) (by omega))
  rw [back1 (by omega)]
  refine wpS_bind (sx_lt vX h0 (by omega) (by omega) ?_)
  by_cases hl:K (arrOf v) (lo+x)<K (arrOf v) (lo+(x - 1))
  · simp only [hl,decide_true,if_true]
    by_cases hq:q > 0
    · rw [if_pos hq]
      exact wpS_bind (s_rev (wpS_pure ⟨0,rfl,sx_mirror vX (by omega) (by omega),grow _ (K_mirror_equal hz va) (Int.le_of_lt hl),by omega,alike0 (by omega)⟩))
    · rw [if_neg hq]
      exact wpS_pure ⟨0,rfl,vX,grow _ (fun _=>rfl) (Int.le_of_lt hl),by omega,alike0 (by omega)⟩
  · simp only [hl,decide_false,Bool.false_eq_true,if_false]
    refine wpS_bind (sx_lt vX h0 (by omega) (by omega) ?_)
    by_cases hg:K (arrOf v) (lo+(x - 1))<K (arrOf v) (lo+x)
    · simp only [hg,decide_true,if_true]
      exact wpS_pure (h x q v vX hax (by omega) vs vq va)
    · simp only [hg,decide_false,Bool.false_eq_true,if_false]
      have he:K (arrOf v) (lo+x)=K (arrOf v) (lo+(x - 1)):=by omega
      refine wpS_pure ⟨q+1,rfl,vX,grow _ (fun _=>rfl) (by omega),by omega,fun i g1 g2=>?_⟩
      rw [show lo+(x+1) - 1=lo+x by omega]
      by_cases hi:i=lo+x
      · rw [hi]
      · rw [he,← back1 (by omega)]
        exact va i (by omega) (by omega)
theorem s_fa {st:SortSt} {a m:Nat} {Q:Option Nat→SortSt→Prop} (h0:AllI a₀) (hm:lo+m≤a₀.size) (ham:a+1≤m) (hX:SX a₀ lo st₀ st)
 (hs:NonL (arrOf st) lo (a+1)) (h:∀ n v,SX a₀ lo st₀ v→1≤n→n≤m→SrtL (arrOf v) lo n→Q (some n) v):wpS (model prog w) A E KV.sh (faL lo a m) Q st:=by
 unfold faL
 refine wpS_bind (wpS_lift (wpAny_rule ⟨rfl,?_⟩))
 refine wpS_bind (s_dn h0 hm (by omega) ham hX hs fun n q v vX g1 g2 vs vq va=>?_)
 dsimp only
 have hz:lo+n≤(arrOf v).size:=by rw [vX.size];omega
 by_cases hq:q > 0
 · rw [if_pos hq]
   refine wpS_bind (s_rev (s_en h0 hm (by omega) g2 (sx_mirror vX (by omega) (by omega)) ?_ h))
   intro i j hij hj
   show K (mirror (arrOf v) _ _ _) _≤K (mirror (arrOf v) _ _ _) _
   rw [K_mirror_equal hz va,K_mirror_equal hz va]
   exact vs i j hij hj
 · rw [if_neg hq]
   exact s_en h0 hm (by omega) g2 vX vs h
theorem s_run {st:SortSt} {m:Nat} {Q:Option Nat→SortSt→Prop} (h0:AllI a₀) (hm:lo+m≤a₀.size) (h1:1≤m) (hX:SX a₀ lo st₀ st)
 (h:∀ n v,SX a₀ lo st₀ v→1≤n→n≤m→SrtL (arrOf v) lo n→Q (some n) v):wpS (model prog w) A E KV.sh (countRun' lo m) Q st:=by
 rw [run_eq]
 have one:SrtL (arrOf st) lo 1:=fun i j hij hj=>by
  obtain rfl:i=j:=by omega
  exact Int.le_refl _
 refine wpS_bind (s_up h0 hm (Nat.le_refl 1) h1 hX one fun n g1 g2 gs go=>?_)
 dsimp only
 by_cases hn:n=m
 · rw [if_pos (by simpa using hn)]
   exact wpS_pure (h n st hX g1 g2 gs)
 · rw [if_neg (by simpa using hn)]
   have hl:=go.resolve_left hn
   by_cases hg:n > 1
   · rw [if_pos hg]
     rw [back1 (by omega)]
     refine wpS_bind (sx_lt (i:=lo) hX h0 (by omega) (by omega) ?_)
     by_cases hr:K (arrOf st) lo<K (arrOf st) (lo+(n - 1))
     · simp only [hr,decide_true,if_true]
       exact wpS_pure (h n st hX g1 g2 gs)
     · simp only [hr,decide_false,Bool.false_eq_true,if_false]
       have hz:lo+n≤(arrOf st).size:=by rw [hX.size];omega
       have al:∀ k,lo≤k→k<lo+n→K (arrOf st) k=K (arrOf st) (lo+n - 1):=by
        intro k k1 k2
        obtain ⟨d,rfl⟩:=Nat.exists_eq_add_of_le k1
        have e1:=gs 0 d (by omega) (by omega)
        have e2:=gs d (n - 1) (by omega) (by omega)
        rw [back1 (by omega)]
        rw [Nat.add_zero] at e1
        omega
       refine wpS_bind (s_rev (s_fa h0 hm (by omega) (sx_mirror hX (Nat.le_refl _) (by omega)) ?_ h))
       intro i j hij hj
       show K (mirror (arrOf st) _ _ _) _≤K (mirror (arrOf st) _ _ _) _
       rw [K_mirror_equal hz al,K_mirror_equal hz al]
       rcases Nat.lt_or_ge j n with q | q
       · rw [al (lo+i) (by omega) (by omega),al (lo+j) (by omega) (by omega)]
         exact Int.le_refl _
       · obtain rfl:j=n:=by omega
         rcases Nat.eq_or_lt_of_le hij with rfl | q2
         · exact Int.le_refl _
         · rw [al (lo+i) (by omega) (by omega),back1 (by omega)]
           exact Int.le_of_lt hl
   · rw [if_neg hg]
     obtain rfl:n=1:=by omega
     refine s_fa h0 hm (by omega) hX ?_ h
     intro i j hij hj
     rcases Nat.eq_or_lt_of_le hij with rfl | q2
     · exact Int.le_refl _
     · obtain rfl:i=0:=by omega
       obtain rfl:j=1:=by omega
       exact Int.le_of_lt hl
end
open PyProof.Rows hiding K SortedTo K_bubble K_mirror K_congr K_mirror_equal
variable [KV]
structure RS (a₀:Array Keyed) (st:SortSt) (Ls:List (List Keyed)) (rest:List Keyed):Prop where
 kind:kindOf st=KV.kind
 fail:failedOf st=none
 perm:(arrOf st).Perm a₀
 arr:(arrOf st).toList=Ls.flatten++rest
 pm:PM (pendingOf st).toList Ls 0
 runs:∀ R∈Ls,R≠[]∧R.Pairwise Le
theorem AllI.perm {xs ys:Array Keyed} (h:AllI xs) (p:ys.Perm xs):AllI ys:=fun q hq=>h q ((Array.perm_iff_toList_perm.mp p).mem_iff.mp hq)
theorem PM.alter:∀ {ps:List (Nat×Nat×Nat)} {ls:List (List Keyed)} {lo:Nat} (k:Nat) {f:Nat×Nat×Nat→Nat×Nat×Nat},(∀ p,(f p).1=p.1∧(f p).2.1=p.2.1)→PM ps ls lo→PM (ps.modify k f) ls lo
 | [],[],_,k,f,_,_=>by cases k <;> trivial
 | p::r,l::ls,lo,0,f,hf,h=>by
   show PM (f p::r) (l::ls) lo
   exact ⟨(hf p).1.trans h.1,(hf p).2.trans h.2.1,h.2.2⟩
 | p::r,l::ls,lo,k+1,f,hf,h=>by
   show PM (p::r.modify k f) (l::ls) lo
   exact ⟨h.1,h.2.1,PM.alter k hf h.2.2⟩
 | [],_::_,_,_,_,_,h=>h.elim
 | _::_,[],_,_,_,_,h=>h.elim
theorem PM.snoc:∀ {ps:List (Nat×Nat×Nat)} {ls:List (List Keyed)} {lo:Nat} {R:List Keyed} {k n:Nat},PM ps ls lo→k=lo+ls.flatten.length→n=R.length→PM (ps++[(k,n,0)]) (ls++[R]) lo
 | [],[],lo,R,k,n,_,e,e2=>⟨by simpa using e,e2,trivial⟩
 | p::r,l::ls,lo,R,k,n,h,e,e2=>by
   refine ⟨h.1,h.2.1,PM.snoc h.2.2 ?_ e2⟩
   rw [e,List.flatten_cons,List.length_append,Nat.add_assoc]
 | [],_::_,_,_,_,_,h,_,_=>h.elim
 | _::_,[],_,_,_,_,h,_,_=>h.elim
section
variable {prog:Program} {w:World} {A:Around} {E:Value→Shared→Prop} {a₀:Array Keyed}
theorem s_join {st:SortSt} {Ls:List (List Keyed)} {rest:List Keyed} {i:Nat} {Q:Bool→SortSt→Prop} (h0:AllI a₀) (r:RS a₀ st Ls rest) (hi:i+1<Ls.length)
 (h:∀ v Ms,RS a₀ v Ms rest→Ms.length+1=Ls.length→Ms.flatten.length=Ls.flatten.length→Q true v):wpS (model prog w) A E KV.sh (mergeAt' i) Q st:=by
 obtain ⟨L1,R1,R2,L2,rfl,rfl⟩:∃ L1 R1 R2 L2,Ls=L1++R1::R2::L2∧i=L1.length:=by
  refine ⟨Ls.take i,Ls[i],Ls[i+1],Ls.drop (i+2),?_,by rw [List.length_take];omega⟩
  rw [← List.drop_eq_getElem_cons hi,← List.drop_eq_getElem_cons (by omega),List.take_append_drop]
 have m1:=r.runs R1 (by simp)
 have m2:=r.runs R2 (by simp)
 rw [mat_is]
 refine s_mat r.kind r.fail (h0.perm r.perm) r.arr r.pm m1.1 m2.1 m1.2 m2.2 fun v R hk hp hs ha hpm=>?_
 have hl:=hp.length_eq
 rw [List.length_append] at hl
 refine h v (L1++R::L2) ⟨hk.kind.trans r.kind,hk.fail.trans r.fail,?_,ha,hpm,?_⟩ (by simp;omega) ?_
 · refine Array.Perm.trans ?_ r.perm
   rw [Array.perm_iff_toList_perm,ha,r.arr]
   refine List.Perm.append_right _ ?_
   rw [List.flatten_append,List.flatten_append,List.flatten_cons,List.flatten_cons,List.flatten_cons,← List.append_assoc R1]
   exact List.Perm.append_left _ (List.Perm.append_right _ hp)
 · intro T hT
   rcases List.mem_append.mp hT with g | g
   · exact r.runs T (by simp [g])
   · rcases List.mem_cons.mp g with rfl | g
     · refine ⟨fun e=>?_,hs⟩
       rw [e] at hl
       have:=List.length_pos_iff.mpr m1.1
       simp at hl
       omega
     · exact r.runs T (by simp [g])
 · simp only [List.flatten_append,List.flatten_cons,List.length_append]
   omega
theorem many_runs:∀ {Ls:List (List Keyed)},(∀ R∈Ls,R≠[]∧R.Pairwise Le)→Ls.length≤Ls.flatten.length
 | [],_=>Nat.le_refl _
 | R::Ls,h=>by
   have:=many_runs (Ls:=Ls) fun T hT=>h T (List.mem_cons_of_mem _ hT)
   have:=List.length_pos_iff.mpr (h R (by simp)).1
   rw [List.length_cons,List.flatten_cons,List.length_append]
   omega
theorem RS.psize {st:SortSt} {Ls:List (List Keyed)} {rest:List Keyed} (r:RS a₀ st Ls rest):(pendingOf st).size=Ls.length:=by
 rw [← Array.length_toList];exact r.pm.len
theorem RS.total {st:SortSt} {Ls:List (List Keyed)} {rest:List Keyed} (r:RS a₀ st Ls rest):Ls.flatten.length+rest.length=a₀.size:=by
 rw [← List.length_append,← r.arr,Array.length_toList,r.perm.size_eq]
theorem RS.cut {st v:SortSt} {Ls:List (List Keyed)} {rest:List Keyed} {n:Nat} (r:RS a₀ st Ls rest) (x:SX (arrOf st) Ls.flatten.length st v) (hn:Ls.flatten.length+n≤a₀.size) (hs:SrtL (arrOf v) Ls.flatten.length n) :
 ∃ R rest',R.length=n∧R.Pairwise Le∧RS a₀ v Ls (R++rest'):=by
 have hz:(arrOf v).toList.length=a₀.size:=by rw [Array.length_toList,x.size,r.perm.size_eq]
 have ht:(arrOf v).toList.take Ls.flatten.length=Ls.flatten:=by
  have e:(arrOf v).toList.take Ls.flatten.length=(arrOf st).toList.take Ls.flatten.length:=by
   refine List.ext_getElem? fun k=>?_
   rw [List.getElem?_take,List.getElem?_take]
   split
   · rename_i g
     rw [Array.getElem?_toList,Array.getElem?_toList]
     exact x.pre k g
   · rfl
  rw [e,r.arr,List.take_left]
 refine ⟨((arrOf v).toList.drop Ls.flatten.length).take n,((arrOf v).toList.drop Ls.flatten.length).drop n,?_,?_,x.kind,x.fail,x.perm.trans r.perm,?_,?_,r.runs⟩
 · rw [List.length_take,List.length_drop,hz];omega
 · refine List.pairwise_iff_getElem.mpr fun i j hi hj hij=>?_
   rw [List.length_take,List.length_drop,hz] at hi hj
   have:=hs i j (Nat.le_of_lt hij) (by omega)
   rw [K_at (by omega),K_at (by omega)] at this
   rw [List.getElem_take,List.getElem_take,List.getElem_drop,List.getElem_drop]
   exact this
 · rw [List.take_append_drop]
   conv=>lhs;rw [← List.take_append_drop Ls.flatten.length (arrOf v).toList,ht]
 · rw [x.pend];exact r.pm
theorem RS.add {st:SortSt} {Ls:List (List Keyed)} {R rest:List Keyed} {k n:Nat} (r:RS a₀ st Ls (R++rest)) (hR:R≠[]) (hs:R.Pairwise Le) (hk:k=Ls.flatten.length) (hn:n=R.length) :
 RS a₀ (setPending st ((pendingOf st).push (k,n,0))) (Ls++[R]) rest where
 kind:=r.kind
 fail:=r.fail
 perm:=r.perm
 arr:=by show (arrOf st).toList=_;rw [r.arr];simp
 pm:=by
  show PM ((pendingOf st).push (k,n,0)).toList _ 0
  rw [Array.toList_push]
  exact r.pm.snoc (by omega) hn
 runs:=fun T hT=>by
  rcases List.mem_append.mp hT with g | g
  · exact r.runs T g
  · rw [List.mem_singleton.mp g];exact ⟨hR,hs⟩
theorem RS.alter {st:SortSt} {Ls:List (List Keyed)} {rest:List Keyed} {k:Nat} {f:Nat×Nat×Nat→Nat×Nat×Nat} (hf:∀ p,(f p).1=p.1∧(f p).2.1=p.2.1) (r:RS a₀ st Ls rest) :
 RS a₀ (setPending st ((pendingOf st).modify k f)) Ls rest where
 kind:=r.kind
 fail:=r.fail
 perm:=r.perm
 arr:=r.arr
 pm:=by
  show PM ((pendingOf st).modify k f).toList _ 0
  rw [Array.toList_modify]
  exact r.pm.alter k hf
 runs:=r.runs
theorem RS.sorted {st:SortSt} {Ls:List (List Keyed)} (r:RS a₀ st Ls []) (h1:Ls.length≤1):SortedTo (arrOf st) a₀.size:=by
 have hz:(arrOf st).toList.length=a₀.size:=by rw [Array.length_toList,r.perm.size_eq]
 have hp:(arrOf st).toList.Pairwise Le:=by
  rw [r.arr]
  match Ls,h1,r.runs with
  | [],_,_=>simp
  | [R],_,g=>simpa using (g R (by simp)).2
 intro i j hij hj
 rw [K_at (by omega),K_at (by omega)]
 rcases Nat.eq_or_lt_of_le hij with e | e
 · subst e;exact Int.le_refl _
 · exact List.pairwise_iff_getElem.mp hp i j (by omega) (by omega) e
end
open PyProof.Rows hiding K SortedTo K_bubble K_mirror K_congr K_mirror_equal
variable [KV]
section
variable {prog:Program} {w:World} {A:Around} {E:Value→Shared→Prop} {a₀:Array Keyed}
def putRun (sz lo n:Nat):StateT SortSt Sem (ForInStep (Option Unit×Nat)):=do
 let z ← get
 match (pendingOf z).back? with
 | some (p,k,_)=>do
   let c ← forIn [0:sz] ((none,()):Option Unit×Unit) fun _ _=>do
    let z ← get
    match if (pendingOf z).size > 1 then (pendingOf z)[(pendingOf z).size - 2]? else none with
    | some (_,_,o)=>
      if o≤power' sz (2*p+k) (2*p+k+k+n) sz then pure (.done (none,()))
      else do
       let b ← mergeAt' ((pendingOf z).size - 2)
       if (!b)=true then pure (.done (some (),())) else pure (.yield (none,()))
    | _=>pure (.done (none,()))
   match c.fst with
   | some r=>pure (.done (some r,lo))
   | none=>do
     modify fun s=>setPending s ((pendingOf s).modify ((pendingOf s).size - 1) fun x=>(x.fst,x.2.fst,power' sz (2*p+k) (2*p+k+k+n) sz))
     modify fun s=>setPending s ((pendingOf s).push (lo,n,0))
     pure (.yield (none,lo+n))
 | _=>do
   modify fun s=>setPending s ((pendingOf s).push (lo,n,0))
   pure (.yield (none,lo+n))
theorem s_put {st:SortSt} {Ls:List (List Keyed)} {R rest:List Keyed} {sz lo n:Nat} {Q:ForInStep (Option Unit×Nat)→SortSt→Prop} (h0:AllI a₀) (r:RS a₀ st Ls (R++rest)) (hlo:lo=Ls.flatten.length) (hn:n=R.length) (hR:R≠[]) (hs:R.Pairwise Le)
 (h:∀ v Ms,RS a₀ v Ms rest→Ms.flatten.length=lo+n→Q (.yield (none,lo+n)) v):wpS (model prog w) A E KV.sh (putRun sz lo n) Q st:=by
 unfold putRun
 refine wpS_bind (wpS_get ?_)
 have fin:∀ {v:SortSt} {Ms:List (List Keyed)},RS a₀ v Ms (R++rest)→Ms.flatten.length=lo→Q (.yield (none,lo+n)) (setPending v ((pendingOf v).push (lo,n,0))):=fun {v Ms} g e=>
  h _ (Ms++[R]) (g.add hR hs e.symm hn) (by rw [List.flatten_append,List.length_append,e,List.flatten_cons,List.flatten_nil,List.append_nil,hn])
 split
 · rename_i p k _ _
   generalize power' sz (2*p+k) (2*p+k+k+n) sz=pw
   refine wpS_bind (wpS_mono (wpS_forRange (I:=fun x c v=>c=(none,())∧∃ Ms,RS a₀ v Ms (R++rest)∧Ms.flatten.length=lo) (Q:=fun c v=>c=(none,())∧∃ Ms,RS a₀ v Ms (R++rest)∧Ms.flatten.length=lo) ?s2 (fun _ _ g=>g) ⟨rfl,Ls,r,hlo.symm⟩) ?p2)
   case p2=>
    rintro c v ⟨rfl,Ms,g,e⟩
    dsimp only
    refine wpS_bind (wpS_modify (wpS_bind (wpS_modify (wpS_pure ?_))))
    exact fin (g.alter (fun _=>⟨rfl,rfl⟩)) e
   case s2=>
    rintro x c v _ _ ⟨rfl,Ms,g,e⟩
    refine wpS_bind (wpS_get ?_)
    rw [g.psize]
    split
    · rename_i o ho
      by_cases h1:Ms.length > 1
      · by_cases h2:o≤pw
        · rw [if_pos h2]
          exact wpS_pure ⟨rfl,Ms,g,e⟩
        · rw [if_neg h2]
          refine wpS_bind (s_join h0 g (by omega) fun u Ns g2 e1 e2=>?_)
          simp only [Bool.not_true,Bool.false_eq_true,if_false]
          exact wpS_pure ⟨rfl,Ns,g2,e2.trans e⟩
      · rw [if_neg h1] at ho
        cases ho
    · exact wpS_pure ⟨rfl,Ms,g,e⟩
 · exact wpS_bind (wpS_modify (wpS_pure (fin r hlo.symm)))
theorem pick_lt {c:Bool} {m:Nat} (h:¬ m≤1):(if c=true then m - 2 - 1 else m - 2)+1<m:=by
 split <;> omega
theorem s_all {st:SortSt} {Q:Unit→SortSt→Prop} (h0:AllI a₀) (hk:kindOf st=KV.kind) (hf:failedOf st=none) (hp:arrOf st=a₀) (he:pendingOf st=#[])
 (h:∀ v,(arrOf v).Perm a₀→failedOf v=none→SortedTo (arrOf v) a₀.size→Q () v):wpS (model prog w) A E KV.sh sortRuns' Q st:=by
 rw [sortRuns'_eq]
 refine wpS_bind (wpS_get ?_)
 dsimp only
 rw [hp]
 generalize minRun' a₀.size a₀.size 0=mr
 have r0:RS a₀ st [] a₀.toList:=⟨hk,hf,by rw [hp],by rw [hp];rfl,by rw [he];trivial,fun R hR=>by cases hR⟩
 refine wpS_bind (wpS_mono (wpS_forRange (I:=fun x c z=>∃ Ls rest,c=(none,Ls.flatten.length)∧RS a₀ z Ls rest∧x≤Ls.flatten.length)
  (Q:=fun c z=>∃ Ls k,c=(none,k)∧RS a₀ z Ls []) ?s1 ?f1 ⟨[],_,rfl,r0,Nat.le_refl _⟩) ?p1)
 case f1=>
  rintro c z ⟨Ls,rest,rfl,r,hx⟩
  have:=r.total
  have e:rest=[]:=List.length_eq_zero_iff.mp (by omega)
  subst e
  exact ⟨Ls,_,rfl,r⟩
 case p1=>
  rintro c z ⟨Ls,k,rfl,r⟩
  dsimp only
  refine wpS_bind (wpS_mono (wpS_forRange (I:=fun x c v=>c=(none,())∧∃ Ms,RS a₀ v Ms []∧Ms.length+x≤a₀.size) (Q:=fun c v=>c=(none,())∧∃ Ms,RS a₀ v Ms []∧Ms.length≤1) ?s2 ?f2 ?i2) ?p2)
  case i2=>
   have e1:=many_runs r.runs
   have e2:=r.total
   exact ⟨rfl,Ls,r,by simp only [List.length_nil] at e2;omega⟩
  case f2=>
   rintro c v ⟨rfl,Ms,g,hl⟩
   exact ⟨rfl,Ms,g,by omega⟩
  case p2=>
   rintro c v ⟨rfl,Ms,g,hl⟩
   exact wpS_pure (h v g.perm g.fail (g.sorted hl))
  case s2=>
   rintro x c v _ hx ⟨rfl,Ms,g,hl⟩
   refine wpS_bind (wpS_get ?_)
   rw [g.psize]
   by_cases h1:Ms.length≤1
   · rw [if_pos h1]
     exact wpS_pure ⟨rfl,Ms,g,h1⟩
   · rw [if_neg h1]
     refine wpS_bind (s_join h0 g (pick_lt h1) fun u Ns g2 e1 e2=>?_)
     simp only [Bool.not_true,Bool.false_eq_true,if_false]
     exact wpS_pure ⟨rfl,Ns,g2,by omega⟩
 case s1=>
  rintro x c z _ hx ⟨Ls,rest,rfl,r,hxl⟩
  dsimp only
  have tot:=r.total
  by_cases hge:Ls.flatten.length≥a₀.size
  · rw [if_pos hge]
    have e:rest=[]:=List.length_eq_zero_iff.mp (by omega)
    subst e
    exact wpS_pure ⟨Ls,_,rfl,r⟩
  · rw [if_neg hge]
    have hI:=h0.perm r.perm
    have hsz:=r.perm.size_eq
    have x0:SX (arrOf z) Ls.flatten.length z z:=⟨Array.Perm.refl _,r.kind,r.fail,rfl,fun _ _=>rfl⟩
    refine wpS_bind (s_run hI (by omega) (by omega) x0 fun n v vX g1 g2 gs=>?_)
    dsimp only
    refine Eq.mp (congrArg (fun p=>wpS (model prog w) A E KV.sh p _ v) (?_:(if n<mr then do
     liftM (rule "list.sort.binary-insertion")
     let b ← binarySort' Ls.flatten.length (min (a₀.size - Ls.flatten.length) mr) n
     if (!b)=true then pure (ForInStep.done (some (),Ls.flatten.length)) else putRun a₀.size Ls.flatten.length (min (a₀.size - Ls.flatten.length) mr)
     else putRun a₀.size Ls.flatten.length n)=_)) ?_
    · unfold putRun
      congr 1
      · congr 1
        funext _y
        congr 1
        funext b
        congr 1
        congr 1
        funext z
        cases (pendingOf z).back? with
        | none=>rfl
        | some t=>
          obtain ⟨p,k,o⟩:=t
          dsimp only
          congr 1
          funext c
          obtain ⟨r,_⟩:=c
          cases r <;> rfl
      · congr 1
        funext z
        cases (pendingOf z).back? with
        | none=>rfl
        | some t=>
          obtain ⟨p,k,o⟩:=t
          dsimp only
          congr 1
          funext c
          obtain ⟨r,_⟩:=c
          cases r <;> rfl
    have last:∀ {u:SortSt} {k:Nat},1≤k→k≤a₀.size - Ls.flatten.length→SX (arrOf z) Ls.flatten.length z u→SrtL (arrOf u) Ls.flatten.length k→wpS (model prog w) A E KV.sh (putRun a₀.size Ls.flatten.length k) (fun t st'=>∃ Ms rs,t=.yield (none,Ms.flatten.length)∧RS a₀ st' Ms rs∧x+1≤Ms.flatten.length) u:=fun {u k} k1 k2 uX us=>by
     obtain ⟨R,rest',e1,e2,e3⟩:=r.cut uX (by omega) us
     refine s_put h0 e3 rfl e1.symm (fun e=>by rw [e] at e1;simp at e1;omega) e2 fun v2 Ms g e=>?_
     exact ⟨Ms,rest',by rw [e],g,by omega⟩
    by_cases hm:n<mr
    · rw [if_pos hm]
      refine wpS_bind (wpS_lift (wpAny_rule ⟨rfl,?_⟩))
      refine wpS_bind (s_bin hI (by omega) (by omega) vX gs fun u uX us=>?_)
      simp only [Bool.not_true,Bool.false_eq_true,if_false]
      refine wpS_mono (last (by omega) (by omega) uX us) ?_
      rintro t u2 ⟨Ms,rs,rfl,g,e⟩
      exact ⟨Ms,rs,rfl,g,e⟩
    · rw [if_neg hm]
      refine wpS_mono (last g1 g2 vX gs) ?_
      rintro t u2 ⟨Ms,rs,rfl,g,e⟩
      exact ⟨Ms,rs,rfl,g,e⟩
end
end SRV
namespace SRT
open PySem PyProof.Rows
abbrev kvI (s:Shared):SRV.KV where
 sh:=s
 kind:=oneType'
 kv:=fun p=>numOf p.1
 good:=fun p=>∃ t,p.1=.int (numOf p.1) t
 lt:=fun {prog w A E st x y Q} hk hx hy h=>by
  obtain ⟨t,e⟩:=hx;obtain ⟨u,e'⟩:=hy
  rw [lt'_eq];refine wpS_bind (wpS_get ?_)
  rw [hk,keyLt'_oneType,e,e'];exact wpS_bind (wpS_lift (wpAny_attempt (oneLt_int ⟨rfl,wpS_pure h⟩)))
def AllI (xs:Array Keyed):Prop:=∀ p∈xs.toList,∃ t,p.1=.int (numOf p.1) t
theorem AllI.perm {xs ys:Array Keyed} (h:AllI xs) (p:ys.Perm xs):AllI ys:=fun q hq=>h q ((Array.perm_iff_toList_perm.mp p).mem_iff.mp hq)
def core (a:Addr) (e1:Nat) (ar:Array Value) (b:Bool):Sem Fin:=do
 let knd ← if ar.size<2 then pure general' else keyKind' ar
 let ((),z) ← (if ar.size<2 then pure () else sortRuns').run (SortSt.mk' knd (if b then (ar.zip ar).reverse else ar.zip ar) #[] 7 none)
 let srt:=(arrOf z).map (·.2)
 let tch:=(← seqEpoch a) != e1
 Builtin.List.listUpdate (.ref a) fun _=>if b then srt.reverse else srt
 if let some e:=failedOf z then rule "list.sort.comparison-raised";throw e
 if tch then rule "list.sort.modified";raiseError "ValueError" "list modified during sort"
 ret .none
theorem plain_core (a:Addr):Builtin.«list.sort» ⟨[.ref a],[]⟩=(do
 let ar ← Builtin.List.listItems (.ref a)
 Builtin.List.listUpdate (.ref a) fun _=>#[]
 let e1 ← seqEpoch a
 let t ← newTuple ar.toList
 let l ← newList []
 holding [t,l] (core a e1 ar false)):=by rw [list_sort_plain];rfl
theorem rev_core (a:Addr):Builtin.«list.sort» ⟨[.ref a],[(Str.ofString "reverse",.bool true)]⟩=(do
 let ar ← Builtin.List.listItems (.ref a)
 Builtin.List.listUpdate (.ref a) fun _=>#[]
 let e1 ← seqEpoch a
 let t ← newTuple ar.toList
 let l ← newList []
 holding [t,l] (do let _ ← rule "list.sort.reverse";core a e1 ar true)):=by rw [list_sort_rev];rfl
theorem allI_of {vs:List Value} {ns:List Int} (hI:IntsAre vs ns):AllI (pairsOf vs):=fun p hp=>by
 obtain ⟨n,t,e⟩:=hI.intKeys p hp
 refine ⟨t,?_⟩
 show p.1=.int (numOf p.1) t
 rw [e]
 rfl
section
variable {prog:Program} {w:World} {A:Around} {E:Value→Shared→Prop} {s:Shared}
theorem w_core {a:Addr} {e1:Nat} {vs:List Value} {ns:List Int} {b:Bool} {P:Fin→Shared→Prop} (hA:s.heap.get? a=some (seqObj "list" #[] e1)) (hI:IntsAre vs ns) (hz:vs.length≤sizeLine)
 (h:∀ (o:Array Value) (ns':List Int),IntsAre o.toList ns'→ns'.Perm ns→Ordered b ns'→P (.done (.ret .none)) { s with heap:=s.heap.update a (Obj.mapSeq fun _=>o) }):wpAny (model prog w) A (core a e1 vs.toArray b) P E s:=by
 unfold core
 have fin:∀ z:SortSt,(arrOf z).Perm (pairsOf vs)→failedOf z=none→SortedTo (arrOf z) (pairsOf vs).size→wpAny (model prog w) A (do
  let tch:=(← seqEpoch a) != e1
  Builtin.List.listUpdate (.ref a) fun _=>if b then ((arrOf z).map (·.2)).reverse else (arrOf z).map (·.2)
  if let some e:=failedOf z then rule "list.sort.comparison-raised";throw e
  if tch then rule "list.sort.modified";raiseError "ValueError" "list modified during sort"
  ret .none) P E s:=fun z hp hf hs=>by
  obtain ⟨ns',q1,q2,q3⟩:=sorted_out_rev hI hp hs b
  have hlen:((arrOf z).map (·.2)).size≤sizeLine+1:=by rw [Array.size_map,hp.size_eq,pairsOf_size];omega
  refine wpAny_bind (seqEpoch_at hA rfl (wpAny_bind (listUpdate_at hA rfl ?_ (hsz2:=?sz))))
  case sz=>
   split
   · rw [Array.size_reverse];exact hlen
   · exact hlen
  rw [hf]
  simp only [bne_self_eq_false,Bool.false_eq_true,if_false]
  exact wpAny_pure (h _ ns' q1 q2 q3)
 have hst:(if b=true then (vs.toArray.zip vs.toArray).reverse else vs.toArray.zip vs.toArray).Perm (pairsOf vs):=by
  cases b
  · exact Array.Perm.refl _
  · rw [if_pos rfl,Array.perm_iff_toList_perm,Array.toList_reverse]
    exact List.reverse_perm _
 by_cases h2:vs.toArray.size<2
 · rw [if_pos h2,if_pos h2]
   refine wpAny_bind (wpAny_pure ?_)
   dsimp only
   rw [StateT.run_pure]
   refine wpAny_bind (wpAny_pure (fin (SortSt.mk' general' _ #[] 7 none) hst rfl fun i j hij hj=>?_))
   rw [pairsOf_size] at hj
   rw [List.size_toArray] at h2
   obtain rfl:i=j:=by omega
   exact Int.le_refl _
 · rw [if_neg h2,if_neg h2]
   obtain ⟨x,y,r,rfl⟩:∃ x y r,vs=x::y::r:=by
    rw [List.size_toArray] at h2
    match vs,h2 with
    | [],g=>simp at g
    | [_],g=>simp at g
    | x::y::r,_=>exact ⟨x,y,r,rfl⟩
   rw [keyKind_ints hI]
   refine wpAny_bind (wpAny_pure ?_)
   generalize hL:x::y::r=L at *
   have ha0:AllI (if b=true then (L.toArray.zip L.toArray).reverse else L.toArray.zip L.toArray):=(allI_of hI).perm hst
   letI inst:SRV.KV:=kvI s
   refine wpAny_bind (wpAny_mono (SRV.s_all (st:=SortSt.mk' oneType' (if b=true then (L.toArray.zip L.toArray).reverse else L.toArray.zip L.toArray) #[] 7 none)
    (Q:=fun _ z=>(arrOf z).Perm (pairsOf L)∧failedOf z=none∧SortedTo (arrOf z) (pairsOf L).size) ha0 rfl rfl rfl rfl fun z g1 g2 g3=>⟨g1.trans hst,g2,by rw [← hst.size_eq];exact g3⟩) ?_ fun _ _ e=>e)
   rintro ⟨⟨⟩,z⟩ s' ⟨rfl,g1,g2,g3⟩
   exact fin z g1 g2 g3
theorem w_start {a:Addr} {vs:List Value} {n:Nat} {P:Fin→Shared→Prop} {f:Nat→Array Value→Sem Fin} (hA:s.heap.get? a=some (seqObj "list" vs.toArray n)) (hz:vs.length≤sizeLine)
 (h:∀ (s':Shared) e1,s'={ s with heap:=((s.heap.update a (Obj.mapSeq fun _=>#[])).push (seqObj "tuple" vs.toArray 0)).push (seqObj "list" #[] 0) }→s'.heap.get? a=some (seqObj "list" #[] e1)→wpAny (model prog w) A (f e1 vs.toArray) P E s') :
 wpAny (model prog w) A (do
  let ar ← Builtin.List.listItems (.ref a)
  Builtin.List.listUpdate (.ref a) fun _=>#[]
  let e1 ← seqEpoch a
  let t ← newTuple ar.toList
  let l ← newList []
  holding [t,l] (f e1 ar)) P E s:=by
 have ha:a<s.heap.objs.size:=Heap.lt_size hA
 refine wpAny_bind (listItems_at hA rfl (wpAny_bind (listUpdate_at hA rfl ?_ (hsz:=by rw [List.size_toArray];exact hz))))
 obtain ⟨e1,hE⟩:∃ e1,(s.heap.update a (Obj.mapSeq fun _=>#[])).get? a=some (seqObj "list" #[] e1):=⟨_,get?_update_seq hA fun _=>#[]⟩
 refine wpAny_bind (seqEpoch_at hE rfl (wpAny_bind (wpAny_newTuple (wpAny_bind (wpAny_newList (wpAny_holding ?_)) ) ?hs)))
 case hs=>exact hz
 refine h _ e1 rfl ?_
 show (((s.heap.update a (Obj.mapSeq fun _=>#[])).push (seqObj "tuple" vs.toArray 0)).push (seqObj "list" #[] 0)).get? a=_
 rw [Heap.get?_push_ne _ _ _ (by rw [size_push',Heap.size_update];exact fun e=>absurd ha (by rw [e];exact Nat.not_lt.mpr (Nat.le_succ _))),Heap.get?_push_ne _ _ _ (by rw [Heap.size_update];exact fun e=>absurd ha (by rw [e];exact Nat.lt_irrefl _))]
 exact hE
def kwOf (b:Bool):List (Str×Value):=if b then [(Str.ofString "reverse",.bool true)] else []
theorem w_sort {a:Addr} {vs:List Value} {ns:List Int} {n:Nat} {b:Bool} {P:Fin→Shared→Prop} (hA:s.heap.get? a=some (seqObj "list" vs.toArray n)) (hI:IntsAre vs ns) (hz:vs.length≤sizeLine)
 (h:∀ (o:Array Value) (ns':List Int),IntsAre o.toList ns'→ns'.Perm ns→Ordered b ns'→P (.done (.ret .none)) { s with heap:=sortedHeap s.heap a vs o }):wpAny (model prog w) A (Builtin.«list.sort» ⟨[.ref a],kwOf b⟩) P E s:=by
 cases b with
 | false=>
   show wpAny _ _ (Builtin.«list.sort» ⟨[.ref a],[]⟩) _ _ _
   rw [plain_core]
   refine w_start hA hz fun s' e1 e hA'=>w_core hA' hI hz fun o ns' g1 g2 g3=>?_
   subst e
   exact h o ns' g1 g2 g3
 | true=>
   show wpAny _ _ (Builtin.«list.sort» ⟨[.ref a],[(Str.ofString "reverse",.bool true)]⟩) _ _ _
   rw [rev_core]
   refine w_start hA hz fun s' e1 e hA'=>wpAny_bind (wpAny_rule (w_core hA' hI hz fun o ns' g1 g2 g3=>?_))
   subst e
   exact h o ns' g1 g2 g3
theorem w_collect {l:Addr} {vs:List Value} {o:Obj} {T:String} {n:Nat} {Q:List Value→Shared→Prop} (ho:s.heap.get? l=some o) (hc:o.cls=.type T) (hd:o.data=.seq vs.toArray n) (hT:T="list"∨T="tuple") (hz:vs.length≤sizeLine)
 (h:Q vs { s with heap:=(s.heap.push (seqObj "list" #[] 0)).update s.heap.objs.size (Obj.mapSeq (·++vs.toArray)) }):wpAny (model prog w) A (collect (.ref l)) Q E s:=by
 unfold collect
 refine wpAny_bind (wpAny_runValue (codeAny_builtin entry_proto_collect' ?mk))
 case mk=>
 show wpAny _ _ (do again (.builtin "list.__iadd__" ⟨[← newList [],.ref l],[]⟩)) _ _ _
 refine wpAny_bind (wpAny_newList (wpAny_pure (And.intro (Code.quiet_builtin _ (by decide +kernel)) (codeAny_builtin entry_list_iadd' ?_))))
 show wpAny (model prog w) _ (Builtin.List.listExtendWith (.ref s.heap.objs.size) (.ref l) (.ref s.heap.objs.size)) _ _ { s with heap:=s.heap.push (seqObj "list" #[] 0) }
 unfold Builtin.List.listExtendWith
 have hO':(s.heap.push (seqObj "list" #[] 0)).get? l=some o:=Heap.get?_push_of_some _ ho
 have hN:(s.heap.push (seqObj "list" #[] 0)).get? s.heap.objs.size=some (seqObj "list" #[] 0):=Heap.get?_push_size _ rfl
 refine wpAny_bind (wpAny_typeOf (T:=T) ⟨o,hO',hc⟩ ?_)
 have e1:(Value.type "list" == Value.type "list")=true:=by rfl
 have e2:(Value.type "tuple" == Value.type "tuple")=true:=by rfl
 rw [if_pos (by rcases hT with rfl | rfl <;> simp [e1,e2])]
 refine wpAny_bind (listItems_at hO' hd (wpAny_bind (listItems_at hN rfl ?_)))
 rw [if_neg (by simp)]
 refine wpAny_bind (listUpdate_at hN rfl (wpAny_pure ?_) (Nat.zero_le _) (by rw [Array.size_append,List.size_toArray];show 0+vs.length≤_;omega))
 show wpAny (model prog w) A (do
  let z ← load s.heap.objs.size
  match z.data with
  | .seq xs _=>pure xs.toList
  | _=>unsupported "internal:collect") Q E ⟨(s.heap.push (seqObj "list" #[] 0)).update s.heap.objs.size (Obj.mapSeq (·++vs.toArray)),s.gens,s.drawn,s.toks,s.os⟩
 refine wpAny_bind (wpAny_load (get?_update_seq hN _) ?_)
 show wpAny (model prog w) _ (pure ((#[]:Array Value)++vs.toArray).toList) Q E _
 have e3:((#[]:Array Value)++vs.toArray).toList=vs:=by simp
 rw [e3]
 exact wpAny_pure h
theorem w_sorted {l:Addr} {vs:List Value} {ns:List Int} {o:Obj} {T:String} {n:Nat} {b:Bool} {Q:Value→Shared→Prop} (ho:s.heap.get? l=some o) (hc:o.cls=.type T) (hd:o.data=.seq vs.toArray n) (hT:T="list"∨T="tuple") (hI:IntsAre vs ns) (hz:vs.length≤sizeLine)
 (h:∀ (r:Array Value) (ns':List Int),IntsAre r.toList ns'→ns'.Perm ns→Ordered b ns'→Q (.ref (s.heap.objs.size+1)) { s with heap:=sortedAll s.heap vs r }):wpAny (model prog w) A (call (.builtin "sorted") [.ref l] (kwOf b)) Q E s:=by
 have ha:argsOk "sorted" ⟨[.ref l],kwOf b⟩:=by cases b;exact args_sorted1 _;exact args_sorted_rev _ _
 refine call_function_entry_kw kind_sorted plain_sorted entry_sorted ha ?_
 unfold Builtin.«sorted»
 refine wpAny_bind (m:=checkCount "sorted" 1 1 _) (wpAny_pure (wpAny_bind (w_collect ho hc hd hT hz (wpAny_bind (wpAny_newList ?_ ?hs)))))
 case hs=>exact hz
 generalize hG:(s.heap.push (seqObj "list" #[] 0)).update s.heap.objs.size (Obj.mapSeq (·++vs.toArray))=G
 have sG:G.objs.size=s.heap.objs.size+1:=by rw [← hG,Heap.size_update,size_push']
 have hL:(G.push (seqObj "list" vs.toArray 0)).get? (s.heap.objs.size+1)=some (seqObj "list" vs.toArray 0):=by rw [← sG];exact Heap.get?_push_size _ rfl
 show wpAny _ _ _ _ _ { s with heap:=G.push (seqObj "list" vs.toArray 0) }
 rw [show ({ s with heap:=G }:Shared).heap.objs.size=s.heap.objs.size+1 from sG]
 have hs:argsOk "list.sort" ⟨[.ref (s.heap.objs.size+1)],kwOf b⟩:=by cases b;exact args_list_sort _;exact args_list_sort_rev _ _
 refine wpAny_bind (wpAny_holding (wpAny_call_entry_kw slot_list_sort ⟨_,hL,rfl⟩ entry_list_sort (w_sort hL hI hz fun r ns' g1 g2 g3=>⟨_,rfl,wpAny_pure ⟨_,rfl,?_⟩⟩) hs))
 have:=h r ns' g1 g2 g3
 unfold sortedAll at this
 rw [hG] at this
 exact this
end
end SRT
namespace L2
open PySem PySem.Spec PyProof.Rows
section
variable {X:Cx}
def rSortB (K:PySem.W.Frag) (b:Bool):List V→Hp→VK→Prop:=fun xs H Q=>match xs with
 | [.ref p]=>∃ ns:List Int,(SqL K H p (ns.map V.int)∨SqT K H p (ns.map V.int))∧∀ l ns',H l=none→List.Perm ns' ns→Ordered b ns'→Q (.ref l) (upd H l (.lst (ns'.map V.int)))
 | _=>False
theorem sort_any {b:Bool} (pins:List (Addr×Obj)) (s:Shared) (σ:St) (H:Hp) (xs:List V) (us:List Value) (Q:VK) (I:Inv X pins σ H s) (r:Vals xs us) (h:rSortB X.K b xs H Q) :
 wpAny (model X.prog X.w) X.A (call (.builtin "sorted") us (SRT.kwOf b)) (EP X pins σ Q) X.xe s:=by
 unfold rSortB at h
 split at h
 · rename_i p
   obtain ⟨ns,hq,q⟩:=h
   obtain ⟨u,rfl,rx⟩:=vals1 r
   cases rx
   obtain ⟨its,T,o,n,hI,hz,hz2,ho,hc,hd,hT⟩:∃ (its:List Value) (T:String) (o:Obj) (n:Nat),IntsAre its ns∧its.length≤sizeLine∧ns.length≤sizeLine∧s.heap.get? p=some o∧o.cls=.type T∧o.data=.seq its.toArray n∧(T="list"∨T="tuple"):=by
    rcases hq with hq | hq
    · obtain ⟨its,rv,pl,hz⟩:=I.list hq
      obtain ⟨o,ho,hc,n,hd⟩:=id pl.isList
      exact ⟨its,"list",o,n,intsAre_of rv,by rw [← rv.length];exact hz,by rw [List.length_map] at hz;exact hz,ho,hc,hd,.inl rfl⟩
    · obtain ⟨its,rv,pl,hz⟩:=I.tuple hq
      obtain ⟨o,ho,hc,n,hd⟩:=id pl
      exact ⟨its,"tuple",o,n,intsAre_of rv,by rw [← rv.length];exact hz,by rw [List.length_map] at hz;exact hz,ho,hc,hd,.inr rfl⟩
   refine SRT.w_sorted ho hc hd hT hI hz fun out ns' a1 a2 a3=>?_
   obtain ⟨e,he⟩:=sortedAll_at s.heap its out
   refine ⟨.ref (s.heap.objs.size+1),_,I.laid (t':=s.toks) (a:=s.heap.objs.size+1) (o:=.lst (ns'.map V.int)) (fun c ob q=>sortedAll_old q) (Nat.le_succ _) ?_,rfl,q _ ns' (I.hok.fresh (Nat.le_succ _)) a2 a3⟩
   refine ⟨?_,out.toList,e,vals_ints a1,he⟩
   rw [List.length_map,a2.length_eq]
   exact hz2
 · exact h.elim
theorem call_sortB:CallR X (.builtin "sorted") (rSortB X.K false):=fun pins s σ H xs us Q I r h=>sort_any (b:=false) pins s σ H xs us Q I r h
variable {e:Expr} {es:List Expr} {t:TA} {p pos:Pos}
theorem pcb_sortB (hg:Gl X "sorted") (hm:X.mg "sorted" = none) (ha:PA X (e::es) t) (he:starEach (e::es) X.env=(false,eval e X.env)::starEach es X.env) (hpl:(backTo pos (starEach es X.env)).any (·.1)=false) :
 PE X (.Call (.Name "sorted" p) (e::es) [] pos) (tCB (rSortB X.K false) t):=pe_callB call_sortB hg hm boot_sorted' ha (by decide) (by decide) he hpl
theorem zcb_sortB (hg:Gl X "sorted") (hm:X.mg "sorted" = none) (ha:ZA X (e::es) t) (he:starEach (e::es) X.env=(false,eval e X.env)::starEach es X.env) (hpl:(backTo pos (starEach es X.env)).any (·.1)=false) :
 ZE X (.Call (.Name "sorted" p) (e::es) [] pos) (tCB (rSortB X.K false) t):=by with_unfolding_all exact pcb_sortB hg hm ha he hpl
theorem pcb_sortR {k:Nat} {p2 p3:Pos} (hg:Gl X "sorted") (hm:X.mg "sorted" = none) (ha:PA X [e] t) (he:starEach [e] X.env=[(false,eval e X.env)]) :
 PE X (.Call (.Name "sorted" p) [e] [⟨some "reverse",.Constant (.bool true) k p2,p3⟩] pos) (tCB (rSortB X.K true) t):=by
 intro pins s σ H Q I h
 refine wpAny_Call_Name_kw (ld_blt I hg hm boot_sorted' ?_ (by decide) (by decide))
 refine callWith_kw (thn (ha pos pins s σ H _ I h) fun us s1 ⟨vs,H1,I1,r1,q1⟩=>?_) ?_ ?_ rfl rfl
 · refine kws_cons (wpAny_Constant_bool (kws_nil ?_))
   exact sort_any (b:=true) pins s1 σ H1 vs us Q I1 r1 q1
 · rw [he]
   rfl
 · rw [he]
   rfl
theorem zcb_sortR {k:Nat} {p2 p3:Pos} (hg:Gl X "sorted") (hm:X.mg "sorted" = none) (ha:ZA X [e] t) (he:starEach [e] X.env=[(false,eval e X.env)]) :
 ZE X (.Call (.Name "sorted" p) [e] [⟨some "reverse",.Constant (.bool true) k p2,p3⟩] pos) (tCB (rSortB X.K true) t):=by with_unfolding_all exact pcb_sortR hg hm ha he
theorem isInt_at {k:Int} {its:List Value} {ns:List Int} (hI:IntsAre its ns) {j:Nat} (h1:j<its.length) (h2:j<ns.length):isInt k its[j]=(ns[j] == k):=by
 obtain ⟨n,t,e,e2⟩:=hI.at j its[j] (List.getElem?_eq_getElem h1)
 rw [List.getElem?_eq_getElem h2] at e2
 rw [e,Option.some.inj e2]
 rfl
def rRemP:V→List V→Hp→VK→Prop:=fun x vs H Q=>match x,vs with
 | .ref l,[.int k]=>∃ ns:List Int,H l=some (.lst (ns.map V.int))∧k∈ns∧Q .non (upd H l (.lst ((ns.erase k).map V.int)))
 | _,_=>False
theorem mt_remove:MtM X "list.remove" rRemP:=by
 intro pins s σ H x vs v us Q I rx rv h
 unfold rRemP at h
 split at h
 · rename_i l k
   obtain ⟨ns,hH,hk,q⟩:=h
   cases rx
   obtain ⟨u,rfl,ru⟩:=rv.one
   obtain ⟨t,rfl⟩:=ru
   obtain ⟨z,its,n,r,hl,e⟩:=I.lstM hH
   have hI:=intsAre_of r
   have hlen:its.length=ns.length:=by rw [← hl,List.length_map]
   rw [List.length_map] at z
   have hj:ns.idxOf k<ns.length:=List.idxOf_lt_length_iff.mpr hk
   have hj':ns.idxOf k<its.toArray.size:=by rw [List.size_toArray];omega
   refine call_meets F.slot_list_remove ⟨_,e,rfl⟩ F.entry_list_remove (F.args_list_remove_2 _ _) (MeetsSeq.list_remove l its.toArray n (.int k t) (isInt k) (fun y hy=>eq_isInt k t hI y (by simpa using hy)) (ns.idxOf k) hj' ?_ ?_ (by rw [List.size_toArray];omega)) ⟨e,?_⟩
   · show isInt k its[ns.idxOf k]=true
     rw [isInt_at hI (by omega) hj]
     simp
   · intro m hm hmj
     show isInt k its[m]=false
     rw [isInt_at hI (by simpa using hm) (by omega)]
     have:=List.not_of_lt_findIdx (p:=(· == k)) (xs:=ns) hmj
     simpa using this
   · refine ⟨.non,_,I.lset (its':=its.eraseIdx (ns.idxOf k)) hH e ?_ ?_ ?_,rfl,q⟩
     · rw [List.eraseIdxIfInBounds_toArray]
     · refine vals_ints ?_
       have e1:=hI.take (ns.idxOf k)
       have e2:=hI.drop (ns.idxOf k+1)
       rw [List.erase_eq_eraseIdx_of_idxOf rfl,List.eraseIdx_eq_take_drop_succ,List.eraseIdx_eq_take_drop_succ]
       exact e1.append e2
     · rw [List.length_map,List.length_erase]
       split <;> omega
 · exact h.elim
variable {o:Expr} {to:TE} {apos cpos:Pos}
theorem pm_remove (ho:PE X o to) (ha:PA X (e::es) t) (hbase:attributeBase o "remove" X.env (eval o X.env)=eval o X.env:=by rfl)
 (hfew:((backTo cpos (starEach (e::es) X.env)).all (fun x=>!x.1)&&(backToKw cpos (keywordEach [] X.env)).all (fun x=>x.1.isSome)
   && decide ((e::es).length+([]:List Keyword).length+(if ([]:List Keyword).isEmpty then 0 else 1)<30))=true:=by rfl)
 (hline:(apos.endLine == cpos.line)=true:=by rfl) (hs:starEach (e::es) X.env=(false,eval e X.env)::starEach es X.env:=by rfl) (hplain:(backTo cpos (starEach es X.env)).any (·.1)=false:=by rfl) :
 PE X (.Call (.Attribute o "remove" apos) (e::es) [] cpos) (fun σ H Q=>to σ H fun x H1=>tyV X.K "list" x H1∧t σ H1 fun xs H2=>rRemP x xs H2 Q):=
 pe_bm PySem.F.plainAttrs_list PySem.F.slot_list_remove PySem.F.type_list_remove mt_remove ho ha hbase hfew hline hs hplain
theorem zm_remove (ho:ZE X o to) (ha:ZA X (e::es) t) (hbase:attributeBase o "remove" X.env (eval o X.env)=eval o X.env:=by rfl)
 (hfew:((backTo cpos (starEach (e::es) X.env)).all (fun x=>!x.1)&&(backToKw cpos (keywordEach [] X.env)).all (fun x=>x.1.isSome)
   && decide ((e::es).length+([]:List Keyword).length+(if ([]:List Keyword).isEmpty then 0 else 1)<30))=true:=by rfl)
 (hline:(apos.endLine == cpos.line)=true:=by rfl) (hs:starEach (e::es) X.env=(false,eval e X.env)::starEach es X.env:=by rfl) (hplain:(backTo cpos (starEach es X.env)).any (·.1)=false:=by rfl) :
 ZE X (.Call (.Attribute o "remove" apos) (e::es) [] cpos) (fun σ H Q=>to σ H fun x H1=>tyV X.K "list" x H1∧t σ H1 fun xs H2=>rRemP x xs H2 Q):=by with_unfolding_all exact pm_remove ho ha hbase hfew hline hs hplain
end
end L2
namespace L2
open PySem PySem.Spec PyProof.Rows
section
variable {X:Cx}
variable {e:Expr} {es:List Expr} {t:TA} {p pos:Pos}
def strMul (x:Str) (n:Nat):Str:=⟨(List.replicate n x.cps).foldl (·++·) #[]⟩
theorem cat_size:∀ (l:List (Array Nat)) (a:Array Nat),(l.foldl (·++·) a).size=a.size+(l.map (·.size)).sum
 | [],a=>by simp
 | x::l,a=>by
   rw [List.foldl_cons,cat_size l,Array.size_append,List.map_cons,List.sum_cons]
   omega
theorem strMul_len (z:Str) (n:Nat):(strMul z n).length=z.length*n:=by
 show ((List.replicate n z.cps).foldl (·++·) #[]).size=_
 rw [cat_size,List.map_replicate,List.sum_replicate_nat]
 show 0+n*z.length=_
 rw [Nat.zero_add,Nat.mul_comm]
def rMulS:R2:=fun x y H Q=>match x,y with
 | .str z,.int k=>(2≤k∧1≤z.length∧z.length*k.toNat≤sizeLine)∧Q (.str (strMul z k.toNat)) H
 | _,_=>False
theorem op_mulS:OpR X (binaryOp .Mult) rMulS:=by
 intro pins s σ H x y v u Q I rx ry h
 unfold rMulS at h
 split at h
 · rename_i z k
   obtain ⟨⟨h1,h2,h3⟩,q⟩:=h
   obtain ⟨t,rfl⟩:=rx
   obtain ⟨t',rfl⟩:=ry
   have hz:(z.length == 0)=false:=by
    have:z.length≠0:=by omega
    simpa using this
   have hk1:(k == 1)=false:=by
    have:k≠1:=by omega
    simpa using this
   have hs:=sizeLine_eq
   have hkk:k.toNat≤z.length*k.toNat:=Nat.le_mul_of_pos_left _ (by omega)
   have hzz:z.length≤z.length*k.toNat:=Nat.le_mul_of_pos_right _ (by omega)
   refine P.mul_str ?_ (fun _ _=>?_) (fun _ _=>?_) ?_
   · rw [decide_eq_false (by omega),decide_eq_false (by omega)];rfl
   · have:(z.length:Int)≤(2 ^ 63 - 1) / k:=by
      rw [Int.le_ediv_iff_mul_le (by omega)]
      have:(z.length:Int)*k=((z.length*k.toNat:Nat):Int):=by
       rw [Int.natCast_mul,Int.toNat_of_nonneg (by omega)]
      omega
     omega
   · unfold Builtin.Str.tooLong
     exact decide_eq_false (by omega)
   · rw [if_neg (by omega),hk1,hz]
     exact ⟨Nat.le_trans (Nat.le_of_eq (strMul_len z k.toNat)) h3,⟨.str _,H,I.tok _,⟨_,rfl⟩,q⟩⟩
 · exact h.elim
variable {o:Expr} {to:TE} {apos cpos:Pos}
end
def seqD (c:Bool) (ds:List PyData):PyData:=match c with | true=>.tuple ds | false=>.list ds
theorem DatAll.get {H:Hp}:∀ {xs:List V} {ds:List PyData} {i:Nat} {x:V},DatAll H xs ds→xs[i]? = some x→∃ d,ds[i]? = some d∧DatV H x d
 | _,_,0,_,.cons h _,e=>by cases e;exact ⟨_,rfl,h⟩
 | _,_,i+1,_,.cons _ r,e=>by
   obtain ⟨d,h1,h2⟩:=DatAll.get (i:=i) r (by simpa using e)
   exact ⟨d,by simpa using h1,h2⟩
theorem DatAll.len {H:Hp}:∀ {xs:List V} {ds:List PyData},DatAll H xs ds→xs.length=ds.length
 | _,_,.nil=>rfl
 | _,_,.cons _ r=>by rw [List.length_cons,List.length_cons,DatAll.len r]
theorem rep_snoc (j:Nat):(List.replicate j true).map V.bl++[V.bl true]=(List.replicate (j+1) true).map V.bl:=by
 rw [List.replicate_succ',List.map_append];rfl
theorem rep_all (n:Nat):(List.replicate n true).all id=true:=by
 rw [List.all_eq_true];intro x hx;exact List.eq_of_mem_replicate hx
theorem seq_of {H:Hp} {x:V} {c:Bool} {ds:List PyData} (h:DatV H x (seqD c ds)):∃ a xs,x=.ref a∧SqK H c a xs∧DatAll H xs ds:=by
 cases c with
 | true=>
   cases (show DatV H x (.tuple ds) from h) with
   | tup e r=>exact ⟨_,_,rfl,e,r⟩
 | false=>
   cases (show DatV H x (.list ds) from h) with
   | lst e r=>exact ⟨_,_,rfl,e,r⟩
def seqT (c:Bool):String:=match c with | true=>"tuple" | false=>"list"
theorem SqK.ty {H:Hp} {c:Bool} {a:Addr} {xs:List V} (h:SqK H c a xs):tyName H (.ref a)=some (seqT c):=by
 cases c with
 | true=>unfold tyName;dsimp only;rw [show H a=some (.tup xs) from h];rfl
 | false=>unfold tyName;dsimp only;rw [show H a=some (.lst xs) from h];rfl
theorem SqK.len {K:PySem.W.Frag} {H:Hp} {c:Bool} {a:Addr} {xs:List V} (h:SqK H c a xs):SqL K H a xs∨H a=some (.tup xs):=by
 cases c with
 | true=>exact .inr h
 | false=>exact .inl (SqL.of h)
section
variable {X:Cx} {e:Expr} {es:List Expr} {t:TA} {p pos:Pos} {o:Expr} {to:TE} {apos cpos:Pos}
def tNo:TS:=fun _ _ _=>False
theorem ps_no {st:Stmt}:PS X st tNo:=fun _ _ _ _ _ _ h=>h.elim
theorem zs_no {st:Stmt}:ZS X st tNo:=by with_unfolding_all exact ps_no
end
section
variable {prog:Program} {w:World} {A:Around} {E:Value→Shared→Prop} {R:Result→Shared→Prop} {s:Shared}
theorem two_inner (elt t1 i1 t2 i2:Expr) (c1 c2:List Expr) (scope:Scope) (pos:Pos) (it acc:Value) (env:Env) :
 compTurn (.ListComp elt [⟨t1,i1,c1,0⟩,⟨t2,i2,c2,0⟩] scope pos) 1 it acc env=(do
  standAt i2.pos
  match ← pyNext it with
  | none=>pure (.done .next)
  | some v=>
    letOwnedTupleGo t2 it v
    assign t2 env v
    let mut ok:=true
    for c in c2 do
     if ok then ok ← isTrue c env (eval c env)
    if ok then
     (do let _ ← call (.builtin "list.append") [acc,← eval elt env])
    again (.compLoop (.ListComp elt [⟨t1,i1,c1,0⟩,⟨t2,i2,c2,0⟩] scope pos) 1 it acc env)):=by rfl
theorem two_outer (elt t1 i1 t2 i2:Expr) (c1 c2:List Expr) (scope:Scope) (pos:Pos) (it acc:Value) (env:Env) :
 compTurn (.ListComp elt [⟨t1,i1,c1,0⟩,⟨t2,i2,c2,0⟩] scope pos) 0 it acc env=(do
  standAt i1.pos
  match ← pyNext it with
  | none=>pure (.done .next)
  | some v=>
    letOwnedTupleGo t1 it v
    assign t1 env v
    let mut ok:=true
    for c in c1 do
     if ok then ok ← isTrue c env (eval c env)
    if ok then
     let x ← eval i2 env
     standAt i2.pos
     let x ← (if ((0:Nat) != 0)=true then foldedIterable i2 x else foldedSetIterable i2 env x)
     let _ ← runOwn (.compStart (.ListComp elt [⟨t1,i1,c1,0⟩,⟨t2,i2,c2,0⟩] scope pos) 1 (← holding [x] (if ((0:Nat) != 0)=true then asyncIter x else pyIter x)) acc env) env
    again (.compLoop (.ListComp elt [⟨t1,i1,c1,0⟩,⟨t2,i2,c2,0⟩] scope pos) 0 it acc env)):=by rfl
theorem loop_inner {elt t1 i1 t2 i2:Expr} {c1 c2:List Expr} {scope:Scope} {pos:Pos} {it acc:Value} {env:Env} (I:Nat→Shared→Prop)
 (turn:∀ n s,I n s→wpAny (model prog w) A (pyNext it) (fun r s₁=>match r with
   | none=>R (.ok .next) s₁
   | some v=>wpAny (model prog w) A (letOwnedTupleGo t2 it v) (fun _ s₁'=>wpAny (model prog w) A (assign t2 env v) (fun _ s₂=>
    wpAny (model prog w) A (forIn c2 true fun c r=>if r=true then do let ok ← isTrue c env (eval c env);pure (ForInStep.yield ok) else pure (ForInStep.yield r)) (fun ok s₃=>
     if ok=true then wpAny (model prog w) A (eval elt env) (fun x s₄=>
      wpAny (model prog w) A (call (.builtin "list.append") [acc,x]) (fun _ s₅=>∃ m,m<n∧I m s₅) (fun _ _=>False) s₄) (fun _ _=>False) s₃
     else ∃ m,m<n∧I m s₃) (fun _ _=>False) s₂) (fun _ _=>False) s₁') (fun _ _=>False) s₁) (fun _ _=>False) s)
 (n:Nat) (h:I n s) :
 codeAny (model prog w) A (.compLoop (.ListComp elt [⟨t1,i1,c1,0⟩,⟨t2,i2,c2,0⟩] scope pos) 1 it acc env) R s:=by
 refine codeAny_loop rfl I (fun n s hI=>?_) n h
 show wpAny _ A ((compTurn (.ListComp elt [⟨t1,i1,c1,0⟩,⟨t2,i2,c2,0⟩] scope pos) 1 it acc env).onRaise (fun x=>do noteFrame x env;theTreesLotGoes x)) _ _ s
 refine wpAny_noted ?_
 rw [two_inner]
 refine wpAny_bind (wpAny_standAt (wpAny_bind (wpAny_mono (turn n s hI) (fun r s₁ h₁=>?_) fun _ _ h'=>h'.elim)))
 cases r with
 | none=>exact wpAny_pure h₁
 | some v=>
   refine wpAny_bind (wpAny_mono h₁ (fun _ s₁' h₁'=>?_) fun _ _ h'=>h'.elim)
   refine wpAny_bind (wpAny_mono h₁' (fun _ s₂ h₂=>wpAny_bind (wpAny_mono h₂ (fun ok s₃ h₃=>?_) fun _ _ h'=>h'.elim)) fun _ _ h'=>h'.elim)
   cases ok with
   | false=>exact wpAny_pure ⟨rfl,h₃⟩
   | true=>
     exact wpAny_bind (wpAny_bind (wpAny_mono h₃ (fun x s₄ h₄=>wpAny_bind (wpAny_mono h₄ (fun _ s₅ h₅=>wpAny_pure (wpAny_pure ⟨rfl,h₅⟩)) fun _ _ h'=>h'.elim)) fun _ _ h'=>h'.elim))
theorem start_inner {elt t1 i1 t2 i2:Expr} {c1 c2:List Expr} {scope:Scope} {pos:Pos} {it acc:Value} {env:Env}
 (h0:codeAny (model prog w) A (.compLoop (.ListComp elt [⟨t1,i1,c1,0⟩,⟨t2,i2,c2,0⟩] scope pos) 1 it acc env) R s)
 (h:wpAny (model prog w) A (pyIter it) (fun it' s'=>codeAny (model prog w) A (.compLoop (.ListComp elt [⟨t1,i1,c1,0⟩,⟨t2,i2,c2,0⟩] scope pos) 1 it' acc env) R s')
   (notedBy (model prog w) A env fun x s'=>R (.error x) s') s) :
 codeAny (model prog w) A (.compStart (.ListComp elt [⟨t1,i1,c1,0⟩,⟨t2,i2,c2,0⟩] scope pos) 1 it acc env) R s:=by
 refine codeAny_of_tree ?_
 show wpAny _ _ ((compStart (.ListComp elt [⟨t1,i1,c1,0⟩,⟨t2,i2,c2,0⟩] scope pos) 1 it acc env).onRaise (fun x=>do noteFrame x env;standAt theWindowsPlace)) _ _ s
 refine wpAny_notedAt ?_
 unfold compStart
 show wpAny _ _ (ask >>= _) _ _ s
 refine wpAny_bind (wpAny_askSetting (wpAny_ite ?_))
 split
 · first
    | exact wpAny_bind (wpAny_pure (wpAny_pure (And.intro rfl h0)))
    | exact wpAny_pure (And.intro rfl h0)
 · first
    | exact wpAny_bind (wpAny_rule (wpAny_bind (wpAny_standAt (wpAny_bind (wpAny_mono h (fun it' s' h'=>wpAny_pure (And.intro rfl h')) fun _ _ x=>x)))))
    | (refine wpAny_bind (wpAny_rule ?_);show wpAny _ _ (standAt i2.pos >>= _) _ _ s;exact wpAny_bind (wpAny_standAt (wpAny_bind (wpAny_mono h (fun it' s' h'=>wpAny_pure (And.intro rfl h')) fun _ _ x=>x))))
theorem loop_outer {elt t1 i1 t2 i2:Expr} {c1 c2:List Expr} {scope:Scope} {pos:Pos} {it acc:Value} {env:Env} (I:Nat→Shared→Prop)
 (hs:∀ x,foldedSetIterable i2 env x=pure x)
 (turn:∀ n s,I n s→wpAny (model prog w) A (pyNext it) (fun r s₁=>match r with
   | none=>R (.ok .next) s₁
   | some v=>wpAny (model prog w) A (letOwnedTupleGo t1 it v) (fun _ s₁'=>wpAny (model prog w) A (assign t1 env v) (fun _ s₂=>
    wpAny (model prog w) A (forIn c1 true fun c r=>if r=true then do let ok ← isTrue c env (eval c env);pure (ForInStep.yield ok) else pure (ForInStep.yield r)) (fun ok s₃=>
     if ok=true then wpAny (model prog w) A (eval i2 env) (fun x s₄=>wpAny (model prog w) A (pyIter x) (fun it2 s₅=>
      codeAny (model prog w) A (.compStart (.ListComp elt [⟨t1,i1,c1,0⟩,⟨t2,i2,c2,0⟩] scope pos) 1 it2 acc env) (fun r s₆=>r=.ok .next∧∃ m,m<n∧I m s₆) s₅) (fun _ _=>False) s₄) (fun _ _=>False) s₃
     else ∃ m,m<n∧I m s₃) (fun _ _=>False) s₂) (fun _ _=>False) s₁') (fun _ _=>False) s₁) (fun _ _=>False) s)
 (n:Nat) (h:I n s) :
 codeAny (model prog w) A (.compLoop (.ListComp elt [⟨t1,i1,c1,0⟩,⟨t2,i2,c2,0⟩] scope pos) 0 it acc env) R s:=by
 refine codeAny_loop rfl I (fun n s hI=>?_) n h
 show wpAny _ A ((compTurn (.ListComp elt [⟨t1,i1,c1,0⟩,⟨t2,i2,c2,0⟩] scope pos) 0 it acc env).onRaise (fun x=>do noteFrame x env;theTreesLotGoes x)) _ _ s
 refine wpAny_noted ?_
 rw [two_outer]
 refine wpAny_bind (wpAny_standAt (wpAny_bind (wpAny_mono (turn n s hI) (fun r s₁ h₁=>?_) fun _ _ h'=>h'.elim)))
 cases r with
 | none=>exact wpAny_pure h₁
 | some v=>
   refine wpAny_bind (wpAny_mono h₁ (fun _ s₁' h₁'=>?_) fun _ _ h'=>h'.elim)
   refine wpAny_bind (wpAny_mono h₁' (fun _ s₂ h₂=>wpAny_bind (wpAny_mono h₂ (fun ok s₃ h₃=>?_) fun _ _ h'=>h'.elim)) fun _ _ h'=>h'.elim)
   cases ok with
   | false=>exact wpAny_pure ⟨rfl,h₃⟩
   | true=>
     refine wpAny_bind (wpAny_mono h₃ (fun x s₄ h₄=>wpAny_bind (wpAny_standAt ?_)) fun _ _ h'=>h'.elim)
     refine wpAny_bind (wpAny_of_eq (t:=foldedSetIterable i2 env x) (hs x) ?_)
     refine wpAny_bind (wpAny_holding (wpAny_mono (t:=pyIter x) h₄ (fun it2 s₅ h₅=>?_) fun _ _ h'=>h'.elim))
     refine wpAny_bind (wpAny_runOwn (codeAny_mono h₅ (fun r s₆ h₆=>?_)))
     obtain ⟨rfl,h₆⟩:=h₆
     exact wpAny_pure ⟨rfl,h₆⟩
end
section
variable {X:Cx} {nv:List Str} {ix:List (Str×Nat)} {scope:Scope} {pins:List (Addr×Obj)} {σ:St} {H:Hp} {s:Shared} {elt t1 i1 t2 i2:Expr} {c1 c2:List Expr} {pos:Pos}
def CmpI (g:TG) (ti:TT) (te:TE) (σ:St) (J:It) (ys0:List V) (Fin:List V→Hp→Prop) (H1:Hp):Prop:=
 ∃ W:Nat→Nat→List V→Hp→Prop,(∃ m,W 0 m ys0 H1)∧∀ i m ys H,W i m ys H →
   (J.stop i H∧Fin ys H)∨(J.go i H∧ys.length<sizeLine∧∃ N:List V→Hp→Prop,(∀ ys' H',N ys' H'→∃ m',m' < m∧W (i+1) m' ys' H') ∧
     ∀ x H',J.yld i H x H'→g x σ H' fun σ2 H2=>ti σ2 H2 fun b H3=>if b=true then te σ2 H3 fun y H4=>N (ys++[y]) H4 else N ys H3)
def CmpW2 (nv:List Str) (ix:List (Str×Nat)) (g1:TG) (ti1:TT) (wi2:TI) (g2:TG) (ti2:TT) (te:TE) (σ:St) (J:It) (Fin:List V→Hp→Prop) (H1:Hp):Prop:=
 ∃ W:Nat→Nat→List V→Hp→Prop,(∃ m,W 0 m [] H1)∧∀ i m ys H,W i m ys H →
   (J.stop i H∧Fin ys H)∨(J.go i H∧∃ N:List V→Hp→Prop,(∀ ys' H',N ys' H'→∃ m',m' < m∧W (i+1) m' ys' H') ∧
     ∀ x H',J.yld i H x H'→g1 x (st0 nv ix σ) H' fun σ1 H2=>ti1 σ1 H2 fun b H3=>if b=true then wi2 σ1 H3 fun J2 H4=>CmpI g2 ti2 te σ1 J2 ys N H4 else N ys H3)
def KpT (g2:TG) (σ1:St):Prop:=∀ (v:V) (H:Hp) (Q:St→Hp→Prop),g2 v σ1 H Q→g2 v σ1 H fun σ2 H2=>Kp σ1 σ2∧Q σ2 H2
def KpG2 (nv:List Str) (g1 g2:TG):Prop:=∀ (fr:St) (v:V) (H:Hp) (Q:St→Hp→Prop),g1 v (nv.map (fun _=>none)++fr) H Q→g1 v (nv.map (fun _=>none)++fr) H fun σ1 H1=>(Kp (nv.map (fun _=>none)++fr) σ1∧KpT g2 σ1)∧Q σ1 H1
theorem inner_run {D:Addr} {J:It} {fp:List Addr} {it:Addr} {tn:Nat→Heap→Prop} {g:TG} {ti:TT} {te:TE} {N:List V→Hp→Prop} {pl:List (Addr×Obj)} {ys:List V} {its:List Value} {k:Nat}
 (hc:X.calm=true) (hp0:X.pn=[]) (I:Inv X ([(D,lobj its k)]++pl) σ H s) (rv:Vals ys its) (hz:ys.length≤sizeLine) (T:Turn X.prog X.w X.K t2 J fp it tn) (st:tn 0 s.heap) (hf:∀ b∈fp,FpOk X ([(D,lobj its k)]++pl) H b)
 (hD1:D∈X.ex∨X.s₀.heap.objs.size≤D) (hD2:∀ x c,X.env.cells.lookup x=some c→c≠D) (hD3:∀ p∈pl,p.1≠D)
 (kg:KpT g σ) (hg:PG X t2 g) (hi:PIf X c2 ti) (he:PE X elt te) (hx:X.xe=fun _ _=>False) (q:CmpI g ti te σ J ys N H) :
 codeAny (model X.prog X.w) X.A (.compStart (.ListComp elt [⟨t1,i1,c1,0⟩,⟨t2,i2,c2,0⟩] scope pos) 1 (.ref it) (.ref D) X.env)
  (fun r s'=>r=.ok .next∧∃ H' ys' its' k',Inv X ([(D,lobj its' k')]++pl) σ H' s'∧Vals ys' its'∧ys'.length≤sizeLine∧N ys' H') s:=by
 obtain ⟨W,⟨m0,w0⟩,turn⟩:=q
 have fpD:∀ b∈fp,b≠D:=fun b hb z=>by
  have:=(hf b hb).2.2.2.2.2 (D,lobj its k) (by rw [hp0];simp)
  exact this z.symm
 have fpc:∀ {H':Hp} {its':List Value} {k':Nat},(∀ b∈fp,H' b=none)→∀ b∈fp,FpOk X ([(D,lobj its' k')]++pl) H' b:=fun {H' its' k'} hn b hb=>by
  obtain ⟨_,f1,f2,f3,f4,f5⟩:=hf b hb
  refine ⟨hn b hb,f1,f2,f3,f4,fun p hp z=>?_⟩
  rw [hp0,List.nil_append] at hp
  rcases List.mem_append.mp hp with hp | hp
  · have e:p=(D,lobj its' k'):=by simpa using hp
    subst e
    exact fpD b hb z.symm
  · exact f5 p (by rw [hp0,List.nil_append];exact List.mem_append_right _ hp) z
 have loop:codeAny (model X.prog X.w) X.A (.compLoop (.ListComp elt [⟨t1,i1,c1,0⟩,⟨t2,i2,c2,0⟩] scope pos) 1 (.ref it) (.ref D) X.env)
  (fun r s'=>r=.ok .next∧∃ H' ys' its' k',Inv X ([(D,lobj its' k')]++pl) σ H' s'∧Vals ys' its'∧ys'.length≤sizeLine∧N ys' H') s:=by
  refine loop_inner (fun n s'=>∃ i H' ys its k,Inv X ([(D,lobj its k)]++pl) σ H' s'∧Vals ys its∧ys.length≤sizeLine∧tn i s'.heap∧(∀ b∈fp,H' b=none)∧W i n ys H')
   ?_ m0 ⟨0,H,ys,its,k,I,rv,hz,st,fun b hb=>(hf b hb).1,w0⟩
  rintro n s3 ⟨i,H3,ys,its,k,I3,rv,hz,st3,fr3,w3⟩
  rcases turn i n ys H3 w3 with ⟨stop,fin0⟩ | ⟨go,hlt',N',hN,step⟩
  · refine thn (T.done X rfl rfl rfl hc i _ s3 _ H3 _ I3 (fpc fr3) st3 stop) fun r s4 ⟨hr,I4⟩=>?_
    subst hr
    exact ⟨rfl,H3,ys,its,k,I4,rv,hz,fin0⟩
  · refine thn (T.item X rfl rfl rfl hc i _ s3 _ H3 _ I3 (fpc fr3) st3 go) fun r s4 ⟨u,hr,h4⟩=>?_
    subst hr
    refine thn h4 fun _ s5 ⟨x,H5,I5,r5,y5,st5,fr5⟩=>?_
    have I5':=I5.pinned (fpc fr5) (T.obj _ _ st5)
    have hg':=hg _ s5 _ H5 x u _ I5' r5 (kg _ _ _ (step x H5 y5))
    rw [hx] at hg'
    refine thn hg' fun _ s6 ⟨σ6,H6,I6,kp,q6⟩=>?_
    have hi':=hi _ s6 σ6 H6 _ I6 q6
    rw [hx] at hi'
    refine thn hi' fun b s7 ⟨H7,I7,q7⟩=>?_
    have again:∀ {s7:Shared} {H7:Hp} {ys' its':List _} {k':Nat},Inv X (([(D,lobj its' k')]++pl)++pinsAt fp s5.heap) σ6 H7 s7→Vals ys' its'→ys'.length≤sizeLine→N' ys' H7 →
     ∃ m,m<n∧∃ i H' ys its k,Inv X ([(D,lobj its k)]++pl) σ H' s7∧Vals ys its∧ys.length≤sizeLine∧tn i s7.heap∧(∀ b∈fp,H' b=none)∧W i m ys H':=fun {s7 H7 ys' its' k'} I8 rv' hz' n8=>by
     obtain ⟨m',hm,w8⟩:=hN _ _ n8
     have pn:=fun (b:Addr) (o:Obj) (hb:b∈fp) (e:s5.heap.get? b=some o)=>I8.pin (b,o) (List.mem_append_right _ (List.mem_append_right _ (mem_pinsAt hb e)))
     refine ⟨m',hm,i+1,H7,ys',its',k',(I8.unpinned).weak kp.1 kp.2,rv',hz',T.keep _ _ _ st5 fun b hb o e=>(pn b o hb e).1,fun b hb=>?_,w8⟩
     obtain ⟨o,e,d⟩:=T.obj _ _ st5 b hb
     exact (pn b o hb e).2.1
    cases b with
    | false=>
      rw [if_neg Bool.false_ne_true] at q7 ⊢
      exact again I7 rv hz q7
    | true=>
      rw [if_pos rfl] at q7 ⊢
      have he':=he _ s7 σ6 H7 _ I7 q7
      rw [hx] at he'
      refine thn he' fun u8 s8 ⟨y,H8,I8,r8,q8⟩=>?_
      obtain ⟨p1,p2,p3,p4,p5⟩:=I8.pin (D,lobj its k) (List.mem_append_right _ List.mem_cons_self)
      refine append_at (hsz:=by rw [List.size_toArray,← rv.length];exact Nat.le_of_lt hlt') p1 fun h9 hs9 hD9=>?_
      have I9:Inv X (pl++pinsAt fp s5.heap) σ6 H8 { s8 with heap:=h9 }:=by
       have Iu:Inv X (pl++pinsAt fp s5.heap) σ6 H8 s8:=I8.pins_of fun p hp=>I8.pin p (List.mem_append_right _ (by rw [List.append_assoc];exact List.mem_append_right _ hp))
       refine Iu.turned (t':=s8.toks) (it:=D) (fun b o hb e=>(hs9.2 b hb).trans e) p2 p3 hD1 hD2 fun p hp z=>?_
       rw [hp0,List.nil_append] at hp
       rcases List.mem_append.mp hp with hp | hp
       · exact hD3 p hp z
       · obtain ⟨hb,_⟩:=of_pinsAt hp
         exact fpD _ hb z
      have I10:Inv X (([(D,lobj (its++[u8]) (k+1))]++pl)++pinsAt fp s5.heap) σ6 H8 { s8 with heap:=h9 }:=
       I9.pins_of fun p hp=>by
        rw [List.append_assoc] at hp
        rcases List.mem_append.mp hp with hp | hp
        · have e:p=(D,lobj (its++[u8]) (k+1)):=by simpa using hp
          subst e
          refine ⟨?_,p2,p3,p4,fun v z=>by cases z⟩
          rw [List.push_toArray] at hD9
          exact hD9
        · exact I9.pin p (List.mem_append_right _ hp)
      exact again I10 (rv.append (.cons r8 .nil)) (by rw [List.length_append,List.length_singleton];exact hlt') q8
 exact start_inner loop (T.self _ 0 _ _ _ st loop)
theorem comp_run2 {J:It} {fp:List Addr} {it:Addr} {tn:Nat→Heap→Prop} {g1 g2:TG} {ti1 ti2:TT} {wi2:TI} {te:TE} {Fin:List V→Hp→Prop} {E:Value→Shared→Prop} {RR:Value→Addr→Result→Shared→Prop}
 (co:CompOk X nv ix scope) (hc:X.calm=true) (I:Inv X pins σ H s) (T:Turn X.prog X.w X.K t1 J fp it tn) (st:tn 0 s.heap) (hf:∀ b∈fp,FpOk X pins H b)
 (kg:KpG2 nv g1 g2) (hg:∀ C s₀ H₀ fp,PG (cmpX X nv ix scope C s₀ H₀ fp) t1 g1) (hi:∀ C s₀ H₀ fp,PIf (cmpX X nv ix scope C s₀ H₀ fp) c1 ti1)
 (hw2:∀ C s₀ H₀ fp,PI (cmpX X nv ix scope C s₀ H₀ fp) t2 i2 wi2) (hg2:∀ C s₀ H₀ fp,PG (cmpX X nv ix scope C s₀ H₀ fp) t2 g2) (hi2:∀ C s₀ H₀ fp,PIf (cmpX X nv ix scope C s₀ H₀ fp) c2 ti2) (he:∀ C s₀ H₀ fp,PE (cmpX X nv ix scope C s₀ H₀ fp) elt te)
 (hs2:∀ C s₀ H₀ fp x,foldedSetIterable i2 (cmpX X nv ix scope C s₀ H₀ fp).env x=pure x)
 (q:CmpW2 nv ix g1 ti1 wi2 g2 ti2 te σ J Fin H)
 (fin:∀ D C s' H' ys,Inv X pins σ (upd H' D (.lst ys)) s'→H' D=none→Fin ys H'→(∃ m,s'.heap.Ns C m)→FpOk X pins (upd H' D (.lst ys)) C→RR (.ref D) C (.ok .next) s') :
 wpAny (model X.prog X.w) X.A (newList []) (fun acc s₃=>wpAny (model X.prog X.w) X.A (newFunctionEnv scope X.env.globals (clsOf X.env scope.names []) [] X.env.qual none .none (some X.env)) (fun cenv s₄=>
  codeAny (model X.prog X.w) X.A (.compStart (.ListComp elt [⟨t1,i1,c1,0⟩,⟨t2,i2,c2,0⟩] scope pos) 0 (.ref it) acc { cenv with scope:=relabel scope X.env }) (RR acc cenv.locals) s₄) E s₃) E s:=by
 obtain ⟨W,⟨m0,w0⟩,turn⟩:=q
 refine wpAny_newObj_type (wpAny_newFunctionEnv co.nocell (by intro y hy;simp at hy) (fun h₁ hns₁ hsb₁=>?_) co.kind)
 dsimp only at hns₁ hsb₁ ⊢
 generalize hH2:s.heap.push { cls:=.type "list",dict:=none,data:=.seq ([]:List Value).toArray }=H2 at hns₁ hsb₁ ⊢
 have hC:H2.objs.size=s.heap.objs.size+1:=by rw [← hH2,Heap.size_push]
 rw [hC] at hns₁ hsb₁ ⊢
 have hDC:s.heap.objs.size≠s.heap.objs.size+1:=Nat.ne_of_lt (Nat.lt_succ_self _)
 have below:∀ b,b<s.heap.objs.size→b≠s.heap.objs.size+1∧b≠s.heap.objs.size:=fun b hb=>⟨Nat.ne_of_lt (Nat.lt_succ_of_lt hb),Nat.ne_of_lt hb⟩
 have old:∀ b o,s.heap.get? b=some o→h₁.get? b=some o:=fun b o e=>hsb₁.extBut b o (below b (Heap.lt_size e)).1 (Heap.get?_push_of_some _ (hH2▸Heap.get?_push_of_some _ e))
 have hacc:h₁.get? s.heap.objs.size=some (lobj [] 0):=hsb₁.extBut _ _ hDC (Heap.get?_push_of_some _ (hH2▸Heap.get?_push_size _ rfl))
 have hlt:∀ b∈fp,b<s.heap.objs.size:=fun b hb=>by
  obtain ⟨o,e,_⟩:=T.obj 0 _ st b hb
  exact Heap.lt_size e
 have I₁:=fun tk=>cmp_start (tk:=tk) co I hf hlt hns₁ old hacc
 have st₁:tn 0 h₁:=T.keep 0 _ _ st fun b _ o e=>old b o e
 have fpD:∀ {H':Hp},H' s.heap.objs.size=none→FpOk X pins H' s.heap.objs.size:=fun hn=>I.fpOk (Nat.le_refl _) hn
 have loop:∀ tk:Nat,codeAny (model X.prog X.w) X.A (.compLoop (.ListComp elt [⟨t1,i1,c1,0⟩,⟨t2,i2,c2,0⟩] scope pos) 0 (.ref it) (.ref s.heap.objs.size) (compEnvC scope (clsOf X.env scope.names []) (s.heap.objs.size+1) X.env))
  (RR (.ref s.heap.objs.size) (s.heap.objs.size+1)) { s with heap:=h₁,toks:=tk }:=by
  intro tk
  refine loop_outer (fun n s'=>∃ i H' ys its k,Inv (cmpX X nv ix scope (s.heap.objs.size+1) s H fp) [(s.heap.objs.size,lobj its k)] (st0 nv ix σ) H' s'∧Vals ys its∧ys.length≤sizeLine∧tn i s'.heap∧(∀ b∈fp,H' b=none)∧W i n ys H')
   (hs2 (s.heap.objs.size+1) s H fp) ?_ m0 ⟨0,H,[],[],0,I₁ tk,.nil,Nat.zero_le _,st₁,fun b hb=>(hf b hb).1,w0⟩
  rintro n s3 ⟨i,H3,ys,its,k,I3,rv,hz,st3,fr3,w3⟩
  have fpc:∀ {H':Hp} {its:List Value} {k:Nat},(∀ b∈fp,H' b=none)→∀ b∈fp,FpOk (cmpX X nv ix scope (s.heap.objs.size+1) s H fp) [(s.heap.objs.size,lobj its k)] H' b:=fun {H' its k} hn b hb=>by
   refine ⟨hn b hb,(below b (hlt b hb)).1,fun hs=>?_,.inl hb,fun x c e=>(hf b hb).2.2.2.2.1 x c (co.look I.ok e),fun p hp z=>?_⟩
   · rcases List.mem_cons.mp (I.stkSub b hs) with e | h
     · exact (hf b hb).2.1 e
     · exact (hf b hb).2.2.1 h
   · have e:p=(s.heap.objs.size,lobj its k):=by simpa [cmpX] using hp
     subst e
     exact (below b (hlt b hb)).2 z.symm
  have pD:=fun {ps:List (Addr×Obj)} {σ':St} {H':Hp} {s':Shared} (I':Inv (cmpX X nv ix scope (s.heap.objs.size+1) s H fp) ((s.heap.objs.size,lobj its k)::ps) σ' H' s')=>
   I'.pin (s.heap.objs.size,lobj its k) (List.mem_append_right _ List.mem_cons_self)
  rcases turn i n ys H3 w3 with ⟨stop,fin0⟩ | ⟨go,N,hN,step⟩
  · refine thn (T.done (cmpX X nv ix scope (s.heap.objs.size+1) s H fp) rfl rfl rfl hc i _ s3 _ H3 _ I3 (fpc fr3) st3 stop) fun r s4 ⟨hr,I4⟩=>?_
    subst hr
    obtain ⟨p1,p2,_⟩:=pD I4
    have I5:=(cmp_end I hf I4).track rv hz p1 p2 (fpD p2)
    obtain ⟨mC,hmC,_⟩:=I4.loc
    exact fin _ _ s4 H3 ys I5 p2 fin0 ⟨mC,hmC⟩ (I.fpOk (Nat.le_succ _) (by rw [upd_ne (Ne.symm hDC)];exact I4.free))
  · refine thn (T.item (cmpX X nv ix scope (s.heap.objs.size+1) s H fp) rfl rfl rfl hc i _ s3 _ H3 _ I3 (fpc fr3) st3 go) fun r s4 ⟨u,hr,h4⟩=>?_
    subst hr
    refine thn h4 fun _ s5 ⟨x,H5,I5,r5,y5,st5,fr5⟩=>?_
    have I5':=I5.pinned (fpc fr5) (T.obj _ _ st5)
    refine thn (hg _ _ _ _ _ s5 _ H5 x u _ I5' r5 (kg _ _ _ _ (step x H5 y5))) fun _ s6 ⟨σ6,H6,I6,⟨kp,kt⟩,q6⟩=>?_
    refine thn (hi _ _ _ _ _ s6 σ6 H6 _ I6 q6) fun b s7 ⟨H7,I7,q7⟩=>?_
    have again:∀ {s7:Shared} {H7:Hp} {ys' its':List _} {k':Nat},Inv (cmpX X nv ix scope (s.heap.objs.size+1) s H fp) ([(s.heap.objs.size,lobj its' k')]++pinsAt fp s5.heap) σ6 H7 s7→Vals ys' its'→ys'.length≤sizeLine→N ys' H7 →
     ∃ m,m<n∧∃ i H' ys its k,Inv (cmpX X nv ix scope (s.heap.objs.size+1) s H fp) [(s.heap.objs.size,lobj its k)] (st0 nv ix σ) H' s7∧Vals ys its∧ys.length≤sizeLine∧tn i s7.heap∧(∀ b∈fp,H' b=none)∧W i m ys H':=fun {s7 H7 ys' its' k'} I8 rv' hz' n8=>by
     obtain ⟨m',hm,w8⟩:=hN _ _ n8
     have pn:=fun (b:Addr) (o:Obj) (hb:b∈fp) (e:s5.heap.get? b=some o)=>I8.pin (b,o) (List.mem_append_right _ (List.mem_append_right _ (mem_pinsAt hb e)))
     refine ⟨m',hm,i+1,H7,ys',its',k',(I8.unpinned).weak kp.1 kp.2,rv',hz',T.keep _ _ _ st5 fun b hb o e=>(pn b o hb e).1,fun b hb=>?_,w8⟩
     obtain ⟨o,e,d⟩:=T.obj _ _ st5 b hb
     exact (pn b o hb e).2.1
    cases b with
    | false=>
      rw [if_neg Bool.false_ne_true] at q7 ⊢
      exact again I7 rv hz q7
    | true=>
      rw [if_pos rfl] at q7 ⊢
      refine thn (hw2 _ _ _ _ _ s7 σ6 H7 _ I7 q7) fun v8 s8 h8=>thn h8 fun itv s9 h9=>?_
      obtain ⟨it2,fp2,tn2,J2,H9,e9,I9,T2,st9,f9,q9⟩:=h9
      subst e9
      refine codeAny_mono (inner_run (X:=cmpX X nv ix scope (s.heap.objs.size+1) s H fp) (elt:=elt) (t1:=t1) (i1:=i1) (c1:=c1) (i2:=i2) hc rfl I9 rv hz T2 st9 f9 (.inr (Nat.le_refl _)) (fun x c e z=>?_) (fun p hp z=>?_) kt (hg2 _ _ _ _) (hi2 _ _ _ _) (he _ _ _ _) rfl q9) fun r s10 h10=>?_
      · obtain ⟨v,o,e1,_⟩:=I.cell x c (co.look I.ok e)
        exact absurd (Heap.lt_size e1) (by rw [z];exact Nat.lt_irrefl _)
      · obtain ⟨hb,_⟩:=of_pinsAt hp
        exact (below _ (hlt _ hb)).2 z
      · obtain ⟨rfl,H10,ys',its',k',I10,rv10,hz10,n10⟩:=h10
        exact ⟨rfl,again I10 rv10 hz10 n10⟩
 exact codeAny_compStart_list (loop _) (T.self _ 0 _ _ _ st₁ (loop _))
def tComp2 (nv:List Str) (ix:List (Str×Nat)) (wi:TI) (g1:TG) (ti1:TT) (wi2:TI) (g2:TG) (ti2:TT) (te:TE):TE:=fun σ H Q=>wi σ H fun J H1=>CmpW2 nv ix g1 ti1 wi2 g2 ti2 te σ J (fun ys H2=>∀ D,H2 D=none→Q (.ref D) (upd H2 D (.lst ys))) H1
theorem kpg2_names {x y:Str}:KpG2 [x,y] (gName 0) (gName 1):=fun fr v H Q h=>by
 refine ⟨⟨⟨by simp,fun i w e=>?_⟩,fun v2 H2 Q2 h2=>⟨⟨by simp,fun i w e=>?_⟩,h2⟩⟩,h⟩
 · match i,e with
   | 0,e=>cases e
   | i+1,e=>exact e
 · match i,e with
   | 0,e=>exact e
   | 1,e=>cases e
   | i+2,e=>exact e
end
section
variable {κ:Type} [DecidableEq κ]
def valV (kvs:List (κ×V)) (k:κ):Option V:=(kvs.find? fun kv=>decide (kv.1=k)).map (·.2)
def putK (kvs:List (κ×V)) (k:κ) (v:V):List (κ×V):=
 if (kvs.any fun kv=>decide (kv.1=k))=true then kvs.map (fun kv=>if kv.1=k then (kv.1,v) else kv) else kvs++[(k,v)]
theorem valV_pos {p:κ×V} {r:List (κ×V)} {k:κ} (e:p.1=k):valV (p::r) k=some p.2:=by simp [valV,List.find?_cons,e]
theorem valV_neg {p:κ×V} {r:List (κ×V)} {k:κ} (e:¬ p.1=k):valV (p::r) k=valV r k:=by simp [valV,List.find?_cons,e]
theorem valV_any (k:κ):∀ kvs:List (κ×V),(kvs.any fun kv=>decide (kv.1=k))=(valV kvs k).isSome
 | []=>rfl
 | p::r=>by
   rw [List.any_cons]
   by_cases e:p.1=k
   · simp only [valV_pos e,decide_eq_true e,Bool.true_or,Option.isSome_some]
   · rw [valV_neg e,decide_eq_false e,Bool.false_or];exact valV_any k r
theorem length_putK (kvs:List (κ×V)) (k:κ) (v:V):(putK kvs k v).length≤kvs.length+1:=by
 unfold putK
 split
 · rw [List.length_map];omega
 · rw [List.length_append,List.length_cons,List.length_nil];omega
theorem RelO.isSome_eq {o:Option V} {u:Option Value} (r:RelO o u):o.isSome=u.isSome:=by
 cases o with
 | none=>cases u with
   | none=>rfl
   | some _=>exact (show False from r).elim
 | some _=>cases u with
   | none=>exact (show False from r).elim
   | some _=>rfl
theorem RelO.getD {o:Option V} {u:Option Value} {d:V} {d':Value} (r:RelO o u) (rd:RelV d d'):RelV (o.getD d) (u.getD d'):=by
 cases o with
 | none=>cases u with
   | none=>exact rd
   | some _=>exact (show False from r).elim
 | some _=>cases u with
   | none=>exact (show False from r).elim
   | some _=>exact r
theorem KV.val {kvs:List (κ×V)} {vs:List (κ×Value)} (r:KV kvs vs) (k:κ):RelO (valV kvs k) (valueAt vs k):=by
 unfold KV at r
 induction r with
 | nil=>exact True.intro
 | @cons p q ps qs h t ih=>
   obtain ⟨h1,h2⟩:=h
   by_cases e:p.1=k
   · have e':q.1=k:=h1.symm.trans e
     have b:valueAt (q::qs) k=some q.2:=by simp [valueAt,List.find?_cons,e']
     rw [valV_pos e,b];exact h2
   · have e':¬ q.1=k:=fun z=>e (h1.trans z)
     have b:valueAt (q::qs) k=valueAt qs k:=by simp [valueAt,List.find?_cons,e']
     rw [valV_neg e,b];exact ih
theorem KV.any {kvs:List (κ×V)} {vs:List (κ×Value)} (r:KV kvs vs) (k:κ):(kvs.any fun kv=>decide (kv.1=k))=vs.any fun kv=>decide (kv.1=k):=by
 unfold KV at r
 induction r with
 | nil=>rfl
 | cons h t ih=>rw [List.any_cons,List.any_cons,ih,h.1]
theorem KV.repl {kvs:List (κ×V)} {vs:List (κ×Value)} (r:KV kvs vs) (k:κ) {y:V} {u:Value} (ry:RelV y u) :
 KV (kvs.map fun kv=>if kv.1=k then (kv.1,y) else kv) (vs.map fun kv=>if kv.1=k then (kv.1,u) else kv):=by
 unfold KV at r ⊢
 induction r with
 | nil=>exact .nil
 | @cons p q ps qs h t ih=>
   rw [List.map_cons,List.map_cons]
   refine .cons ?_ ih
   obtain ⟨h1,h2⟩:=h
   by_cases e:p.1=k
   · rw [if_pos e,if_pos (h1.symm.trans e)];exact ⟨h1,ry⟩
   · rw [if_neg e,if_neg (fun z=>e (h1.trans z))];exact ⟨h1,h2⟩
theorem KV.put {kvs:List (κ×V)} {vs:List (κ×Value)} (r:KV kvs vs) (k:κ) {y:V} {u:Value} (ry:RelV y u):KV (putK kvs k y) (stored vs k u):=by
 unfold putK stored
 rw [r.any k]
 by_cases e:(vs.any fun kv=>decide (kv.1=k))=true
 · rw [if_pos e,if_pos e];exact r.repl k ry
 · rw [if_neg e,if_neg e];exact Paired.snoc r ⟨rfl,ry⟩
theorem KV.length {kvs:List (κ×V)} {vs:List (κ×Value)} (r:KV kvs vs):kvs.length=vs.length:=Paired.length r
end
theorem kV_is {P:Program} {w:World} {k:Key} {u:Value} (r:RelV (kV k) u):(mixKind P w).is k u=true:=by
 cases k with
 | inl i=>obtain ⟨t,e⟩:=(show ∃ t,u=Value.int i t from r);subst e;exact mixKind_int P w i t
 | inr x=>obtain ⟨t,e⟩:=(show ∃ t,u=Value.str x t from r);subst e;exact mixKind_str P w x t
theorem items_are {P:Program} {w:World}:∀ {ks:List Key} {us:List Value},Vals (ks.map kV) us→ItemsAre (mixKind P w) ks us
 | [],_,r=>by rw [List.map_nil] at r;cases r;exact .nil
 | k::ks,_,r=>by
   rw [List.map_cons] at r
   cases r with
   | cons h t=>exact .cons (kV_is h) (items_are t)
abbrev KT (H:Hp):List (List Key×V)→List (List Key×Addr×Value)→Prop:=Paired fun p q=>p.1=q.1∧H q.2.1=some (.tup (p.1.map kV))∧RelV p.2 q.2.2
theorem KT.val {H:Hp} {kvs:List (List Key×V)} {xs:List (List Key×Addr×Value)} (r:KT H kvs xs) (k:List Key):RelO (valV kvs k) ((atKey xs k).map (·.2)):=by
 induction r with
 | nil=>exact True.intro
 | @cons p q ps qs h t ih=>
   obtain ⟨h1,_,h2⟩:=h
   by_cases e:p.1=k
   · have e':q.1=k:=h1.symm.trans e
     have b:atKey (q::qs) k=some q.2:=by simp [atKey,List.find?_cons,e']
     rw [valV_pos e,b];exact h2
   · have e':¬ q.1=k:=fun z=>e (h1.trans z)
     have b:atKey (q::qs) k=atKey qs k:=by simp [atKey,List.find?_cons,e']
     rw [valV_neg e,b];exact ih
theorem KT.repl {H:Hp} {kvs:List (List Key×V)} {xs:List (List Key×Addr×Value)} (r:KT H kvs xs) (k:List Key) {y:V} {u:Value} (ry:RelV y u) :
 KT H (kvs.map fun kv=>if kv.1=k then (kv.1,y) else kv) (xs.map (putAt k u)):=by
 induction r with
 | nil=>exact .nil
 | @cons p q ps qs h t ih=>
   rw [List.map_cons,List.map_cons]
   refine .cons ?_ ih
   obtain ⟨h1,h2,h3⟩:=h
   unfold putAt
   by_cases e:p.1=k
   · rw [if_pos e,if_pos (h1.symm.trans e)];exact ⟨h1,h2,ry⟩
   · rw [if_neg e,if_neg (fun z=>e (h1.trans z))];exact ⟨h1,h2,h3⟩
theorem KT.put {H:Hp} {kvs:List (List Key×V)} {xs:List (List Key×Addr×Value)} (r:KT H kvs xs) (k:List Key) {b:Addr} {y:V} {u:Value} (hb:H b=some (.tup (k.map kV))) (ry:RelV y u) :
 KT H (putK kvs k y) (storedH xs k b u):=by
 have e:(kvs.any fun kv=>decide (kv.1=k))=(atKey xs k).isSome:=by
  rw [valV_any,(r.val k).isSome_eq,Option.isSome_map]
 unfold putK storedH
 rw [e]
 by_cases q:(atKey xs k).isSome=true
 · rw [if_pos q,if_pos q];exact r.repl k ry
 · rw [if_neg q,if_neg q];exact Paired.snoc r ⟨rfl,hb,ry⟩
theorem KT.keeps {H H':Hp} {kvs:List (List Key×V)} {xs:List (List Key×Addr×Value)} (r:KT H kvs xs) (ht:∀ b ys,H b=some (.tup ys)→H' b=some (.tup ys)):KT H' kvs xs:=
 Paired.mapP r fun _ _ z=>⟨z.1,ht _ _ z.2.1,z.2.2⟩
section
variable {P:Program} {w:World} {H:Hp} {h:Heap} {a:Addr}
theorem rd_of {u:HO} (ok:HOk P w H h) (e:Rd H a u):ObjOk P w H h a u:=e.ok ok
theorem dk_rd {kvs:List (Key×V)} (ok:HOk P w H h) (e:Rd H a (.dK kvs)):kvs.length≤sizeLine∧(a == sysModules)=false∧∃ vs,KV kvs vs∧h.DictOf (mixKind P w) a vs:=
 show ObjOk P w H h a (.dK kvs) from rd_of ok e
theorem dk_of {kvs:List (Key×V)} (ok:HOk P w H h) (e:H a=some (.dK kvs)):kvs.length≤sizeLine∧(a == sysModules)=false∧∃ vs,KV kvs vs∧h.DictOf (mixKind P w) a vs:=dk_rd ok (.inl e)
theorem key_of {ks:List Key} (ok:HOk P w H h) (e:H a=some (.tup (ks.map kV))):(tupleKind (mixKind P w)).is h ks a:=by
 obtain ⟨_,its,r,pT⟩:=(show ObjOk P w H h a (.tup (ks.map kV)) from ok a _ e)
 obtain ⟨o,h1,h2,n,h3⟩:=pT.tup
 exact ⟨o,its.toArray,n,h1,h2,h3,by simpa using items_are r⟩
theorem dt_rd {kvs:List (List Key×V)} (ok:HOk P w H h) (e:Rd H a (.dT kvs)):kvs.length≤sizeLine∧(a == sysModules)=false ∧
 ∃ xs,KT H kvs xs∧h.DictOfH (tupleKind (mixKind P w)) a xs:=by
 obtain ⟨z,y,xs,r,o,es,ep,h1,h2,h3,h4,h5⟩:=(show ObjOk P w H h a (.dT kvs) from rd_of ok e)
 refine ⟨z,y,xs,r,o,es,ep,h1,h2,h3,h4,fun x hx=>?_,h5⟩
 have all:∀ {l:List (List Key×V)} {m:List (List Key×Addr×Value)},KT H l m→∀ x∈m,(tupleKind (mixKind P w)).is h x.1 x.2.1:=by
  intro l m q
  induction q with
  | nil=>intro x hx;exact nomatch hx
  | @cons p q ps qs hq t ih=>
    intro x hx
    rcases List.mem_cons.mp hx with e | hx
    · subst e
      exact key_of ok (by rw [← hq.1];exact hq.2.1)
    · exact ih x hx
 exact all r x hx
theorem dt_of {kvs:List (List Key×V)} (ok:HOk P w H h) (e:H a=some (.dT kvs)):kvs.length≤sizeLine∧(a == sysModules)=false ∧
 ∃ xs,KT H kvs xs∧h.DictOfH (tupleKind (mixKind P w)) a xs:=dt_rd ok (.inl e)
end
def DGet (H:Hp) (a:Addr) (y:V) (r:Option V):Prop:=
 (∃ kvs k,Rd H a (.dK kvs)∧y=kV k∧r=valV kvs k)∨∃ kvs k b,Rd H a (.dT kvs)∧y=.ref b∧H b=some (.tup (k.map kV))∧r=valV kvs k
def DPut (H:Hp) (a:Addr) (y v:V) (H':Hp):Prop:=
 (∃ kvs k,H a=some (.dK kvs)∧y=kV k∧kvs.length<sizeLine∧H'=upd H a (.dK (putK kvs k v))) ∨
 ∃ kvs k b,H a=some (.dT kvs)∧y=.ref b∧H b=some (.tup (k.map kV))∧kvs.length<sizeLine∧H'=upd H a (.dT (putK kvs k v))
theorem DPut.k {H:Hp} {a:Addr} {kvs:List (Key×V)} {k:Key} {v:V} (e:H a=some (.dK kvs)) (hl:kvs.length<sizeLine):DPut H a (kV k) v (upd H a (.dK (putK kvs k v))):=.inl ⟨kvs,k,e,rfl,hl,rfl⟩
section
variable {X:Cx} {pins:List (Addr×Obj)} {σ:St} {H:Hp} {s:Shared} {a:Addr} {y v:V} {u r:Value} {o:Option V} {A:Around} {E:Value→Shared→Prop}
theorem d_write {h':Heap} {t':Nat} {ob:HO} (I:Inv X pins σ H s) (mu:Mut (H a)) (hs:Heap.SameBut a s.heap h') (he:∃ q,h'.get? a=some q) (new:ObjOk X.prog X.w (upd H a ob) h' a ob) :
 Inv X pins σ (upd H a ob) { s with heap:=h',toks:=t' }:=
 I.write (x:=a) (e:=a) mu (.inl rfl) (fun b q hb z=>(hs.2 b hb).trans z) he new
theorem dk_new {P:Program} {w:World} {H':Hp} {h':Heap} {kvs:List (Key×V)} {vs:List (Key×Value)} (z:kvs.length≤sizeLine) (hd:(a == sysModules)=false) (rel:KV kvs vs) (dd:h'.DictOf (mixKind P w) a vs) :
 ObjOk P w H' h' a (.dK kvs):=⟨z,hd,vs,rel,dd⟩
theorem d_setItem {H':Hp} {Q:Unit→Shared→Prop} (hu:A.units+1<cLine) (I:Inv X pins σ H s) (g:DPut H a y v H') (ry:RelV y u) (rv:RelV v r) (h:∀ s',Inv X pins σ H' s'→Q () s') :
 wpAny (model X.prog X.w) A (setItem (.ref a) u r) Q E s:=by
 rcases g with ⟨kvs,k,e,ey,l,eH⟩ | ⟨kvs,k,b,e,ey,eb,l,eH⟩
 · subst ey eH
   obtain ⟨z,hd,vs,rel,dd⟩:=dk_of I.hok e
   have hz:vs.length≤sizeLine:=by rw [← rel.length];exact z
   have hl:(putK kvs k v).length≤sizeLine:=by have:=length_putK kvs k v;omega
   refine wpAny_setItem_pairs (hsz:=hz) (kV_is ry) dd fun h' dd' hs=>h _ ?_
   have he:∃ q,h'.get? a=some q:=let ⟨q,_,_,hq,_⟩:=dd';⟨q,hq⟩
   exact d_write I (by rw [e];exact True.intro) hs he (dk_new hl hd (rel.put k rv) dd')
 · subst ey eH
   cases (show u=Value.ref b from ry)
   obtain ⟨z,hd,xs,rel,dd⟩:=dt_of I.hok e
   have hz:xs.length≤sizeLine:=by rw [← Paired.length rel];exact z
   have hl:(putK kvs k v).length≤sizeLine:=by have:=length_putK kvs k v;omega
   refine wpAny_setItem_heap (hsz:=hz) (tupleKind_room_in1 hu) (key_of I.hok eb) dd fun h' dd' hs=>h _ ?_
   obtain ⟨q,es,ep,hq,h2,h3,h4,_,h5⟩:=dd'
   refine d_write I (by rw [e];exact True.intro) hs ⟨q,hq⟩ ⟨hl,hd,_,(rel.put k eb rv).keeps fun c ys ec=>?_,q,es,ep,hq,h2,h3,h4,h5⟩
   rw [upd_ne (ne_of ec e (fun z=>nomatch z))]
   exact ec
end
def sDPut (td ty tv:TE):TS:=fun D σ H=>tv σ H fun v H1=>td σ H1 fun x H2=>ty σ H2 fun y H3=>∃ a H4,x=.ref a∧DPut H3 a y v H4∧D.nx σ H4
section
variable {X:Cx} {o i e value:Expr} {pos pos' tpos:Pos} {td ty tv:TE}
theorem ps_dput (hu:X.A.units+1<cLine) (ho:PE X o td) (hi:PE X i ty) (hv:PE X value tv) (hs:swapsWith value (some (.Subscript o i pos')) pos.line X.env=pure false) :
 PS X (.Assign [.Subscript o i pos'] value pos) (sDPut td ty tv):=by
 intro pins s σ H D I h
 refine wpAny_Assign_Subscript (thn (hv pins s σ H _ I h) fun r s1 ⟨v,H1,I1,rv,q1⟩=>thn (ho pins s1 σ H1 _ I1 q1) fun u s2 ⟨x,H2,I2,rx,q2⟩=>thn (hi pins s2 σ H2 _ I2 q2) fun iv s3 ⟨y,H3,I3,ry,a,H4,ex,g,q3⟩=>?_) hs
 subst ex
 obtain rfl:u=Value.ref a:=rx
 exact d_setItem hu I3 g ry rv fun s4 I4=>⟨σ,H4,I4,q3⟩
theorem zs_dput (hu:X.A.units+1<cLine) (ho:ZE X o td) (hi:ZE X i ty) (hv:ZE X value tv) (hs:swapsWith value (some (.Subscript o i pos')) pos.line X.env=pure false) :
 ZS X (.Assign [.Subscript o i pos'] value pos) (sDPut td ty tv):=by with_unfolding_all exact ps_dput hu ho hi hv hs
end
end L2
namespace L2
open PySem PySem.Spec PyProof.Rows
section
variable {X:Cx}
theorem rel_key {k:Key} {v:Value} (h:keyIs k v=true):RelV (kV k) v:=by
 cases k with
 | inl i=>
   have h':Value.isInt i v=true:=h
   cases v with
   | int j t=>exact ⟨t,by simp [Value.isInt] at h';rw [h']⟩
   | _=>simp [Value.isInt] at h'
 | inr x=>
   have h':Value.isStrOf x v=true:=h
   cases v with
   | str y t=>exact ⟨t,by simp [Value.isStrOf] at h';rw [h']⟩
   | _=>simp [Value.isStrOf] at h'
variable {e:Expr} {es:List Expr} {t:TA} {p pos:Pos}
end
end L2
namespace L2
open PySem PySem.Spec PyProof.Rows
structure M2 (X:Cx) (o:Expr) (m:Str) (apos:Pos) (e f:Expr) (cpos:Pos):Prop where
 base:attributeBase o m X.env (eval o X.env)=eval o X.env
 few:((backTo cpos (starEach [e,f] X.env)).all (fun x=>!x.1)&&(backToKw cpos (keywordEach [] X.env)).all (fun x=>x.1.isSome)
  && decide (([e,f]:List Expr).length+([]:List Keyword).length+(if ([]:List Keyword).isEmpty then 0 else 1)<30))=true
 line:(apos.endLine == cpos.line)=true
 trees:backTo cpos (starEach [e,f] X.env)=[(false,eval e X.env),(false,eval f X.env)]
def IsD (H:Hp) (a:Addr):Prop:=(∃ kvs,Rd H a (.dK kvs))∨∃ kvs,Rd H a (.dT kvs)
theorem isD_at {X:Cx} {pins:List (Addr×Obj)} {σ:St} {H:Hp} {s:Shared} {a:Addr} (I:Inv X pins σ H s) (d:IsD H a) :
 s.TypeIs (.ref a) "dict"∧(∀ b,Value.ref a=.ref b→∃ ob,s.heap.get? b=some ob∧ob.dict=none)∧(a == sysModules)=false:=by
 rcases d with ⟨kvs,e⟩ | ⟨kvs,e⟩
 · obtain ⟨_,hd,vs,_,dd⟩:=dk_rd I.hok e
   refine ⟨dd.typeIs,fun b q=>?_,hd⟩
   cases q
   obtain ⟨ob,_,_,h1,h2,_⟩:=dd
   exact ⟨ob,h1,h2.2.1⟩
 · obtain ⟨_,hd,xs,_,dd⟩:=dt_rd I.hok e
   refine ⟨dd.typeIs,fun b q=>?_,hd⟩
   cases q
   obtain ⟨ob,_,_,h1,h2,_⟩:=dd
   exact ⟨ob,h1,h2.2.1⟩
section
variable {X:Cx} {pins:List (Addr×Obj)} {σ:St} {H:Hp} {s:Shared} {a:Addr} {y d:V} {u r:Value} {o:Option V} {A:Around} {E:Value→Shared→Prop}
theorem d_get2 {Q:Value→Shared→Prop} (hu:A.units+1<cLine) (I:Inv X pins σ H s) (g:DGet H a y o) (ry:RelV y u) (rd:RelV d r) (h:∀ w' s',Inv X pins σ H s'→RelV (o.getD d) w'→Q w' s') :
 wpAny (model X.prog X.w) A (call (.builtin "dict.get") [.ref a,u,r]) Q E s:=by
 rcases g with ⟨kvs,k,e,ey,l⟩ | ⟨kvs,k,b,e,ey,eb,l⟩
 · subst ey
   obtain ⟨z,hd,vs,rel,dd⟩:=dk_rd I.hok e
   refine call_meetsIn PySem.F.slot_dict_get dd.typeIs PySem.F.entry_dict_get (PySem.F.args_dict_get_3 _ _ _) (meets_dict_get_default (mixKind X.prog X.w) a (kV_is ry) hd r) ⟨_,dd.mapOf,h _ _ (I.tok _) ?_⟩
   rw [l]
   exact (rel.val k).getD rd
 · subst ey
   cases (show u=Value.ref b from ry)
   obtain ⟨z,hd,xs,rel,dd⟩:=dt_rd I.hok e
   refine call_meetsIn PySem.F.slot_dict_get dd.typeIs PySem.F.entry_dict_get (PySem.F.args_dict_get_3 _ _ _) (meetsH_dict_get_default (tupleKind (mixKind X.prog X.w)) a b hd r) ⟨tupleKind_room_in1 hu,k,xs,key_of I.hok eb,dd,h _ _ (I.tok _) ?_⟩
   rw [l]
   exact (rel.val k).getD rd
end
def tDGet2 (td ty tx:TE):TE:=fun σ H Q=>td σ H fun x H1=>∃ a,x=.ref a∧IsD H1 a∧ty σ H1 fun y H2=>tx σ H2 fun z H3=>∃ o,DGet H3 a y o∧Q (o.getD z) H3
section
variable {X:Cx} {o e f:Expr} {apos cpos:Pos} {td ty tx:TE}
theorem pe_dget2 (hu:X.A.units+1<cLine) (ho:PE X o td) (he:PE X e ty) (hf:PE X f tx) (m:M2 X o "get" apos e f cpos):PE X (.Call (.Attribute o "get" apos) [e,f] [] cpos) (tDGet2 td ty tx):=by
 intro pins s σ H Q I h
 refine wpAny_Call_method m.base m.few m.line PySem.F.plainAttrs_dict PySem.F.slot_dict_get PySem.F.type_dict_get (thn (ho pins s σ H _ I h) fun u s1 ⟨x,H1,I1,rx,a,ex,d,q1⟩=>?_)
 subst ex
 obtain rfl:u=Value.ref a:=rx
 obtain ⟨t1,t2,_⟩:=isD_at I1 d
 refine ⟨t1,t2,?_⟩
 rw [m.trees]
 refine Calls.callWith_builtin rfl (Calls.evalArgs_plain (Calls.spliced_cons (thn (he pins s1 σ H1 _ I1 q1) fun iv s2 ⟨y,H2,I2,ry,q2⟩=>
  Calls.spliced_cons (thn (hf pins s2 σ H2 _ I2 q2) fun fv s3 ⟨z,H3,I3,rz,ov,g,q3⟩=>Calls.spliced_nil ?_))))
 exact d_get2 hu I3 g ry rz fun w' s4 I4 rw'=>⟨_,H3,I4,rw',q3⟩
theorem ze_dget2 (hu:X.A.units+1<cLine) (ho:ZE X o td) (he:ZE X e ty) (hf:ZE X f tx) (m:M2 X o "get" apos e f cpos):ZE X (.Call (.Attribute o "get" apos) [e,f] [] cpos) (tDGet2 td ty tx):=by with_unfolding_all exact pe_dget2 hu ho he hf m
end
theorem ns_none_at {K:PySem.W.Frag} {h:Heap} {ns:Addr} {mg:Str→Option Value} {n:Str} (X:K.In h) (G:h.Ns ns mg) (e:PySem.W.nsIn K ns n=some none):mg n=none:=by
 obtain ⟨o,es,ep,ho,hd,_,hf⟩:=G
 unfold PySem.W.nsIn at e
 split at e
 · rename_i c d es' n' sl q
   have:=X _ _ q
   rw [ho] at this
   cases this
   cases hd
   split at e
   · cases e
   · rename_i he
     rw [← hf]
     unfold nsFind findBy
     rw [← Array.find?_toList,he]
     rfl
 · cases e
def DigK (K:PySem.W.Frag):Prop:=PySem.W.nsIn K cStatics "sys.int_max_str_digits" = some none
theorem wp_textL {M:Model} {A:Around} {E:Value→Shared→Prop} {s:Shared} {Q:Value→Shared→Prop} {v:Value} {text:List Nat} {n:Int} {mc:Str→Option Value}
 (hns:s.heap.Ns cStatics mc) (hmc:mc "sys.int_max_str_digits" = none)
 (hs:¬ (text.takeWhile (· != 0)).length≤640) (hr:(int_private% "readNumeral") 4300 10 (text.takeWhile (· != 0))=(int_private% "Numeral.value") n)
 (ha:((text.takeWhile (· != 0)).length == text.length)=true) (h:Q (.int n s.toks) { s with toks:=s.toks+1 }) :
 wpAny M A ((int_private% "intFromText") v text 10) Q E s:=by
 obtain ⟨hp,g,d,tk,os⟩:=s
 have lim:∀ (Q:Nat→Shared→Prop) (E:Value→Shared→Prop),Q 4300 ⟨hp,g,d,tk,os⟩→wpAny M A Builtin.intMaxStrDigits Q E ⟨hp,g,d,tk,os⟩:=fun Q E q=>by
  unfold Builtin.intMaxStrDigits
  refine wpAny_bind (wpAny_nsGet hns ?_)
  rw [hmc]
  exact wpAny_pure q
 repeat (any_goals (first
  | assumption
  | (with_reducible refine lim _ _ ?_)
  | (with_reducible refine wpAny_ite_false (decide_eq_false hs) ?_)
  | (with_reducible refine wpAny_ite_true (decide_eq_true ha) ?_)
  | wp_step))
 all_goals (try rw [hr])
 all_goals (try dsimp only)
 repeat (any_goals (first
  | assumption
  | (with_reducible refine lim _ _ ?_)
  | (with_reducible refine wpAny_ite_false (decide_eq_false hs) ?_)
  | (with_reducible refine wpAny_ite_true (decide_eq_true ha) ?_)
  | wp_step))
def NoDig (h:Heap):Prop:=∃ mc,h.Ns cStatics mc∧mc "sys.int_max_str_digits" = none
theorem meets_textL {x:PySem.Str} {u:Tok} {n:Int} (hx:x.length≤sizeLine) (hbig:¬ (numSeenOf x).length≤640) (hn:PySem.intText? x=some n) :
 Meets (Builtin.«int.__new__» ⟨[.type "int",.str x u],[]⟩) (fun _ R s=>NoDig s.heap∧R (.ok (.ret (.int n s.toks))) { s with toks:=s.toks+1 }):=
 .of_wp fun prog w A R s h=>by
  obtain ⟨⟨mc,hns,hmc⟩,h⟩:=h
  obtain ⟨hp,g,d,tk,os⟩:=s
  have f1:=PySem.F.conv_sub_int
  have f2:=PySem.F.madeHere_int
  have f3:=PySem.W.KIN.str_int
  have f4:=PySem.W.KIN.str_idx
  have f5:=PySem.W.KIN.str_trunc
  have f6:typeOf (.str x u)=pure (.type "str"):=rfl
  have hr:(int_private% "readNumeral") 4300 10 (numSeenOf x)=(int_private% "Numeral.value") n∧((numSeenOf x).length == (numTextOf x).length)=true:=by
   rcases read4300 x hx with ⟨m,h1,h2,h3⟩ | ⟨h1,_⟩
   · rw [hn] at h1
     injection h1 with h1
     subst h1
     exact ⟨h3,h2⟩
   · rw [hn] at h1
     cases h1
  have hk:=PySem.W.KIN.Hid.mk (And.intro hbig hr)
  have hm:=PySem.W.KIN.Hid.mk (And.intro hns hmc)
  clear hbig hr hn hns hmc
  repeat (any_goals (first
   | assumption
   | ((with_reducible show wpAny _ _ ((int_private% "intFromText") _ _ _) _ _ _);refine wp_textL hm.out.1 hm.out.2 hk.out.1 hk.out.2.1 hk.out.2.2 ?_)
   | wp_step))
  all_goals first | exact ⟨_,rfl,h⟩ | skip
section
variable {X:Cx}
def rIntL:List V→Hp→VK→Prop:=fun xs H Q=>match xs with
 | [.str x]=>∃ n,intText? x=some n∧x.length≤sizeLine∧(¬ (numSeenOf x).length≤640)∧Q (.int n) H
 | _=>False
theorem Inv.noDig {pins:List (Addr×Obj)} {σ:St} {H:Hp} {s:Shared} (I:Inv X pins σ H s) (hD:DigK X.K):NoDig s.heap:=by
 obtain ⟨mc,hns,_⟩:=I.nolimit
 exact ⟨mc,hns,ns_none_at I.kIn hns hD⟩
theorem call_intL (hD:DigK X.K):CallR X (.type "int") rIntL:=by
 intro pins s σ H xs us Q I r h
 unfold rIntL at h
 split at h
 · obtain ⟨n,h1,h2,hb,q⟩:=h
   obtain ⟨u,rfl,r1⟩:=vals1 r
   obtain ⟨t,rfl⟩:=r1
   exact call_int_1 (meets_textL h2 hb h1) ⟨I.noDig hD,⟨rfl,⟨.int n,H,I.tok _,⟨_,rfl⟩,q⟩⟩⟩
 · exact h.elim
variable {e:Expr} {es:List Expr} {t:TA} {p pos:Pos}
theorem pcb_intL (hD:DigK X.K) (hg:Gl X "int") (hm:X.mg "int" = none) (ha:PA X (e::es) t) (he:starEach (e::es) X.env=(false,eval e X.env)::starEach es X.env) (hpl:(backTo pos (starEach es X.env)).any (·.1)=false) :
 PE X (.Call (.Name "int" p) (e::es) [] pos) (tCB rIntL t):=pe_callTy (call_intL hD) hg hm boot_int' ha (by decide) (by decide) he hpl
theorem zcb_intL (hD:DigK X.K) (hg:Gl X "int") (hm:X.mg "int" = none) (ha:ZA X (e::es) t) (he:starEach (e::es) X.env=(false,eval e X.env)::starEach es X.env) (hpl:(backTo pos (starEach es X.env)).any (·.1)=false) :
 ZE X (.Call (.Name "int" p) (e::es) [] pos) (tCB rIntL t):=by with_unfolding_all exact pcb_intL hD hg hm ha he hpl
end
theorem boot_any':bootBuiltins "any" = some (.builtin "any"):=by decide +kernel
def rAnyP (K:PySem.W.Frag):List V→Hp→VK→Prop:=fun xs H Q=>match xs with
 | [.ref p]=>∃ bs:List Bool,SqL K H p (bs.map V.bl)∧Q (.bl (bs.any id)) H
 | _=>False
theorem call_anyP {X:Cx} (hc:X.calm=true):CallR X (.builtin "any") (rAnyP X.K):=by
 intro pins s σ H xs us Q I r h
 unfold rAnyP at h
 split at h
 · rename_i p
   obtain ⟨bs,hq,q⟩:=h
   obtain ⟨u,rfl,rx⟩:=vals1 r
   cases rx
   obtain ⟨its,rv,pl,hz⟩:=I.list hq
   have hlen:its.length=bs.length:=by rw [← rv.length,List.length_map]
   have hlt:p<s.heap.objs.size:=by
    obtain ⟨_,e,_⟩:=pl.isList
    exact Heap.lt_size e
   refine call_any_walk (wpAny_pyIter_list pl.isList ?_)
   have W:Walks X.prog X.w X.A.in1 s.heap.objs.size [s.heap.objs.size,p] [s.heap.objs.size] its.toArray.size _ _:=Walks.list (show X.A.in1.handled=none from I.ok.hd hc) s.heap.objs.size p (Nat.ne_of_lt hlt) its.toArray
   refine ⟨s.heap.objs.size,_,_,_,_,_,fun i=>bs.getD i false,rfl,W,⟨⟨_,Heap.get?_push_size _ rfl,rfl,rfl⟩,pl.isList.push _⟩,?_,fun h' tk hk=>?_⟩
   · intro i v s' Q' E' hP hQ
     have hP':its[i]? = some v:=by simpa using hP
     have hi:i<bs.length:=by rw [← hlen];exact (List.getElem?_eq_some_iff.mp hP').1
     obtain ⟨w',e1,e2⟩:=rv.get (i:=i) (x:=.bl bs[i]) (by rw [List.getElem?_map,List.getElem?_eq_getElem hi];rfl)
     rw [hP'] at e1
     cases e1
     cases e2
     refine wpAny_truthy_bool ?_
     have e:bs.getD i false=bs[i]:=by rw [List.getD_eq_getElem?_getD,List.getElem?_eq_getElem hi];rfl
     have hQ':Q' (bs.getD i false) s':=hQ
     rw [e] at hQ'
     exact hQ'
   · have I1:Inv X pins σ H { s with heap:=h',toks:=tk }:=I.kept fun b o e=>hk b o (by simpa using Nat.ne_of_lt (Heap.lt_size e)) (Heap.get?_push_of_some _ e)
     refine ⟨.bl _,H,I1,rfl,?_⟩
     have e:(List.range its.toArray.size).any (fun i=>bs.getD i false)=bs.any id:=by
      rw [List.size_toArray,hlen,Bool.eq_iff_iff,List.any_eq_true,List.any_eq_true]
      constructor
      · rintro ⟨i,hi,h⟩
        have hi':=List.mem_range.mp hi
        rw [List.getD_eq_getElem?_getD,List.getElem?_eq_getElem hi'] at h
        exact ⟨_,List.getElem_mem hi',h⟩
      · rintro ⟨x,hx,h⟩
        obtain ⟨i,hi,rfl⟩:=List.mem_iff_getElem.mp hx
        exact ⟨i,List.mem_range.mpr hi,by rw [List.getD_eq_getElem?_getD,List.getElem?_eq_getElem hi];exact h⟩
     rw [e]
     exact q
 · exact h.elim
section
variable {X:Cx} {e:Expr} {es:List Expr} {t:TA} {p pos:Pos}
theorem pcb_any (hc:X.calm=true) (hg:Gl X "any") (hm:X.mg "any" = none) (ha:PA X (e::es) t) (he:starEach (e::es) X.env=(false,eval e X.env)::starEach es X.env) (hpl:(backTo pos (starEach es X.env)).any (·.1)=false) :
 PE X (.Call (.Name "any" p) (e::es) [] pos) (tCB (rAnyP X.K) t):=pe_callB (call_anyP hc) hg hm boot_any' ha (by decide) (by decide) he hpl
theorem zcb_any (hc:X.calm=true) (hg:Gl X "any") (hm:X.mg "any" = none) (ha:ZA X (e::es) t) (he:starEach (e::es) X.env=(false,eval e X.env)::starEach es X.env) (hpl:(backTo pos (starEach es X.env)).any (·.1)=false) :
 ZE X (.Call (.Name "any" p) (e::es) [] pos) (tCB (rAnyP X.K) t):=by with_unfolding_all exact pcb_any hc hg hm ha he hpl
end
theorem eqv_tuple_nil (ds:List PyData):PyData.eqv (.tuple ds) (.tuple [])=ds.isEmpty:=by cases ds <;> simp [PyData.eqv,PyData.eqvAll]
end L2
namespace L2
open PySem PySem.Spec PyProof.Rows
section
variable {X:Cx}
theorem Inv.freeze {pins:List (Addr×Obj)} {σ:St} {H:Hp} {s:Shared} {d:Addr} {o:Obj} {kvs:List (Key×V)} (I:Inv X pins σ H s) (hd:H d=some (.dK kvs)) (ho:s.heap.get? d=some o):Inv X pins σ (upd H d (.frz o (.dK kvs))) s:=by
 have nn:∀ b,H b=none→b≠d:=fun b n z=>by rw [z,hd] at n;cases n
 have nt:∀ b u,H b=some u→u≠.dK kvs→b≠d:=fun b u e n z=>by rw [z,hd] at e;exact n (Option.some.inj e).symm
 refine ⟨I.ok,I.os,I.bare,⟨I.base.keep,I.base.slot,fun b ob e n hx=>?_,I.base.there,fun b xs e=>?_,fun b ob u e=>?_,fun b ps e=>?_⟩,I.loc,I.cell,?_,fun x c e=>?_,fun p hp=>?_,fun a u e=>?_,I.len⟩
 · rw [upd_ne (nn b (I.base.free b ob e n hx))];exact I.base.free b ob e n hx
 · have:=I.base.tups b xs e
   rw [upd_ne (nt b _ this (by intro z;cases z))];exact this
 · have:=I.base.frzs b ob u e
   rw [upd_ne (nt b _ this (by intro z;cases z))];exact this
 · obtain ⟨more,h⟩:=I.base.tbls b ps e
   exact ⟨more,by rw [upd_ne (nt b _ h (by intro z;cases z))];exact h⟩
 · rw [upd_ne (nn _ I.free)];exact I.free
 · rw [upd_ne (nn _ (I.freeC x c e))];exact I.freeC x c e
 · obtain ⟨h1,h2,h3⟩:=I.pin p hp
   exact ⟨h1,by rw [upd_ne (nn _ h2)];exact h2,h3⟩
 · have st:∀ {a':Addr} {u':HO},ObjOk X.prog X.w H s.heap a' u'→ObjOk X.prog X.w (upd H d (.frz o (.dK kvs))) s.heap a' u':=fun {a' u'} x=>x.stay (fun _ _ _ e=>e) (fun b e=>by rw [upd_ne (nt b _ e (by intro z;cases z))];exact e) fun b xs e=>by rw [upd_ne (nt b _ e (by intro z;cases z))];exact e
   by_cases ha:a=d
   · subst ha
     rw [upd_same] at e
     cases e
     exact ⟨ho,st (I.hok a _ hd)⟩
   · rw [upd_ne ha] at e
     exact st (I.hok a u e)
theorem paired_at {α β:Type} {F:α→β→Prop}:∀ {l₁:List α} {l₂:List β} {i:Nat} {a:α},Paired F l₁ l₂→l₁[i]? = some a→∃ b,l₂[i]? = some b∧F a b
 | _,_,0,a,.cons h t,e=>by cases e;exact ⟨_,rfl,h⟩
 | _,_,i+1,a,.cons h t,e=>by
   obtain ⟨b,e1,e2⟩:=paired_at (i:=i) t (by simpa using e)
   exact ⟨b,by simpa using e1,e2⟩
def ItD (d:Addr) (o:Obj) (n:Nat):It:=⟨fun i H=>∃ kvs kv,H d=some (.frz o (.dK kvs))∧kvs.length=n∧kvs[i]? = some kv,
 fun i H v H'=>∃ p,H p=none∧v=.ref p∧∀ kvs,H d=some (.frz o (.dK kvs))→∃ kv,kvs[i]? = some kv∧H'=upd H p (.tup [kV kv.1,kv.2]),
 fun i H=>∃ kvs,H d=some (.frz o (.dK kvs))∧kvs.length=n∧i=n⟩
theorem frz_at {P:Program} {w:World} {H:Hp} {h:Heap} {d:Addr} {o:Obj} {kvs:List (Key×V)} {es:Array DictEntry} {ep:Nat} (hok:HOk P w H h) (hd:H d=some (.frz o (.dK kvs))) (he:o.data=.dict es ep):∃ vs,KV kvs vs∧h.DictAt (mixKind P w) d vs ep:=by
 obtain ⟨e,_,_,vs,r,ob,es',ep',e2,c1,c2,c3⟩:=hok d _ hd
 rw [e] at e2
 cases e2
 rw [he] at c2
 cases c2
 exact ⟨vs,r,o,es,e,c1,he,c3⟩
theorem turn_items {P:Program} {w:World} {K:PySem.W.Frag} {elts:List Expr} {k:Nat} {pos:Pos} {d it:Addr} {o:Obj} {es:Array DictEntry} {ep n:Nat} (he:o.data=.dict es ep) :
 Turn P w K (.Tuple elts k pos) (ItD d o n) [it] it (fun i h=>∃ ok ov,IsItemIter h it d i n ep ok ov) where
 mem:=by simp
 obj:=fun i h st b hb=>by
  have e:b=it:=by simpa using hb
  subst e
  obtain ⟨ok,ov,e⟩:=st
  exact ⟨_,e,fun v z=>by cases z⟩
 keep:=fun i h h' st k=>by
  obtain ⟨ok,ov,e⟩:=st
  exact ⟨ok,ov,k it (by simp) _ e⟩
 item:=by
  intro X hP hw hK hc i pins s σ H E I hf st hg
  subst hP hw hK
  obtain ⟨kvs,kv,hd,hn,hx⟩:=hg
  obtain ⟨ok,ov,hit⟩:=st
  obtain ⟨vs,r,hat⟩:=frz_at I.hok hd he
  obtain ⟨f0,f1,f2,f3,f4,f5⟩:=hf it (by simp)
  have hl:=r.length
  obtain ⟨q,hq,hr⟩:∃ q,vs[i]? = some q∧kv.1=q.1∧RelV kv.2 q.2:=paired_at r hx
  obtain ⟨k1,v1⟩:=q
  have hit':IsItemIter s.heap it d i vs.length ep ok ov:=by rw [← hl,hn];exact hit
  refine wpAny_pyNext_items_item hit' hat hq fun key h' hkey ho hT hsz hk=>?_
  refine ⟨_,rfl,wpAny_letOwnedTupleGo_items ho fun h2 he2 hs2=>?_⟩
  have hil:it<s.heap.objs.size:=Heap.lt_size hit
  have I1:Inv X pins σ H { s with heap:=h2 }:=I.turned (t':=s.toks) (it:=it) (fun b ob nb e=>(hs2.2 b nb).trans (hk b ob nb e)) f0 f1 f3 f4 f5
  have hTd:TupD h2 s.heap.objs.size [key,v1].toArray:=⟨0,(hs2.2 _ (Nat.ne_of_gt hil)).trans hT⟩
  have hnn:H s.heap.objs.size=none:=I.hok.fresh (Nat.le_refl _)
  have I2:=I1.trackT (ys:=[kV kv.1,kv.2]) (.cons (by rw [hr.1];exact rel_key hkey) (.cons hr.2 .nil)) (by show 2≤sizeLine;decide) hTd (I.fpOk (Nat.le_refl _) hnn)
  refine ⟨.ref s.heap.objs.size,_,I2,rfl,⟨_,hnn,rfl,fun kvs' hd'=>?_⟩,⟨key,v1,by rw [← hn,hl];exact he2⟩,fun b hb=>?_⟩
  · rw [hd] at hd'
    cases hd'
    exact ⟨kv,hx,rfl⟩
  · have e:b=it:=by simpa using hb
    subst e
    rw [upd_ne (Nat.ne_of_lt hil)];exact f0
 done:=by
  intro X hP hw hK hc i pins s σ H E I hf st hg
  subst hP hw hK
  obtain ⟨kvs,hd,hn,hi⟩:=hg
  obtain ⟨ok,ov,hit⟩:=st
  obtain ⟨vs,r,hat⟩:=frz_at I.hok hd he
  obtain ⟨f0,f1,f2,f3,f4,f5⟩:=hf it (by simp)
  have hl:=r.length
  have hit':IsItemIter s.heap it d i vs.length ep ok ov:=by rw [← hl,hn];exact hit
  exact wpAny_pyNext_items_end (I.ok.hd hc) hit' hat (List.getElem?_eq_none (by omega)) fun h' eb=>⟨rfl,I.turned (t':=s.toks) (fun b ob hb e=>eb b ob hb e) f0 f1 f3 f4 f5⟩
 self:=fun A i s Q E st h=>by
  obtain ⟨ok,ov,e⟩:=st
  exact PySem.W.kcp_self e h
def iItems (to:TE):TI:=fun σ H R=>to σ H fun v H1=>match v with
 | .ref d=>∃ kvs,H1 d=some (.dK kvs)∧∀ o,R (ItD d o kvs.length) (upd H1 d (.frz o (.dK kvs)))
 | _=>False
theorem pi_items {o:Expr} {to:TE} {elts:List Expr} {k:Nat} {tp apos cpos:Pos} (ho:PE X o to) (hbase:attributeBase o "items" X.env (eval o X.env)=eval o X.env:=by rfl) (hline:(apos.endLine == cpos.line)=true:=by rfl) :
 PI X (.Tuple elts k tp) (.Call (.Attribute o "items" apos) [] [] cpos) (iItems to):=by
 intro pins s σ H R I h
 refine wpAny_Call_method0_late hbase hline (thn (ho pins s σ H _ I h) fun v s1 ⟨x,H1,I1,r1,q1⟩=>?_)
 dsimp only at q1
 split at q1
 · rename_i d
   obtain ⟨kvs,hd,q⟩:=q1
   obtain rfl:v=Value.ref d:=r1
   obtain ⟨t1,t2,t3⟩:=isD_at I1 (.inl ⟨kvs,.inl hd⟩)
   obtain ⟨hz,hs,vs,rel,hdd⟩:=dk_of I1.hok hd
   refine ⟨"dict",_,PySem.F.plainAttrs_dict,PySem.F.slot_dict_items,PySem.F.type_dict_items,t1,t2,Calls.callWith_builtin rfl (PySem.evalArgs_none ?_)⟩
   refine call_meetsIn PySem.F.slot_dict_items t1 PySem.F.entry_dict_items (PySem.F.args_dict_items_1 _) (meets_dict_items (mixKind X.prog X.w) d t3) ⟨⟨vs,hdd⟩,?_⟩
   have keep:∀ b ob,s1.heap.get? b=some ob→(s1.heap.push { cls:=.type "dict_items",data:=.fields #[.ref d] }).get? b=some ob:=fun b ob e=>Heap.get?_push_of_some _ e
   obtain ⟨od,es,ep,hod,hex,hda,hrest⟩:=id hdd
   have hat:s1.heap.DictAt (mixKind X.prog X.w) d vs ep:=⟨od,es,hod,hex,hda,hrest⟩
   have hvw:(s1.heap.push { cls:=.type "dict_items",data:=.fields #[.ref d] }).IsItemsView s1.heap.objs.size d:=⟨_,Heap.get?_push_size _ rfl,rfl,rfl⟩
   refine wpAny_pyIter_items (s:={ s1 with heap:=s1.heap.push { cls:=.type "dict_items",data:=.fields #[.ref d] } }) hvw (hat.at' fun ob e=>keep _ _ e) ?_
   have I2:Inv X pins σ H1 { s1 with heap:=(s1.heap.push { cls:=.type "dict_items",data:=.fields #[.ref d] }).push { cls:=.type "dict_itemiterator",data:=.fields #[.none,.bool false,.ref d,.int 0 0,.int vs.length 0,.int ep 0,.none,.none] } }:=I1.kept (t':=s1.toks) fun b ob e=>Heap.get?_push_of_some _ (keep b ob e)
   have I3:=I2.freeze hd (Heap.get?_push_of_some _ (keep d od hod))
   have hsz:s1.heap.objs.size≤(s1.heap.push { cls:=.type "dict_items",data:=.fields #[.ref d] }).objs.size:=by rw [Heap.size_push];exact Nat.le_succ _
   refine ⟨(s1.heap.push { cls:=.type "dict_items",data:=.fields #[.ref d] }).objs.size,[(s1.heap.push { cls:=.type "dict_items",data:=.fields #[.ref d] }).objs.size],_,_,_,rfl,I3,turn_items hda,⟨.none,.none,?_⟩,fun b hb=>?_,q od⟩
   · rw [rel.length]
     exact Heap.get?_push_size _ rfl
   · have e:b=(s1.heap.push { cls:=.type "dict_items",data:=.fields #[.ref d] }).objs.size:=by simpa using hb
     subst e
     refine I1.fpOk hsz ?_
     have hf:=I1.hok.fresh hsz
     rw [upd_ne (fun z=>by rw [z,hd] at hf;cases hf)]
     exact hf
 · exact q1.elim
theorem zi_items {o:Expr} {to:TE} {elts:List Expr} {k:Nat} {tp apos cpos:Pos} (ho:ZE X o to) (hbase:attributeBase o "items" X.env (eval o X.env)=eval o X.env:=by rfl) (hline:(apos.endLine == cpos.line)=true:=by rfl) :
 ZI X (.Tuple elts k tp) (.Call (.Attribute o "items" apos) [] [] cpos) (iItems to):=by with_unfolding_all exact pi_items ho hbase hline
theorem for_items {d:Addr} {o:Obj} {kvs:List (Key×V)} {g:TG} {tb:TS} {D:Ends} {σ:St} {H:Hp} (Pv:Nat→St→Hp→Prop) (h0:Pv 0 σ H) (hl:∀ i σ H,i≤kvs.length→Pv i σ H→H d=some (.frz o (.dK kvs)))
 (hs:∀ i kv σ H p,kvs[i]? = some kv→Pv i σ H→H p=none→g (.ref p) σ (upd H p (.tup [kV kv.1,kv.2])) fun σ2 H2=>tb { D with nx:=Pv (i+1),ct:=Pv (i+1),bk:=D.nx } σ2 H2) (hd:∀ σ H,Pv kvs.length σ H→D.nx σ H) :
 ∃ W:Nat→Nat→St→Hp→Prop,(∃ m,W 0 m σ H)∧∀ i m σ H,W i m σ H →
   ((ItD d o kvs.length).stop i H∧D.nx σ H)∨((ItD d o kvs.length).go i H∧∃ N:St→Hp→Prop,(∀ σ' H',N σ' H'→∃ m',m' < m∧W (i+1) m' σ' H')∧∀ x H',(ItD d o kvs.length).yld i H x H'→g x σ H' fun σ2 H2=>tb { D with nx:=N,ct:=N,bk:=D.nx } σ2 H2):=by
 refine ⟨fun i m σ H=>m=kvs.length - i∧i≤kvs.length∧Pv i σ H,⟨kvs.length,by simp,Nat.zero_le _,h0⟩,?_⟩
 rintro i m σ H ⟨rfl,hi,p⟩
 have q:=hl i σ H hi p
 by_cases hlt:i<kvs.length
 · refine .inr ⟨⟨kvs,kvs[i],q,rfl,by simp [hlt]⟩,Pv (i+1),fun σ' H' p'=>⟨kvs.length - (i+1),by omega,rfl,hlt,p'⟩,fun x H' y=>?_⟩
   obtain ⟨b,hb,rfl,hy⟩:=y
   obtain ⟨kv,hx,rfl⟩:=hy kvs q
   exact hs i kv σ H b hx p hb
 · have e:i=kvs.length:=by omega
   subst e
   exact .inl ⟨⟨kvs,q,rfl,rfl⟩,hd σ H p⟩
end
end L2
namespace B9
open PySem L2
theorem fold_app:∀ (l:List (Array Nat)) (a:Array Nat),(l.foldl (·++·) a).toList=a.toList++(l.map Array.toList).flatten
 | [],a=>by simp
 | x::l,a=>by rw [List.foldl_cons,fold_app l (a++x)];simp
theorem mul_cps (x:Str) (n:Nat):(strMul x n).cps.toList=(List.replicate n x.cps.toList).flatten:=by
 unfold strMul
 rw [fold_app,List.map_replicate]
 simp
theorem nought:(Str.ofString "0").cps.toList=[48]:=by decide +kernel
theorem rep_one (n:Nat):(List.replicate n [48]).flatten=List.replicate n (48:Nat):=by
 induction n with
 | zero=>rfl
 | succ n ih=>rw [List.replicate_succ,List.flatten_cons,ih,List.replicate_succ];rfl
theorem app_cps (x y:Str):(x++y).cps.toList=x.cps.toList++y.cps.toList:=by
 show (x.cps++y.cps).toList=_
 simp
theorem one_cps:(Str.ofString "1").cps.toList=[49]:=by decide +kernel
theorem cpsN (n:Nat):((Str.ofString "1")++strMul (Str.ofString "0") n).cps.toList=49::List.replicate n 48:=by
 rw [app_cps,mul_cps,nought,rep_one,one_cps]
 rfl
theorem lenN (n:Nat):((Str.ofString "1")++strMul (Str.ofString "0") n).length=n+1:=by
 show ((Str.ofString "1")++strMul (Str.ofString "0") n).cps.size=n+1
 rw [← Array.length_toList,cpsN]
 simp
theorem digN (n:Nat):NumText.AllDigits (49::List.replicate n 48):=by
 intro c hc
 rcases List.mem_cons.mp hc with rfl | hc
 · decide
 · rw [List.eq_of_mem_replicate hc];decide
theorem exN {n:Nat} (h:n<4300):∃ B:Int,intText? ((Str.ofString "1")++strMul (Str.ofString "0") n)=some B∧0<B:=by
 refine ⟨_,intText_digits (by rw [cpsN];exact digN n) (by rw [cpsN];exact List.cons_ne_nil _ _) (by rw [lenN];omega),?_⟩
 have:0<NumText.digitsVal (49::List.replicate n 48):=NumText.digitsVal_pos (Nat.le_refl _)
 rw [cpsN]
 exact Int.natCast_pos.mpr this
theorem lenM (n:Nat):(Str.ofString "1").length+(strMul (Str.ofString "0") n).length=n+1:=by
 show (Str.ofString "1").cps.size+(strMul (Str.ofString "0") n).cps.size=n+1
 rw [← Array.length_toList,← Array.length_toList,mul_cps,nought,rep_one,one_cps]
 simp
 omega
theorem seenN {n:Nat} (h:640≤n):¬ (numSeenOf ((Str.ofString "1")++strMul (Str.ofString "0") n)).length≤640:=by
 have e:=(numText_signs (x:=(Str.ofString "1")++strMul (Str.ofString "0") n) (fun c hc=>by
  rw [cpsN] at hc
  rcases List.mem_cons.mp hc with rfl | hc
  · exact .inr (by decide)
  · rw [List.eq_of_mem_replicate hc];exact .inr (by decide))).2
 have e2:=congrArg List.length e
 rw [cpsN,List.length_cons,List.length_replicate] at e2
 omega
end B9
namespace K59
open PySem L2
def top (i:Nat):Stmt:=PySem.Challenge.pw_partrests_k59_whole_merged_and_split.main.body.getD i (.Pass ⟨0,0,0,0⟩)
def Hand (H:Hp) (a:Addr) (n:Nat):Prop:=∃ g s c:Int,H a=some (.lst [.int g,.int s,.int c])∧0≤g∧0≤s∧s<2305843009213693951∧0≤c∧c≤n
def Step (a:Addr) (n:Nat) (H H':Hp):Prop:=(∀ b o,b≠a→H b=some o→H' b=some o)∧Hand H' a n
theorem Hand.mono {H:Hp} {a:Addr} {n m:Nat} (h:Hand H a n) (k:n≤m):Hand H a m:=let ⟨g,s,c,e,h1,h2,h3,h4,h5⟩:=h;⟨g,s,c,e,h1,h2,h3,h4,by omega⟩
theorem Hand.same {H H':Hp} {a:Addr} {n:Nat} (h:Hand H a n) (y:Same H H'):Hand H' a n:=let ⟨g,s,c,e,r⟩:=h;⟨g,s,c,y _ _ e,r⟩
theorem Hand.at {H:Hp} {a:Addr} {n:Nat} (h:Hand H a n):∃ xs,H a=some (.lst xs):=let ⟨_,_,_,e,_⟩:=h;⟨_,e⟩
theorem Hand.ne {H:Hp} {a b:Addr} {n:Nat} (h:Hand H a n) (hb:H b=none):b≠a:=fun z=>by
 obtain ⟨xs,e⟩:=h.at
 rw [z,e] at hb
 cases hb
theorem Step.trans {a:Addr} {n m:Nat} {H H1 H2:Hp} (x:Step a n H H1) (y:Step a m H1 H2):Step a m H H2:=⟨fun b o k e=>y.1 b o k (x.1 b o k e),y.2⟩
theorem Step.same {a:Addr} {n:Nat} {H H1 H2:Hp} (x:Step a n H H1) (y:Same H1 H2):Step a n H H2:=⟨fun b o k e=>y b o (x.1 b o k e),x.2.same y⟩
theorem Step.refl {a:Addr} {n:Nat} {H:Hp} (h:Hand H a n):Step a n H H:=⟨fun _ _ _ e=>e,h⟩
theorem Step.of_same {a:Addr} {n:Nat} {H H1:Hp} (h:Hand H a n) (y:Same H H1):Step a n H H1:=(Step.refl h).same y
theorem Step.mono {a:Addr} {n m:Nat} {H H':Hp} (x:Step a n H H') (k:n≤m):Step a m H H':=⟨x.1,x.2.mono k⟩
theorem Step.tup {a b:Addr} {n m:Nat} {H H1:Hp} {xs:List V} (h:Hand H a m) (x:Step a n H H1) (e:H b=some (.tup xs)):H1 b=some (.tup xs):=by
 obtain ⟨ys,e'⟩:=h.at
 exact x.1 b _ (ne_of e e' (by intro z;cases z)) e
theorem atI_of {xs:List V} {k:Int} {j:Nat} {v:V} (h:k=(j:Int)) (hx:xs[j]? = some v):atI xs k=some v:=by subst h;exact atI_nat hx
theorem getI {ns:List Int} {j:Nat} (h:j<ns.length):(ns.map V.int)[j]? = some (.int ns[j]):=by rw [List.getElem?_map,List.getElem?_eq_getElem h];rfl
theorem rep_flat (n:Nat) (x:Int):(List.replicate n [V.int x]).flatten=(List.replicate n x).map V.int:=by
 induction n with
 | zero=>rfl
 | succ n ih=>rw [List.replicate_succ,List.flatten_cons,ih,List.replicate_succ,List.map_cons];rfl
theorem le_line {n:Nat} (h:n≤1000):n≤sizeLine:=Nat.le_of_lt (small1000 h)
theorem mulR {a b:Int} (h1:-(2 ^ 64)<b) (h2:b<2 ^ 64):IntMulOk a b:=IntMulOk.of_right (intBits_le_64 h1 h2)
theorem mulL {a b:Int} (h1:-(2 ^ 64)<a) (h2:a<2 ^ 64):IntMulOk a b:=IntMulOk.of_left (intBits_le_64 h1 h2)
section
variable {P:Program} {w:World} {K:PySem.W.Frag} {mg:Str→Option Value} {base:Heap} {f:Addr} {fd:FuncData}
theorem sc_take:FnScope ["_law_hand_here","_law_many","_law_digit","_law_mixed"] ["_law_hand_here","_law_many"] (defScope (top 30)):=⟨rfl,rfl,rfl,by decide +kernel,rfl,by decide +kernel,by decide +kernel⟩
def sp_take:Sp:=fun vs H Q _=>∃ (a:Addr) (m:Int) (n:Nat),vs=[.ref a,.int m]∧Hand H a n∧n<1000000000∧0<m∧m<1073741824∧∀ r H',0≤r→r<m→Step a (n+1) H H'→Q (.int r) H'
theorem ok_take (F:Fun K "_law_take" "_law_take" (top 30) f fd):FnOk P w K mg base CX0 1 f fd ["_law_hand_here","_law_many"] sp_take:=by
 refine F.okz sc_take (fun vs H Q E h=>?_) (fun cdv A outer s H vs Q E hr h=>?_)
 · obtain ⟨a,m,n,rfl,_⟩:=h;rfl
 obtain ⟨a,m,n,rfl,⟨g,z,c,hl,g0,z0,z1,c0,c1⟩,n1,m0,m1,q⟩:=h
 have nd:=sc_take.nd
 refine ⟨_,(zss_cons (zs_if (zt_cmpP op_gtP (ze_ix ix_P (zn 0) ze_int (fun _ _=>rfl)) ze_int (nomark _)) (zss_cons (zs_set (i:=2) nd rfl (Or.inl rfl) (ze_op op_modP (ze_ix ix_P (zn 0) ze_int (fun _ _=>rfl)) (zn 1)))
  (zss_cons (zs_asg (ze_op op_fdivP (ze_ix ix_P (zn 0) ze_int (fun _ _=>rfl)) (zn 1)) (zg_sub (zn 0) ze_int set_list))
  (zss_one (zs_ret (zn 2))))) zss_nil)
  (zss_cons (zs_asg (ze_op op_addP (ze_ix ix_P (zn 0) ze_int (fun _ _=>rfl)) ze_int) (zg_sub (zn 0) ze_int set_list))
  (zss_cons (zs_set (i:=3) nd rfl (Or.inl rfl) (ze_op op_modP (ze_op op_mulQ (ze_op op_addP (ze_op op_addP (ze_ix ix_P (zn 0) ze_int (fun _ _=>rfl)) (ze_op op_mulQ (ze_op op_mulQ ze_int (ze_ix ix_P (zn 0) ze_int (fun _ _=>rfl))) (ze_ix ix_P (zn 0) ze_int (fun _ _=>rfl)))) ze_int) ze_int) ze_int))
  (zss_cons (zs_set (i:=3) nd rfl (Or.inl rfl) (ze_op op_modP (ze_op op_mulQ (zn 3) (ze_op op_addP (ze_op op_modP (zn 3) ze_int) (ze_op op_mulQ ze_int (ze_ix ix_P (zn 0) ze_int (fun _ _=>rfl))))) ze_int))
  (zss_one (zs_ret (ze_op op_modP (ze_op op_addP (ze_op op_fdivP (zn 3) ze_int) (ze_op op_fdivP (zn 3) ze_int)) (zn 1)))))))),?_⟩
 refine ⟨_,.inl (SqL.of hl),.int g,rfl,?_⟩
 refine iteD (fun hg=>?_) (fun hg=>?_)
 · refine ⟨_,.inl (SqL.of hl),.int g,rfl,m0,?_⟩
   refine ⟨_,.inl (SqL.of hl),.int g,rfl,⟨m0,m1⟩,?_⟩
   refine ⟨a,_,_,_,rfl,rfl,hl,rfl,?_⟩
   refine q _ _ (Int.emod_nonneg _ (by omega)) (Int.emod_lt_of_pos _ m0) ⟨fun b o n e=>?_,g / m,z,c,upd_same,Int.ediv_nonneg g0 (by omega),z0,z1,c0,by omega⟩
   rw [upd_ne n];exact e
 · refine ⟨_,.inl (SqL.of hl),.int c,rfl,?_⟩
   refine ⟨a,_,_,_,rfl,rfl,hl,rfl,?_⟩
   refine ⟨_,.inl (SqL.of upd_same),.int z,rfl,?_⟩
   refine ⟨_,.inl (SqL.of upd_same),.int (c+1),rfl,mulL (by decide) (by decide),?_⟩
   refine ⟨_,.inl (SqL.of upd_same),.int (c+1),rfl,mulR (by omega) (by omega),mulR (by decide) (by decide),(show (0:Int)<2305843009213693921 by decide),?_⟩
   generalize hb1:(z+65537*(c+1)*(c+1)+11)*48271 % 2305843009213693921=b1
   have e1:0≤b1:=by rw [← hb1];exact Int.emod_nonneg _ (by decide)
   have e2:b1<2305843009213693921:=by rw [← hb1];exact Int.emod_lt_of_pos _ (by decide)
   refine ⟨(show (0:Int)<1000003 by decide),?_⟩
   refine ⟨_,.inl (SqL.of upd_same),.int (c+1),rfl,mulL (by decide) (by decide),mulL (by omega) (by omega),(show (0:Int)<2305843009213693907 by decide),?_⟩
   refine ⟨⟨by decide,by decide⟩,⟨by decide,by decide⟩,m0,?_⟩
   refine q _ _ (Int.emod_nonneg _ (by omega)) (Int.emod_lt_of_pos _ m0) ⟨fun b o n e=>?_,g,z,c+1,upd_same,g0,z0,z1,by omega,by omega⟩
   rw [upd_ne n];exact e
theorem sc_hand:FnScope ["_law_script","_law_k","_law_cell","_law_great"] ["_law_script","_law_k"] (defScope (top 29)):=⟨rfl,rfl,rfl,by decide +kernel,rfl,by decide +kernel,by decide +kernel⟩
def sp_hand (K:PySem.W.Frag):Sp:=fun vs H Q _=>∃ (a:Addr) (k:Int) (ns:List Int),vs=[.ref a,.int k]∧SqL K H a (ns.map V.int)∧0≤k∧k≤100∧∀ p H',H p=none→Same H H'→Hand H' p 0→Q (.ref p) H'
theorem ok_hand (F:Fun K "_law_hand" "_law_hand" (top 29) f fd) (m_int:mg "int" = none) (m_len:mg "len" = none) (g_DIG:DigK K):FnOk P w K mg base CX0 1 f fd ["_law_script","_law_k"] (sp_hand K):=by
 refine F.okz sc_hand (fun vs H Q E h=>?_) (fun cdv A outer s H vs Q E hr h=>?_)
 · obtain ⟨a,k,ns,rfl,_⟩:=h;rfl
 obtain ⟨a,k,ns,rfl,hS,k0,k1,q⟩:=h
 have nd:=sc_hand.nd
 have fin:∀ (g v:Int) (L:Addr),0≤g→H L=none→Q (.ref L) (upd H L (.lst [.int g,.int ((v % 2305843009213693951+7919*k+3) % 2305843009213693951),.int 0])):=fun g v L hg hL=>
  q L _ hL (Same.new hL _) ⟨g,_,0,upd_same,hg,Int.emod_nonneg _ (by decide),Int.emod_lt_of_pos _ (by decide),by decide,by decide⟩
 have rest:∃ t,ZSs (cxOf CX0 P w K mg base ["_law_script","_law_k","_law_cell","_law_great"] "_law_hand" (defScope (top 29)) f cdv A outer s H E).nox ((defBody (top 29)).drop 2) t ∧
  ∀ (v:Int),t { nx:=fun _ H'=>Q .non H',rt:=Q } [some (.ref a),some (.int k),some (.int v),none] H:=by
  refine ⟨_,(zss_cons (zs_set (i:=3) nd rfl (Or.inl rfl) ze_int)
   (zss_cons (zs_if (zt_cmpP op_geP (zn 2) (ze_op op_powP ze_int ze_int) (nomark _)) (zss_one (zs_set (i:=3) nd rfl (Or.inl rfl) (ze_op op_modP (zn 2) (zcb_intL g_DIG rfl m_int (za_cons (ze_op op_addP ze_str (ze_op op_mulS ze_str ze_int)) za_nil) rfl rfl)))) zss_nil)
   (zss_one (zs_ret (ze_lst (za_cons (zn 3) (za_cons (ze_op op_modP (ze_op op_addP (ze_op op_addP (ze_op op_modP (zn 2) ze_int) (ze_op op_mulQ ze_int (zn 1))) ze_int) ze_int) (za_cons ze_int za_nil)))))))),?_⟩
  intro v
  obtain ⟨B,hB,B0⟩:=B9.exN (n:=Int.toNat 900) (by decide)
  have hlen:((Str.ofString "1")++strMul (Str.ofString "0") (Int.toNat 900)).length≤sizeLine:=by rw [B9.lenN,sizeLine_eq];decide
  have hseen:=B9.seenN (n:=Int.toNat 900) (by decide)
  refine ⟨⟨by decide,by decide,by decide⟩,?_⟩
  refine iteD (fun c=>?_) (fun c=>?_)
  · refine ⟨by decide,by rw [B9.lenM,sizeLine_eq];decide,B,hB,hlen,hseen,B0,?_⟩
    refine ⟨(show (0:Int)<2305843009213693951 by decide),mulL (by decide) (by decide),(show (0:Int)<2305843009213693951 by decide),by show 3≤sizeLine;decide,fun L hL=>?_⟩
    exact fin _ _ L (Int.emod_nonneg _ (by omega)) hL
  · refine ⟨(show (0:Int)<2305843009213693951 by decide),mulL (by decide) (by decide),(show (0:Int)<2305843009213693951 by decide),by show 3≤sizeLine;decide,fun L hL=>?_⟩
    exact fin _ _ L (by decide) hL
 obtain ⟨t2,ht2,rest⟩:=rest
 refine ⟨_,(zss_cons (zs_set (i:=2) nd rfl (Or.inl rfl) ze_int)
  (zss_cons (zs_if (zt_cmpP op_ltP (zn 1) (zcb_len rfl m_len (za_cons (zn 0) za_nil) rfl rfl) (nomark _)) (zss_one (zs_set (i:=2) nd rfl (Or.inl rfl) (ze_ix ix_P (zn 0) (zn 1) (fun _ _=>rfl)))) zss_nil)
  ht2)),?_⟩
 refine ⟨_,.inl hS,?_⟩
 refine iteD (fun hk=>?_) (fun hk=>?_)
 · rw [List.length_map] at hk
   refine ⟨_,.inl hS,.int ns[k.toNat],atI_of (by omega) (getI (by omega)),?_⟩
   exact rest _
 · exact rest _
end
end K59
namespace M04
def ex (f:Int→Nat) (M:Int):Nat→List Int
 | 0=>[]
 | i+1=>ex f M i++List.replicate (f (M - i)) (M - i)
theorem ex_mem {f:Int→Nat} {M:Int}:∀ {i:Nat} {x:Int},x∈ex f M i→M - i<x∧x≤M
 | 0,_,h=>nomatch h
 | i+1,x,h=>by
   rcases List.mem_append.mp h with h | h
   · have:=ex_mem h
     omega
   · have:=List.eq_of_mem_replicate h
     omega
theorem ex_pw (f:Int→Nat) (M:Int):∀ i,(ex f M i).Pairwise (·≥·)
 | 0=>.nil
 | i+1=>by
   refine List.pairwise_append.mpr ⟨ex_pw f M i,List.pairwise_replicate.mpr (.inr (Int.le_refl _)),fun a ha b hb=>?_⟩
   have h1:=ex_mem ha
   have h2:=List.eq_of_mem_replicate hb
   show b≤a
   omega
theorem ex_count {f:Int→Nat} {M:Int} (x:Int):∀ i:Nat,(ex f M i).count x=if M - i<x∧x≤M then f x else 0
 | 0=>by
   show 0=_
   rw [if_neg (by omega)]
 | i+1=>by
   show (ex f M i++List.replicate (f (M - i)) (M - i)).count x=_
   rw [List.count_append,ex_count x i,List.count_replicate]
   by_cases h:M - i=x
   · rw [if_neg (by omega),if_pos (by simpa using h),if_pos (by omega),h,Nat.zero_add]
   · have hb:((M - (i:Int)) == x)=false:=by simpa using h
     rw [hb]
     simp only [Bool.false_eq_true,if_false,Nat.add_zero]
     by_cases h2:M - i<x∧x≤M
     · rw [if_pos h2,if_pos (by omega)]
     · rw [if_neg h2,if_neg (by omega)]
theorem ex_all {f:Int→Nat} {M:Int} (h0:0≤M) (x:Int):(ex f M M.toNat).count x=if 0<x∧x≤M then f x else 0:=by
 rw [ex_count]
 by_cases h:0<x∧x≤M
 · rw [if_pos h,if_pos (by omega)]
 · rw [if_neg h,if_neg (by omega)]
theorem fall_eq:∀ {a b:List Int},a.Pairwise (·≥·)→b.Pairwise (·≥·)→(∀ x,a.count x=b.count x)→a=b
 | [],b,_,_,h=>by
   cases b with
   | nil=>rfl
   | cons y r=>have:=h y;simp at this
 | x::a,[],_,_,h=>by have:=h x;simp at this
 | x::a,y::b,ha,hb,h=>by
   obtain ⟨a1,a2⟩:=List.pairwise_cons.mp ha
   obtain ⟨b1,b2⟩:=List.pairwise_cons.mp hb
   have hx:x∈y::b:=List.count_pos_iff.mp (by rw [← h x];simp)
   have hy:y∈x::a:=List.count_pos_iff.mp (by rw [h y];simp)
   have e:x=y:=by
    have g1:x≤y:=by
     rcases List.mem_cons.mp hx with rfl | g
     · exact Int.le_refl _
     · exact b1 x g
    have g2:y≤x:=by
     rcases List.mem_cons.mp hy with rfl | g
     · exact Int.le_refl _
     · exact a1 y g
    omega
   subst e
   rw [fall_eq a2 b2 fun z=>by have:=h z;rw [List.count_cons,List.count_cons] at this;omega]
def mx:List Int→Int
 | []=>0
 | x::r=>max x (mx r)
theorem mx_is:∀ (l:List Int),0≤mx l∧(∀ n∈l,n≤mx l)∧(mx l=0∨mx l∈l)
 | []=>⟨Int.le_refl _,fun n h=>(List.not_mem_nil h).elim,Or.inl rfl⟩
 | x::r=>by
   obtain ⟨h1,h2,h3⟩:=mx_is r
   show 0≤max x (mx r)∧(∀ n∈x::r,n≤max x (mx r))∧(max x (mx r)=0∨max x (mx r)∈x::r)
   refine ⟨by omega,fun n hn=>?_,?_⟩
   · rcases List.mem_cons.mp hn with rfl | hn
     · omega
     · have:=h2 n hn;omega
   · by_cases g:x≤mx r
     · rw [Int.max_eq_right g]
       rcases h3 with h3 | h3
       · exact .inl h3
       · exact .inr (List.mem_cons_of_mem _ h3)
     · rw [Int.max_eq_left (by omega)]
       exact .inr List.mem_cons_self
def bt (a b:List Int):List Int:=ex (fun x=>a.count x+b.count x) (mx (a++b)) (mx (a++b)).toNat
theorem bt_pw (a b:List Int):(bt a b).Pairwise (·≥·):=ex_pw _ _ _
theorem bt_count {a b:List Int} (ha:∀ n∈a,(1:Int)≤n) (hb:∀ n∈b,(1:Int)≤n) (x:Int):(bt a b).count x=a.count x+b.count x:=by
 obtain ⟨g1,g2,g3⟩:=mx_is (a++b)
 unfold bt
 rw [ex_all g1]
 split
 · rfl
 · rename_i h
   rw [← List.count_append]
   refine (List.count_eq_zero.mpr fun hx=>h ⟨?_,g2 x hx⟩).symm
   rcases List.mem_append.mp hx with hx | hx
   · have:=ha x hx;omega
   · have:=hb x hx;omega
theorem bt_of {a b l:List Int} (ha:∀ n∈a,(1:Int)≤n) (hb:∀ n∈b,(1:Int)≤n) (hp:l.Perm (a++b)) (hl:l.Pairwise (·≥·)):l=bt a b:=
 fall_eq hl (bt_pw a b) fun x=>by rw [bt_count ha hb,hp.count_eq,List.count_append]
theorem bt_perm {a b:List Int} (ha:∀ n∈a,(1:Int)≤n) (hb:∀ n∈b,(1:Int)≤n):(bt a b).Perm (a++b):=
 List.perm_iff_count.mpr fun x=>by rw [bt_count ha hb,List.count_append]
def ls:List Int→List Int→Option (List Int)
 | a,[]=>some a
 | a,p::r=>if p∈a then ls (a.erase p) r else none
theorem ls_cons (a:List Int) (p:Int) (r:List Int):ls a (p::r)=if p∈a then ls (a.erase p) r else none:=rfl
theorem ls_some:∀ {b a l:List Int},ls a b=some l→l.Sublist a∧∀ x,l.count x+b.count x=a.count x
 | [],a,l,h=>by
   have:a=l:=Option.some.inj h
   subst this
   exact ⟨List.Sublist.refl _,fun x=>by simp⟩
 | p::r,a,l,h=>by
   unfold ls at h
   split at h
   · rename_i hp
     obtain ⟨h1,h2⟩:=ls_some h
     refine ⟨h1.trans List.erase_sublist,fun x=>?_⟩
     have:=h2 x
     rw [List.count_erase] at this
     rw [List.count_cons]
     by_cases e:p=x
     · subst e
       have hc:=List.count_pos_iff.mpr hp
       have e1:(p == p)=true:=by simp
       rw [e1] at this ⊢
       simp only [if_true] at this ⊢
       omega
     · have e1:(p == x)=false:=by simpa using e
       rw [e1] at this ⊢
       simp at *
       omega
   · cases h
theorem ls_none:∀ {b a:List Int},ls a b=none→∃ x∈b,a.count x<b.count x
 | [],a,h=>by cases h
 | p::r,a,h=>by
   unfold ls at h
   split at h
   · rename_i hp
     obtain ⟨x,hx,h2⟩:=ls_none h
     refine ⟨x,List.mem_cons_of_mem _ hx,?_⟩
     rw [List.count_erase] at h2
     rw [List.count_cons]
     by_cases e:p=x
     · subst e
       simp at *
       omega
     · have e1:(p == x)=false:=by simpa using e
       rw [e1] at h2 ⊢
       simp at *
       omega
   · rename_i hp
     refine ⟨p,List.mem_cons_self,?_⟩
     rw [List.count_eq_zero.mpr hp]
     simp
theorem ls_bt {a b:List Int} (hp:a.Pairwise (·≥·)) (ha:∀ n∈a,(1:Int)≤n) (hb:∀ n∈b,(1:Int)≤n):ls (bt a b) b=some a:=by
 cases e:ls (bt a b) b with
 | none=>
   obtain ⟨x,_,h2⟩:=ls_none e
   rw [bt_count ha hb] at h2
   omega
 | some l=>
   obtain ⟨h1,h2⟩:=ls_some e
   congr 1
   refine fall_eq ((bt_pw a b).sublist h1) hp fun x=>?_
   have:=h2 x
   rw [bt_count ha hb] at this
   omega
end M04
namespace M54
open M04 PySem L2
def look:List (Int×Int)→Int→Option Int
 | [],_=>none
 | (k,c)::ds,x=>if k=x then some c else look ds x
def bump:List (Int×Int)→Int→List (Int×Int)
 | [],x=>[(x,1)]
 | (k,c)::ds,x=>if k=x then (k,c+1)::ds else (k,c)::bump ds x
def tally (ns:List Int):List (Int×Int):=ns.foldl bump []
theorem tally_snoc (ns:List Int) (x:Int):tally (ns++[x])=bump (tally ns) x:=by unfold tally;rw [List.foldl_append];rfl
theorem look_bump:∀ (ds:List (Int×Int)) (x y:Int),look (bump ds x) y=if x=y then some ((look ds x).getD 0+1) else look ds y
 | [],x,y=>by
   show (if x=y then some (1:Int) else none)=_
   split <;> rfl
 | (k,c)::ds,x,y=>by
   show look (if k=x then (k,c+1)::ds else (k,c)::bump ds x) y=if x=y then some ((if k=x then some c else look ds x).getD 0+1) else if k=y then some c else look ds y
   by_cases h:k=x
   · subst h
     rw [if_pos rfl,if_pos rfl]
     show (if k=y then some (c+1) else look ds y)=_
     by_cases h2:k=y
     · rw [if_pos h2,if_pos h2];rfl
     · rw [if_neg h2,if_neg h2,if_neg h2]
   · rw [if_neg h,if_neg h]
     show (if k=y then some c else look (bump ds x) y)=_
     rw [look_bump ds x y]
     by_cases h2:k=y
     · rw [if_pos h2,if_pos h2,if_neg fun z=>h (by rw [h2,z])]
     · rw [if_neg h2,if_neg h2]
theorem tally_app:∀ (bs as:List Int) (x:Int),(∀ y,(look (tally as) y).getD 0=(as.count y:Int))→∀ y,(look (tally (as++bs)) y).getD 0=((as++bs).count y:Int)
 | [],as,x,h,y=>by rw [List.append_nil];exact h y
 | b::bs,as,x,h,y=>by
   rw [show as++b::bs=(as++[b])++bs by simp]
   refine tally_app bs (as++[b]) x (fun y=>?_) y
   rw [tally_snoc,look_bump,List.count_append]
   by_cases e:b=y
   · subst e
     rw [if_pos rfl]
     show (look (tally as) b).getD 0+1=_
     rw [h b]
     simp
   · rw [if_neg e,h y]
     have:[b].count y=0:=by simp [e]
     rw [this];simp
theorem tally_look (ns:List Int) (y:Int):(look (tally ns) y).getD 0=(ns.count y:Int):=by
 have:=tally_app ns [] 0 (fun y=>by simp [tally,look]) y
 simpa using this
theorem bump_keys:∀ (ds:List (Int×Int)) (x:Int),(bump ds x).map Prod.fst=if x∈ds.map Prod.fst then ds.map Prod.fst else ds.map Prod.fst++[x]
 | [],x=>rfl
 | (k,c)::ds,x=>by
   show ((if k=x then (k,c+1)::ds else (k,c)::bump ds x)).map Prod.fst=_
   by_cases h:k=x
   · rw [if_pos h,if_pos (by rw [h];exact List.mem_cons_self)];rfl
   · rw [if_neg h,List.map_cons,bump_keys ds x,List.map_cons]
     by_cases h2:x∈ds.map Prod.fst
     · rw [if_pos h2,if_pos (List.mem_cons_of_mem _ h2)]
     · rw [if_neg h2,if_neg fun z=>(List.mem_cons.mp z).elim (fun z=>h z.symm) h2];rfl
theorem bump_nd {ds:List (Int×Int)} (h:(ds.map Prod.fst).Nodup) (x:Int):((bump ds x).map Prod.fst).Nodup:=by
 rw [bump_keys]
 split
 · exact h
 · rename_i hx
   exact List.nodup_append.mpr ⟨h,by simp,fun a ha b hb e=>by rw [List.mem_singleton.mp hb] at e;rw [e] at ha;exact hx ha⟩
theorem bump_len (ds:List (Int×Int)) (x:Int):(bump ds x).length≤ds.length+1:=by
 have:=congrArg List.length (bump_keys ds x)
 rw [List.length_map] at this
 split at this
 · rw [List.length_map] at this;omega
 · rw [List.length_append,List.length_map] at this;rw [this];exact Nat.le_refl _
theorem fold_nd:∀ (ns:List Int) (D:List (Int×Int)),(D.map Prod.fst).Nodup→((ns.foldl bump D).map Prod.fst).Nodup
 | [],_,h=>h
 | a::l,D,h=>fold_nd l _ (bump_nd h a)
theorem tally_nd (ns:List Int):((tally ns).map Prod.fst).Nodup:=fold_nd ns [] (by simp)
theorem fold_len:∀ (ns:List Int) (D:List (Int×Int)),(ns.foldl bump D).length≤D.length+ns.length
 | [],_=>Nat.le_refl _
 | a::l,D=>by
   have h1:=fold_len l (bump D a)
   have h2:=bump_len D a
   rw [List.foldl_cons,List.length_cons]
   omega
theorem tally_len (ns:List Int):(tally ns).length≤ns.length:=by have:=fold_len ns [];unfold tally;simpa using this
theorem fold_keys:∀ (ns:List Int) (D:List (Int×Int)) (x:Int),x∈(ns.foldl bump D).map Prod.fst↔x∈D.map Prod.fst∨x∈ns
 | [],D,x=>by simp
 | a::l,D,x=>by
   rw [List.foldl_cons,fold_keys l (bump D a) x,bump_keys]
   constructor
   · rintro (h | h)
     · split at h
       · exact .inl h
       · rcases List.mem_append.mp h with h | h
         · exact .inl h
         · exact .inr (by rw [List.mem_singleton.mp h];exact List.mem_cons_self)
     · exact .inr (List.mem_cons_of_mem _ h)
   · rintro (h | h)
     · left
       split
       · exact h
       · exact List.mem_append_left _ h
     · rcases List.mem_cons.mp h with h | h
       · subst h
         left
         split
         · assumption
         · exact List.mem_append_right _ List.mem_cons_self
       · exact .inr h
theorem tally_keys (ns:List Int) (x:Int):x∈(tally ns).map Prod.fst↔x∈ns:=by
 have:=fold_keys ns [] x
 simpa [tally] using this
theorem look_mem:∀ {ds:List (Int×Int)} {k c:Int},(ds.map Prod.fst).Nodup→(k,c)∈ds→look ds k=some c
 | (k',c')::ds,k,c,hn,h=>by
   show (if k'=k then some c' else look ds k)=some c
   have hn2:=List.nodup_cons.mp hn
   rcases List.mem_cons.mp h with e | h
   · cases e;rw [if_pos rfl]
   · rw [if_neg fun z=>hn2.1 (List.mem_map.mpr ⟨(k,c),h,z.symm⟩)]
     exact look_mem hn2.2 h
theorem tally_count {ns:List Int} {k c:Int} (h:(k,c)∈tally ns):c=(ns.count k:Int):=by
 have:=look_mem (tally_nd ns) h
 have h2:=tally_look ns k
 rw [this] at h2
 exact h2
def inn (ev ps:List Int):Bool:=(tally ev).all fun p=>decide (p.2≤(look (tally ps) p.1).getD 0)
theorem inn_is (ev ps:List Int):inn ev ps=(ls ps ev).isSome:=by
 unfold inn
 cases e:ls ps ev with
 | none=>
   obtain ⟨x,hx,hc⟩:=ls_none e
   have hk:=(tally_keys ev x).mpr hx
   obtain ⟨⟨k,c⟩,hm,rfl⟩:=List.mem_map.mp hk
   have:=tally_count hm
   refine Bool.eq_false_iff.mpr fun z=>?_
   have h2:=of_decide_eq_true (List.all_eq_true.mp z _ hm)
   rw [tally_look] at h2
   dsimp only at h2 hc this
   omega
 | some l=>
   obtain ⟨_,h2⟩:=ls_some e
   refine List.all_eq_true.mpr fun p hp=>?_
   obtain ⟨k,c⟩:=p
   have:=tally_count hp
   refine decide_eq_true ?_
   rw [tally_look]
   have:=h2 k
   dsimp only
   omega
def kd (ds:List (Int×Int)):List (Key×V):=ds.map fun p=>((Sum.inl p.1:Key),V.int p.2)
theorem kd_len (ds:List (Int×Int)):(kd ds).length=ds.length:=by unfold kd;rw [List.length_map]
theorem kd_at {ds:List (Int×Int)} {i:Nat} {kv:Key×V} (h:(kd ds)[i]? = some kv):∃ p,ds[i]? = some p∧kv=((Sum.inl p.1:Key),V.int p.2):=by
 unfold kd at h
 rw [List.getElem?_map] at h
 cases e:ds[i]? with
 | none=>rw [e] at h;cases h
 | some p=>rw [e] at h;exact ⟨p,rfl,(Option.some.inj h).symm⟩
theorem kd_val:∀ (ds:List (Int×Int)) (x:Int),valV (kd ds) (.inl x)=(look ds x).map V.int
 | [],x=>rfl
 | (k,c)::ds,x=>by
   show valV (((Sum.inl k:Key),V.int c)::kd ds) (.inl x)=((if k=x then some c else look ds x)).map V.int
   by_cases h:k=x
   · rw [valV_pos (by rw [h]),if_pos h];rfl
   · rw [valV_neg fun z=>h (Sum.inl.inj z),if_neg h,kd_val ds x]
theorem look_none:∀ {ds:List (Int×Int)} {x:Int},x∉ds.map Prod.fst→look ds x=none
 | [],x,_=>rfl
 | (k,c)::ds,x,h=>by
   show (if k=x then some c else look ds x)=none
   rw [if_neg fun z=>h (by rw [z];exact List.mem_cons_self),look_none fun z=>h (List.mem_cons_of_mem _ z)]
theorem kd_new {ds:List (Int×Int)} {x:Int} (h:x∉ds.map Prod.fst):bump ds x=ds++[(x,1)]:=by
 induction ds with
 | nil=>rfl
 | cons p ds ih=>
   obtain ⟨k,c⟩:=p
   show (if k=x then (k,c+1)::ds else (k,c)::bump ds x)=_
   rw [if_neg fun z=>h (by rw [z];exact List.mem_cons_self),ih fun z=>h (List.mem_cons_of_mem _ z)]
   rfl
theorem kd_map:∀ {ds:List (Int×Int)} (x c':Int),(ds.map Prod.fst).Nodup→look ds x=some c'→(kd ds).map (fun kv=>if kv.1=(Sum.inl x:Key) then (kv.1,V.int (c' + 1)) else kv)=kd (bump ds x)
 | [],x,c',_,h=>by cases h
 | (k,c)::ds,x,c',hn,h=>by
   have hn2:=List.nodup_cons.mp hn
   show (if (Sum.inl k:Key)=Sum.inl x then ((Sum.inl k:Key),V.int (c' + 1)) else ((Sum.inl k:Key),V.int c))::(kd ds).map _=kd (if k=x then (k,c+1)::ds else (k,c)::bump ds x)
   by_cases e:k=x
   · have ec:c=c':=by
      have:(if k=x then some c else look ds x)=some c':=h
      rw [if_pos e] at this
      exact Option.some.inj this
     rw [if_pos (by rw [e]),if_pos e,ec]
     show _::_=((Sum.inl k:Key),V.int (c' + 1))::kd ds
     congr 1
     have hx:x∉ds.map Prod.fst:=by rw [← e];exact hn2.1
     unfold kd
     rw [List.map_map]
     refine List.map_congr_left fun p hp=>?_
     show (if (Sum.inl p.1:Key)=Sum.inl x then ((Sum.inl p.1:Key),V.int (c' + 1)) else ((Sum.inl p.1:Key),V.int p.2))=((Sum.inl p.1:Key),V.int p.2)
     rw [if_neg fun z=>hx (List.mem_map.mpr ⟨p,hp,Sum.inl.inj z⟩)]
   · have h':look ds x=some c':=by
      have:(if k=x then some c else look ds x)=some c':=h
      rwa [if_neg e] at this
     rw [if_neg fun z=>e (Sum.inl.inj z),if_neg e,kd_map x c' hn2.2 h']
     rfl
theorem kd_put {ds:List (Int×Int)} (hn:(ds.map Prod.fst).Nodup) (x:Int):putK (kd ds) (.inl x) (V.int ((look ds x).getD 0+1))=kd (bump ds x):=by
 by_cases hx:x∈ds.map Prod.fst
 · obtain ⟨⟨k,c'⟩,hm,rfl⟩:=List.mem_map.mp hx
   have hc:=look_mem hn hm
   have hv:(valV (kd ds) (.inl k)).isSome=true:=by rw [kd_val,hc];rfl
   unfold putK
   rw [valV_any]
   dsimp only
   rw [if_pos hv,hc]
   exact kd_map k c' hn hc
 · have hc:=look_none hx
   have hv:¬ (valV (kd ds) (.inl x)).isSome=true:=by rw [kd_val,hc];decide
   unfold putK
   rw [valV_any,if_neg hv,hc,kd_new hx]
   unfold kd
   rw [List.map_append]
   rfl
end M54
namespace K59
open PySem L2 M04 M54
theorem fresh_back {H H':Hp} {p:Addr} (y:Same H H') (h:H' p=none):H p=none:=by
 cases e:H p with
 | none=>rfl
 | some o=>have:=y _ _ e;rw [h] at this;cases this
theorem in_ints (p:Int) (ns:List Int):inV (.int p) (ns.map V.int)=decide (p∈ns):=by
 unfold inV
 rw [List.any_map]
 induction ns with
 | nil=>rfl
 | cons n r ih=>
   rw [List.any_cons,ih]
   show (n == p||decide (p∈r))=_
   by_cases h:n=p
   · subst h;simp
   · have:(n == p)=false:=by simpa using h
     rw [this,Bool.false_or]
     have h':¬ p=n:=fun e=>h e.symm
     simp [h']
theorem flat_ints (ns:List Int):(ns.map V.int).all flatV=true:=by
 rw [List.all_map]
 exact List.all_eq_true.mpr fun _ _=>rfl
section
variable {P:Program} {w:World} {K:PySem.W.Frag} {mg:Str→Option Value} {base:Heap} {f:Addr} {fd:FuncData}
theorem sc_fall:FnScope ["_law_parts"] ["_law_parts"] (defScope (top 31)):=⟨rfl,rfl,rfl,by decide +kernel,rfl,by decide +kernel,by decide +kernel⟩
def sp_fall:Sp:=fun vs H Q _=>∃ (a:Addr) (ns:List Int),vs=[.ref a]∧(H a=some (.lst (ns.map V.int))∨H a=some (.tup (ns.map V.int)))∧∀ r (ms:List Int) H',Same H H'→ms.Perm ns→ms.Pairwise (·≥·)→H' r=some (.tup (ms.map V.int))→Q (.ref r) H'
theorem ok_fall (F:Fun K "_law_falling" "_law_falling" (top 31) f fd) (m_sorted:mg "sorted" = none) (m_tuple:mg "tuple" = none):FnOk P w K mg base CX0 1 f fd ["_law_parts"] sp_fall:=by
 refine F.okz sc_fall (fun vs H Q E h=>?_) (fun cdv A outer s H vs Q E hr h=>?_)
 · obtain ⟨a,ns,rfl,_⟩:=h;rfl
 obtain ⟨a,ns,rfl,ha,q⟩:=h
 have nd:=sc_fall.nd
 refine ⟨_,(zss_one (zs_ret (zcb_tuple rfl m_tuple (za_cons (ze_rev rv_P (zcb_sortB rfl m_sorted (za_cons (zn 0) za_nil) rfl rfl)) za_nil) rfl rfl))),?_⟩
 refine ⟨ns,ha.elim (fun h=>.inl (SqL.of h)) (fun h=>.inr (SqT.of h)),fun l ms hl perm ord=>?_⟩
 have yl:=Same.new hl (.lst (ms.map V.int))
 have gl:upd H l (.lst (ms.map V.int)) l=some (.lst (ms.map V.int)):=upd_same
 generalize upd H l (.lst (ms.map V.int))=H1 at yl gl
 refine ⟨l,rfl,.inr ⟨_,SqL.of gl,fun d hd=>?_⟩⟩
 have yd:=Same.new hd (.lst (ms.map V.int).reverse)
 refine ⟨_,.inl (SqL.of upd_same),fun r H' y' hr'=>?_⟩
 refine q r ms.reverse H' (yl.trans (yd.trans y')) ((List.reverse_perm ms).trans perm) (List.pairwise_reverse.mpr (ord.imp fun h=>h)) ?_
 rw [hr',List.map_reverse]
end
theorem pick4 {k a:Int} (h0:0≤k) (h1:k<4) (ha:1≤a∧a≤400):∃ m:Int,atI [V.int a,.int 3,.int 7,.int 400] k=some (.int m)∧1≤m∧m≤400:=by
 have:k=0∨k=1∨k=2∨k=3:=by omega
 rcases this with rfl | rfl | rfl | rfl
 · exact ⟨a,rfl,ha⟩
 · exact ⟨3,rfl,by decide⟩
 · exact ⟨7,rfl,by decide⟩
 · exact ⟨400,rfl,by decide⟩
theorem perm_sum {a b:List Int} (p:a.Perm b):a.sum=b.sum:=by
 induction p with
 | nil=>rfl
 | cons x _ ih=>rw [List.sum_cons,List.sum_cons,ih]
 | swap x y l=>rw [List.sum_cons,List.sum_cons,List.sum_cons,List.sum_cons];omega
 | trans _ _ i1 i2=>rw [i1,i2]
section
variable {P:Program} {w:World} {K:PySem.W.Frag} {mg:Str→Option Value} {base:Heap} {f:Addr} {fd:FuncData}
theorem sc_dr:FnScope ["_law_hand_here","_law_heavy","_law_way","_law_left","_law_parts","_law_cap","_law_part"] ["_law_hand_here","_law_heavy"] (defScope (top 32)):=⟨rfl,rfl,rfl,by decide +kernel,rfl,by decide +kernel,by decide +kernel⟩
def sp_dr:Sp:=fun vs H Q _=>∃ (p:Addr) (hv n:Nat),vs=[.ref p,.int hv]∧Hand H p n∧n<10000000∧hv≤400∧∀ r (ms:List Int) H',Step p (n+500) H H'→H' r=some (.tup (ms.map V.int))→ms.length≤hv→(∀ x∈ms,(1:Int)≤x)→ms.sum=hv→ms.Pairwise (·≥·)→Q (.ref r) H'
theorem ok_dr (F:Fun K "_law_drawn" "_law_drawn" (top 32) f fd) (m_min:mg "min" = none) (F_law_falling:FnA P w K mg base "_law_falling" 1 ["_law_parts"] sp_fall) (F_law_take:FnA P w K mg base "_law_take" 1 ["_law_hand_here","_law_many"] sp_take):FnOk P w K mg base CX0 2 f fd ["_law_hand_here","_law_heavy"] sp_dr:=by
 refine F.okz sc_dr (fun vs H Q E h=>?_) (fun cdv A outer s H vs Q E hr h=>?_)
 · obtain ⟨p,hv,n,rfl,_⟩:=h;rfl
 obtain ⟨p,hv,n,rfl,hh,hn,hv4,q⟩:=h
 have nd:=sc_dr.nd
 have hu:=hr.units
 refine ⟨_,(zss_cons (zs_par3 (i:=2) (j:=3) (k:=4) rfl nd rfl rfl rfl (by decide) (by decide) (by decide) rfl rfl rfl (za_cons (ze_fn F_law_take hr (by decide) rfl (za_cons (zn 0) (za_cons ze_int za_nil))) (za_cons (zn 1) (za_cons (ze_lst za_nil) za_nil))) rfl)
  (zss_cons (zs_set (i:=5) nd rfl (Or.inl rfl) (ze_ix ix_P (ze_lst (za_cons (ze_op op_addP ze_int (ze_fn F_law_take hr (by decide) rfl (za_cons (zn 0) (za_cons ze_int za_nil)))) (za_cons ze_int (za_cons ze_int (za_cons ze_int za_nil))))) (zn 2) (fun _ _=>rfl)))
  (zss_cons (zs_while PassesOwn.never (zt_cmpP op_gtP (zn 3) ze_int (nomark _)) (zss_cons (zs_set (i:=6) nd rfl (Or.inl rfl) (ze_op op_addP ze_int (ze_fn F_law_take hr (by decide) rfl (za_cons (zn 0) (za_cons (zcb_min rfl rfl m_min (za_cons (zn 3) (za_cons (zn 5) za_nil)) rfl rfl) za_nil)))))
  (zss_cons (zs_if (zt_cmpP (op_eqD hu) (zn 2) ze_int (nomark _)) (zss_one (zs_set (i:=6) nd rfl (Or.inl rfl) (zcb_min rfl rfl m_min (za_cons (zn 3) (za_cons (zn 5) za_nil)) rfl rfl))) zss_nil)
  (zss_cons (zs_expr (zm_append (zn 4) (za_cons (zn 6) za_nil)))
  (zss_one (zs_set (i:=3) nd rfl (Or.inl rfl) (ze_op op_subP (zn 3) (zn 6))))))))
  (zss_one (zs_ret (ze_fn F_law_falling hr (by decide) rfl (za_cons (zn 4) za_nil))))))),?_⟩
 refine ⟨p,4,n,rfl,hh,by omega,by decide,by decide,fun way H1 w0 w1 st1=>?_⟩
 refine ⟨by show 0≤sizeLine;decide,fun L hL=>?_⟩
 have yL:=Same.new hL (.lst [])
 have Lp:L≠p:=st1.2.ne hL
 have LH:H L=none:=by
  cases e:H L with
  | none=>rfl
  | some o=>have:=st1.1 L o Lp e;rw [hL] at this;cases this
 have gL:upd H1 L (.lst []) L=some (.lst (([]:List Int).map V.int)):=upd_same
 have st1':=st1.same yL
 generalize upd H1 L (.lst [])=H2 at yL gL st1'
 refine ⟨p,6,n+1,rfl,st1'.2,by omega,by decide,by decide,fun c0 H3 c00 c01 st3=>?_⟩
 refine ⟨by show 4≤sizeLine;decide,fun d hd=>?_⟩
 have yd:=Same.new hd (.lst [V.int (1+c0),.int 3,.int 7,.int 400])
 obtain ⟨cap,ecap,cap1,cap2⟩:=pick4 w0 w1 (show 1≤1+c0∧1+c0≤400 by omega)
 refine ⟨_,.inl (SqL.of upd_same),.int cap,ecap,?_⟩
 have st4:=(st1'.trans st3).same yd
 have gL4:=yd _ _ (st3.1 _ _ Lp gL)
 generalize upd H3 d (.lst [V.int (1+c0),.int 3,.int 7,.int 400])=H4 at st4 gL4
 refine while_by2 (fun m σ H'=>∃ (left:Nat) (ns:List Int) (x6:Option V),m=left∧Step p (n+2+(hv - left)) H H'∧left≤hv∧H' L=some (.lst (ns.map V.int))∧ns.length+left≤hv∧(∀ x∈ns,(1:Int)≤x)∧ns.sum+(left:Int)=(hv:Int)∧σ=[some (.ref p),some (.int hv),some (.int way),some (.int left),some (.ref L),some (.int cap),x6]) hv
  ⟨hv,[],none,rfl,by rw [Nat.sub_self];exact st4,Nat.le_refl _,gL4,by simp,(fun _ z=>nomatch z),by simp,rfl⟩ ?_
 rintro left σ H5 ⟨_,ns,x6,rfl,st5,hle,gL5,hnl,hpos,hsum,rfl⟩
 refine iteD (fun c=>?_) (fun c=>?_)
 · have hl0:0<left:=by have c':(0:Int)<(left:Int):=c;omega
   refine ⟨fun σ' H'=>∃ m',m' < left∧∃ (left:Nat) (ns:List Int) (x6:Option V),m'=left∧Step p (n+2+(hv - left)) H H'∧left≤hv∧H' L=some (.lst (ns.map V.int))∧ns.length+left≤hv∧(∀ x∈ns,(1:Int)≤x)∧ns.sum+(left:Int)=(hv:Int)∧σ'=[some (.ref p),some (.int hv),some (.int way),some (.int left),some (.ref L),some (.int cap),x6],fun σ' H' h=>h,?_⟩
   have hm:1≤(if cap<(left:Int) then cap else (left:Int))∧(if cap<(left:Int) then cap else (left:Int))≤(left:Int)∧(if cap<(left:Int) then cap else (left:Int))≤400:=by split <;> omega
   refine ⟨p,_,n+2+(hv - left),rfl,st5.2,by omega,by omega,by omega,fun r H6 r0 r1 st6=>?_⟩
   have gL6:=st6.1 _ _ Lp gL5
   have st7:=st5.trans st6
   have lns:(ns.map V.int).length<sizeLine:=by rw [List.length_map];exact small1000 (by omega)
   have fin:∀ (v:Int) (x6:Option V),1≤v→v≤(left:Int)→∃ m',m' < left∧∃ (left':Nat) (ms:List Int) (y6:Option V),m'=left'∧Step p (n+2+(hv - left')) H (upd H6 L (.lst (ns.map V.int++[V.int v])))∧left'≤hv∧upd H6 L (.lst (ns.map V.int++[V.int v])) L=some (.lst (ms.map V.int))∧ms.length+left'≤hv∧(∀ x∈ms,(1:Int)≤x)∧ms.sum+(left':Int)=(hv:Int)∧([some (.ref p),some (.int hv),some (.int way),some (.int ((left:Int) - v)),some (.ref L),some (.int cap),x6]:St)=[some (.ref p),some (.int hv),some (.int way),some (.int left'),some (.ref L),some (.int cap),y6]:=by
    intro v x6 v1 v2
    refine ⟨left - v.toNat,by omega,left - v.toNat,ns++[v],x6,rfl,⟨fun b o nb e=>?_,?_⟩,by omega,by rw [upd_same,List.map_append];rfl,by rw [List.length_append,List.length_singleton];omega,fun x hx=>?_,?_,?_⟩
    · rw [upd_ne (fun z=>by rw [z,LH] at e;cases e)]
      exact st7.1 b o nb e
    · obtain ⟨g,s',c',e,r1',r2',r3',r4',r5'⟩:=st7.2
      exact ⟨g,s',c',by rw [upd_ne (Ne.symm Lp)];exact e,r1',r2',r3',r4',by omega⟩
    · rcases List.mem_append.mp hx with h | h
      · exact hpos x h
      · rw [List.mem_singleton.mp h];exact v1
    · rw [List.sum_append,List.sum_singleton];omega
    · rw [show (left:Int) - v=((left - v.toNat:Nat):Int) by omega]
   refine iteD (fun c2=>?_) (fun c2=>?_)
   · refine ⟨tyL gL6,_,gL6,lns,?_⟩
     exact fin _ _ hm.1 hm.2.1
   · refine ⟨tyL gL6,_,gL6,lns,?_⟩
     exact fin _ _ (by omega) (by omega)
 · have hl0:left=0:=by have c':¬ (0:Int)<(left:Int):=c;omega
   subst hl0
   refine ⟨L,ns,rfl,.inl gL5,fun r ms H6 y6 perm ord hr6=>?_⟩
   refine q r ms H6 ((st5.same y6).mono (by omega)) hr6 (by rw [perm.length_eq];omega) (fun x hx=>hpos x (perm.mem_iff.mp hx)) ?_ ord
   rw [perm_sum perm]
   have hsum':ns.sum+((0:Nat):Int)=(hv:Int):=hsum
   omega
end
section
variable {P:Program} {w:World} {K:PySem.W.Frag} {mg:Str→Option Value} {base:Heap} {f:Addr} {fd:FuncData}
theorem sc_of:FnScope ["_law_parting","_law_found","_law_part"] ["_law_parting"] (defScope (top 33)):=⟨rfl,rfl,rfl,by decide +kernel,rfl,by decide +kernel,by decide +kernel⟩
def sp_of:Sp:=fun vs H Q _=>∃ (a:Addr) (ns:List Int),vs=[.ref a]∧H a=some (.tup (ns.map V.int))∧ns.length≤1000000∧∀ d H',H d=none→Same H H'→H' d=some (.dK (kd (tally ns)))→Q (.ref d) H'
theorem ok_of (F:Fun K "_law_often" "_law_often" (top 33) f fd)  : FnOk P w K mg base CX0 1 f fd ["_law_parting"] sp_of:=by
 refine F.okz sc_of (fun vs H Q E h=>?_) (fun cdv A outer s H vs Q E hr h=>?_)
 · obtain ⟨a,ns,rfl,_⟩:=h;rfl
 obtain ⟨a,ns,rfl,ha,hl,q⟩:=h
 have nd:=sc_of.nd
 have hu:=hr.units
 have hu1:=hu_of hr
 refine ⟨_,(zss_cons (zs_set (i:=1) nd rfl (Or.inl rfl) ze_dnewK)
  (zss_cons (zs_for PassesOwn.never rfl (zi_tup (zn 0)) (zg_name (i:=2) nd rfl (Or.inl rfl)) (zss_one (zs_dput hu1 (zn 1) (zn 2) (ze_op op_addP (ze_dget2 hu1 (zn 1) (zn 2) ze_int ⟨rfl,rfl,rfl,rfl⟩) ze_int) rfl)))
  (zss_one (zs_ret (zn 1))))),?_⟩
 refine fun d hd=>?_
 have yd:=Same.new hd (.dK [])
 have gd:upd H d (.dK []) d=some (.dK (kd (tally []))):=upd_same
 generalize upd H d (.dK [])=H0 at yd gd
 refine ⟨a,rfl,⟨_,SqT.of (yd _ _ ha)⟩,for_tup (xs:=ns.map V.int) (fun i σ H'=>Same H H'∧H' d=some (.dK (kd (tally (ns.take i))))∧∃ x2,σ=[some (.ref a),some (.ref d),x2]) ⟨yd,by rw [List.take_zero];exact gd,_,rfl⟩ ?_ ?_ ?_⟩
 · rintro i σ H' _ ⟨y,_⟩
   exact SqT.of (y _ _ ha)
 · rintro i z σ H' hz ⟨y,hd2,x2,rfl⟩
   have hi:i<ns.length:=by have:=(List.getElem?_eq_some_iff.mp hz).1;rw [List.length_map] at this;exact this
   have ez:z=.int ns[i]:=by rw [getI hi] at hz;exact (Option.some.inj hz).symm
   subst ez
   have tk:tally (ns.take (i+1))=bump (tally (ns.take i)) ns[i]:=by rw [List.take_succ,List.getElem?_eq_getElem hi];exact tally_snoc _ _
   have hlen:(kd (tally (ns.take i))).length<sizeLine:=by
    rw [kd_len]
    have:=tally_len (ns.take i)
    rw [List.length_take] at this
    exact Nat.lt_of_lt_of_le (show _<10000000 by omega) (by rw [sizeLine_eq];decide)
   have kp:=kd_put (tally_nd (ns.take i)) ns[i]
   rw [← tk] at kp
   refine ⟨d,rfl,.inl ⟨_,.inl hd2⟩,(look (tally (ns.take i)) ns[i]).map V.int,.inl ⟨_,.inl ns[i],.inl hd2,rfl,(kd_val _ _).symm⟩,?_⟩
   cases hL:look (tally (ns.take i)) ns[i] with
   | none=>
     rw [hL] at kp
     refine ⟨d,_,rfl,DPut.k (k:=.inl ns[i]) hd2 hlen,Same.updN y hd,?_,_,rfl⟩
     rw [upd_same]
     exact congrArg (fun z=>some (HO.dK z)) kp
   | some c=>
     rw [hL] at kp
     refine ⟨d,_,rfl,DPut.k (k:=.inl ns[i]) hd2 hlen,Same.updN y hd,?_,_,rfl⟩
     rw [upd_same]
     exact congrArg (fun z=>some (HO.dK z)) kp
 · rintro σ H' ⟨y,hd2,x2,rfl⟩
   rw [List.length_map,List.take_of_length_le (Nat.le_refl _)] at hd2
   exact q d H' hd y hd2
end
end K59
namespace MRow
def putN:Nat→(Nat→Int)→Nat→Nat→Int
 | 0,f,_,n=>f n
 | k+1,f,s,n=>f n+(if s≤n then putN k f s (n - s) else 0)
def put (f:Nat→Int) (s n:Nat):Int:=putN n f s n
theorem putN_more {f:Nat→Int} {s:Nat} (hs:0<s):∀ (k n:Nat),n≤k→putN k f s n=putN n f s n
 | 0,n,h=>by have:n=0:=by omega
             subst this;rfl
 | k+1,0,_=>by
   show f 0+(if s≤0 then _ else 0)=f 0
   rw [if_neg (by omega)];omega
 | k+1,n+1,h=>by
   show f (n+1)+(if s≤n+1 then putN k f s (n+1 - s) else 0)=f (n+1)+(if s≤n+1 then putN n f s (n+1 - s) else 0)
   by_cases hn:s≤n+1
   · rw [if_pos hn,if_pos hn,putN_more hs k _ (by omega),putN_more hs n _ (by omega)]
   · rw [if_neg hn,if_neg hn]
theorem put_eq (f:Nat→Int) {s:Nat} (hs:0<s) (n:Nat):put f s n=f n+(if s≤n then put f s (n - s) else 0):=by
 unfold put
 rw [← putN_more hs (n+1) n (by omega)]
 show f n+(if s≤n then putN n f s (n - s) else 0)=_
 by_cases hn:s≤n
 · rw [if_pos hn,if_pos hn,putN_more hs n _ (by omega)]
 · rw [if_neg hn,if_neg hn]
def dl:Nat→Int:=fun n=>if n=0 then 1 else 0
def tb (f:Nat→Int) (L:Nat):List Int:=(List.range L).map f
theorem tb_len (f:Nat→Int) (L:Nat):(tb f L).length=L:=by simp [tb]
theorem tb_at {f:Nat→Int} {L j:Nat} (h:j<(tb f L).length):(tb f L)[j]=f j:=by simp [tb]
theorem tb_get {f:Nat→Int} {L j:Nat} (h:j<L):(tb f L)[j]? = some (f j):=by
 rw [List.getElem?_eq_getElem (by rw [tb_len];exact h),tb_at]
end MRow
namespace M80
open MRow
def PL (g:Nat→Int) (ss:List Nat):Nat→Int:=ss.foldl put g
theorem PL_app (g:Nat→Int) (a b:List Nat):PL g (a++b)=PL (PL g a) b:=by unfold PL;rw [List.foldl_append]
def ups (n:Nat):List Nat:=(List.range n).map (· + 1)
theorem ups_succ (n:Nat):ups (n+1)=ups n++[n+1]:=by unfold ups;rw [List.range_succ,List.map_append];rfl
end M80
namespace M17
open MRow M80
def blk (s:Nat):Nat→List Int→List Int→List Int
 | 0,_,_=>[]
 | f+1,prev,l=>match l with
   | []=>[]
   | _=>List.zipWith (· + ·) (l.take s) prev++blk s f (List.zipWith (· + ·) (l.take s) prev) (l.drop s)
def putL (L s:Nat) (l:List Int):List Int:=blk s (L / s+1) (List.replicate s 0) l
def tbf (g:Nat→Int) (p L:Nat):List Int:=(List.range L).map fun j=>g (p+j)
theorem tbf_len (g:Nat→Int) (p L:Nat):(tbf g p L).length=L:=by unfold tbf;simp
theorem tbf_at {g:Nat→Int} {p L i:Nat} (h:i<(tbf g p L).length):(tbf g p L)[i]=g (p+i):=by simp [tbf]
theorem tbf_take (g:Nat→Int) (p L s:Nat):(tbf g p L).take s=tbf g p (min s L):=by
 unfold tbf;rw [← List.map_take,List.take_range]
theorem tbf_drop (g:Nat→Int) (p L s:Nat):(tbf g p L).drop s=tbf g (p+s) (L - s):=by
 refine List.ext_getElem (by simp [tbf]) fun i h1 h2=>?_
 rw [List.getElem_drop,tbf_at,tbf_at,Nat.add_assoc]
theorem tbf_app (g:Nat→Int) (p a b:Nat):tbf g p a++tbf g (p+a) b=tbf g p (a+b):=by
 refine List.ext_getElem (by simp [tbf]) fun i h1 h2=>?_
 rw [List.getElem_append]
 split
 · rw [tbf_at,tbf_at]
 · rename_i c
   have c':¬ i<a:=by rw [tbf_len] at c;exact c
   rw [tbf_at,tbf_at]
   congr 1
   rw [tbf_len]
   omega
theorem zip_is {g:Nat→Int} {s p k:Nat} {prev:List Int} (hs:0<s) (hk:k≤s) (hl:prev.length=s) (hp:∀ j,j<k→prev.getD j 0=if s≤p+j then put g s (p+j - s) else 0) :
 List.zipWith (· + ·) (tbf g p k) prev=tbf (put g s) p k:=by
 refine List.ext_getElem (by rw [List.length_zipWith,tbf_len,tbf_len];omega) fun i h1 h2=>?_
 have hi:i<k:=by rw [tbf_len] at h2;exact h2
 rw [List.getElem_zipWith]
 have e:=hp i hi
 rw [List.getD_eq_getElem?_getD,List.getElem?_eq_getElem (by omega)] at e
 have e:prev[i]=if s≤p+i then put g s (p+i - s) else 0:=e
 rw [e,tbf_at,tbf_at,put_eq g hs (p+i)]
theorem blk_ok {g:Nat→Int} {s:Nat} (hs:0<s):∀ (f p L:Nat) (prev:List Int),L<f*s→prev.length=s→(∀ j,j<min s L→prev.getD j 0=if s≤p+j then put g s (p+j - s) else 0)→blk s f prev (tbf g p L)=tbf (put g s) p L
 | 0,p,L,prev,h,_,_=>by omega
 | f+1,p,0,prev,_,_,_=>rfl
 | f+1,p,L+1,prev,h,hl,hp=>by
   have e0:∃ x r,tbf g p (L+1)=x::r:=by
    cases e:tbf g p (L+1) with
    | nil=>have:=tbf_len g p (L+1);rw [e] at this;cases this
    | cons x r=>exact ⟨x,r,rfl⟩
   obtain ⟨x,r,e0⟩:=e0
   have e1:blk s (f+1) prev (tbf g p (L+1))=List.zipWith (· + ·) ((tbf g p (L+1)).take s) prev++blk s f (List.zipWith (· + ·) ((tbf g p (L+1)).take s) prev) ((tbf g p (L+1)).drop s):=by rw [e0];rfl
   rw [e1,tbf_take,tbf_drop,zip_is hs (Nat.min_le_left _ _) hl hp]
   by_cases c:L+1≤s
   · have z:L+1 - s=0:=by omega
     rw [z,Nat.min_eq_right c]
     have:blk s f (tbf (put g s) p (L+1)) (tbf g (p+s) 0)=[]:=by cases f <;> rfl
     rw [this,List.append_nil]
   · rw [Nat.min_eq_left (by omega),blk_ok hs f (p+s) (L+1 - s) (tbf (put g s) p s) (by rw [Nat.succ_mul] at h;omega) (tbf_len _ _ _) fun j hj=>?_,tbf_app,show s+(L+1 - s)=L+1 by omega]
     have hj':j<s:=by omega
     unfold tbf
     rw [List.getD_eq_getElem?_getD,List.getElem?_map,List.getElem?_range hj',if_pos (by omega),show p+s+j - s=p+j by omega]
     rfl
theorem tb_tbf (g:Nat→Int) (L:Nat):tb g L=tbf g 0 L:=by unfold tb tbf;exact List.map_congr_left fun j _=>by rw [Nat.zero_add]
theorem putL_ok (g:Nat→Int) {s:Nat} (hs:0<s) (L:Nat):putL L s (tb g L)=tb (put g s) L:=by
 unfold putL
 rw [tb_tbf,tb_tbf]
 refine blk_ok hs _ 0 L _ ?_ (List.length_replicate ..) fun j hj=>?_
 · have:=Nat.lt_mul_div_succ L hs
   rw [Nat.mul_comm]
   exact this
 · rw [if_neg (by omega),List.getD_eq_getElem?_getD,List.getElem?_replicate,if_pos (by omega)]
   rfl
def PLL (L:Nat) (l:List Int) (ss:List Nat):List Int:=ss.foldl (fun l s=>putL L s l) l
theorem PLL_ok (L:Nat):∀ (ss:List Nat) (g:Nat→Int),(∀ x∈ss,0<x)→PLL L (tb g L) ss=tb (PL g ss) L
 | [],_,_=>rfl
 | s::ss,g,h=>by
   show PLL L (putL L s (tb g L)) ss=_
   rw [putL_ok g (h s List.mem_cons_self),PLL_ok L ss _ fun x hx=>h x (List.mem_cons_of_mem s hx)]
   rfl
end M17
namespace M12
open MRow M80 M17
def fl (p:Nat→Bool) (n:Nat):List Nat:=(ups n).filter p
theorem fl_succ (p:Nat→Bool) (n:Nat):fl p (n+1)=fl p n++if p (n+1)=true then [n+1] else []:=by
 unfold fl
 rw [ups_succ,List.filter_append]
 congr 1
 by_cases h:p (n+1)=true
 · rw [if_pos h,List.filter_cons_of_pos h];rfl
 · rw [if_neg h,List.filter_cons_of_neg h];rfl
theorem fl_all (n:Nat):fl (fun _=>true) n=ups n:=by
 unfold fl
 exact List.filter_eq_self.mpr fun _ _=>rfl
end M12
namespace M11
open MRow M80 M17 M12
def lsN (prev:Nat→List (List Nat)) (s:Nat):Nat→Nat→List (List Nat)
 | 0,n=>prev n
 | f+1,n=>(if s≤n then (lsN prev s f (n - s)).map (s::·) else [])++prev n
def Lst:Nat→Nat→List (List Nat)
 | 0=>fun n=>if n=0 then [[]] else []
 | m+1=>fun n=>lsN (Lst m) (m+1) n n
theorem lsN_more {f:Nat→List (List Nat)} {s:Nat} (hs:0<s):∀ (k n:Nat),n≤k→lsN f s k n=lsN f s n n
 | 0,n,h=>by have:n=0:=by omega
             subst this;rfl
 | k+1,0,_=>by
   show (if s≤0 then _ else [])++f 0=f 0
   rw [if_neg (by omega)];rfl
 | k+1,n+1,h=>by
   show (if s≤n+1 then (lsN f s k (n+1 - s)).map (s::·) else [])++f (n+1)=(if s≤n+1 then (lsN f s n (n+1 - s)).map (s::·) else [])++f (n+1)
   by_cases hn:s≤n+1
   · rw [if_pos hn,if_pos hn,lsN_more hs k _ (by omega),lsN_more hs n _ (by omega)]
   · rw [if_neg hn,if_neg hn]
theorem ls_eq (m n:Nat):Lst (m+1) n=(if m+1≤n then (Lst (m+1) (n - (m+1))).map ((m+1)::·) else [])++Lst m n:=by
 show lsN (Lst m) (m+1) n n=(if m+1≤n then (lsN (Lst m) (m+1) (n - (m+1)) (n - (m+1))).map ((m+1)::·) else [])++Lst m n
 rw [← lsN_more (by omega) (n+1) n (by omega)]
 show (if m+1≤n then (lsN (Lst m) (m+1) n (n - (m+1))).map ((m+1)::·) else [])++Lst m n=_
 by_cases hn:m+1≤n
 · rw [if_pos hn,if_pos hn,lsN_more (by omega) n _ (by omega)]
 · rw [if_neg hn,if_neg hn]
def cn (m n:Nat) (p:List Nat→Bool):Int:=((Lst m n).countP p:Nat)
theorem cn_zero (n:Nat) (p:List Nat→Bool):cn 0 n p=if p []=true then dl n else 0:=by
 unfold cn
 show ((List.countP p (if n=0 then [[]] else []):Nat):Int)=_
 unfold dl
 by_cases h:n=0
 · rw [if_pos h,if_pos h]
   cases hp:p [] with
   | true=>rw [List.countP_cons_of_pos hp];rfl
   | false=>rw [List.countP_cons_of_neg (by rw [hp];decide)];rfl
 · rw [if_neg h,if_neg h]
   cases p [] <;> rfl
theorem cn_succ (m n:Nat) (p:List Nat→Bool):cn (m+1) n p=(if m+1≤n then cn (m+1) (n - (m+1)) (fun l=>p ((m+1)::l)) else 0)+cn m n p:=by
 unfold cn
 rw [ls_eq,List.countP_append,Int.natCast_add]
 congr 1
 by_cases h:m+1≤n
 · rw [if_pos h,if_pos h,List.countP_map]
   rfl
 · rw [if_neg h,if_neg h]
   rfl
theorem cn_congr {m n:Nat} {p q:List Nat→Bool} (h:∀ l∈Lst m n,p l=q l):cn m n p=cn m n q:=by
 unfold cn
 rw [List.countP_congr fun l hl=>by rw [h l hl]]
theorem cn_none {m n:Nat} {p:List Nat→Bool} (h:∀ l∈Lst m n,p l=false):cn m n p=0:=by
 rw [cn_congr (q:=fun _=>false) h]
 unfold cn
 rw [List.countP_false]
 rfl
theorem ls_mem:∀ m n l,l∈Lst m n→(∀ x∈l,1≤x∧x≤m)∧l.sum=n:=by
 intro m
 induction m with
 | zero=>
   intro n l h
   have h:l∈(if n=0 then [[]] else []):=h
   by_cases e:n=0
   · rw [if_pos e] at h
     rw [List.mem_singleton.mp h]
     exact ⟨fun x hx=>(nomatch hx),e.symm⟩
   · rw [if_neg e] at h;cases h
 | succ m ih=>
   intro n
   induction n using Nat.strongRecOn with
   | _ n ihn=>
     intro l h
     rw [ls_eq] at h
     rcases List.mem_append.mp h with h | h
     · by_cases e:m+1≤n
       · rw [if_pos e] at h
         obtain ⟨y,hy,rfl⟩:=List.mem_map.mp h
         obtain ⟨a,b⟩:=ihn (n - (m+1)) (by omega) y hy
         refine ⟨fun x hx=>?_,by rw [List.sum_cons,b];omega⟩
         rcases List.mem_cons.mp hx with e | e
         · omega
         · exact a x e
       · rw [if_neg e] at h;cases h
     · obtain ⟨a,b⟩:=ih n l h
       exact ⟨fun x hx=>by have:=a x hx;omega,b⟩
theorem cn_all (p:Nat→Bool):∀ m n,cn m n (fun l=>l.all p)=PL dl (fl p m) n:=by
 intro m
 induction m with
 | zero=>intro n;rw [cn_zero];rfl
 | succ m ih=>
   intro n
   rw [fl_succ]
   cases hp:p (m+1) with
   | false=>
     rw [if_neg (by decide),List.append_nil,← ih n,cn_succ]
     rw [show (if m+1≤n then cn (m+1) (n - (m+1)) (fun l=>((m+1)::l).all p) else 0)=0 from ?_]
     · omega
     · split
       · exact cn_none fun l _=>by rw [List.all_cons,hp];rfl
       · rfl
   | true=>
     rw [if_pos rfl,PL_app]
     show _=put (PL dl (fl p m)) (m+1) n
     induction n using Nat.strongRecOn with
     | _ n ihn=>
       rw [cn_succ,put_eq _ (by omega),ih n]
       by_cases h:m+1≤n
       · rw [if_pos h,if_pos h,← ihn (n - (m+1)) (by omega)]
         have:cn (m+1) (n - (m+1)) (fun l=>((m+1)::l).all p)=cn (m+1) (n - (m+1)) (fun l=>l.all p):=cn_congr fun l _=>by rw [List.all_cons,hp];rfl
         rw [this]
         omega
       · rw [if_neg h,if_neg h];omega
end M11
namespace M66
open MRow M80 M17 M12 M11
theorem cn_pos (m n:Nat) (p:List Nat→Bool):0≤cn m n p:=by unfold cn;omega
theorem cn_up (m n:Nat) (p:List Nat→Bool):cn m n p≤cn (m+1) n p:=by
 rw [cn_succ]
 have:0≤(if m+1≤n then cn (m+1) (n - (m+1)) (fun l=>p ((m+1)::l)) else 0):=by
  split
  · exact cn_pos _ _ _
  · decide
 omega
theorem cn_ups {m:Nat} (n:Nat) (p:List Nat→Bool):∀ e,cn m n p≤cn (m+e) n p
 | 0=>Int.le_refl _
 | e+1=>Int.le_trans (cn_ups n p e) (cn_up (m+e) n p)
theorem cn_le {a b:Nat} (n:Nat) (p:List Nat→Bool) (h:a≤b):cn a n p≤cn b n p:=by
 have:=cn_ups (m:=a) n p (b - a)
 rw [show a+(b - a)=b by omega] at this
 exact this
def Fl:List Nat→Prop
 | []=>True
 | [a]=>1≤a
 | a::b::r=>b≤a∧Fl (b::r)
theorem Fl.tail {a:Nat} {r:List Nat} (h:Fl (a::r)):Fl r:=by
 cases r with
 | nil=>trivial
 | cons b r=>exact h.2
theorem Fl.pos:∀ {x:List Nat},Fl x→∀ a∈x,1≤a
 | [],_,_,h=>nomatch h
 | [b],h,a,ha=>by rw [List.mem_singleton.mp ha];exact h
 | b::c::r,h,a,ha=>by
   rcases List.mem_cons.mp ha with e | e
   · have:=Fl.pos h.2 c List.mem_cons_self
     have:=h.1
     omega
   · exact Fl.pos h.2 a e
theorem Fl.head {b:Nat}:∀ {r:List Nat},Fl (b::r)→∀ a∈b::r,a≤b
 | [],_,a,ha=>by rw [List.mem_singleton.mp ha];exact Nat.le_refl _
 | c::r,h,a,ha=>by
   rcases List.mem_cons.mp ha with e | e
   · omega
   · have:=Fl.head h.2 a e
     have:=h.1
     omega
end M66
namespace M63
open M11 M66 SRV
def toI (x:List Nat):List Int:=x.map fun (k:Nat)=>(k:Int)
def Asc (m n:Nat):List (List Nat):=(Lst m n).reverse
theorem asc_zero (n:Nat):Asc 0 n=if n=0 then [[]] else []:=by
 unfold Asc
 show (if n=0 then [[]] else []:List (List Nat)).reverse=_
 split <;> rfl
theorem asc_eq (m n:Nat):Asc (m+1) n=Asc m n++(if m+1≤n then (Asc (m+1) (n - (m+1))).map ((m+1)::·) else []):=by
 unfold Asc
 rw [ls_eq,List.reverse_append]
 congr 1
 split
 · rw [List.map_reverse]
 · rfl
theorem asc_mem {m n:Nat} {x:List Nat}:x∈Asc m n↔x∈Lst m n:=List.mem_reverse
theorem asc_low {m n:Nat} (h:n≤m):Asc m n=Asc n n:=by
 obtain ⟨e,rfl⟩:∃ e,m=n+e:=⟨m - n,by omega⟩
 induction e with
 | zero=>rfl
 | succ e ih=>rw [show n+(e+1)=(n+e)+1 by omega,asc_eq,if_neg (by omega),List.append_nil];exact ih (by omega)
theorem ls_fl:∀ (m n:Nat) (x:List Nat),x∈Asc m n→Fl x:=by
 intro m
 induction m with
 | zero=>
   intro n x hx
   rw [asc_zero] at hx
   split at hx
   · rw [List.mem_singleton.mp hx];trivial
   · cases hx
 | succ m ih=>
   intro n
   induction n using Nat.strongRecOn with
   | ind n ihn=>
     intro x hx
     rw [asc_eq] at hx
     rcases List.mem_append.mp hx with hx | hx
     · exact ih n x hx
     · split at hx
       · rename_i hn
         obtain ⟨y,hy,rfl⟩:=List.mem_map.mp hx
         have fy:=ihn _ (by omega) y hy
         have by':=(ls_mem _ _ y (asc_mem.mp hy)).1
         cases y with
         | nil=>show 1≤m+1;omega
         | cons b r=>exact ⟨(by' b List.mem_cons_self).2,fy⟩
       · cases hx
end M63
namespace MP
def pb:Nat→Nat→Nat→List (List Int)
 | 0,_,_=>[[]]
 | f+1,n,m=>if n=0 then [[]] else (List.range (min n m)).flatMap fun i=>(pb f (n - (i+1)) (i+1)).map fun b=>((i+1:Nat):Int)::b
theorem pb_zero (f m:Nat):pb f 0 m=[[]]:=by cases f <;> rfl
theorem flat_congr {α β:Type} {f g:α→List β}:∀ {l:List α},(∀ a∈l,f a=g a)→l.flatMap f=l.flatMap g
 | [],_=>rfl
 | a::l,h=>by rw [List.flatMap_cons,List.flatMap_cons,h a List.mem_cons_self,flat_congr fun b hb=>h b (List.mem_cons_of_mem _ hb)]
theorem pb_fuel:∀ (f n m:Nat),n≤f→pb f n m=pb n n m
 | 0,n,m,h=>by
   have:n=0:=by omega
   subst this;rfl
 | f+1,0,m,_=>by rw [pb_zero];rfl
 | f+1,n+1,m,h=>by
   show (if n+1=0 then [[]] else (List.range (min (n+1) m)).flatMap fun i=>(pb f (n+1 - (i+1)) (i+1)).map fun b=>((i+1:Nat):Int)::b)=(if n+1=0 then [[]] else (List.range (min (n+1) m)).flatMap fun i=>(pb n (n+1 - (i+1)) (i+1)).map fun b=>((i+1:Nat):Int)::b)
   rw [if_neg (by omega),if_neg (by omega)]
   refine flat_congr fun i hi=>?_
   rw [pb_fuel f (n+1 - (i+1)) (i+1) (by omega),pb_fuel n (n+1 - (i+1)) (i+1) (by omega)]
def PB (n m:Nat):List (List Int):=pb n n m
def blk (n i:Nat):List (List Int):=(PB (n - (i+1)) (i+1)).map fun b=>((i+1:Nat):Int)::b
theorem PB_zero (m:Nat):PB 0 m=[[]]:=rfl
theorem PB_eq {n:Nat} (h:n≠0) (m:Nat):PB n m=(List.range (min n m)).flatMap (blk n):=by
 cases n with
 | zero=>exact absurd rfl h
 | succ n=>
   show (if n+1=0 then [[]] else (List.range (min (n+1) m)).flatMap fun i=>(pb n (n+1 - (i+1)) (i+1)).map fun b=>((i+1:Nat):Int)::b)=_
   rw [if_neg (by omega)]
   refine flat_congr fun i hi=>?_
   unfold blk PB
   rw [pb_fuel n (n+1 - (i+1)) (i+1) (by omega)]
theorem PB_pos:∀ (N n m:Nat),n≤N→∀ b∈PB n m,(∀ x∈b,(1:Int)≤x∧x≤n)∧b.length≤n∧b.sum=n
 | 0,n,m,h,b,hb=>by
   have:n=0:=by omega
   subst this
   have:b=[]:=by simpa [PB,pb] using hb
   subst this
   exact ⟨(fun _ z=>nomatch z),Nat.le_refl _,rfl⟩
 | N+1,n,m,h,b,hb=>by
   by_cases h0:n=0
   · subst h0
     have:b=[]:=by simpa [PB,pb] using hb
     subst this
     exact ⟨(fun _ z=>nomatch z),Nat.le_refl _,rfl⟩
   · rw [PB_eq h0] at hb
     obtain ⟨i,hi,hb⟩:=List.mem_flatMap.mp hb
     have hi':=List.mem_range.mp hi
     obtain ⟨c,hc,rfl⟩:=List.mem_map.mp hb
     obtain ⟨h1,h2,h3⟩:=PB_pos N (n - (i+1)) (i+1) (by omega) c hc
     refine ⟨fun x hx=>?_,?_,?_⟩
     · rcases List.mem_cons.mp hx with rfl | hx
       · omega
       · have:=h1 x hx;omega
     · rw [List.length_cons];omega
     · rw [List.sum_cons,h3];omega
end MP
namespace M05
open MRow M80 M17 M12 M11 M66 M63 MP
theorem asc_blocks {n:Nat} (h:n≠0):∀ m,Asc m n=(List.range m).flatMap fun i=>if i+1≤n then (Asc (i+1) (n - (i+1))).map ((i+1)::·) else []
 | 0=>by rw [asc_zero,if_neg h];rfl
 | m+1=>by
   rw [asc_eq,asc_blocks h m,List.range_succ,List.flatMap_append]
   simp
theorem PB_asc:∀ (N n m:Nat),n≤N→PB n m=(Asc m n).map toI:=by
 intro N
 induction N with
 | zero=>
   intro n m h
   have:n=0:=by omega
   subst this
   rw [PB_zero]
   rw [asc_low (Nat.zero_le m),asc_zero]
   rfl
 | succ N ih=>
   intro n m h
   by_cases h0:n=0
   · subst h0
     rw [PB_zero,asc_low (Nat.zero_le m),asc_zero]
     rfl
   · have e:Asc m n=Asc (min n m) n:=by
      by_cases hm:n≤m
      · rw [Nat.min_eq_left hm,asc_low hm]
      · rw [Nat.min_eq_right (by omega)]
     rw [PB_eq h0,e,asc_blocks h0,List.map_flatMap]
     refine flat_congr fun i hi=>?_
     have hi:=List.mem_range.mp hi
     rw [if_pos (by omega),List.map_map]
     unfold MP.blk
     rw [ih (n - (i+1)) (i+1) (by omega),List.map_map]
     rfl
theorem row30:PLL 31 (tb dl 31) (ups 30)=[1,1,2,3,5,7,11,15,22,30,42,56,77,101,135,176,231,297,385,490,627,792,1002,1255,1575,1958,2436,3010,3718,4565,5604]:=by decide +kernel
theorem len_row {n:Nat} (h:n≤30):((Lst 30 n).length:Int)=([1,1,2,3,5,7,11,15,22,30,42,56,77,101,135,176,231,297,385,490,627,792,1002,1255,1575,1958,2436,3010,3718,4565,5604]:List Int).getD n 0:=by
 have e1:cn 30 n (fun l=>l.all fun _=>true)=PL dl (fl (fun _=>true) 30) n:=cn_all _ 30 n
 rw [fl_all] at e1
 have e2:PLL 31 (tb dl 31) (ups 30)=tb (PL dl (ups 30)) 31:=PLL_ok 31 _ dl (by decide)
 rw [row30] at e2
 have e3:cn 30 n (fun l=>l.all fun _=>true)=((Lst 30 n).length:Int):=by
  unfold cn
  congr 1
  rw [List.countP_eq_length]
  exact fun x _=>List.all_eq_true.mpr fun _ _=>rfl
 rw [← e3,e1,e2,List.getD_eq_getElem?_getD,tb_get (by omega)]
 rfl
theorem len30 {n:Nat} (h:n≤30):(Lst 30 n).length≤6000:=by
 have e:=len_row h
 have key:((List.range 31).all fun n=>decide (([1,1,2,3,5,7,11,15,22,30,42,56,77,101,135,176,231,297,385,490,627,792,1002,1255,1575,1958,2436,3010,3718,4565,5604]:List Int).getD n 0≤6000))=true:=by decide +kernel
 have:=of_decide_eq_true (List.all_eq_true.mp key n (List.mem_range.mpr (by omega)))
 omega
theorem asc_len30 {m n:Nat} (hn:n≤30):(Asc m n).length≤6000:=by
 have key:∀ m,m≤30→(Asc m n).length≤6000:=fun m hm=>by
  unfold Asc
  rw [List.length_reverse]
  have h30:=len30 hn
  have le:=cn_le n (fun _=>true) hm
  unfold cn at le
  rw [List.countP_true] at le
  omega
 by_cases hm:m≤30
 · exact key m hm
 · rw [asc_low (by omega)]
   exact key n hn
theorem PB_len30 {n m:Nat} (hn:n≤30):(PB n m).length≤6000:=by rw [PB_asc n n m (Nat.le_refl n),List.length_map];exact asc_len30 hn
end M05
namespace M10
open M66 M63
theorem in_lst:∀ (m n:Nat) (x:List Nat),Fl x→(∀ a∈x,a≤m)→x.sum=n→x∈M11.Lst m n
 | 0,n,x,f,h,s=>by
   cases x with
   | nil=>rw [← s];exact List.mem_singleton.mpr rfl
   | cons a r=>have:=h a List.mem_cons_self;have:=Fl.pos f a List.mem_cons_self;omega
 | m+1,n,[],f,h,s=>by
   rw [M11.ls_eq]
   exact List.mem_append_right _ (in_lst m n [] f (fun a ha=>nomatch ha) s)
 | m+1,n,a::r,f,h,s=>by
   rw [M11.ls_eq]
   have ha:=h a List.mem_cons_self
   rw [List.sum_cons] at s
   by_cases e:a=m+1
   · subst e
     refine List.mem_append_left _ ?_
     rw [if_pos (by omega)]
     exact List.mem_map.mpr ⟨r,in_lst (m+1) (n - (m+1)) r f.tail (fun b hb=>h b (List.mem_cons_of_mem _ hb)) (by omega),rfl⟩
   · refine List.mem_append_right _ (in_lst m n (a::r) f (fun b hb=>?_) (by rw [List.sum_cons];exact s))
     have:=Fl.head f b hb
     omega
 termination_by m n x=>(m,x.length)
theorem le_sum:∀ {x:List Nat} {a:Nat},a∈x→a≤x.sum
 | [],_,h=>nomatch h
 | b::r,a,h=>by
   rw [List.sum_cons]
   rcases List.mem_cons.mp h with e | e
   · omega
   · have:=le_sum e;omega
theorem asc_iff {n:Nat} {x:List Nat}:x∈Asc n n↔Fl x∧x.sum=n:=by
 refine ⟨fun h=>⟨ls_fl _ _ _ h,(M11.ls_mem _ _ _ (asc_mem.mp h)).2⟩,fun ⟨f,s⟩=>asc_mem.mpr (in_lst n n x f (fun a ha=>?_) s)⟩
 have:=le_sum ha
 omega
theorem Fl.of:∀ {x:List Nat},(∀ a∈x,1≤a)→x.Pairwise (·≥·)→Fl x
 | [],_,_=>trivial
 | [a],h,_=>h a List.mem_cons_self
 | a::b::r,h,p=>⟨(List.pairwise_cons.mp p).1 b List.mem_cons_self,Fl.of (fun c hc=>h c (List.mem_cons_of_mem _ hc)) (List.pairwise_cons.mp p).2⟩
theorem Fl.pwI:∀ {x:List Nat},Fl x→(toI x).Pairwise (·≥·)
 | [],_=>.nil
 | a::r,f=>.cons (fun b hb=>by
     obtain ⟨c,hc,rfl⟩:=List.mem_map.mp hb
     have:=Fl.head f c (List.mem_cons_of_mem _ hc)
     show (c:Int)≤(a:Int)
     omega) (Fl.pwI f.tail)
theorem Fl.oneI {x:List Nat} (f:Fl x):∀ n∈toI x,(1:Int)≤n:=fun n hn=>by
 obtain ⟨a,ha,rfl⟩:=List.mem_map.mp hn
 have:=Fl.pos f a ha
 omega
theorem sum_toI (x:List Nat):(toI x).sum=(x.sum:Int):=by
 unfold toI
 induction x with
 | nil=>rfl
 | cons a r ih=>rw [List.map_cons,List.sum_cons,List.sum_cons,ih];omega
end M10
namespace M55
open MRow M80 M12 M11 M66 M63 M10 M04 M54 MP
theorem inn_iff (e p:List Int):inn e p=true↔∀ k,e.count k≤p.count k:=by
 rw [inn_is]
 cases h:ls p e with
 | none=>
   obtain ⟨x,hx,hc⟩:=ls_none h
   exact ⟨(fun z=>nomatch z),fun z=>by have:=z x;omega⟩
 | some l=>
   obtain ⟨_,h2⟩:=ls_some h
   exact ⟨fun _ k=>by have:=h2 k;omega,fun _=>rfl⟩
theorem toI_of {p:List Int} (h:∀ x∈p,(1:Int)≤x):toI (p.map Int.toNat)=p:=by
 unfold toI
 rw [List.map_map]
 conv=>rhs;rw [← List.map_id p]
 refine List.map_congr_left fun z hz=>?_
 have:=h z hz
 show ((z.toNat:Nat):Int)=z
 omega
theorem pb_iff {n:Nat} {p:List Int}:p∈PB n n↔(∀ x∈p,(1:Int)≤x)∧p.Pairwise (·≥·)∧p.sum=(n:Int):=by
 rw [M05.PB_asc n n n (Nat.le_refl n),List.mem_map]
 constructor
 · rintro ⟨x,hx,rfl⟩
   obtain ⟨f,s⟩:=asc_iff.mp hx
   exact ⟨Fl.oneI f,Fl.pwI f,by rw [sum_toI,s]⟩
 · rintro ⟨h1,h2,h3⟩
   have e:=toI_of h1
   refine ⟨p.map Int.toNat,asc_iff.mpr ⟨Fl.of (fun a ha=>?_) ?_,?_⟩,e⟩
   · obtain ⟨z,hz,rfl⟩:=List.mem_map.mp ha
     have:=h1 z hz
     omega
   · rw [List.pairwise_map]
     exact h2.imp fun {a b} h=>by show b.toNat≤a.toNat;have h':b≤a:=h;omega
   · have:=sum_toI (p.map Int.toNat)
     rw [e,h3] at this
     omega
def NoE (evs:List (List Int)) (p:List Int):Bool:=!(evs.any fun e=>inn e p)
theorem perm_sumI {a b:List Int} (p:a.Perm b):a.sum=b.sum:=by
 induction p with
 | nil=>rfl
 | cons x _ ih=>rw [List.sum_cons,List.sum_cons,ih]
 | swap x y l=>rw [List.sum_cons,List.sum_cons,List.sum_cons,List.sum_cons];omega
 | trans _ _ i1 i2=>rw [i1,i2]
theorem taken {x e:List Int} (hx:∀ n∈x,(1:Int)≤n) (px:x.Pairwise (·≥·)) (he:∀ n∈e,(1:Int)≤n) (h:inn e x=true):∃ y,(∀ n∈y,(1:Int)≤n)∧y.Pairwise (·≥·)∧y.sum+e.sum=x.sum∧bt y e=x:=by
 rw [inn_is] at h
 obtain ⟨y,hy⟩:=Option.isSome_iff_exists.mp h
 obtain ⟨sb,ct⟩:=ls_some hy
 have y1:∀ n∈y,(1:Int)≤n:=fun n hn=>hx n (sb.mem hn)
 have pm:x.Perm (y++e):=List.perm_iff_count.mpr fun k=>by rw [List.count_append,ct k]
 refine ⟨y,y1,px.sublist sb,?_,(bt_of y1 he pm px).symm⟩
 rw [perm_sumI pm,List.sum_append]
def Apart:List (List Int)→Prop
 | []=>True
 | e::r=>(∀ f∈r,∀ x∈e,x∉f)∧Apart r
end M55
namespace L2
open PySem PySem.Spec PyProof.Rows
theorem small6k {n:Nat} (h:n≤6000):n<sizeLine:=by rw [sizeLine_eq];omega
end L2
namespace K59
open PySem L2 M04 M54 M55
theorem sum_rep (n:Nat) (x:Int):(List.replicate n x).sum=(n:Int)*x:=by
 induction n with
 | zero=>simp
 | succ n ih=>rw [List.replicate_succ,List.sum_cons,ih,Int.natCast_succ,Int.add_mul,Int.one_mul,Int.add_comm]
section
variable {P:Program} {w:World} {K:PySem.W.Frag} {mg:Str→Option Value} {base:Heap} {f:Addr} {fd:FuncData}
def Nice:Nat→PyData→Prop
 | 0,d=>∃ i,d=.int i
 | n+1,d=>(∃ i,d=.int i)∨∃ ds,d=.tuple ds∧ds.length≤6000∧∀ e∈ds,Nice n e
theorem Nice.ints {ns:List Int} (h:ns.length≤6000):Nice 1 (.tuple (ns.map PyData.int)):=.inr ⟨_,rfl,by rw [List.length_map];exact h,fun e he=>by
 obtain ⟨i,_,rfl⟩:=List.mem_map.mp he
 exact ⟨i,rfl⟩⟩
def sp_sm:Nat→Sp
 | 0=>fun _ _ _ _=>False
 | n+1=>fun vs H Q _=>∃ x y d,vs=[x,y]∧DatV H x d∧DatV H y d∧Nice n d∧∀ H',Same H H'→Q (.bl true) H'
theorem sc_same:FnScope ["_law_found","_law_due"] ["_law_found","_law_due"] (defScope (top 34)):=⟨rfl,rfl,rfl,by decide +kernel,rfl,by decide +kernel,by decide +kernel⟩
theorem ok_sm (F:Fun K "_law_same" "_law_same" (top 34) f fd) (m_all:mg "all" = none) (m_bool:mg "bool" = none) (m_int:mg "int" = none) (m_isinstance:mg "isinstance" = none) (m_len:mg "len" = none) (m_tuple:mg "tuple" = none) (m_zip:mg "zip" = none) (b:Binds K fd ["_law_found","_law_due"] []) (kp:PySem.W.keepIn K (.ref f)=true) (m:mg "_law_same" = some (.ref f)):∀ n,FnOk P w K mg base CX0 n f fd ["_law_found","_law_due"] (sp_sm n)
 | 0=>⟨fun _ _ _ _ h=>h.elim,fun _ _ _ _ _ _ _ _ _ _ _ _ _ h=>h.elim⟩
 | n+1=>by
   have F_law_same:FnA P w K mg base "_law_same" n ["_law_found","_law_due"] (sp_sm n):=⟨⟨f,fd,ok_sm F m_all m_bool m_int m_isinstance m_len m_tuple m_zip b kp m n,b,kp,m⟩⟩
   refine F.okz sc_same (fun vs H Q E h=>?_) (fun cdv A outer s H vs Q E hr h=>?_)
   · obtain ⟨x,y,d,rfl,_⟩:=h;rfl
   obtain ⟨x,y,d,rfl,hx,hy,hn,q⟩:=h
   have nd:=sc_same.nd
   have hu:=hr.units
   refine ⟨_,(zss_cons (zs_if (zt_valP (zcb_isinstance rfl m_isinstance (za_cons (zn 1) (za_cons (zty_tuple rfl m_tuple) za_nil)) rfl rfl)) (zss_cons (zs_if (ZW.zt (zw_or (zt_not (zt_valP (zcb_isinstance rfl m_isinstance (za_cons (zn 0) (za_cons (zty_tuple rfl m_tuple) za_nil)) rfl rfl))) (zw_or1 (zt_cmpP (op_neD hu) (zcb_len rfl m_len (za_cons (zn 0) za_nil) rfl rfl) (zcb_len rfl m_len (za_cons (zn 1) za_nil) rfl rfl) (nomark _))))) (zss_one (zs_ret ze_bl)) zss_nil)
    (zss_one (zs_ret (zcb_all rfl rfl m_all (za_cons (ze_comp ["_law_one","_law_other"] [] rfl ⟨rfl,by decide +kernel,by decide +kernel,rfl,rfl⟩ (zi_zip rfl m_zip (za_cons (zn 0) (za_cons (zn 1) za_nil))) kpg_two (fun _ _ _ _=>zg_tup rfl (zgs_cons (zg_name (i:=0) (show List.Nodup (["_law_one","_law_other"]:List Str) by decide +kernel) rfl (Or.inl rfl)) (zgs_cons (zg_name (i:=1) (show List.Nodup (["_law_one","_law_other"]:List Str) by decide +kernel) rfl (Or.inl rfl)) zgs_nil))) (fun _ _ _ _=>zif_nil) (fun _ _ _ _=>(ze_fn F_law_same hr (Nat.le_refl _) rfl (za_cons (zn 0) (za_cons (zn 1) za_nil))))) za_nil) rfl rfl)))) zss_nil)
    (zss_cons (zs_if (zt_cmpP op_isP (zn 1) ze_non (nomark _)) (zss_one (zs_ret (ze_cmpR op_isP (zn 0) ze_non (nomark _)))) zss_nil)
    (zss_one (zs_ret (ze_andP (zcb_isinstance rfl m_isinstance (za_cons (zn 0) (za_cons (zty_int rfl m_int) za_nil)) rfl rfl) (ze_andP (ze_notP (zcb_isinstance rfl m_isinstance (za_cons (zn 0) (za_cons (zty_bool rfl m_bool) za_nil)) rfl rfl)) (ze_one (ze_cmpR (op_eqD hu) (zn 0) (zn 1) (nomark _))))))))),?_⟩
   by_cases hi:∃ i,d=.int i
   · obtain ⟨i,rfl⟩:=hi
     cases hx
     cases hy
     refine ⟨"int",rfl,rfl,?_⟩
     refine iteB (fun c=>absurd c (by decide)) (fun _=>?_)
     refine ⟨"int",rfl,rfl,?_⟩
     refine ⟨"int",rfl,rfl,?_⟩
     show Q (.bl (decide (V.int i=V.int i))) _
     rw [decide_eq_true rfl]
     exact q _ (Same.refl _)
   · have hs:∃ n' ds,n=n' + 1∧d=.tuple ds∧ds.length≤6000∧∀ e∈ds,Nice n' e:=by
      cases n with
      | zero=>exact absurd hn hi
      | succ n'=>
        rcases hn with h | ⟨ds,h⟩
        · exact absurd h hi
        · exact ⟨n',ds,rfl,h⟩
     obtain ⟨n',ds,rfl,rfl,hl,hds⟩:=hs
     obtain ⟨ax,xs,rfl,kx,rx⟩:=seq_of (c:=true) hx
     obtain ⟨ay,ys,rfl,ky,ry⟩:=seq_of (c:=true) hy
     have lx:=rx.len
     have ly:=ry.len
     refine ⟨"tuple",ky.ty,rfl,?_⟩
     refine iteB (fun _=>?_) (fun c=>absurd c (by decide))
     refine ⟨"tuple",kx.ty,rfl,?_⟩
     refine iteB (fun c=>absurd c (by decide)) (fun _=>?_)
     refine ⟨xs,kx.len,ys,ky.len,?_⟩
     rw [lx,ly]
     refine iteB (fun c=>absurd c (by simp)) (fun _=>?_)
     refine ⟨true,true,xs,ys,kx,ky,?_⟩
     refine cmp_zip (xs:=xs) (ys:=ys) (fun j zs H'=>Same H H'∧zs=(List.replicate j true).map V.bl) ⟨Same.refl _,rfl⟩ ?_ ?_ ?_ ?_
     · rintro j zs H' _ ⟨y',_⟩
       exact ⟨kx.same y',ky.same y'⟩
     · rintro j zs H' hj ⟨_,rfl⟩
       rw [List.length_map,List.length_replicate]
       exact small6k (by omega)
     · rintro j u v zs H' p hu' hv' ⟨y',rfl⟩ hp
       have yp:=Same.new hp (.tup [u,v])
       refine ⟨p,_,rfl,SqT.of upd_same,rfl,_,_,rfl,_,_,rfl,rfl,?_⟩
       obtain ⟨d1',e1,g1⟩:=rx.get hu'
       obtain ⟨d2',e2,g2⟩:=ry.get hv'
       rw [e1] at e2
       cases e2
       refine ⟨u,v,d1',rfl,(g1.same y').same yp,(g2.same y').same yp,hds _ (List.mem_of_getElem? e1),fun H3 y3=>?_⟩
       exact ⟨(y'.trans yp).trans y3,rep_snoc j⟩
     · rintro zs H' ⟨y',rfl⟩ D hD
       refine ⟨_,SqL.of upd_same,?_⟩
       rw [rep_all]
       exact q _ (y'.trans (Same.new hD _))
theorem ok_same (n:Nat) (F:Fun K "_law_same" "_law_same" (top 34) f fd) (m_all:mg "all" = none) (m_bool:mg "bool" = none) (m_int:mg "int" = none) (m_isinstance:mg "isinstance" = none) (m_len:mg "len" = none) (m_tuple:mg "tuple" = none) (m_zip:mg "zip" = none) (b:Binds K fd ["_law_found","_law_due"] []) (kp:PySem.W.keepIn K (.ref f)=true) (m:mg "_law_same" = some (.ref f)):FnOk P w K mg base CX0 n f fd ["_law_found","_law_due"] (sp_sm n):=ok_sm F m_all m_bool m_int m_isinstance m_len m_tuple m_zip b kp m n
end
end K59
namespace M02
def rstep (acc:List (Int×Int)) (p:Int):List (Int×Int):=match acc.getLast? with
 | some q=>if q.1=p then acc.set (acc.length - 1) (p,q.2+1) else acc++[(p,1)]
 | none=>acc++[(p,1)]
def runs (ns:List Int):List (Int×Int):=ns.foldl rstep []
theorem runs_snoc (ns:List Int) (p:Int):runs (ns++[p])=rstep (runs ns) p:=by unfold runs;rw [List.foldl_append];rfl
theorem last_split {α:Type} {l:List α} {q:α} (h:l.getLast? = some q):∃ i,l=i++[q]:=by
 refine ⟨l.dropLast,?_⟩
 have hne:l≠[]:=by intro e;subst e;cases h
 have e:=List.dropLast_concat_getLast hne
 rw [List.getLast?_eq_some_getLast hne] at h
 cases h
 exact e.symm
theorem set_last {α:Type} (i:List α) (q x:α):(i++[q]).set ((i++[q]).length - 1) x=i++[x]:=by
 rw [List.length_append,List.length_singleton,Nat.add_sub_cancel,List.set_append_right _ _ (Nat.le_refl _),Nat.sub_self]
 rfl
def rep (q:Int×Int):List Int:=List.replicate q.2.toNat q.1
structure Ok (ns:List Int) (ps:List (Int×Int)):Prop where
 pw:ps.Pairwise fun a b=>a.1 > b.1
 mem:∀ s c,(s,c)∈ps↔c=(ns.count s:Int)∧0<ns.count s
 flat:(ps.map rep).flatten=ns
 last:ns.getLast? = ps.getLast?.map (·.1)
theorem ok_runs:∀ rs:List Int,rs.reverse.Pairwise (·≥·)→Ok rs.reverse (runs rs.reverse)
 | [],_=>⟨.nil,fun s c=>by simp [runs],rfl,rfl⟩
 | p::rs,h=>by
   rw [List.reverse_cons] at h ⊢
   obtain ⟨h1,_,h3⟩:=List.pairwise_append.mp h
   have ih:=ok_runs rs h1
   have hp:∀ x∈rs.reverse,x≥p:=fun x hx=>h3 x hx p (by simp)
   generalize rs.reverse=ns at *
   rw [runs_snoc]
   generalize runs ns=ps at ih
   unfold rstep
   cases e:ps.getLast? with
   | none=>
     have e0:ps=[]:=List.getLast?_eq_none_iff.mp e
     subst e0
     have en:ns=[]:=by have:=ih.flat;simpa using this.symm
     subst en
     refine ⟨by simp,fun s c=>?_,rfl,rfl⟩
     simp only [List.nil_append,List.mem_singleton,Prod.mk.injEq,List.count_singleton,beq_iff_eq]
     by_cases hs:p=s
     · subst hs;simp
     · simp [hs];intro z;exact absurd z.symm hs
   | some q=>
     obtain ⟨i,rfl⟩:=last_split e
     have hl:ns.getLast? = some q.1:=by rw [ih.last,e];rfl
     have hpw:=List.pairwise_append.mp ih.pw
     dsimp only
     by_cases hq:q.1=p
     · rw [if_pos hq,set_last]
       have hc:=(ih.mem q.1 q.2).mp (by simp)
       refine ⟨?_,fun s c=>?_,?_,?_⟩
       · rw [List.pairwise_append]
         refine ⟨hpw.1,by simp,fun a ha b hb=>?_⟩
         have:b=(p,q.2+1):=by simpa using hb
         subst this
         have:=hpw.2.2 a ha q (by simp)
         show a.1 > p
         omega
       · rw [List.count_append,List.count_singleton]
         by_cases hs:p=s
         · subst hs
           simp only [beq_self_eq_true,if_true]
           constructor
           · intro z
             rcases List.mem_append.mp z with z | z
             · have:=hpw.2.2 _ z q (by simp)
               simp only at this
               omega
             · have:c=q.2+1:=by simpa using z
               rw [hq] at hc
               omega
           · intro z
             refine List.mem_append.mpr (.inr ?_)
             rw [hq] at hc
             have:c=q.2+1:=by omega
             simp [this]
         · have e1:(p == s)=false:=by simpa using hs
           simp only [e1,Bool.false_eq_true,if_false,Nat.add_zero]
           rw [← ih.mem s c]
           constructor
           · intro z
             rcases List.mem_append.mp z with z | z
             · exact List.mem_append.mpr (.inl z)
             · have:s=p:=by have:=List.mem_singleton.mp z;exact congrArg Prod.fst this
               exact absurd this.symm hs
           · intro z
             rcases List.mem_append.mp z with z | z
             · exact List.mem_append.mpr (.inl z)
             · have:s=q.1:=by have:=List.mem_singleton.mp z;exact congrArg Prod.fst this
               exact absurd (hq.symm.trans this.symm) hs
       · have:=ih.flat
         rw [List.map_append,List.flatten_append] at this ⊢
         rw [← this]
         simp only [List.map_cons,List.map_nil,List.flatten_cons,List.flatten_nil,List.append_nil,List.append_assoc]
         congr 1
         show List.replicate (q.2+1).toNat p=List.replicate q.2.toNat q.1++[p]
         have e2:(q.2+1).toNat=q.2.toNat+1:=by omega
         rw [e2,hq,List.replicate_succ']
       · simp
     · rw [if_neg hq]
       have hlt:∀ a∈i++[q],a.1 > p:=fun a ha=>by
        have h0:p<q.1:=by
         have:q.1∈ns:=List.mem_of_getLast? hl
         have:=hp _ this
         omega
        rcases List.mem_append.mp ha with ha | ha
        · have:=hpw.2.2 a ha q (by simp);omega
        · have:a=q:=by simpa using ha
          subst this;exact h0
       have hz:ns.count p=0:=by
        cases hc:ns.count p with
        | zero=>rfl
        | succ k=>
          have:=(ih.mem p (ns.count p)).mpr ⟨rfl,by omega⟩
          have:=hlt _ this
          simp only at this
          omega
       refine ⟨?_,fun s c=>?_,?_,?_⟩
       · rw [List.pairwise_append]
         refine ⟨ih.pw,by simp,fun a ha b hb=>?_⟩
         have:b=(p,1):=by simpa using hb
         subst this
         exact hlt a ha
       · rw [List.count_append,List.count_singleton]
         by_cases hs:p=s
         · subst hs
           simp only [beq_self_eq_true,if_true,hz]
           constructor
           · intro z
             rcases List.mem_append.mp z with z | z
             · have:=hlt _ z;simp only at this;omega
             · have:c=1:=by simpa using z
               omega
           · intro z
             have:c=1:=by omega
             simp [this]
         · have e1:(p == s)=false:=by simpa using hs
           simp only [e1,Bool.false_eq_true,if_false,Nat.add_zero]
           rw [← ih.mem s c]
           constructor
           · intro z
             rcases List.mem_append.mp z with z | z
             · exact z
             · have:s=p:=by have:=List.mem_singleton.mp z;exact congrArg Prod.fst this
               exact absurd this.symm hs
           · intro z
             exact List.mem_append.mpr (.inl z)
       · rw [List.map_append,List.flatten_append,ih.flat];rfl
       · simp
theorem ok_of {ns:List Int} (h:ns.Pairwise (·≥·)):Ok ns (runs ns):=by
 have:=ok_runs ns.reverse (by rw [List.reverse_reverse];exact h)
 rw [List.reverse_reverse] at this
 exact this
theorem runs_len:∀ rs:List Int,(runs rs.reverse).length≤rs.length
 | []=>Nat.le_refl _
 | p::rs=>by
   rw [List.reverse_cons,runs_snoc]
   have:=runs_len rs
   unfold rstep
   split
   · split
     · rw [List.length_set,List.length_cons];omega
     · rw [List.length_append,List.length_cons];simp;omega
   · rw [List.length_append,List.length_cons];simp;omega
theorem runs_len' (ns:List Int):(runs ns).length≤ns.length:=by
 have:=runs_len ns.reverse
 rw [List.reverse_reverse,List.length_reverse] at this
 exact this
end M02
namespace K59
open PySem L2 M04 M54 M55
def Tell (H:Hp) (v:V):Option (List Int)→Prop
 | none=>v=.non
 | some l=>∃ r,v=.ref r∧H r=some (.tup (l.map V.int))
def hasE (ps ev:List Int):Bool:=(ls ps ev).isSome
def stTo (evs:List (List Int)) (ps:List Int) (k:Nat):List Int:=((List.range k).filter fun i=>hasE ps (evs.getD i [])).map fun (i:Nat)=>(i:Int)
def stn (evs:List (List Int)) (ps:List Int):List Int:=stTo evs ps evs.length
theorem stTo_succ (evs:List (List Int)) (ps:List Int) (k:Nat):stTo evs ps (k+1)=stTo evs ps k++if hasE ps (evs.getD k [])=true then [(k:Int)] else []:=by
 unfold stTo
 rw [List.range_succ,List.filter_append,List.map_append]
 congr 1
 by_cases h:hasE ps (evs.getD k [])=true
 · rw [if_pos h,List.filter_cons_of_pos (p:=fun i=>hasE ps (evs.getD i [])) h];rfl
 · rw [if_neg h,List.filter_cons_of_neg (p:=fun i=>hasE ps (evs.getD i [])) h];rfl
theorem stTo_len (evs:List (List Int)) (ps:List Int) (k:Nat):(stTo evs ps k).length≤k:=by
 unfold stTo
 rw [List.length_map]
 have:=List.length_filter_le (fun i=>hasE ps (evs.getD i [])) (List.range k)
 rw [List.length_range] at this
 exact this
section
variable {P:Program} {w:World} {K:PySem.W.Frag} {mg:Str→Option Value} {base:Heap} {f:Addr} {fd:FuncData}
theorem sc_less:FnScope ["one","other","left","part"] ["one","other"] (defScope (top 11)):=⟨rfl,rfl,rfl,by decide +kernel,rfl,by decide +kernel,by decide +kernel⟩
def sp_less:Sp:=fun vs H Q _=>∃ (a b:Addr) (as bs:List Int),vs=[.ref a,.ref b]∧H a=some (.tup (as.map V.int))∧H b=some (.tup (bs.map V.int))∧∀ v H',Same H H'→Tell H' v (ls as bs)→Q v H'
theorem ok_less (F:Fun K "less" "less" (top 11) f fd) (m_list:mg "list" = none) (m_tuple:mg "tuple" = none):FnOk P w K mg base CX0 1 f fd ["one","other"] sp_less:=by
 refine F.okz sc_less (fun vs H Q E h=>?_) (fun cdv A outer s H vs Q E hr h=>?_)
 · obtain ⟨a,b,as,bs,rfl,_⟩:=h;rfl
 obtain ⟨a,b,as,bs,rfl,ha,hb,q⟩:=h
 have nd:=sc_less.nd
 refine ⟨_,(zss_cons (zs_set (i:=2) nd rfl (Or.inl rfl) (zcb_list rfl m_list (za_cons (zn 0) za_nil) rfl rfl))
  (zss_cons (zs_for PassesOwn.never rfl (zi_tup (zn 1)) (zg_name (i:=3) nd rfl (Or.inl rfl)) (zss_cons (zs_if (zt_cmpP op_notIn_seq (zn 3) (zn 2) (by with_unfolding_all rfl)) (zss_one (zs_ret ze_non)) zss_nil)
  (zss_one (zs_expr (zm_remove (zn 2) (za_cons (zn 3) za_nil))))))
  (zss_one (zs_ret (zcb_tuple rfl m_tuple (za_cons (zn 2) za_nil) rfl rfl))))),?_⟩
 refine ⟨_,.inr ha,fun l hl=>?_⟩
 have g0:Same H (upd H l (.lst (as.map V.int))):=Same.new hl _
 refine ⟨b,rfl,⟨_,SqT.of (g0 _ _ hb)⟩,for_tup (xs:=bs.map V.int) (fun i σ H'=>Same H H'∧∃ L pp,σ=[some (.ref a),some (.ref b),some (.ref l),pp]∧H' l=some (.lst (L.map V.int))∧ls as bs=ls L (bs.drop i))
  ⟨g0,as,none,rfl,upd_same,by rw [List.drop_zero]⟩ ?_ ?_ ?_⟩
 · rintro i σ H' _ ⟨y,_⟩
   exact SqT.of (y _ _ hb)
 · rintro i x σ H' hx ⟨y,L,pp,rfl,hL,e⟩
   have hi:i<bs.length:=by
    have:=(List.getElem?_eq_some_iff.mp hx).1
    rw [List.length_map] at this
    exact this
   have ex:x=.int bs[i]:=by rw [getI hi] at hx;exact (Option.some.inj hx).symm
   subst ex
   rw [List.drop_eq_getElem_cons hi] at e
   refine ⟨l,_,rfl,.inl (SqL.of hL),rfl,flat_ints L,?_⟩
   rw [in_ints]
   show if (!decide (bs[i]∈L))=true then _ else _
   refine iteB (fun c=>?_) (fun c=>?_)
   · have c':bs[i]∉L:=by simpa using c
     rw [ls_cons,if_neg c'] at e
     exact q .non H' y (by rw [e];rfl)
   · have c':bs[i]∈L:=by simpa using c
     rw [ls_cons,if_pos c'] at e
     exact ⟨tyL hL,L,hL,c',Same.updN y hl,_,_,rfl,upd_same,e⟩
 · rintro σ H' ⟨y,L,pp,rfl,hL,e⟩
   rw [List.length_map,List.drop_of_length_le (Nat.le_refl _)] at e
   refine ⟨_,.inl (SqL.of hL),fun r H2 y2 hr2=>?_⟩
   refine q (.ref r) H2 (y.trans y2) ?_
   rw [e]
   exact ⟨r,rfl,hr2⟩
theorem sc_stands:FnScope ["event","parting"] ["event","parting"] (defScope (top 23)):=⟨rfl,rfl,rfl,by decide +kernel,rfl,by decide +kernel,by decide +kernel⟩
def sp_stands:Sp:=fun vs H Q _=>∃ (e p:Addr) (es ps:List Int),vs=[.ref e,.ref p]∧H e=some (.tup (es.map V.int))∧H p=some (.tup (ps.map V.int))∧∀ H',Same H H'→Q (.bl (hasE ps es)) H'
theorem ok_stands (F:Fun K "stands" "stands" (top 23) f fd)  (F_less:FnA P w K mg base "less" 1 ["one","other"] sp_less):FnOk P w K mg base CX0 2 f fd ["event","parting"] sp_stands:=by
 refine F.okz sc_stands (fun vs H Q E h=>?_) (fun cdv A outer s H vs Q E hr h=>?_)
 · obtain ⟨e,p,es,ps,rfl,_⟩:=h;rfl
 obtain ⟨e,p,es,ps,rfl,he,hp,q⟩:=h
 have nd:=sc_stands.nd
 refine ⟨_,(zss_one (zs_ret (ze_cmpR op_isntP (ze_fn F_less hr (by decide) rfl (za_cons (zn 1) (za_cons (zn 0) za_nil))) ze_non (nomark _)))),?_⟩
 refine ⟨p,e,ps,es,rfl,hp,he,fun v H' y t=>?_⟩
 have:=q H' y
 unfold hasE at this
 cases ho:ls ps es with
 | none=>
   rw [ho] at t this
   have tv:v=.non:=t
   subst tv
   exact this
 | some l=>
   rw [ho] at t this
   obtain ⟨r,rfl,_⟩:=t
   exact this
theorem sc_standing:FnScope ["events","parting"] ["events","parting"] (defScope (top 24)):=⟨rfl,rfl,rfl,by decide +kernel,rfl,by decide +kernel,by decide +kernel⟩
def sp_standing:Sp:=fun vs H Q _=>∃ (e p:Addr) (us:List V) (evs:List (List Int)) (ps:List Int),vs=[.ref e,.ref p]∧H e=some (.tup us)∧Tps H us evs∧evs.length≤1000∧H p=some (.tup (ps.map V.int))∧∀ r H',Same H H'→H' r=some (.tup ((stn evs ps).map V.int))→Q (.ref r) H'
theorem ok_standing (F:Fun K "standing" "standing" (top 24) f fd) (m_enumerate:mg "enumerate" = none) (m_tuple:mg "tuple" = none) (F_stands:FnA P w K mg base "stands" 2 ["event","parting"] sp_stands):FnOk P w K mg base CX0 3 f fd ["events","parting"] sp_standing:=by
 refine F.okz sc_standing (fun vs H Q E h=>?_) (fun cdv A outer s H vs Q E hr h=>?_)
 · obtain ⟨e,p,us,evs,ps,rfl,_⟩:=h;rfl
 obtain ⟨e,p,us,evs,ps,rfl,he,tp,hl,hp,q⟩:=h
 have nd:=sc_standing.nd
 have lus:=tp.length
 refine ⟨_,(zss_one (zs_ret (zcb_tuple rfl m_tuple (za_cons (ze_comp ["number","event"] [("parting",1)] rfl ⟨rfl,by decide +kernel,by decide +kernel,rfl,rfl⟩ (zi_enumK rfl m_enumerate (za_cons (zn 0) za_nil)) kpg_two (fun _ _ _ _=>zg_tup rfl (zgs_cons (zg_name (i:=0) (show List.Nodup (["number","event","parting"]:List Str) by decide +kernel) rfl (Or.inl rfl)) (zgs_cons (zg_name (i:=1) (show List.Nodup (["number","event","parting"]:List Str) by decide +kernel) rfl (Or.inl rfl)) zgs_nil))) (fun _ _ _ _=>(zif_one (zt_valP (ze_fn F_stands hr (by decide) rfl (za_cons (zn 1) (za_cons (zn 2) za_nil)))))) (fun _ _ _ _=>(zn 0))) za_nil) rfl rfl))),?_⟩
 refine ⟨true,_,SqK.tup he,cmp_enumK (xs:=us) (fun i zs H'=>Same H H'∧zs=(stTo evs ps i).map V.int) ⟨Same.refl _,rfl⟩ ?_ ?_ ?_ ?_⟩
 · rintro i zs H' _ ⟨y,_⟩
   exact SqK.tup (y _ _ he)
 · rintro i zs H' hi ⟨_,rfl⟩
   have:=stTo_len evs ps i
   rw [List.length_map]
   exact small1000 (by omega)
 · rintro i x zs H' c hx ⟨y,rfl⟩ hc
   obtain ⟨ls',b,hls,rfl,hb⟩:=tp.get hx
   have yc:=Same.new hc (.tup [.int i,.ref b])
   refine ⟨c,_,rfl,SqT.of upd_same,rfl,_,_,rfl,_,_,rfl,rfl,?_⟩
   have y2:=y.trans yc
   refine ⟨b,p,ls',ps,rfl,y2 _ _ hb,y2 _ _ hp,fun H3 y3=>?_⟩
   have eg:evs.getD i []=ls':=by rw [List.getD_eq_getElem?_getD,hls];rfl
   refine iteB (fun c=>?_) (fun c=>?_)
   · refine ⟨y2.trans y3,?_⟩
     rw [stTo_succ,eg,if_pos c,List.map_append]
     rfl
   · refine ⟨y2.trans y3,?_⟩
     rw [stTo_succ,eg,if_neg (by simpa using c),List.append_nil]
 · rintro zs H' ⟨y,rfl⟩ D hD
   refine ⟨_,.inl (SqL.of upd_same),fun r H2 y2 hr2=>?_⟩
   rw [lus] at hr2
   exact q r H2 ((y.trans (Same.new hD _)).trans y2) hr2
end
def Prt (ns:List Int):Prop:=(∀ n∈ns,(1:Int)≤n)∧ns.Pairwise (·≥·)
section
variable {P:Program} {w:World} {K:PySem.W.Frag} {mg:Str→Option Value} {base:Heap} {f:Addr} {fd:FuncData}
theorem sc_weight:FnScope ["parting"] ["parting"] (defScope (top 8)):=⟨rfl,rfl,rfl,by decide +kernel,rfl,by decide +kernel,by decide +kernel⟩
def sp_weight:Sp:=fun vs H Q _=>∃ (a:Addr) (ns:List Int),vs=[.ref a]∧H a=some (.tup (ns.map V.int))∧Q (.int ns.sum) H
theorem ok_weight (F:Fun K "weight" "weight" (top 8) f fd) (m_sum:mg "sum" = none):FnOk P w K mg base CX0 1 f fd ["parting"] sp_weight:=by
 refine F.okz sc_weight (fun vs H Q E h=>?_) (fun cdv A outer s H vs Q E hr h=>?_)
 · obtain ⟨a,ns,rfl,_⟩:=h;rfl
 obtain ⟨a,ns,rfl,ha,q⟩:=h
 have nd:=sc_weight.nd
 refine ⟨_,(zss_one (zs_ret (zcb_sum rfl rfl m_sum (za_cons (zn 0) za_nil) rfl rfl))),?_⟩
 exact ⟨ns,.inr ha,q⟩
theorem sc_whole:FnScope ["thing"] ["thing"] (defScope (top 5)):=⟨rfl,rfl,rfl,by decide +kernel,rfl,by decide +kernel,by decide +kernel⟩
def sp_whole:Sp:=fun vs H Q _=>∃ i:Int,vs=[.int i]∧Q (.bl true) H
theorem ok_whole (F:Fun K "is_whole" "is_whole" (top 5) f fd) (m_bool:mg "bool" = none) (m_int:mg "int" = none) (m_isinstance:mg "isinstance" = none):FnOk P w K mg base CX0 1 f fd ["thing"] sp_whole:=by
 refine F.okz sc_whole (fun vs H Q E h=>?_) (fun cdv A outer s H vs Q E hr h=>?_)
 · obtain ⟨i,rfl,_⟩:=h;rfl
 obtain ⟨i,rfl,q⟩:=h
 have nd:=sc_whole.nd
 refine ⟨_,(zss_one (zs_ret (ze_andP (zcb_isinstance rfl m_isinstance (za_cons (zn 0) (za_cons (zty_int rfl m_int) za_nil)) rfl rfl) (ze_one (ze_notP (zcb_isinstance rfl m_isinstance (za_cons (zn 0) (za_cons (zty_bool rfl m_bool) za_nil)) rfl rfl)))))),?_⟩
 refine ⟨"int",rfl,rfl,?_⟩
 refine iteB (fun _=>?_) (fun c=>absurd c (by decide))
 refine ⟨"int",rfl,rfl,?_⟩
 exact q
theorem sc_is:FnScope ["thing","part","at"] ["thing"] (defScope (top 7)):=⟨rfl,rfl,rfl,by decide +kernel,rfl,by decide +kernel,by decide +kernel⟩
def sp_is:Sp:=fun vs H Q _=>∃ (a:Addr) (ns:List Int),vs=[.ref a]∧H a=some (.tup (ns.map V.int))∧ns.length≤100000∧Prt ns∧Q (.bl true) H
theorem ok_is (F:Fun K "is_parting" "is_parting" (top 7) f fd) (m_isinstance:mg "isinstance" = none) (m_len:mg "len" = none) (m_range:mg "range" = none) (m_tuple:mg "tuple" = none) (F_is_whole:FnA P w K mg base "is_whole" 1 ["thing"] sp_whole):FnOk P w K mg base CX0 2 f fd ["thing"] sp_is:=by
 refine F.okz sc_is (fun vs H Q E h=>?_) (fun cdv A outer s H vs Q E hr h=>?_)
 · obtain ⟨a,ns,rfl,_⟩:=h;rfl
 obtain ⟨a,ns,rfl,ha,hl,⟨h1,hw⟩,q⟩:=h
 have nd:=sc_is.nd
 have hu:=hr.units
 refine ⟨_,(zss_cons (zs_if (zt_not (zt_valP (zcb_isinstance rfl m_isinstance (za_cons (zn 0) (za_cons (zty_tuple rfl m_tuple) za_nil)) rfl rfl))) (zss_one (zs_ret ze_bl)) zss_nil)
  (zss_cons (zs_for PassesOwn.never rfl (zi_tup (zn 0)) (zg_name (i:=1) nd rfl (Or.inl rfl)) (zss_one (zs_if (ZW.zt (zw_or (zt_not (zt_valP (ze_fn F_is_whole hr (by decide) rfl (za_cons (zn 1) za_nil)))) (zw_or1 (zt_cmpP op_ltP (zn 1) ze_int (nomark _))))) (zss_one (zs_ret ze_bl)) zss_nil)))
  (zss_cons (zs_for PassesOwn.never rfl (zi_range2 rfl m_range (za_cons ze_int (za_cons (zcb_len rfl m_len (za_cons (zn 0) za_nil) rfl rfl) za_nil))) (zg_name (i:=2) nd rfl (Or.inl rfl)) (zss_one (zs_if (zt_cmpP op_ltP (ze_ix ix_P (zn 0) (ze_op op_subP (zn 2) ze_int) (fun _ _=>rfl)) (ze_ix ix_P (zn 0) (zn 2) (fun _ _=>rfl)) (nomark _)) (zss_one (zs_ret ze_bl)) zss_nil)))
  (zss_one (zs_ret ze_bl))))),?_⟩
 refine ⟨"tuple",(SqK.tup ha).ty,rfl,?_⟩
 refine iteB (fun c=>absurd c (by decide)) (fun _=>?_)
 refine ⟨a,rfl,⟨_,SqT.of ha⟩,for_tup (xs:=ns.map V.int) (fun i σ H'=>H=H'∧∃ p1,σ=[some (.ref a),p1,none]) ⟨rfl,none,rfl⟩ ?_ ?_ ?_⟩
 · rintro i σ H' _ ⟨rfl,_⟩
   exact SqT.of ha
 · rintro i x σ H' hx ⟨rfl,p1,rfl⟩
   have hi:i<ns.length:=by
    have:=(List.getElem?_eq_some_iff.mp hx).1
    rw [List.length_map] at this
    exact this
   have ex:x=.int ns[i]:=by rw [getI hi] at hx;exact (Option.some.inj hx).symm
   subst ex
   have hni:=h1 _ (List.getElem_mem hi)
   refine ⟨_,rfl,?_⟩
   refine iteD (fun c=>absurd c (by omega)) (fun _=>?_)
   exact ⟨rfl,_,rfl⟩
 · rintro σ H' ⟨rfl,p1,rfl⟩
   refine ⟨_,.inr ha,?_⟩
   rw [List.length_map]
   refine ⟨1,ns.length,rfl,⟨by decide,by decide,by omega,by omega⟩,for_range (fun i σ H'=>H=H'∧∃ p2,σ=[some (.ref a),p1,p2]) ⟨rfl,none,rfl⟩ ?_ ?_⟩
   · rintro i σ H' hi ⟨rfl,p2,rfl⟩
     have hi1:i+1<ns.length:=by omega
     refine ⟨_,.inr ha,.int ns[i],atI_of (j:=i) (by omega) (getI (by omega)),?_⟩
     refine ⟨_,.inr ha,.int ns[i+1],atI_of (j:=i+1) (by omega) (getI hi1),?_⟩
     have:=List.pairwise_iff_getElem.mp hw i (i+1) (by omega) hi1 (by omega)
     refine iteD (fun c=>?_) (fun _=>⟨rfl,_,rfl⟩)
     exact absurd c (by have:ns[i+1]≤ns[i]:=this;omega)
   · rintro σ H' ⟨rfl,p2,rfl⟩
     exact q
theorem sc_sizes:FnScope ["parting","told","part"] ["parting"] (defScope (top 9)):=⟨rfl,rfl,rfl,by decide +kernel,rfl,by decide +kernel,by decide +kernel⟩
def sp_sizes:Sp:=fun vs H Q _=>∃ (a:Addr) (ns:List Int),vs=[.ref a]∧H a=some (.tup (ns.map V.int))∧ns.length≤1000∧∀ r H' us,Same H H'→H' r=some (.tup us)→Prs H' us (M02.runs ns)→Q (.ref r) H'
theorem ok_sizes (F:Fun K "sizes" "sizes" (top 9) f fd) (m_tuple:mg "tuple" = none):FnOk P w K mg base CX0 1 f fd ["parting"] sp_sizes:=by
 refine F.okz sc_sizes (fun vs H Q E h=>?_) (fun cdv A outer s H vs Q E hr h=>?_)
 · obtain ⟨a,ns,rfl,_⟩:=h;rfl
 obtain ⟨a,ns,rfl,ha,hl,q⟩:=h
 have nd:=sc_sizes.nd
 have hu:=hr.units
 refine ⟨_,(zss_cons (zs_set (i:=1) nd rfl (Or.inl rfl) (ze_lst za_nil))
  (zss_cons (zs_for PassesOwn.never rfl (zi_tup (zn 0)) (zg_name (i:=2) nd rfl (Or.inl rfl)) (zss_one (zs_if (ZW.zt (zw_and (zt_truP (zn 1)) (zw_and1 (zt_cmpP (op_eqD hu) (ze_ix ix_P (ze_ix ix_P (zn 1) (ze_un un_neg ze_int) (fun _ _=>rfl)) ze_int (fun _ _=>rfl)) (zn 2) (nomark _))))) (zss_one (zs_asg (ze_tup (za_cons (zn 2) (za_cons (ze_op op_addP (ze_ix ix_P (ze_ix ix_P (zn 1) (ze_un un_neg ze_int) (fun _ _=>rfl)) ze_int (fun _ _=>rfl)) ze_int) za_nil))) (zg_sub (zn 1) (ze_un un_neg ze_int) set_list))) (zss_one (zs_expr (zm_append (zn 1) (za_cons (ze_tup (za_cons (zn 2) (za_cons ze_int za_nil))) za_nil)))))))
  (zss_one (zs_ret (zcb_tuple rfl m_tuple (za_cons (zn 1) za_nil) rfl rfl))))),?_⟩
 refine ⟨Nat.zero_le _,fun t ht=>?_⟩
 have g0:Same H (upd H t (.lst [])):=Same.new ht _
 refine ⟨a,rfl,⟨_,SqT.of (g0 _ _ ha)⟩,for_tup (xs:=ns.map V.int) (fun i σ H'=>Same H H'∧∃ us pp,σ=[some (.ref a),some (.ref t),pp]∧H' t=some (.lst us)∧Prs H' us (M02.runs (ns.take i)))
  ⟨g0,[],none,rfl,upd_same,by rw [List.take_zero];exact .nil⟩ ?_ ?_ ?_⟩
 · rintro i σ H' _ ⟨y,_⟩
   exact SqT.of (y _ _ ha)
 · rintro i x σ H' hx ⟨y,us,pp,rfl,hus,hp⟩
   have hi:i<ns.length:=by
    have:=(List.getElem?_eq_some_iff.mp hx).1
    rw [List.length_map] at this
    exact this
   have ex:x=.int ns[i]:=by rw [getI hi] at hx;exact (Option.some.inj hx).symm
   subst ex
   have etake:ns.take (i+1)=ns.take i++[ns[i]]:=by rw [List.take_succ,List.getElem?_eq_getElem hi];rfl
   have hlen:us.length≤1000:=by
    rw [hp.length]
    have:=M02.runs_len' (ns.take i)
    rw [List.length_take] at this
    omega
   have app:M02.rstep (M02.runs (ns.take i)) ns[i]=M02.runs (ns.take i)++[(ns[i],1)] →
    1+1≤sizeLine∧∀ b,H' b=none→us.length<sizeLine∧True:=fun _=>⟨by decide,fun _ _=>⟨small1000 hlen,trivial⟩⟩
   have more:∀ b,H' b=none→M02.rstep (M02.runs (ns.take i)) ns[i]=M02.runs (ns.take i)++[(ns[i],1)] →
    Same H (upd (upd H' b (.tup [.int ns[i],.int 1])) t (.lst (us++[.ref b])))∧∃ us' pp',[some (V.ref a),some (.ref t),some (.int ns[i])]=[some (.ref a),some (.ref t),pp']∧(upd (upd H' b (.tup [.int ns[i],.int 1])) t (.lst (us++[.ref b]))) t=some (.lst us')∧Prs (upd (upd H' b (.tup [.int ns[i],.int 1])) t (.lst (us++[.ref b]))) us' (M02.runs (ns.take (i+1))):=fun b hb e=>by
    have g1:=Same.new hb (.tup [.int ns[i],.int 1])
    refine ⟨Same.updN (y.trans g1) ht,_,_,rfl,upd_same,?_⟩
    rw [etake,M02.runs_snoc,e]
    refine Prs.updL (g1 _ _ hus) ((hp.same g1).snoc (p:=(ns[i],1)) ⟨b,rfl,upd_same⟩)
   refine ⟨us,.inl (SqL.of hus),?_⟩
   refine iteB (fun c=>?_) (fun c=>?_)
   · have hne:M02.runs (ns.take i)≠[]:=by
      intro e
      rw [hp.nilOf,e] at c
      cases c
     cases el:(M02.runs (ns.take i)).getLast? with
     | none=>exact absurd (List.getLast?_eq_none_iff.mp el) hne
     | some z=>
       obtain ⟨ini,eini⟩:=M02.last_split el
       have hp0:=hp
       rw [eini] at hp
       obtain ⟨vs,b,rfl,hvl,hb⟩:=hp.split
       refine ⟨_,rfl,_,.inl (SqL.of hus),.ref b,atI_last vs _,?_⟩
       refine ⟨_,.inr hb,.int z.1,rfl,?_⟩
       refine iteD (fun c2=>?_) (fun c2=>?_)
       · have c3:z.1=ns[i]:=V.int.inj c2
         refine ⟨_,rfl,_,.inl (SqL.of hus),.ref b,atI_last vs _,?_⟩
         refine ⟨_,.inr hb,.int z.2,rfl,?_⟩
         refine ⟨by show 2≤sizeLine;decide,fun d hd=>?_⟩
         have g1:=Same.new hd (.tup [.int ns[i],.int (z.2+1)])
         refine ⟨_,rfl,t,_,_,vs.length,rfl,rfl,g1 _ _ hus,?_,?_⟩
         · unfold ixN
           rw [if_neg (by decide),List.length_append,List.length_singleton,if_pos (by omega)]
           congr 1
           omega
         · refine ⟨Same.updN (y.trans g1) ht,_,_,rfl,upd_same,?_⟩
           rw [etake,M02.runs_snoc]
           have e1:M02.rstep (M02.runs (ns.take i)) ns[i]=(ini++[z]).set (vs.length) (ns[i],z.2+1):=by
            unfold M02.rstep
            rw [el]
            dsimp only
            rw [if_pos c3,eini,List.length_append,List.length_singleton,Nat.add_sub_cancel,hvl]
           rw [e1]
           exact Prs.updL (g1 _ _ hus) ((hp.same g1).set (p:=(ns[i],z.2+1)) ⟨d,rfl,upd_same⟩ _)
       · have c3:z.1≠ns[i]:=fun e=>c2 (by rw [e])
         refine ⟨tyL hus,by show 2≤sizeLine;decide,fun d hd=>?_⟩
         refine ⟨_,(Same.new hd _) _ _ hus,small1000 hlen,?_⟩
         refine more d hd ?_
         unfold M02.rstep
         rw [el]
         dsimp only
         rw [if_neg c3]
   · have e0:M02.runs (ns.take i)=[]:=by
      have:=hp.nilOf
      rw [Bool.not_eq_false'] at c
      rw [c] at this
      exact List.isEmpty_iff.mp this.symm
     refine iteF ?_
     refine ⟨tyL hus,by show 2≤sizeLine;decide,fun d hd=>?_⟩
     refine ⟨_,(Same.new hd _) _ _ hus,small1000 hlen,?_⟩
     refine more d hd ?_
     rw [e0]
     rfl
 · rintro σ H' ⟨y,us,pp,rfl,hus,hp⟩
   refine ⟨us,.inl (SqL.of hus),fun r H2 y2 hr2=>?_⟩
   rw [List.take_of_length_le (by rw [List.length_map];exact Nat.le_refl _)] at hp
   exact q r H2 us (y.trans y2) hr2 (hp.same y2)
end
end K59
namespace K59
open PySem L2 M04
section
variable {P:Program} {w:World} {K:PySem.W.Frag} {mg:Str→Option Value} {base:Heap} {f:Addr} {fd:FuncData}
theorem sc_both:FnScope ["one","other"] ["one","other"] (defScope (top 10)):=⟨rfl,rfl,rfl,by decide +kernel,rfl,by decide +kernel,by decide +kernel⟩
def sp_both:Sp:=fun vs H Q _=>∃ (a b:Addr) (as bs:List Int),vs=[.ref a,.ref b]∧H a=some (.tup (as.map V.int))∧H b=some (.tup (bs.map V.int))∧as.length≤400∧bs.length≤400∧(∀ n∈as,(1:Int)≤n)∧(∀ n∈bs,(1:Int)≤n) ∧
 ∀ r H',Same H H'→H' r=some (.tup ((bt as bs).map V.int))→Q (.ref r) H'
theorem ok_both (F:Fun K "both" "both" (top 10) f fd) (m_sorted:mg "sorted" = none) (m_tuple:mg "tuple" = none):FnOk P w K mg base CX0 1 f fd ["one","other"] sp_both:=by
 refine F.ok sc_both (fun vs H Q E h=>?_) (fun cdv A outer s H vs Q E hr h=>?_)
 · obtain ⟨a,b,as,bs,rfl,_⟩:=h;rfl
 obtain ⟨a,b,as,bs,rfl,ha,hb,la,lb,pa,pb,q⟩:=h
 have nd:=sc_both.nd
 refine ⟨_,(pss_one (ps_ret (pcb_tuple rfl m_tuple (pa_cons (pcb_sortR rfl m_sorted (pa_cons (pe_op op_addP (pn 0) (pn 1)) pa_nil) rfl) pa_nil) rfl rfl))),?_⟩
 refine .inr ⟨_,_,ha,hb,le_line (by rw [List.length_map,List.length_map];omega),fun r1 H1 y1 hr1=>?_⟩
 refine ⟨as++bs,.inr (SqT.of (by rw [hr1,List.map_append])),fun l ns hl perm ord=>?_⟩
 refine ⟨_,.inl (SqL.of upd_same),fun r2 H2 y2 hr2=>?_⟩
 refine q r2 H2 ((y1.trans (Same.new hl _)).trans y2) ?_
 rw [hr2,bt_of pa pb perm ord]
end
end K59
namespace L2
open PySem PySem.Spec PyProof.Rows
def dst (ns:List Int):List Int:=ns.foldl step_dedup []
theorem rng_getD (ns:List Int):(List.range ns.length).map (fun i=>ns.getD i 0)=ns:=by
 refine List.ext_getElem (by rw [List.length_map,List.length_range]) fun i h1 h2=>?_
 rw [List.getElem_map,List.getElem_range,List.getD_eq_getElem?_getD,List.getElem?_eq_getElem h2]
 rfl
theorem firstMet_dst (ns:List Int):firstMet (fun i=>ns.getD i 0) ns.length=dst ns:=by
 unfold firstMet dst
 rw [rng_getD]
section
variable {X:Cx}
def rSetI:List V→Hp→VK→Prop:=fun vs H Q=>match vs with
 | [.ref l]=>∃ ns:List Int,H l=some (.lst (ns.map V.int))∧ns.length<4000∧∀ p,H p=none→Q (.ref p) (upd H p (.set (fun k=>(dst ns).any (· == k)) (dst ns).length))
 | _=>False
theorem call_setI (hc:X.calm=true):CallR X (.type "set") rSetI:=by
 intro pins s σ H xs us Q I r h
 unfold rSetI at h
 split at h
 · rename_i l
   obtain ⟨ns,hl,hn,q⟩:=h
   obtain ⟨u,rfl,rx⟩:=vals1 r
   cases rx
   obtain ⟨its,n,r',ho,hz⟩:=I.lst hl
   have il:=intsAre_of r'
   have hlen:its.length=ns.length:=by have:=r'.length;rw [List.length_map] at this;exact this.symm
   refine call_set_list (items:=its.toArray) (ns:=ns) (I.ok.hd hc) ⟨_,ho,rfl,n,rfl⟩ (by simpa using il) (by rw [List.size_toArray,hlen];unfold scanBound;omega) fun h' tk hS hk=>?_
   have es:its.toArray.size=ns.length:=by rw [List.size_toArray];exact hlen
   rw [es,firstMet_dst] at hS
   have I2:Inv X pins σ (upd H s.heap.objs.size (.set (fun k=>(dst ns).any (· == k)) (dst ns).length)) { s with heap:=h',toks:=tk }:=
    I.laid (t':=tk) (fun b o e=>hk b o (Heap.lt_size e) e) (Nat.le_refl _) (show ObjOk X.prog X.w _ _ _ (.set (fun k=>(dst ns).any (· == k)) (dst ns).length) from hS)
   exact ⟨.ref s.heap.objs.size,_,I2,rfl,q _ (I.hok.fresh (Nat.le_refl _))⟩
 · exact h.elim
def rLenS:List V→Hp→VK→Prop:=fun vs H Q=>match vs with
 | [.ref p]=>∃ S n,H p=some (.set S n)∧n<10000∧Q (.int n) H
 | _=>False
theorem call_lenS:CallR X (.builtin "len") rLenS:=by
 intro pins s σ H xs us Q I r h
 unfold rLenS at h
 split at h
 · rename_i p
   obtain ⟨S,n,hp,hn,q⟩:=h
   obtain ⟨u,rfl,rx⟩:=vals1 r
   cases rx
   obtain ⟨o,es,ep,t,ho,hex,hd,_,_,hb,hf,hes⟩:=I.hok p _ hp
   subst hes
   exact call_len_set ho hex hd hf (by omega) ⟨.int es.size,H,I.tok _,⟨_,rfl⟩,q⟩
 · exact h.elim
variable {e:Expr} {es:List Expr} {t:TA} {p pos:Pos}
theorem boot_set:bootBuiltins "set" = some (.type "set"):=by decide +kernel
theorem pcb_setI (hc:X.calm=true) (hg:Gl X "set") (hm:X.mg "set" = none) (ha:PA X (e::es) t) (he:starEach (e::es) X.env=(false,eval e X.env)::starEach es X.env) (hpl:(backTo pos (starEach es X.env)).any (·.1)=false) :
 PE X (.Call (.Name "set" p) (e::es) [] pos) (tCB rSetI t):=pe_callTy (call_setI hc) hg hm boot_set ha (by decide) (by decide) he hpl
theorem zcb_setI (hc:X.calm=true) (hg:Gl X "set") (hm:X.mg "set" = none) (ha:ZA X (e::es) t) (he:starEach (e::es) X.env=(false,eval e X.env)::starEach es X.env) (hpl:(backTo pos (starEach es X.env)).any (·.1)=false) :
 ZE X (.Call (.Name "set" p) (e::es) [] pos) (tCB rSetI t):=by with_unfolding_all exact pcb_setI hc hg hm ha he hpl
theorem pcb_lenS (hg:Gl X "len") (hm:X.mg "len" = none) (ha:PA X (e::es) t) (he:starEach (e::es) X.env=(false,eval e X.env)::starEach es X.env) (hpl:(backTo pos (starEach es X.env)).any (·.1)=false) :
 PE X (.Call (.Name "len" p) (e::es) [] pos) (tCB rLenS t):=pe_callB call_lenS hg hm PySem.boot_len ha (by decide) (by decide) he hpl
theorem zcb_lenS (hg:Gl X "len") (hm:X.mg "len" = none) (ha:ZA X (e::es) t) (he:starEach (e::es) X.env=(false,eval e X.env)::starEach es X.env) (hpl:(backTo pos (starEach es X.env)).any (·.1)=false) :
 ZE X (.Call (.Name "len" p) (e::es) [] pos) (tCB rLenS t):=by with_unfolding_all exact pcb_lenS hg hm ha he hpl
end
theorem mem_step (σ:List Int) (v k:Int):k∈step_dedup σ v↔k∈σ∨k=v:=by
 have h:=step_any σ v k
 have e:∀ l:List Int,l.any (· == k)=true↔k∈l:=fun l=>by simp
 rw [← e,h,Bool.or_eq_true,e,decide_eq_true_iff]
theorem dst_gen:∀ (ns σ:List Int),(ns.foldl step_dedup σ).length≤σ.length+ns.length∧((ns.foldl step_dedup σ).length=σ.length+ns.length↔ns.Nodup∧∀ x∈ns,x∉σ)
 | [],σ=>⟨Nat.le_refl _,⟨fun _=>⟨.nil,fun x hx=>nomatch hx⟩,fun _=>rfl⟩⟩
 | a::r,σ=>by
   obtain ⟨h1,h2⟩:=dst_gen r (step_dedup σ a)
   rw [List.foldl_cons,List.length_cons]
   have hs:=step_length σ a
   have e:(σ.any (· == a))=true↔a∈σ:=by simp
   by_cases c:a∈σ
   · rw [if_pos (e.mpr c)] at hs
     refine ⟨by omega,⟨fun z=>by omega,fun ⟨_,z⟩=>absurd c (z a List.mem_cons_self)⟩⟩
   · rw [if_neg (fun z=>c (e.mp z))] at hs
     refine ⟨by omega,?_⟩
     rw [hs] at h2
     rw [show σ.length+(r.length+1)=σ.length+1+r.length by omega,h2,List.nodup_cons]
     constructor
     · rintro ⟨k1,k2⟩
       refine ⟨⟨fun z=>k2 a z ((mem_step σ a a).mpr (.inr rfl)),k1⟩,fun x hx=>?_⟩
       rcases List.mem_cons.mp hx with z | z
       · rw [z];exact c
       · exact fun z2=>k2 x z ((mem_step σ a x).mpr (.inl z2))
     · rintro ⟨⟨k1,k2⟩,k3⟩
       refine ⟨k2,fun x hx z=>?_⟩
       rcases (mem_step σ a x).mp z with z | z
       · exact k3 x (List.mem_cons_of_mem _ hx) z
       · rw [z] at hx;exact k1 hx
theorem dst_le (ns:List Int):(dst ns).length≤ns.length:=by have:=(dst_gen ns []).1;simpa [dst] using this
theorem dst_all (ns:List Int):(dst ns).length=ns.length↔ns.Nodup:=by
 have:=(dst_gen ns []).2
 simpa [dst] using this
theorem kpg2_in {K:PySem.W.Frag} {x y z:Str}:KpG2 [x,y,z] (gName 0) (gTup K 2 (gCons (gName 1) (gCons (gName 2) gNil))):=fun fr v H Q h=>by
 refine ⟨⟨⟨by simp,fun i w e=>?_⟩,fun v2 H2 Q2 h2=>?_⟩,h⟩
 · match i,e with
   | 0,e=>cases e
   | i+1,e=>exact e
 · obtain ⟨a,xs,e,hq,hl,v1,r1,e1,v3,r2,e2,e3,q⟩:=h2
   refine ⟨a,xs,e,hq,hl,v1,r1,e1,v3,r2,e2,e3,⟨by simp,fun i w e=>?_⟩,q⟩
   match i,e with
   | 0,e=>exact e
   | 1,e=>cases e
   | 2,e=>cases e
   | i+3,e=>exact e
theorem cmp2_tup {K:PySem.W.Frag} {nv:List Str} {ix:List (Str×Nat)} {σ:L2.St} {H:Hp} {g1 g2:TG} {ti1 ti2:TT} {wi2:TI} {te:TE} {Fin:List V→Hp→Prop} {a:Addr} {xs:List V} (Pv:Nat→List V→Hp→Prop) (h0:Pv 0 [] H) (hl:∀ i zs H,i≤xs.length→Pv i zs H→SqT K H a xs)
 (hs:∀ i x zs H,xs[i]? = some x→Pv i zs H→g1 x (st0 nv ix σ) H fun σ1 H2=>ti1 σ1 H2 fun b H3=>if b=true then wi2 σ1 H3 fun J2 H4=>CmpI g2 ti2 te σ1 J2 zs (Pv (i+1)) H4 else Pv (i+1) zs H3)
 (hd:∀ zs H,Pv xs.length zs H→Fin zs H):CmpW2 nv ix g1 ti1 wi2 g2 ti2 te σ (Itt K a) Fin H:=by
 refine ⟨fun i m zs H=>m=xs.length - i∧i≤xs.length∧Pv i zs H,⟨_,rfl,Nat.zero_le _,h0⟩,?_⟩
 rintro i m zs H ⟨rfl,hi,p⟩
 have q:=hl i zs H hi p
 by_cases hlt:i<xs.length
 · refine .inr ⟨⟨xs,xs[i],q,by simp [hlt]⟩,Pv (i+1),fun σ' H' p'=>⟨_,by omega,rfl,hlt,p'⟩,fun x H' y=>?_⟩
   obtain ⟨e',y⟩:=y
   subst e'
   exact hs i x zs _ (y xs q) p
 · have e:i=xs.length:=by omega
   subst e
   exact .inl ⟨⟨xs,q,Nat.le_refl _⟩,hd zs H p⟩
theorem cmpi_tup {K:PySem.W.Frag} {σ:L2.St} {H:Hp} {g:TG} {ti:TT} {te:TE} {ys:List V} {Fin:List V→Hp→Prop} {a:Addr} {xs:List V} (Pv:Nat→List V→Hp→Prop) (h0:Pv 0 ys H) (hl:∀ i zs H,i≤xs.length→Pv i zs H→SqT K H a xs)
 (hs:∀ i x zs H,xs[i]? = some x→Pv i zs H→zs.length<sizeLine∧g x σ H fun σ2 H2=>ti σ2 H2 fun b H3=>if b=true then te σ2 H3 fun y H4=>Pv (i+1) (zs++[y]) H4 else Pv (i+1) zs H3)
 (hd:∀ zs H,Pv xs.length zs H→Fin zs H):CmpI g ti te σ (Itt K a) ys Fin H:=by
 refine ⟨fun i m zs H=>m=xs.length - i∧i≤xs.length∧Pv i zs H,⟨_,rfl,Nat.zero_le _,h0⟩,?_⟩
 rintro i m zs H ⟨rfl,hi,p⟩
 have q:=hl i zs H hi p
 by_cases hlt:i<xs.length
 · refine .inr ⟨⟨xs,xs[i],q,by simp [hlt]⟩,(hs i xs[i] zs H (by simp [hlt]) p).1,Pv (i+1),fun σ' H' p'=>⟨_,by omega,rfl,hlt,p'⟩,fun x H' y=>?_⟩
   obtain ⟨e',y⟩:=y
   subst e'
   exact (hs i x zs _ (y xs q) p).2
 · have e:i=xs.length:=by omega
   subst e
   exact .inl ⟨⟨xs,q,Nat.le_refl _⟩,hd zs H p⟩
theorem ps_settwo {X:Cx} {elt t1 i1 t2 i2:Expr} {c1 c2:List Expr} {scope:Scope} {pos:Pos} {wi wi2:TI} {g1 g2:TG} {ti1 ti2:TT} {te:TE} {i:Nat} {y:Str} {py spos:Pos} (nv:List Str) (ix:List (Str×Nat)) (hc:X.calm=true) (hN:X.N.Nodup) (hi':X.N[i]? = some y) (hy:Loc X.env.scope y) (co:CompOk X nv ix scope) (hit:PI X t1 i1 wi) (kg:KpG2 nv g1 g2) (hg:∀ C s₀ H₀ fp,PG (cmpX X nv ix scope C s₀ H₀ fp) t1 g1)
 (hi:∀ C s₀ H₀ fp,PIf (cmpX X nv ix scope C s₀ H₀ fp) c1 ti1) (hw2:∀ C s₀ H₀ fp,PI (cmpX X nv ix scope C s₀ H₀ fp) t2 i2 wi2) (hg2:∀ C s₀ H₀ fp,PG (cmpX X nv ix scope C s₀ H₀ fp) t2 g2) (hi2:∀ C s₀ H₀ fp,PIf (cmpX X nv ix scope C s₀ H₀ fp) c2 ti2) (he:∀ C s₀ H₀ fp,PE (cmpX X nv ix scope C s₀ H₀ fp) elt te)
 (hsw:swapsWith (.ListComp elt [⟨t1,i1,c1,0⟩,⟨t2,i2,c2,0⟩] scope pos) (some (.Name y py)) spos.line X.env=pure true:=by rfl)
 (hs:∀ x,foldedSetIterable i1 X.env x=pure x:=by intro _;rfl) (hs2:∀ C s₀ H₀ fp x,foldedSetIterable i2 (cmpX X nv ix scope C s₀ H₀ fp).env x=pure x:=by intro _ _ _ _ _;rfl) (hfn:X.fn y=true∨X.env.scope.names.lookup y=some .local:=by first | exact .inl rfl | exact .inr rfl | assumption) :
 PS X (.Assign [.Name y py] (.ListComp elt [⟨t1,i1,c1,0⟩,⟨t2,i2,c2,0⟩] scope pos) spos) (tAsg (tComp2 nv ix wi g1 ti1 wi2 g2 ti2 te) (gName i)):=by
 intro pins s σ H D I h
 rw [exec_Assign_Name_used _ _ _ _ hsw]
 refine wpAny_bind (wpAny_standAt (wpAny_bind ?_))
 show wpAny _ X.A (do let _ ← comprehension (.ListComp elt [⟨t1,i1,c1,0⟩,⟨t2,i2,c2,0⟩] scope pos) scope X.env _ (newList []) false (eval i1 X.env) (some (assign (.Name y py) X.env))) _ _ s
 refine wpAny_bind (wpAny_mono (wpAny_comprehension_free (use:=some (assign (.Name y py) X.env)) (Q:=fun _ s'=>SP X pins D .next s') rfl hs (closure_ok (co.cells I.ok)) co.kind co.names
  (thn (hit pins s σ H _ I h) fun v s1 h1=>thn h1 fun itv s2 h2=>?_)) (fun _ s' hq=>wpAny_pure (wpAny_pure hq)) fun _ _ e=>e)
 obtain ⟨it,fp,tn,J,H2,e,I2,T,st2,f2,q⟩:=h2
 subst e
 refine comp_run2 co hc I2 T st2 f2 kg hg hi hw2 hg2 hi2 he hs2 q fun DD C s' H' ys I' hD fin ⟨m,hm⟩ hC=>?_
 obtain ⟨c0,c1,c2,c3,c4,c5⟩:=hC
 show wpAny _ X.A (assign (.Name y py) X.env (.ref DD)) _ _ s'
 refine wpAny_assign_Name (store_ok2 I' hN hi' hy (show RelV (.ref DD) (.ref DD) from rfl) (fun s'' I'' ⟨a,sb,ha⟩=>?_) hfn)
 have hCa:C≠a:=by
  rcases ha with rfl | ha
  · exact c1
  · exact fun z=>c4 y a ha z.symm
 refine ⟨m,hm.sameBut sb hCa,fun h' hs'=>⟨_,_,I''.turned (t':=s''.toks) (fun b o hb e=>(hs'.2 b hb).trans e) c0 c1 c3 c4 c5,fin DD hD⟩⟩
theorem zs_settwo {X:Cx} {elt t1 i1 t2 i2:Expr} {c1 c2:List Expr} {scope:Scope} {pos:Pos} {wi wi2:TI} {g1 g2:TG} {ti1 ti2:TT} {te:TE} {i:Nat} {y:Str} {py spos:Pos} (nv:List Str) (ix:List (Str×Nat)) (hc:X.calm=true) (hN:X.N.Nodup) (hi':X.N[i]? = some y) (hy:Loc X.env.scope y) (co:CompOk X nv ix scope) (hit:ZI X t1 i1 wi) (kg:KpG2 nv g1 g2) (hg:∀ C s₀ H₀ fp,ZG (cmpX X nv ix scope C s₀ H₀ fp) t1 g1)
 (hi:∀ C s₀ H₀ fp,ZIf (cmpX X nv ix scope C s₀ H₀ fp) c1 ti1) (hw2:∀ C s₀ H₀ fp,ZI (cmpX X nv ix scope C s₀ H₀ fp) t2 i2 wi2) (hg2:∀ C s₀ H₀ fp,ZG (cmpX X nv ix scope C s₀ H₀ fp) t2 g2) (hi2:∀ C s₀ H₀ fp,ZIf (cmpX X nv ix scope C s₀ H₀ fp) c2 ti2) (he:∀ C s₀ H₀ fp,ZE (cmpX X nv ix scope C s₀ H₀ fp) elt te)
 (hsw:swapsWith (.ListComp elt [⟨t1,i1,c1,0⟩,⟨t2,i2,c2,0⟩] scope pos) (some (.Name y py)) spos.line X.env=pure true:=by rfl)
 (hs:∀ x,foldedSetIterable i1 X.env x=pure x:=by intro _;rfl) (hs2:∀ C s₀ H₀ fp x,foldedSetIterable i2 (cmpX X nv ix scope C s₀ H₀ fp).env x=pure x:=by intro _ _ _ _ _;rfl) (hfn:X.fn y=true∨X.env.scope.names.lookup y=some .local:=by first | exact .inl rfl | exact .inr rfl | assumption) :
 ZS X (.Assign [.Name y py] (.ListComp elt [⟨t1,i1,c1,0⟩,⟨t2,i2,c2,0⟩] scope pos) spos) (tAsg (tComp2 nv ix wi g1 ti1 wi2 g2 ti2 te) (gName i)):=by with_unfolding_all exact ps_settwo nv ix hc hN hi' hy co hit kg hg hi hw2 hg2 hi2 he hsw hs hs2 hfn
end L2
namespace M56
open M04 M54 M55 MP
def sg (k:Nat) (f:Nat→Int):Int:=((List.range k).map f).sum
theorem sg_succ (k:Nat) (f:Nat→Int):sg (k+1) f=sg k f+f k:=by unfold sg;rw [List.range_succ,List.map_append,List.sum_append];simp
theorem sg_zero (k:Nat) {f:Nat→Int} (h:∀ i,i<k→f i=0):sg k f=0:=by
 induction k with
 | zero=>rfl
 | succ k ih=>rw [sg_succ,ih fun i hi=>h i (by omega),h k (by omega)];rfl
theorem sg_one (k:Nat) {f:Nat→Int} {j:Nat} (hj:j<k) (h:∀ i,i<k→i≠j→f i=0):sg k f=f j:=by
 induction k with
 | zero=>omega
 | succ k ih=>
   rw [sg_succ]
   by_cases e:j=k
   · subst e
     rw [sg_zero j fun i hi=>h i (by omega) (by omega)]
     omega
   · rw [ih (by omega) fun i hi ne=>h i (by omega) ne,h k (by omega) (by omega)]
     omega
theorem sg_add (k:Nat) (f g:Nat→Int):sg k (fun i=>f i+g i)=sg k f+sg k g:=by
 induction k with
 | zero=>rfl
 | succ k ih=>rw [sg_succ,sg_succ,sg_succ,ih];omega
theorem sg_sub (k:Nat) (f g:Nat→Int):sg k (fun i=>f i - g i)=sg k f - sg k g:=by
 induction k with
 | zero=>rfl
 | succ k ih=>rw [sg_succ,sg_succ,sg_succ,ih];omega
theorem sg_congr {k:Nat} {f g:Nat→Int} (h:∀ i,i<k→f i=g i):sg k f=sg k g:=by
 unfold sg
 rw [List.map_congr_left fun i hi=>h i (List.mem_range.mp hi)]
structure Walk (k N:Nat) (a b:Nat→Int→Int) (x:Nat→Int→Int) (j:Nat→Nat) (n:Nat→Nat→Int):Prop where
 /-- ones share no size,others share none -/
 da:∀ i i' z,i<k→i' < k→i≠i'→0<a i z→a i' z=0
 db:∀ i i' z,i<k→i' < k→i≠i'→0<b i z→b i' z=0
 a0:∀ i z,0≤a i z
 b0:∀ i z,0≤b i z
 /-- none of the ones stands at first -/
 free:∀ i,i<k→∃ z,x 0 z<a i z
 x0:∀ z,0≤x 0 z
 jk:∀ s,s<N→j s<k
 /-- what is exchanged stands -/
 st:∀ s,s<N→∀ z,b (j s) z≤x s z
 nx:∀ s,s<N→∀ z,x (s+1) z=x s z+a (j s) z - b (j s) z
 n0:∀ i,n 0 i=0
 nn:∀ s i,s<N→n (s+1) i=n s i+if j s=i then 1 else 0
theorem Walk.sum {k N a b x j n} (w:Walk k N a b x j n):∀ s,s≤N→∀ z,x s z=x 0 z+sg k (fun i=>n s i*a i z) - sg k (fun i=>n s i*b i z)
 | 0,_,z=>by
   rw [sg_zero k fun i _=>by rw [w.n0 i,Int.zero_mul],sg_zero k fun i _=>by rw [w.n0 i,Int.zero_mul]]
   omega
 | s+1,h,z=>by
   have ih:=w.sum s (by omega) z
   have hj:=w.jk s (by omega)
   have e:∀ c:Nat→Int,sg k (fun i=>n (s+1) i*c i)=sg k (fun i=>n s i*c i)+c (j s):=fun c=>by
    rw [← sg_one (f:=fun i=>if j s=i then c i else 0) k hj (fun i _ ne=>if_neg fun z=>ne z.symm) |>.trans (if_pos rfl),← sg_add]
    refine sg_congr fun i _=>?_
    rw [w.nn s i (by omega)]
    split
    · rw [Int.add_mul,Int.one_mul]
    · rw [Int.add_zero,Int.add_zero]
   rw [w.nx s (by omega) z,ih,e fun i=>a i z,e fun i=>b i z]
   omega
theorem Walk.mono {k N a b x j n} (w:Walk k N a b x j n) (i:Nat):∀ d s,s+d≤N→n s i≤n (s+d) i
 | 0,_,_=>Int.le_refl _
 | d+1,s,h=>by
   have:=w.mono i d s (by omega)
   have e:=w.nn (s+d) i (by omega)
   rw [← Nat.add_assoc,e]
   split <;> omega
theorem Walk.first {k N a b x j n} (w:Walk k N a b x j n) {i:Nat} {m:Int} (hm:0<m):∀ s,s≤N→m≤n s i→∃ τ,τ<s∧n τ i=m - 1∧j τ=i∧∀ s',s'≤τ→n s' i<m
 | 0,_,h=>by rw [w.n0 i] at h;omega
 | s+1,hs,h=>by
   by_cases c:m≤n s i
   · obtain ⟨τ,h1,h2⟩:=w.first hm s (by omega) c
     exact ⟨τ,by omega,h2⟩
   · have e:=w.nn s i (by omega)
     split at e
     · rename_i hj
       refine ⟨s,by omega,by omega,hj,fun s' hs'=>?_⟩
       have:=w.mono i (s - s') s' (by omega)
       rw [show s' + (s - s')=s by omega] at this
       omega
     · omega
theorem Walk.none_again {k N a b x j n} (w:Walk k N a b x j n) {s s':Nat} (h1:s<s') (h2:s'≤N) (he:∀ z,x s z=x s' z):False:=by
 have m0:∀ i,0≤n s' i - n s i:=fun i=>by
  have:=w.mono i (s' - s) s (by omega)
  rw [show s+(s' - s)=s' by omega] at this
  omega
 -- what is exchanged between the two: as much put in as taken out,of each size
 have bal:∀ z,sg k (fun i=>(n s' i - n s i)*a i z)=sg k (fun i=>(n s' i - n s i)*b i z):=fun z=>by
  have e1:=w.sum s (by omega) z
  have e2:=w.sum s' h2 z
  have e3:=he z
  have f:∀ c:Nat→Int,sg k (fun i=>(n s' i - n s i)*c i)=sg k (fun i=>n s' i*c i) - sg k (fun i=>n s i*c i):=fun c=>by
   rw [← sg_sub]
   exact sg_congr fun i _=>by rw [Int.sub_mul]
  rw [f,f]
  omega
 -- each that is exchanged between asks for another that has been so often later
 have step:∀ i,i<k→0<n s' i - n s i→∀ τ,τ≤N→(∀ u,u≤τ→n u i<n s' i - n s i)→∃ i',i' < k∧0<n s' i' - n s i'∧∀ u,u≤τ+1→u≤N→n u i' < n s' i' - n s i':=by
  intro i hi hm τ hτ hu
  obtain ⟨z,hz⟩:=w.free i hi
  have az:0<a i z:=by have:=w.x0 z;omega
  have lhs:sg k (fun i'=>(n s' i' - n s i')*a i' z)=(n s' i - n s i)*a i z:=sg_one k hi fun i' hi' ne=>by
   rw [w.da i i' z hi hi' (fun e=>ne e.symm) az,Int.mul_zero]
  have pos:0<(n s' i - n s i)*a i z:=Int.mul_pos hm az
  have ex:∃ i',i' < k∧0<(n s' i' - n s i')*b i' z:=by
   refine Classical.byContradiction fun no=>?_
   have z0:sg k (fun i'=>(n s' i' - n s i')*b i' z)=0:=sg_zero k fun i' hi'=>by
    have h0:=Int.mul_nonneg (m0 i') (w.b0 i' z)
    have h9:¬ 0<(n s' i' - n s i')*b i' z:=fun q=>no ⟨i',hi',q⟩
    omega
   have:=bal z
   rw [lhs,z0] at this
   omega
  obtain ⟨i',hi',q⟩:=ex
  have hb:0<b i' z:=by
   rcases Int.lt_or_eq_of_le (w.b0 i' z) with h | h
   · exact h
   · rw [← h,Int.mul_zero] at q;omega
  have hm':0<n s' i' - n s i':=by
   rcases Int.lt_or_eq_of_le (m0 i') with h | h
   · exact h
   · rw [← h,Int.zero_mul] at q;omega
  have rhs:sg k (fun c=>(n s' c - n s c)*b c z)=(n s' i' - n s i')*b i' z:=sg_one k hi' fun c hc ne=>by
   rw [w.db i' c z hi' hc (fun e=>ne e.symm) hb,Int.mul_zero]
  have eq:(n s' i - n s i)*a i z=(n s' i' - n s i')*b i' z:=by rw [← lhs,← rhs];exact bal z
  refine ⟨i',hi',hm',fun u hu1 hu2=>?_⟩
  refine Classical.byContradiction fun c=>?_
  obtain ⟨ρ,r1,r2,r3,r4⟩:=w.first (i:=i') hm' u hu2 (by omega)
  -- before that exchange i' stood,so i had been exchanged as often by then
  have stz:=w.st ρ (by omega) z
  rw [r3] at stz
  have xs:=w.sum ρ (by omega) z
  have la:sg k (fun c=>n ρ c*a c z)=n ρ i*a i z:=sg_one k hi fun c hc ne=>by
   rw [w.da i c z hi hc (fun e=>ne e.symm) az,Int.mul_zero]
  have lb:sg k (fun c=>n ρ c*b c z)=n ρ i' * b i' z:=sg_one k hi' fun c hc ne=>by
   rw [w.db i' c z hi' hc (fun e=>ne e.symm) hb,Int.mul_zero]
  rw [la,lb,r2] at xs
  have hlt:=hu ρ (by omega)
  have e9:(n s' i' - n s i' - 1)*b i' z=(n s' i' - n s i')*b i' z - b i' z:=by rw [Int.sub_mul,Int.one_mul]
  rw [e9,← eq] at xs
  have g1:(n s' i - n s i)*a i z≤x 0 z+n ρ i*a i z:=by omega
  have g2:n ρ i*a i z≤(n s' i - n s i - 1)*a i z:=Int.mul_le_mul_of_nonneg_right (by omega) (by omega)
  rw [Int.sub_mul,Int.one_mul] at g2
  omega
 -- so some event has not been exchanged often enough at any time: but at s' all have
 have all:∀ τ,τ≤N→∃ i,i<k∧0<n s' i - n s i∧∀ u,u≤τ→u≤N→n u i<n s' i - n s i:=by
  intro τ
  induction τ with
  | zero=>
    intro _
    -- the one exchanged at s
    refine ⟨j s,w.jk s (by omega),?_,fun u hu _=>?_⟩
    · have e:=w.nn s (j s) (by omega)
      rw [if_pos rfl] at e
      have:=w.mono (j s) (s' - (s+1)) (s+1) (by omega)
      rw [show s+1+(s' - (s+1))=s' by omega] at this
      omega
    · have hu:u=0:=by omega
      subst hu
      rw [w.n0]
      have e:=w.nn s (j s) (by omega)
      rw [if_pos rfl] at e
      have:=w.mono (j s) (s' - (s+1)) (s+1) (by omega)
      rw [show s+1+(s' - (s+1))=s' by omega] at this
      omega
  | succ τ ih=>
    intro hτ
    obtain ⟨i,hi,hm,hu⟩:=ih (by omega)
    obtain ⟨i',h1,h2,h3⟩:=step i hi hm τ (by omega) fun u hu'=>hu u hu' (by omega)
    exact ⟨i',h1,h2,h3⟩
 obtain ⟨i,hi,hm,hu⟩:=all s' h2
 have:=hu s' (Nat.le_refl _) h2
 have:=w.mono i s 0 (by omega)
 rw [w.n0,Nat.zero_add] at this
 omega
end M56
set_option exponentiation.threshold 1000
namespace M81
open MRow
theorem sub_len {α:Type} [DecidableEq α]:∀ {l m:List α},l.Nodup→(∀ x∈l,x∈m)→l.length≤m.length
 | [],_,_,_=>Nat.zero_le _
 | a::l,m,hn,h=>by
   have hn2:=List.nodup_cons.mp hn
   have ha:=h a List.mem_cons_self
   have ih:=sub_len (m:=m.erase a) hn2.2 fun x hx=>by
    have:x≠a:=fun e=>hn2.1 (by rw [← e];exact hx)
    exact (List.mem_erase_of_ne this).mpr (h x (List.mem_cons_of_mem _ hx))
   rw [List.length_erase_of_mem ha] at ih
   have:=List.length_pos_of_mem ha
   rw [List.length_cons]
   omega
end M81
namespace M56
open M04 M54 M55 MP
def go (x e f:List Int):List Int:=bt ((ls x e).getD []) f
theorem go_ok {n:Nat} {x e f:List Int} (hx:x∈PB n n) (h:inn e x=true) (he:∀ z∈e,(1:Int)≤z) (hf:∀ z∈f,(1:Int)≤z) (hs:e.sum=f.sum):go x e f∈PB n n∧∀ z,((go x e f).count z:Int)=(x.count z:Int)+(f.count z:Int) - (e.count z:Int):=by
 obtain ⟨x1,x2,x3⟩:=pb_iff.mp hx
 obtain ⟨y,y1,y2,y3,y4⟩:=taken x1 x2 he h
 have el:ls x e=some y:=by rw [← y4];exact ls_bt y2 y1 he
 have eg:go x e f=bt y f:=by unfold go;rw [el];rfl
 have pm:=bt_perm y1 hf
 rw [eg]
 refine ⟨pb_iff.mpr ⟨fun z hz=>?_,bt_pw _ _,?_⟩,fun z=>?_⟩
 · rcases List.mem_append.mp (pm.mem_iff.mp hz) with k | k
   · exact y1 z k
   · exact hf z k
 · rw [perm_sumI pm,List.sum_append];omega
 · have h1:=(ls_some el).2 z
   rw [bt_count y1 hf]
   omega
structure Pd (ones others:List (List Int)):Prop where
 len:ones.length=others.length
 a1:∀ e∈ones,∀ z∈e,(1:Int)≤z
 b1:∀ e∈others,∀ z∈e,(1:Int)≤z
 da:Apart ones
 db:Apart others
 sums:ones.map List.sum=others.map List.sum
theorem getD_mem {l:List (List Int)} {i:Nat} (h:i<l.length):l.getD i []∈l:=by rw [List.getD_eq_getElem?_getD,List.getElem?_eq_getElem h];exact List.getElem_mem h
theorem Pd.sum_at {ones others:List (List Int)} (h:Pd ones others) {i:Nat} (hi:i<ones.length):(others.getD i []).sum=(ones.getD i []).sum:=by
 have e:=congrArg (fun l=>l[i]?) h.sums
 have hi2:i<others.length:=by rw [← h.len];exact hi
 simp only [List.getElem?_map,List.getElem?_eq_getElem hi,List.getElem?_eq_getElem hi2] at e
 rw [List.getD_eq_getElem?_getD,List.getD_eq_getElem?_getD,List.getElem?_eq_getElem hi,List.getElem?_eq_getElem hi2]
 exact (Option.some.inj e).symm
theorem apart_at:∀ {l:List (List Int)} {i i':Nat},Apart l→i<l.length→i' < l.length→i≠i'→∀ x∈l.getD i [],x∉l.getD i' []
 | e::r,0,0,_,_,_,ne,_,_=>absurd rfl ne
 | e::r,0,i' + 1,h,_,h2,_,x,hx=>h.1 _ (getD_mem (l:=r) (by simpa using h2)) x hx
 | e::r,i+1,0,h,h1,_,_,x,hx=>fun z=>h.1 _ (getD_mem (l:=r) (by simpa using h1)) x z hx
 | e::r,i+1,i' + 1,h,h1,h2,ne,x,hx=>apart_at (l:=r) h.2 (by simpa using h1) (by simpa using h2) (by omega) x hx
def run (ones others:List (List Int)) (x:List Int) (js:List Nat):List Int:=js.foldl (fun x j=>go x (others.getD j []) (ones.getD j [])) x
theorem run_snoc (ones others:List (List Int)) (x:List Int) (js:List Nat) (j:Nat):run ones others x (js++[j])=go (run ones others x js) (others.getD j []) (ones.getD j []):=by unfold run;rw [List.foldl_append];rfl
def Ok (ones others:List (List Int)) (x:List Int) (js:List Nat):Prop:=∀ s (h:s<js.length),js[s]<ones.length∧inn (others.getD js[s] []) (run ones others x (js.take s))=true
theorem Ok.snoc {ones others:List (List Int)} {x:List Int} {js:List Nat} {j:Nat} (h:Ok ones others x js) (hj:j<ones.length) (k:inn (others.getD j []) (run ones others x js)=true):Ok ones others x (js++[j]):=fun s hs=>by
 by_cases c:s<js.length
 · rw [List.getElem_append_left c,List.take_append_of_le_length (by omega)]
   exact h s c
 · have e:s=js.length:=by rw [List.length_append,List.length_singleton] at hs;omega
   subst e
   rw [List.getElem_append_right (Nat.le_refl _),List.take_append_of_le_length (Nat.le_refl _),List.take_of_length_le (Nat.le_refl _)]
   simpa using ⟨hj,k⟩
theorem take_next {js:List Nat} {s:Nat} (h:s<js.length):js.take (s+1)=js.take s++[js[s]]:=by rw [List.take_succ,List.getElem?_eq_getElem h];rfl
theorem run_in {ones others:List (List Int)} {x:List Int} {js:List Nat} {n:Nat} (p:Pd ones others) (hx:x∈PB n n) (h:Ok ones others x js):∀ s,s≤js.length→run ones others x (js.take s)∈PB n n
 | 0,_=>by rw [List.take_zero];exact hx
 | s+1,hs=>by
   have ih:=run_in p hx h s (by omega)
   obtain ⟨h1,h2⟩:=h s (by omega)
   rw [take_next (by omega),run_snoc]
   exact (go_ok ih h2 (p.b1 _ (getD_mem (by rw [← p.len];exact h1))) (p.a1 _ (getD_mem h1)) (p.sum_at h1)).1
theorem walk_of {ones others:List (List Int)} {x:List Int} {js:List Nat} {n:Nat} (p:Pd ones others) (hx:x∈PB n n) (hno:NoE ones x=true) (h:Ok ones others x js) :
 Walk ones.length js.length (fun i z=>((ones.getD i []).count z:Int)) (fun i z=>((others.getD i []).count z:Int)) (fun s z=>((run ones others x (js.take s)).count z:Int)) (fun s=>js.getD s 0) (fun s i=>((js.take s).count i:Int)):=by
 have ej:∀ s (hs:s<js.length),js.getD s 0=js[s]:=fun s hs=>by rw [List.getD_eq_getElem?_getD,List.getElem?_eq_getElem hs];rfl
 refine ⟨?_,?_,fun _ _=>Int.natCast_nonneg _,fun _ _=>Int.natCast_nonneg _,?_,fun _=>Int.natCast_nonneg _,?_,?_,?_,fun i=>by simp,?_⟩
 · intro i i' z hi hi' ne hz
   have:(ones.getD i' []).count z=0:=List.count_eq_zero.mpr (apart_at p.da hi hi' ne z (List.count_pos_iff.mp (by omega)))
   show ((ones.getD i' []).count z:Int)=0
   omega
 · intro i i' z hi hi' ne hz
   have:(others.getD i' []).count z=0:=List.count_eq_zero.mpr (apart_at p.db (by rw [← p.len];exact hi) (by rw [← p.len];exact hi') ne z (List.count_pos_iff.mp (by omega)))
   show ((others.getD i' []).count z:Int)=0
   omega
 · intro i hi
   refine Classical.byContradiction fun no=>?_
   have all:inn (ones.getD i []) x=true:=(inn_iff _ _).mpr fun z=>by
    have hz:¬ ((run ones others x (js.take 0)).count z:Int)<((ones.getD i []).count z:Int):=fun q=>no ⟨z,q⟩
    rw [List.take_zero] at hz
    have e:run ones others x []=x:=rfl
    rw [e] at hz
    omega
   unfold NoE at hno
   have:(ones.any fun e=>inn e x)=true:=List.any_eq_true.mpr ⟨_,getD_mem hi,all⟩
   rw [this] at hno
   cases hno
 · intro s hs
   show js.getD s 0<_
   rw [ej s hs]
   exact (h s hs).1
 · intro s hs z
   show ((others.getD (js.getD s 0) []).count z:Int)≤_
   rw [ej s hs]
   have:=(inn_iff _ _).mp (h s hs).2 z
   omega
 · intro s hs z
   obtain ⟨h1,h2⟩:=h s hs
   have ih:=run_in p hx h s (by omega)
   have e:=(go_ok ih h2 (p.b1 _ (getD_mem (by rw [← p.len];exact h1))) (p.a1 _ (getD_mem h1)) (p.sum_at h1)).2 z
   show ((run ones others x (js.take (s+1))).count z:Int)=_+((ones.getD (js.getD s 0) []).count z:Int) - ((others.getD (js.getD s 0) []).count z:Int)
   rw [take_next hs,run_snoc,ej s hs,e]
 · intro s i hs
   show ((js.take (s+1)).count i:Int)=_+if js.getD s 0=i then 1 else 0
   rw [take_next hs,List.count_append,ej s hs]
   by_cases c:js[s]=i
   · rw [if_pos c,c];simp
   · rw [if_neg c]
     have:[js[s]].count i=0:=List.count_eq_zero.mpr fun z=>c (List.mem_singleton.mp z).symm
     omega
theorem way_len {ones others:List (List Int)} {x:List Int} {js:List Nat} {n:Nat} (p:Pd ones others) (hx:x∈PB n n) (hno:NoE ones x=true) (h:Ok ones others x js):js.length<(PB n n).length:=by
 have w:=walk_of p hx hno h
 have nd:((List.range (js.length+1)).map fun s=>run ones others x (js.take s)).Nodup:=by
  unfold List.Nodup
  rw [List.pairwise_map]
  refine List.Pairwise.imp_of_mem (fun {s s'} hs hs' hlt e=>?_) (List.pairwise_lt_range (n:=js.length+1))
  have:=List.mem_range.mp hs'
  exact w.none_again hlt (by omega) fun z=>by show ((run ones others x (js.take s)).count z:Int)=_;rw [e]
 have:=M81.sub_len nd fun y hy=>by
  obtain ⟨s,hs,rfl⟩:=List.mem_map.mp hy
  exact run_in p hx h s (by have:=List.mem_range.mp hs;omega)
 rw [List.length_map,List.length_range] at this
 omega
end M56
namespace K59
open PySem L2 M04 M54 M55
def mt (evs:List (List Int)):List Int:=evs.flatMap fun e=>(M02.runs e).map (·.1)
theorem mt_snoc (evs:List (List Int)) (e:List Int):mt (evs++[e])=mt evs++(M02.runs e).map (·.1):=by unfold mt;rw [List.flatMap_append];simp
theorem runs_mem {e:List Int} (h:e.Pairwise (·≥·)) {x:Int} (hx:x∈(M02.runs e).map (·.1)):x∈e:=by
 obtain ⟨⟨s,c⟩,hp,rfl⟩:=List.mem_map.mp hx
 have:=((M02.ok_of h).mem s c).mp hp
 exact List.count_pos_iff.mp this.2
theorem runs_nd {e:List Int} (h:e.Pairwise (·≥·)):((M02.runs e).map (·.1)).Nodup:=by
 unfold List.Nodup
 rw [List.pairwise_map]
 exact (M02.ok_of h).pw.imp fun {a b} k z=>by omega
theorem mt_nd:∀ {evs:List (List Int)},(∀ e∈evs,e.Pairwise (·≥·))→Apart evs→(mt evs).Nodup
 | [],_,_=>.nil
 | e::r,h,a=>by
   show ((M02.runs e).map (·.1)++mt r).Nodup
   refine List.nodup_append.mpr ⟨runs_nd (h e List.mem_cons_self),mt_nd (fun f hf=>h f (List.mem_cons_of_mem _ hf)) a.2,fun x hx y hy z=>?_⟩
   subst z
   unfold mt at hy
   obtain ⟨f,hf,hy⟩:=List.mem_flatMap.mp hy
   exact a.1 f hf x (runs_mem (h e List.mem_cons_self) hx) (runs_mem (h f (List.mem_cons_of_mem _ hf)) hy)
theorem mt_len (evs:List (List Int)) {B:Nat} (h:∀ e∈evs,e.length≤B):(mt evs).length≤evs.length*B:=by
 induction evs with
 | nil=>exact Nat.zero_le _
 | cons e r ih=>
   show ((M02.runs e).map (·.1)++mt r).length≤_
   have h1:=M02.runs_len' e
   have h2:=h e List.mem_cons_self
   have h3:=ih fun f hf=>h f (List.mem_cons_of_mem _ hf)
   rw [List.length_append,List.length_map,List.length_cons,Nat.succ_mul]
   omega
theorem take_len (evs:List (List Int)) (i:Nat) {B:Nat} (h:∀ e∈evs,e.length≤B):∀ e∈evs.take i,e.length≤B:=fun e he=>h e (List.mem_of_mem_take he)
section
variable {P:Program} {w:World} {K:PySem.W.Frag} {mg:Str→Option Value} {base:Heap} {f:Addr} {fd:FuncData}
theorem sc_sns:FnScope ["events","met"] ["events"] (defScope (top 21)):=⟨rfl,rfl,rfl,by decide +kernel,rfl,by decide +kernel,by decide +kernel⟩
def sp_sns:Sp:=fun vs H Q _=>∃ (e:Addr) (us:List V) (evs:List (List Int)),vs=[.ref e]∧H e=some (.tup us)∧Tps H us evs∧evs.length≤12∧(∀ x∈evs,x.length≤300)∧∀ H',Same H H'→Q (.bl (decide (V.int ((dst (mt evs)).length:Int)=V.int ((mt evs).length:Int)))) H'
theorem ok_sns (F:Fun K "share_no_size" "share_no_size" (top 21) f fd) (m_len:mg "len" = none) (m_set:mg "set" = none) (F_sizes:FnA P w K mg base "sizes" 1 ["parting"] sp_sizes):FnOk P w K mg base CX0 2 f fd ["events"] sp_sns:=by
 refine F.okz sc_sns (fun vs H Q E h=>?_) (fun cdv A outer s H vs Q E hr h=>?_)
 · obtain ⟨e,us,evs,rfl,_⟩:=h;rfl
 obtain ⟨e,us,evs,rfl,he,tp,l1,l2,q⟩:=h
 have nd:=sc_sns.nd
 have hu:=hr.units
 have lus:=tp.length
 refine ⟨_,(zss_cons (zs_settwo (i:=1) ["event","size","often"] [] rfl nd rfl (Or.inl rfl) ⟨rfl,by decide +kernel,by decide +kernel,rfl,rfl⟩ (zi_tup (zn 0)) kpg2_in (fun _ _ _ _=>zg_name (i:=0) (show List.Nodup (["event","size","often"]:List Str) by decide +kernel) rfl (Or.inl rfl)) (fun _ _ _ _=>zif_nil) (fun _ _ _ _=>(zi_tup' (ze_fn F_sizes hr (by decide) rfl (za_cons (zn 0) za_nil)) rfl)) (fun _ _ _ _=>zg_tup rfl (zgs_cons (zg_name (i:=1) (show List.Nodup (["event","size","often"]:List Str) by decide +kernel) rfl (Or.inl rfl)) (zgs_cons (zg_name (i:=2) (show List.Nodup (["event","size","often"]:List Str) by decide +kernel) rfl (Or.inl rfl)) zgs_nil))) (fun _ _ _ _=>zif_nil) (fun _ _ _ _=>(zn 1)))
  (zss_one (zs_ret (ze_cmpR (op_eqD hu) (zcb_lenS rfl m_len (za_cons (zcb_setI rfl rfl m_set (za_cons (zn 1) za_nil) rfl rfl) za_nil) rfl rfl) (zcb_len rfl m_len (za_cons (zn 1) za_nil) rfl rfl) (nomark _))))),?_⟩
 refine ⟨e,rfl,⟨_,SqT.of he⟩,cmp2_tup (xs:=us) (fun i zs H'=>Same H H'∧zs=(mt (evs.take i)).map V.int) ⟨Same.refl _,by rw [List.take_zero];rfl⟩ ?_ ?_ ?_⟩
 · rintro i zs H' _ ⟨y,_⟩
   exact SqT.of (y _ _ he)
 · rintro i x zs H1 hx ⟨y1,rfl⟩
   obtain ⟨ls',b,hls,rfl,hb⟩:=tp.get hx
   have h300:=l2 ls' (List.mem_of_getElem? hls)
   have hi:i<evs.length:=(List.getElem?_eq_some_iff.mp hls).1
   refine ⟨b,ls',rfl,y1 _ _ hb,by omega,fun r H2 us2 y2 hr2 prs=>?_⟩
   have lp:=prs.length
   have lr:=M02.runs_len' ls'
   have lm:=mt_len (evs.take i) (take_len evs i l2)
   rw [List.length_take] at lm
   have lm2:(mt (evs.take i)).length≤3600:=Nat.le_trans lm (Nat.mul_le_mul_right 300 (show min i evs.length≤12 by omega))
   refine ⟨r,rfl,⟨_,SqT.of hr2⟩,cmpi_tup (xs:=us2) (fun j zs H'=>Same H2 H'∧zs=(mt (evs.take i)++((M02.runs ls').take j).map (·.1)).map V.int) ⟨Same.refl _,by rw [List.take_zero,List.map_nil,List.append_nil]⟩ ?_ ?_ ?_⟩
   · rintro j zs H' _ ⟨y,_⟩
     exact SqT.of (y _ _ hr2)
   · rintro j z zs H3 hz ⟨y3,rfl⟩
     obtain ⟨pr,hpr,⟨c,rfl,hc⟩⟩:=prs.get hz
     have hj:j<us2.length:=(List.getElem?_eq_some_iff.mp hz).1
     refine ⟨Nat.lt_of_le_of_lt (show _≤5000 by rw [List.length_map,List.length_append,List.length_map,List.length_take];omega) (by rw [sizeLine_eq];decide),?_⟩
     refine ⟨c,_,rfl,SqT.of (y3 _ _ hc),rfl,_,_,rfl,_,_,rfl,rfl,y3,?_⟩
     rw [List.take_succ,hpr,List.map_append,List.map_append,List.map_append,List.map_append,List.append_assoc]
     rfl
   · rintro zs H3 ⟨y3,rfl⟩
     refine ⟨(y1.trans y2).trans y3,?_⟩
     rw [lp,List.take_of_length_le (Nat.le_refl _),List.take_succ,hls]
     exact congrArg _ (mt_snoc _ _).symm
 · rintro zs H1 ⟨y1,rfl⟩ D hD
   rw [lus,List.take_of_length_le (Nat.le_refl _)]
   have yD:=Same.new hD (.lst ((mt evs).map V.int))
   have lm:=mt_len evs l2
   have lm2:(mt evs).length≤3600:=Nat.le_trans lm (Nat.mul_le_mul_right 300 l1)
   have dl:=dst_le (mt evs)
   refine ⟨mt evs,upd_same,by omega,fun S hS=>?_⟩
   refine ⟨_,_,upd_same,by omega,?_⟩
   have yS:=Same.new hS (.set (fun k=>(dst (mt evs)).any (· == k)) (dst (mt evs)).length)
   refine ⟨_,.inl (SqL.of (yS _ _ upd_same)),?_⟩
   rw [List.length_map]
   exact q _ ((y1.trans yD).trans yS)
end
end K59
namespace L2
open PySem PySem.Spec PyProof.Rows
section
variable {X:Cx}
def rInD (neg:Bool):R2:=fun x y H Q=>∃ (ds:List PyData) (d:PyData),DatV H y (.tuple ds)∧DatV H x d∧PyData.canLayAll0 ds=true∧d.canLay0=true∧min (PyData.depthAll ds) d.depth≤30∧Q (.bl (if neg then !(ds.any fun z=>PyData.eqv z d) else ds.any fun z=>PyData.eqv z d)) H
theorem op_notInD (hu:X.A.units+64<cLine):OpR X (compareOp .NotIn) (rInD true):=by
 intro pins s σ H x y v u Q I rx ry h
 obtain ⟨ds,d,h1,h2,h3,h4,h5,q⟩:=h
 obtain ⟨as,r1⟩:=h1.reads I ry
 obtain ⟨bs,r2⟩:=h2.reads I rx
 exact SeqAt.notIn_tuple_reads r1 r2 h3 h4 (by omega) ⟨.bl _,H,I,rfl,by rw [if_pos rfl] at q;exact q⟩
end
end L2
namespace K59
open PySem L2 M04 M54 M55
theorem dall_tps {H:Hp}:∀ {us lss},Tps H us lss→DatAll H us (lss.map fun ls=>.tuple (ls.map PyData.int))
 | _,_,.nil=>.nil
 | _,_,.cons h r=>.cons (.ints h) (dall_tps r)
theorem can_tps:∀ lss:List (List Int),PyData.canLayAll0 (lss.map fun ls=>PyData.tuple (ls.map PyData.int))=true∧PyData.depthAll (lss.map fun ls=>PyData.tuple (ls.map PyData.int))≤2
 | []=>⟨by simp [PyData.canLayAll0],by simp [PyData.depthAll]⟩
 | ls::r=>by
   obtain ⟨h1,h2⟩:=can_tps r
   obtain ⟨k1,k2⟩:=canInts ls
   refine ⟨by simp only [List.map_cons,PyData.canLayAll0,PyData.canLay0,k1,h1,Bool.and_self],?_⟩
   simp only [List.map_cons,PyData.depthAll,PyData.depth]
   omega
structure EvT (evs:List (List Int)):Prop where
 few:evs.length≤12
 short:∀ x∈evs,x.length≤300
 prt:∀ x∈evs,Prt x
 some:∀ x∈evs,x≠[]
 apart:Apart evs
theorem no_nil {evs:List (List Int)} (h:∀ x∈evs,x≠[]):((evs.map fun ls=>PyData.tuple (ls.map PyData.int)).any fun z=>PyData.eqv z (.tuple []))=false:=by
 rw [List.any_eq_false]
 intro d hd
 obtain ⟨ls,hl,rfl⟩:=List.mem_map.mp hd
 rw [eqv_tuple_nil]
 have:=h ls hl
 cases ls with
 | nil=>exact absurd rfl this
 | cons a r=>simp
section
variable {P:Program} {w:World} {K:PySem.W.Frag} {mg:Str→Option Value} {base:Heap} {f:Addr} {fd:FuncData}
theorem sc_ae:FnScope ["thing"] ["thing"] (defScope (top 22)):=⟨rfl,rfl,rfl,by decide +kernel,rfl,by decide +kernel,by decide +kernel⟩
def sp_ae:Sp:=fun vs H Q _=>∃ (e:Addr) (us:List V) (evs:List (List Int)),vs=[.ref e]∧H e=some (.tup us)∧Tps H us evs∧EvT evs∧∀ H',Same H H'→Q (.bl true) H'
theorem ok_ae (F:Fun K "are_events" "are_events" (top 22) f fd) (m_all:mg "all" = none) (m_isinstance:mg "isinstance" = none) (m_len:mg "len" = none) (m_tuple:mg "tuple" = none) (g_MOST_EVENTS:IntG mg "MOST_EVENTS" 12) (F_is_parting:FnA P w K mg base "is_parting" 2 ["thing"] sp_is) (F_share_no_size:FnA P w K mg base "share_no_size" 2 ["events"] sp_sns):FnOk P w K mg base CX0 3 f fd ["thing"] sp_ae:=by
 refine F.okz sc_ae (fun vs H Q E h=>?_) (fun cdv A outer s H vs Q E hr h=>?_)
 · obtain ⟨e,us,evs,rfl,_⟩:=h;rfl
 obtain ⟨e,us,evs,rfl,he,tp,ev,q⟩:=h
 have nd:=sc_ae.nd
 have hu:=hr.units
 have lus:=tp.length
 have few:=ev.few
 refine ⟨_,(zss_cons (zs_if (ZW.zt (zw_or (zt_not (zt_valP (zcb_isinstance rfl m_isinstance (za_cons (zn 0) (za_cons (zty_tuple rfl m_tuple) za_nil)) rfl rfl))) (zw_or1 (zt_cmpP op_gtP (zcb_len rfl m_len (za_cons (zn 0) za_nil) rfl rfl) (ze_ig rfl g_MOST_EVENTS) (nomark _))))) (zss_one (zs_ret ze_bl)) zss_nil)
  (zss_cons (zs_if (zt_not (zt_valP (zcb_all rfl rfl m_all (za_cons (ze_comp ["event"] [] rfl ⟨rfl,by decide +kernel,by decide +kernel,rfl,rfl⟩ (zi_tup (zn 0)) kpg_name (fun _ _ _ _=>zg_name (i:=0) (show List.Nodup (["event"]:List Str) by decide +kernel) rfl (Or.inl rfl)) (fun _ _ _ _=>zif_nil) (fun _ _ _ _=>(ze_fn F_is_parting hr (by decide) rfl (za_cons (zn 0) za_nil)))) za_nil) rfl rfl))) (zss_one (zs_ret ze_bl)) zss_nil)
  (zss_one (zs_ret (ze_andP (ze_cmpR (op_notInD hu) (ze_tup za_nil) (zn 0) (by with_unfolding_all rfl)) (ze_one (ze_fn F_share_no_size hr (by decide) rfl (za_cons (zn 0) za_nil)))))))),?_⟩
 refine ⟨"tuple",(SqK.tup he).ty,rfl,?_⟩
 refine iteB (fun c=>absurd c (by decide)) (fun _=>?_)
 refine ⟨_,.inr he,?_⟩
 refine iteD (fun c=>?_) (fun _=>?_)
 · exfalso
   have c':(12:Int)<(us.length:Int):=c
   omega
 refine ⟨e,rfl,⟨_,SqT.of he⟩,cmp_tup (xs:=us) (fun i zs H'=>H'=H∧zs=(List.replicate i true).map V.bl) ⟨rfl,rfl⟩ ?_ ?_ ?_⟩
 · rintro i zs H' _ ⟨rfl,_⟩
   exact SqT.of he
 · rintro i x zs H' hx ⟨rfl,rfl⟩
   have hi:i<us.length:=(List.getElem?_eq_some_iff.mp hx).1
   obtain ⟨ls',b,hls,rfl,hb⟩:=tp.get hx
   have hm:=List.mem_of_getElem? hls
   have h300:=ev.short ls' hm
   refine ⟨by rw [List.length_map,List.length_replicate];exact small1000 (by omega),?_⟩
   exact ⟨b,ls',rfl,hb,by omega,ev.prt ls' hm,rfl,rep_snoc i⟩
 · rintro zs H' ⟨rfl,rfl⟩ D hD
   refine ⟨_,SqL.of upd_same,?_⟩
   rw [rep_all]
   have yD:=Same.new hD (.lst ((List.replicate us.length true).map V.bl))
   generalize upd H' D (.lst ((List.replicate us.length true).map V.bl))=H1 at yD
   refine ⟨Nat.zero_le _,fun c hc=>?_⟩
   have yc:=Same.new hc (.tup [])
   have gc:upd H1 c (.tup []) c=some (.tup []):=upd_same
   generalize upd H1 c (.tup [])=H2 at yc gc
   have z2:=yD.trans yc
   obtain ⟨k1,k2⟩:=can_tps evs
   refine ⟨_,_,.tup (z2 _ _ he) (dall_tps (tp.same z2)),.tup gc .nil,k1,rfl,by omega,?_⟩
   rw [if_pos rfl,no_nil ev.some]
   refine ⟨e,us,evs,rfl,z2 _ _ he,tp.same z2,few,ev.short,fun H3 y3=>?_⟩
   rw [(dst_all (mt evs)).mpr (mt_nd (fun x hx=>(ev.prt x hx).2) ev.apart),decide_eq_true rfl]
   exact q _ (z2.trans y3)
theorem sc_ap:FnScope ["ones","others"] ["ones","others"] (defScope (top 26)):=⟨rfl,rfl,rfl,by decide +kernel,rfl,by decide +kernel,by decide +kernel⟩
def sp_ap:Sp:=fun vs H Q _=>∃ (a b:Addr) (us vs':List V) (as bs:List (List Int)),vs=[.ref a,.ref b]∧H a=some (.tup us)∧Tps H us as∧H b=some (.tup vs')∧Tps H vs' bs∧EvT as∧EvT bs∧as.map List.sum=bs.map List.sum∧∀ H',Same H H'→Q (.bl true) H'
theorem ok_ap (F:Fun K "are_paired" "are_paired" (top 26) f fd)  (F_are_events:FnA P w K mg base "are_events" 3 ["thing"] sp_ae) (F_weight:FnA P w K mg base "weight" 1 ["parting"] sp_weight):FnOk P w K mg base CX0 4 f fd ["ones","others"] sp_ap:=by
 refine F.okz sc_ap (fun vs H Q E h=>?_) (fun cdv A outer s H vs Q E hr h=>?_)
 · obtain ⟨a,b,us,vs',as,bs,rfl,_⟩:=h;rfl
 obtain ⟨a,b,us,vs',as,bs,rfl,ha,ta,hb,tb,ea,eb,es,q⟩:=h
 have nd:=sc_ap.nd
 have hu:=hr.units
 have la:=ta.length
 have lb:=tb.length
 have fa:=ea.few
 have fb:=eb.few
 refine ⟨_,(zss_cons (zs_if (ZW.zt (zw_or (zt_not (zt_valP (ze_fn F_are_events hr (by decide) rfl (za_cons (zn 0) za_nil)))) (zw_or1 (zt_not (zt_valP (ze_fn F_are_events hr (by decide) rfl (za_cons (zn 1) za_nil))))))) (zss_one (zs_ret ze_bl)) zss_nil)
  (zss_one (zs_ret (ze_cmpR (op_eqD hu) (ze_comp ["event"] [] rfl ⟨rfl,by decide +kernel,by decide +kernel,rfl,rfl⟩ (zi_tup (zn 0)) kpg_name (fun _ _ _ _=>zg_name (i:=0) (show List.Nodup (["event"]:List Str) by decide +kernel) rfl (Or.inl rfl)) (fun _ _ _ _=>zif_nil) (fun _ _ _ _=>(ze_fn F_weight hr (by decide) rfl (za_cons (zn 0) za_nil)))) (ze_comp ["event"] [] rfl ⟨rfl,by decide +kernel,by decide +kernel,rfl,rfl⟩ (zi_tup (zn 1)) kpg_name (fun _ _ _ _=>zg_name (i:=0) (show List.Nodup (["event"]:List Str) by decide +kernel) rfl (Or.inl rfl)) (fun _ _ _ _=>zif_nil) (fun _ _ _ _=>(ze_fn F_weight hr (by decide) rfl (za_cons (zn 0) za_nil)))) (nomark _))))),?_⟩
 refine ⟨a,us,as,rfl,ha,ta,ea,fun H1 y1=>?_⟩
 refine ⟨b,vs',bs,rfl,y1 _ _ hb,tb.same y1,eb,fun H2 y2=>?_⟩
 have z2:=y1.trans y2
 have ha2:=z2 _ _ ha
 have hb2:=z2 _ _ hb
 have ta2:=ta.same z2
 have tb2:=tb.same z2
 refine ⟨a,rfl,⟨_,SqT.of ha2⟩,cmp_tup (xs:=us) (fun i zs H'=>H'=H2∧zs=((as.take i).map List.sum).map V.int) ⟨rfl,by rw [List.take_zero];rfl⟩ ?_ ?_ ?_⟩
 · rintro i zs H' _ ⟨rfl,_⟩
   exact SqT.of ha2
 · rintro i x zs H' hx ⟨rfl,rfl⟩
   have hi:i<us.length:=(List.getElem?_eq_some_iff.mp hx).1
   obtain ⟨ls',c,hls,rfl,hc⟩:=ta2.get hx
   refine ⟨by rw [List.length_map,List.length_map,List.length_take];exact small1000 (by omega),?_⟩
   refine ⟨c,ls',rfl,hc,rfl,?_⟩
   rw [List.take_succ,hls,List.map_append,List.map_append]
   rfl
 · rintro zs H' ⟨rfl,rfl⟩ D hD
   rw [la,List.take_of_length_le (Nat.le_refl _)]
   have yD:=Same.new hD (.lst ((as.map List.sum).map V.int))
   have gD:upd H' D (.lst ((as.map List.sum).map V.int)) D=some (.lst ((as.map List.sum).map V.int)):=upd_same
   have hb3:=yD _ _ hb2
   have tb3:=tb2.same yD
   generalize upd H' D (.lst ((as.map List.sum).map V.int))=H3 at yD gD hb3 tb3
   refine ⟨b,rfl,⟨_,SqT.of hb3⟩,cmp_tup (xs:=vs') (fun i zs H4=>H4=H3∧zs=((bs.take i).map List.sum).map V.int) ⟨rfl,by rw [List.take_zero];rfl⟩ ?_ ?_ ?_⟩
   · rintro i zs H4 _ ⟨rfl,_⟩
     exact SqT.of hb3
   · rintro i x zs H4 hx ⟨rfl,rfl⟩
     have hi:i<vs'.length:=(List.getElem?_eq_some_iff.mp hx).1
     obtain ⟨ls',c,hls,rfl,hc⟩:=tb3.get hx
     refine ⟨by rw [List.length_map,List.length_map,List.length_take];exact small1000 (by omega),?_⟩
     refine ⟨c,ls',rfl,hc,rfl,?_⟩
     rw [List.take_succ,hls,List.map_append,List.map_append]
     rfl
   · rintro zs H4 ⟨rfl,rfl⟩ D2 hD2
     rw [lb,List.take_of_length_le (Nat.le_refl _),← es]
     have yD2:=Same.new hD2 (.lst ((as.map List.sum).map V.int))
     refine ⟨_,_,.lst (yD2 _ _ gD) (DatAll.ints _),.lst upd_same (DatAll.ints _),shaped_list_ints _,shaped_list_ints _,?_⟩
     rw [if_neg (by decide),eqv_self (shaped_list_ints _)]
     exact q _ ((z2.trans yD).trans yD2)
end
end K59
namespace K59
open PySem L2 M04 M54 M55 MP M56
def fl (evs:List (List Int)) (x:List Int):List Nat:=(List.range evs.length).filter fun i=>hasE x (evs.getD i [])
theorem stn_fl (evs:List (List Int)) (x:List Int):stn evs x=(fl evs x).map fun (i:Nat)=>(i:Int):=rfl
theorem fl_mem {evs:List (List Int)} {x:List Int} {i:Nat} (h:i∈fl evs x):i<evs.length∧inn (evs.getD i []) x=true:=by
 obtain ⟨h1,h2⟩:=List.mem_filter.mp h
 exact ⟨List.mem_range.mp h1,by rw [inn_is];exact h2⟩
theorem fl_none {evs:List (List Int)} {x:List Int} (h:NoE evs x=true):fl evs x=[]:=by
 refine List.filter_eq_nil_iff.mpr fun i hi z=>?_
 have hi:=List.mem_range.mp hi
 have h2:inn (evs.getD i []) x=true:=by rw [inn_is];exact z
 have:(evs.any fun e=>inn e x)=true:=List.any_eq_true.mpr ⟨_,getD_mem hi,h2⟩
 unfold NoE at h
 rw [this] at h
 cases h
def Way (as bs:List (List Int)) (x:List Int) (js:List Nat):Prop:=∀ s (h:s<js.length),(fl bs (run as bs x (js.take s))).head? = some js[s]
theorem Way.snoc {as bs:List (List Int)} {x:List Int} {js:List Nat} {j:Nat} (h:Way as bs x js) (k:(fl bs (run as bs x js)).head? = some j):Way as bs x (js++[j]):=fun s hs=>by
 by_cases c:s<js.length
 · rw [List.getElem_append_left c,List.take_append_of_le_length (by omega)]
   exact h s c
 · have e:s=js.length:=by rw [List.length_append,List.length_singleton] at hs;omega
   subst e
   rw [List.getElem_append_right (Nat.le_refl _),List.take_append_of_le_length (Nat.le_refl _),List.take_of_length_le (Nat.le_refl _)]
   simpa using k
theorem Way.ok {as bs:List (List Int)} {x:List Int} {js:List Nat} (p:Pd as bs) (h:Way as bs x js):M56.Ok as bs x js:=fun s hs=>by
 have:=List.mem_of_mem_head? (h s hs)
 obtain ⟨h1,h2⟩:=fl_mem this
 exact ⟨by rw [p.len];exact h1,h2⟩
theorem EvT.pd {as bs:List (List Int)} (ha:EvT as) (hb:EvT bs) (es:as.map List.sum=bs.map List.sum):Pd as bs:=
 ⟨by have:=congrArg List.length es;rw [List.length_map,List.length_map] at this;exact this,fun e he=>(ha.prt e he).1,fun e he=>(hb.prt e he).1,ha.apart,hb.apart,es⟩
section
variable {P:Program} {w:World} {K:PySem.W.Frag} {mg:Str→Option Value} {base:Heap} {f:Addr} {fd:FuncData}
theorem sc_led:FnScope ["ones","others","parting","told","walk","found"] ["ones","others","parting"] (defScope (top 27)):=⟨rfl,rfl,rfl,by decide +kernel,rfl,by decide +kernel,by decide +kernel⟩
def sp_led:Sp:=fun vs H Q _=>∃ (a b p:Addr) (us vs':List V) (as bs:List (List Int)) (x:List Int) (n:Nat),vs=[.ref a,.ref b,.ref p]∧H a=some (.tup us)∧Tps H us as∧H b=some (.tup vs')∧Tps H vs' bs∧EvT as∧EvT bs∧as.map List.sum=bs.map List.sum∧H p=some (.tup (x.map V.int))∧n≤30∧x∈PB n n∧NoE as x=true ∧
 ∀ r t u js H',Same H H'→H' r=some (.tup [.ref t,.ref u])→H' t=some (.tup ((run as bs x js).map V.int))→H' u=some (.tup ((js.map fun (i:Nat)=>(i:Int)).map V.int))→Way as bs x js→fl bs (run as bs x js)=[]→Q (.ref r) H'
theorem ok_led (F:Fun K "led" "led" (top 27) f fd) (m_tuple:mg "tuple" = none) (F_are_paired:FnA P w K mg base "are_paired" 4 ["ones","others"] sp_ap) (F_both:FnA P w K mg base "both" 1 ["one","other"] sp_both) (F_less:FnA P w K mg base "less" 1 ["one","other"] sp_less) (F_standing:FnA P w K mg base "standing" 3 ["events","parting"] sp_standing):FnOk P w K mg base CX0 5 f fd ["ones","others","parting"] sp_led:=by
 refine F.okz sc_led (fun vs H Q E h=>?_) (fun cdv A outer s H vs Q E hr h=>?_)
 · obtain ⟨a,b,p,us,vs',as,bs,x,n,rfl,_⟩:=h;rfl
 obtain ⟨a,b,p,us,vs',as,bs,x,n,rfl,ha,ta,hb,tb,ea,eb,es,hp,n30,hx,hno,q⟩:=h
 have nd:=sc_led.nd
 have hu:=hr.units
 have fa:=ea.few
 have fb:=eb.few
 have pd:=EvT.pd ea eb es
 have la:=ta.length
 have lb:=tb.length
 refine ⟨_,(zss_cons (zs_if (zt_not (zt_valP (ze_fn F_are_paired hr (by decide) rfl (za_cons (zn 0) (za_cons (zn 1) za_nil))))) (zss_one zs_no) zss_nil)
  (zss_cons (zs_if (zt_truP (ze_fn F_standing hr (by decide) rfl (za_cons (zn 0) (za_cons (zn 2) za_nil)))) (zss_one zs_no) zss_nil)
  (zss_cons (zs_set (i:=3) nd rfl (Or.inl rfl) (zn 2))
  (zss_cons (zs_set (i:=4) nd rfl (Or.inl rfl) (ze_lst za_nil))
  (zss_cons (zs_set (i:=5) nd rfl (Or.inl rfl) (ze_fn F_standing hr (by decide) rfl (za_cons (zn 1) (za_cons (zn 3) za_nil))))
  (zss_cons (zs_while PassesOwn.never (zt_truP (zn 5)) (zss_cons (zs_set (i:=3) nd rfl (Or.inl rfl) (ze_fn F_both hr (by decide) rfl (za_cons (ze_fn F_less hr (by decide) rfl (za_cons (zn 3) (za_cons (ze_ix ix_P (zn 1) (ze_ix ix_P (zn 5) ze_int (fun _ _=>rfl)) (fun _ _=>rfl)) za_nil))) (za_cons (ze_ix ix_P (zn 0) (ze_ix ix_P (zn 5) ze_int (fun _ _=>rfl)) (fun _ _=>rfl)) za_nil))))
  (zss_cons (zs_expr (zm_append (zn 4) (za_cons (ze_ix ix_P (zn 5) ze_int (fun _ _=>rfl)) za_nil)))
  (zss_one (zs_set (i:=5) nd rfl (Or.inl rfl) (ze_fn F_standing hr (by decide) rfl (za_cons (zn 1) (za_cons (zn 3) za_nil))))))))
  (zss_one (zs_ret (ze_tup (za_cons (zn 3) (za_cons (zcb_tuple rfl m_tuple (za_cons (zn 4) za_nil) rfl rfl) za_nil))))))))))),?_⟩
 refine ⟨a,b,us,vs',as,bs,rfl,ha,ta,hb,tb,ea,eb,es,fun H1 y1=>?_⟩
 refine ⟨a,p,us,as,x,rfl,y1 _ _ ha,ta.same y1,by omega,y1 _ _ hp,fun r1 H2 y2 hr1=>?_⟩
 refine ⟨_,.inr hr1,?_⟩
 rw [stn_fl,fl_none hno]
 have z2:=y1.trans y2
 refine ⟨Nat.zero_le _,fun L hL=>?_⟩
 have yL:=Same.new hL (.lst [])
 have gL:upd H2 L (.lst []) L=some (.lst ((([]:List Nat).map fun (i:Nat)=>(i:Int)).map V.int)):=upd_same
 have fL:H L=none:=fresh_back z2 hL
 have z3:=z2.trans yL
 generalize upd H2 L (.lst [])=H3 at gL z3
 refine ⟨b,p,vs',bs,x,rfl,z3 _ _ hb,tb.same z3,by omega,z3 _ _ hp,fun F4 H4 y4 hF4=>?_⟩
 have z4:=z3.trans y4
 refine while_by2 (fun m σ H'=>∃ js t F,m=(PB n n).length - js.length∧Same H H'∧Way as bs x js∧H' t=some (.tup ((run as bs x js).map V.int))∧H' L=some (.lst ((js.map fun (i:Nat)=>(i:Int)).map V.int))∧H' F=some (.tup ((stn bs (run as bs x js)).map V.int))∧σ=[some (.ref a),some (.ref b),some (.ref p),some (.ref t),some (.ref L),some (.ref F)]) (PB n n).length
  ⟨[],p,F4,by simp,z4,(fun s hs=>absurd hs (Nat.not_lt_zero _)),z4 _ _ hp,y4 _ _ gL,hF4,rfl⟩ ?_
 rintro m σ H5 ⟨js,t,F5,rfl,y5,wy,ht,hLL,hF,rfl⟩
 have bound:=way_len pd hx hno (wy.ok pd)
 have l30:=M05.PB_len30 (n:=n) (m:=n) n30
 refine ⟨_,.inr hF,?_⟩
 refine iteB (fun c=>?_) (fun c=>?_)
 · have xin:run as bs x js∈PB n n:=by have:=run_in pd hx (wy.ok pd) js.length (Nat.le_refl _);rw [List.take_of_length_le (Nat.le_refl _)] at this;exact this
   obtain ⟨j,rest,efl⟩:∃ j rest,fl bs (run as bs x js)=j::rest:=by
    cases e:fl bs (run as bs x js) with
    | nil=>rw [stn_fl,e] at c;exact absurd c (by decide)
    | cons j rest=>exact ⟨j,rest,rfl⟩
   obtain ⟨jb,ij⟩:=fl_mem (show j∈fl bs (run as bs x js) by rw [efl];exact List.mem_cons_self)
   have ja:j<as.length:=by rw [pd.len];exact jb
   have f0:((stn bs (run as bs x js)).map V.int)[0]? = some (.int (j:Int)):=by rw [stn_fl,efl];rfl
   have jv:j<vs'.length:=by omega
   have ju:j<us.length:=by omega
   obtain ⟨eo,ob,heo,evb,hob⟩:=tb.get (List.getElem?_eq_getElem jv)
   obtain ⟨en,na,hen,eva,hna⟩:=ta.get (List.getElem?_eq_getElem ju)
   have gb:bs.getD j []=eo:=by rw [List.getD_eq_getElem?_getD,heo];rfl
   have ga:as.getD j []=en:=by rw [List.getD_eq_getElem?_getD,hen];rfl
   have px:=PB_pos _ _ _ (Nat.le_refl _) _ xin
   obtain ⟨left,eleft⟩:∃ left,ls (run as bs x js) eo=some left:=by rw [inn_is,gb] at ij;exact Option.isSome_iff_exists.mp ij
   have sub:=(ls_some eleft).1
   refine ⟨fun σ' H'=>∃ m',m' < (PB n n).length - js.length∧∃ js t F,m'=(PB n n).length - js.length∧Same H H'∧Way as bs x js∧H' t=some (.tup ((run as bs x js).map V.int))∧H' L=some (.lst ((js.map fun (i:Nat)=>(i:Int)).map V.int))∧H' F=some (.tup ((stn bs (run as bs x js)).map V.int))∧σ'=[some (.ref a),some (.ref b),some (.ref p),some (.ref t),some (.ref L),some (.ref F)],fun σ' H' h=>h,?_⟩
   refine ⟨_,.inr hF,.int (j:Int),atI_of (j:=0) rfl f0,?_⟩
   refine ⟨_,.inr (y5 _ _ hb),vs'[j],atI_of (j:=j) rfl (List.getElem?_eq_getElem jv),?_⟩
   refine ⟨t,ob,run as bs x js,eo,by rw [evb],ht,y5 _ _ hob,fun v H6 y6 tell=>?_⟩
   rw [eleft] at tell
   obtain ⟨r6,rfl,hr6⟩:=tell
   refine ⟨_,.inr (y6 _ _ hF),.int (j:Int),atI_of (j:=0) rfl f0,?_⟩
   refine ⟨_,.inr (y6 _ _ (y5 _ _ ha)),us[j],atI_of (j:=j) rfl (List.getElem?_eq_getElem ju),?_⟩
   have l300:=ea.short en (List.mem_of_getElem? hen)
   have sl:=sub.length_le
   refine ⟨r6,na,left,en,by rw [eva],hr6,y6 _ _ (y5 _ _ hna),by have:=px.2.1;omega,by omega,fun z hz=>(px.1 z (sub.mem hz)).1,(ea.prt en (List.mem_of_getElem? hen)).1,fun t7 H7 y7 ht7=>?_⟩
   have eg:run as bs x (js++[j])=bt left en:=by rw [run_snoc,gb,ga];unfold go;rw [eleft];rfl
   have hL7:=y7 _ _ (y6 _ _ hLL)
   refine ⟨tyL hL7,?_⟩
   refine ⟨_,.inr (y7 _ _ (y6 _ _ hF)),.int (j:Int),atI_of (j:=0) rfl f0,?_⟩
   refine ⟨_,hL7,Nat.lt_of_lt_of_le (show _<6001 by rw [List.length_map,List.length_map];omega) (by rw [sizeLine_eq];decide),?_⟩
   have z7:=y5.trans (y6.trans y7)
   have z8:Same H (upd H7 L (.lst ((js.map fun (i:Nat)=>(i:Int)).map V.int++[V.int (j:Int)]))):=Same.updN z7 fL
   have ht8:upd H7 L (.lst ((js.map fun (i:Nat)=>(i:Int)).map V.int++[V.int (j:Int)])) t7=some (.tup ((run as bs x (js++[j])).map V.int)):=by rw [upd_ne (ne_of ht7 hL7 (by intro z;cases z)),eg];exact ht7
   have hL8:upd H7 L (.lst ((js.map fun (i:Nat)=>(i:Int)).map V.int++[V.int (j:Int)])) L=some (.lst (((js++[j]).map fun (i:Nat)=>(i:Int)).map V.int)):=by rw [upd_same,List.map_append,List.map_append];rfl
   generalize upd H7 L (.lst ((js.map fun (i:Nat)=>(i:Int)).map V.int++[V.int (j:Int)]))=H8 at z8 ht8 hL8
   refine ⟨b,t7,vs',bs,run as bs x (js++[j]),rfl,z8 _ _ hb,tb.same z8,by omega,ht8,fun F9 H9 y9 hF9=>?_⟩
   exact ⟨(PB n n).length - (js.length+1),by omega,js++[j],t7,F9,by rw [List.length_append];rfl,z8.trans y9,wy.snoc (by rw [efl];rfl),y9 _ _ ht8,y9 _ _ hL8,hF9,rfl⟩
 · have fin:fl bs (run as bs x js)=[]:=by
    cases e:fl bs (run as bs x js) with
    | nil=>rfl
    | cons j rest=>rw [stn_fl,e] at c;exact absurd c (by simp)
   refine ⟨_,.inl (SqL.of hLL),fun u6 H6 y6 hu6=>?_⟩
   refine ⟨by show 2≤sizeLine;decide,fun r hr'=>?_⟩
   have yr:=Same.new hr' (.tup [V.ref t,.ref u6])
   exact q r t u6 js _ ((y5.trans y6).trans yr) upd_same (yr _ _ (y6 _ _ ht)) (yr _ _ hu6) wy fin
end
end K59
namespace L2
open PySem PySem.Spec PyProof.Rows
section
variable {X:Cx}
def ipC (C:Int→Int→Prop) (f:Int→Int→Int):TIp:=fun x y H Q=>match x,y with
 | .int i,.int j=>C i j∧Q (.int (f i j)) H
 | _,_=>False
theorem ip_mulP:PIp X .Mult (ipC IntMulOk fun i j=>i*j):=by
 intro pins s σ H x y v u Q I r1 r2 h
 unfold ipC at h
 split at h
 · obtain ⟨hm,q⟩:=h
   obtain ⟨t,rfl⟩:=r1
   obtain ⟨t',rfl⟩:=r2
   exact imul_int ⟨.int _,H,I.tok _,⟨_,rfl⟩,q⟩ hm
 · exact h.elim
theorem ip_fdivP:PIp X .FloorDiv (ipC CDiv fun i j=>i / j):=by
 intro pins s σ H x y v u Q I r1 r2 h
 unfold ipC at h
 split at h
 · rename_i i j
   obtain ⟨⟨h1,h2⟩,q⟩:=h
   obtain ⟨t,rfl⟩:=r1
   obtain ⟨t',rfl⟩:=r2
   refine AutoIntOps.ifloordiv_1 (by simp;omega) (by rw [PyProof.noPylong_small (by omega)];exact Bool.false_ne_true) ?_
   rw [Int.fdiv_eq_ediv_of_nonneg i (by omega)]
   exact ⟨.int _,H,I.tok _,⟨_,rfl⟩,q⟩
 · exact h.elim
def ipL:TIp:=fun x y H Q=>match x,y with
 | .ref l,.ref b=>∃ xs ys,H l=some (.lst xs)∧H b=some (.lst ys)∧xs.length+ys.length≤100000∧Q (.ref l) (upd H l (.lst (xs++ys)))
 | _,_=>False
theorem lst_iadd {M:Model} {A:Around} {E:Value→Shared→Prop} {s:Shared} {a b:Value} {Q:Value→Shared→Prop} (ha:s.TypeIs a "list") (hb:s.TypeIs b "list") (hfill:fillsNumberSlot (.type "list") "add" = pure false)
 (hc:wpAny M A (call (.builtin "list.__iadd__") [a,b]) Q E s):wpAny M A (inplaceOp .Add a b) Q E s:=by
 unfold inplaceOp
 refine wpAny_holding ?_
 have look:typeLookup (.type "list") (dunderI "add")=pure (some (.builtin "list.__iadd__")):=F.slot_list_iadd.lookup
 have f1:fillsInplaceSlot (.type "list") "add" (Operator.Add == .Add)=pure false:=by
  unfold fillsInplaceSlot
  show (typeLookup (.type "list") (dunderI "add") >>= fun q=>pure (q.isSome&&!isSeqSlot q))=pure false
  rw [look];rfl
 have f2:seqSlot? (.type "list") (dunderI "add")=pure (some (.builtin "list.__iadd__")):=by
  unfold seqSlot?
  rw [look];rfl
 refine wpAny_bind (wpAny_typeOf ha (wpAny_bind (wpAny_of_eq f1 ?_)))
 show wpAny M A (if false=true then _ else _) Q E s
 rw [if_neg Bool.false_ne_true]
 refine wpAny_bind (wpAny_binaryOp1_none (nm:="add") ha hb hfill ?_)
 refine wpAny_bind (wpAny_of_eq f2 ?_)
 exact wpAny_bind (wpAny_rule hc)
theorem ip_lst:PIp X .Add ipL:=by
 intro pins s σ H x y v u Q I r1 r2 h
 unfold ipL at h
 split at h
 · rename_i l b
   obtain ⟨xs,ys,hl,hb,hz,q⟩:=h
   cases r1
   cases r2
   obtain ⟨z,its,n,r,hlen,e⟩:=I.lstM hl
   obtain ⟨z2,its2,n2,r2,hlen2,e2⟩:=I.lstM hb
   have hsz:its.toArray.size+its2.toArray.size≤sizeLine:=by rw [List.size_toArray,List.size_toArray,sizeLine_eq];omega
   have hlong:¬ (!its.toArray.isEmpty&&Builtin.List.listTooLong (its.toArray.size+its2.toArray.size))=true:=by
    rw [notLongL hsz,Bool.and_false]
    exact Bool.false_ne_true
   refine lst_iadd ⟨_,e,rfl⟩ ⟨_,e2,rfl⟩ (by first | exact F.fills_list_add | kernel_rfl) ?_
   refine call_meets F.slot_list_iadd ⟨_,e,rfl⟩ F.entry_list_iadd (F.args_list_iadd_2 _ _)
    (AutoSeq1.list___iadd___list_list_0 l its.toArray n b its2.toArray n2 hlong (by rw [List.size_toArray];omega) (by omega)) ⟨e,e2,?_⟩
   refine ⟨.ref l,_,I.lset (its':=its++its2) hl e (by simp) (r.append r2) ?_,rfl,q⟩
   rw [List.length_append,sizeLine_eq]
   omega
 · exact h.elim
end
end L2
namespace M56
open M04 M54 M55 MP
theorem sg_nn {k:Nat} {f:Nat→Int} (h:∀ i,i<k→0≤f i):0≤sg k f:=by
 induction k with
 | zero=>exact Int.le_refl _
 | succ k ih=>rw [sg_succ];have:=ih fun i hi=>h i (by omega);have:=h k (by omega);omega
theorem Walk.le {k N M a b x j n x' j' n'} (w:Walk k N a b x j n) (w':Walk k M a b x' j' n') (e0:∀ z,x 0 z=x' 0 z) (nn:∀ z,0≤x' M z) (stop:∀ i,i<k→∃ z,x' M z<b i z):∀ s,s≤N→∀ i,i<k→n s i≤n' M i
 | 0,_,i,_=>by
   rw [w.n0 i]
   have:=w'.mono i M 0 (by omega)
   rw [w'.n0 i,Nat.zero_add] at this
   exact this
 | s+1,hs,i,hi=>by
   have ih:=Walk.le w w' e0 nn stop s (by omega)
   rw [w.nn s i (by omega)]
   split
   · rename_i hj
     refine Classical.byContradiction fun no=>?_
     have e1:n' M i=n s i:=by have:=ih i hi;omega
     obtain ⟨z,hz⟩:=stop i hi
     have bz:0<b i z:=by have:=nn z;omega
     have st:=w.st s (by omega) z
     rw [hj] at st
     have s1:=w.sum s (by omega) z
     have s2:=w'.sum M (Nat.le_refl _) z
     have ob:∀ c:Nat→Int,sg k (fun i=>c i*b i z)=c i*b i z:=fun c=>sg_one k hi fun i' hi' ne=>by rw [w.db i i' z hi hi' (Ne.symm ne) bz,Int.mul_zero]
     rw [ob (n s)] at s1
     rw [ob (n' M),e1] at s2
     have mono:sg k (fun i=>n s i*a i z)≤sg k (fun i=>n' M i*a i z):=by
      have:=sg_nn (k:=k) (f:=fun i=>n' M i*a i z - n s i*a i z) fun i hi=>by
       have:=Int.mul_le_mul_of_nonneg_right (ih i hi) (w.a0 i z)
       omega
      rw [sg_sub] at this
      omega
     have:=e0 z
     omega
   · rw [Int.add_zero];exact ih i hi
theorem pb_eq {n:Nat} {x y:List Int} (hx:x∈PB n n) (hy:y∈PB n n) (h:∀ z,x.count z=y.count z):x=y:=by
 obtain ⟨_,x2,_⟩:=pb_iff.mp hx
 obtain ⟨_,y2,_⟩:=pb_iff.mp hy
 exact (List.perm_iff_count.mpr h).eq_of_pairwise (fun a b _ _ h1 h2=>Int.le_antisymm h2 h1) x2 y2
theorem noE_at {evs:List (List Int)} {x:List Int} (h:NoE evs x=true) {i:Nat} (hi:i<evs.length):inn (evs.getD i []) x=false:=by
 cases c:inn (evs.getD i []) x with
 | false=>rfl
 | true=>
   unfold NoE at h
   rw [List.any_eq_true.mpr ⟨_,getD_mem hi,c⟩] at h
   cases h
theorem stop_at {e y:List Int} (h:inn e y=false):∃ z,(y.count z:Int)<(e.count z:Int):=by
 refine Classical.byContradiction fun no=>?_
 have:inn e y=true:=(inn_iff _ _).mpr fun z=>by
  have:¬ (y.count z:Int)<(e.count z:Int):=fun q=>no ⟨z,q⟩
  omega
 rw [this] at h
 cases h
theorem Ok.small {ones others:List (List Int)} {x:List Int} {js:List Nat} (h:Ok ones others x js):∀ i∈js,i<ones.length:=fun i hi=>by
 obtain ⟨s,hs,rfl⟩:=List.getElem_of_mem hi
 exact (h s hs).1
theorem conf_le {ones others:List (List Int)} {x:List Int} {js ks:List Nat} {n:Nat} (p:Pd ones others) (hx:x∈PB n n) (hno:NoE ones x=true) (h:Ok ones others x js) (k:Ok ones others x ks) (st:NoE others (run ones others x ks)=true) (i:Nat):js.count i≤ks.count i:=by
 by_cases hi:i<ones.length
 · have w:=walk_of p hx hno h
   have w':=walk_of p hx hno k
   have:=Walk.le w w' (fun z=>rfl) (fun z=>Int.natCast_nonneg _) (fun i hi=>by
    rw [List.take_of_length_le (Nat.le_refl _)]
    exact stop_at (noE_at st (by rw [← p.len];exact hi))) js.length (Nat.le_refl _) i hi
   have e1:js.take js.length=js:=List.take_of_length_le (Nat.le_refl _)
   have e2:ks.take ks.length=ks:=List.take_of_length_le (Nat.le_refl _)
   have this:((js.take js.length).count i:Int)≤((ks.take ks.length).count i:Int):=this
   rw [e1,e2] at this
   omega
 · rw [List.count_eq_zero.mpr fun z=>hi (h.small i z)]
   exact Nat.zero_le _
theorem conf {ones others:List (List Int)} {x:List Int} {js ks:List Nat} {n:Nat} (p:Pd ones others) (hx:x∈PB n n) (hno:NoE ones x=true) (h:Ok ones others x js) (k:Ok ones others x ks) (sj:NoE others (run ones others x js)=true) (sk:NoE others (run ones others x ks)=true):js.Perm ks∧run ones others x js=run ones others x ks:=by
 have ec:∀ i,js.count i=ks.count i:=fun i=>Nat.le_antisymm (conf_le p hx hno h k sk i) (conf_le p hx hno k h sj i)
 refine ⟨List.perm_iff_count.mpr ec,?_⟩
 have i1:=run_in p hx h js.length (Nat.le_refl _)
 have i2:=run_in p hx k ks.length (Nat.le_refl _)
 have e1:js.take js.length=js:=List.take_of_length_le (Nat.le_refl _)
 have e2:ks.take ks.length=ks:=List.take_of_length_le (Nat.le_refl _)
 have s1:=(walk_of p hx hno h).sum js.length (Nat.le_refl _)
 have s2:=(walk_of p hx hno k).sum ks.length (Nat.le_refl _)
 rw [e1] at i1
 rw [e2] at i2
 refine pb_eq i1 i2 fun z=>?_
 have a1:=s1 z
 have a2:=s2 z
 simp only [e1] at a1
 simp only [e2] at a2
 have:(fun i=>(js.count i:Int)*((ones.getD i []).count z:Int))=(fun i=>(ks.count i:Int)*((ones.getD i []).count z:Int)):=funext fun i=>by rw [ec i]
 rw [this] at a1
 have:(fun i=>(js.count i:Int)*((others.getD i []).count z:Int))=(fun i=>(ks.count i:Int)*((others.getD i []).count z:Int)):=funext fun i=>by rw [ec i]
 rw [this] at a1
 simp only [List.take_zero] at a1 a2
 omega
theorem Ok.init {ones others:List (List Int)} {x:List Int} {js:List Nat} {j:Nat} (h:Ok ones others x (js++[j])):Ok ones others x js∧j<ones.length∧inn (others.getD j []) (run ones others x js)=true:=by
 refine ⟨fun s hs=>?_,?_⟩
 · have:=h s (by rw [List.length_append];omega)
   rw [List.getElem_append_left hs,List.take_append_of_le_length (by omega)] at this
   exact this
 · have:=h js.length (by rw [List.length_append];exact Nat.lt_succ_self _)
   rw [List.getElem_append_right (Nat.le_refl _),List.take_append_of_le_length (Nat.le_refl _),List.take_of_length_le (Nat.le_refl _)] at this
   simpa using this
end M56
namespace M59
def mp (m:Nat):Nat→Nat→Nat→List Nat
 | 0,_,_=>[]
 | f+1,s,o=>if o=0 then [] else List.replicate (o % m) s++mp m f (s*m) (o / m)
def sp (m:Nat):Nat→Nat→Nat→List Nat
 | 0,p,k=>List.replicate k p
 | f+1,p,k=>if p % m=0 then sp m f (p / m) (k*m) else List.replicate k p
theorem div_lt {m o:Nat} (hm:2≤m) (ho:o≠0):o / m<o:=Nat.div_lt_self (Nat.pos_of_ne_zero ho) hm
theorem mp_fuel {m:Nat} (hm:2≤m):∀ (f g s o:Nat),o≤f→o≤g→mp m f s o=mp m g s o
 | 0,g,s,o,h1,h2=>by
   have:o=0:=by omega
   subst this
   cases g with
   | zero=>rfl
   | succ g=>rw [mp,mp,if_pos rfl]
 | f+1,0,s,o,h1,h2=>by
   have:o=0:=by omega
   subst this
   rw [mp,mp,if_pos rfl]
 | f+1,g+1,s,o,h1,h2=>by
   rw [mp,mp]
   split
   · rfl
   · rename_i ho
     have:=div_lt hm ho
     rw [mp_fuel hm f g (s*m) (o / m) (by omega) (by omega)]
theorem fac {m:Nat} (hm:2≤m):∀ (p:Nat),0<p→∃ s i,p=s*m ^ i∧s % m≠0∧0<s∧i<p:=by
 intro p
 induction p using Nat.strongRecOn with
 | ind p ih=>
   intro hp
   by_cases h:p % m=0
   · obtain ⟨s,i,e,h1,h2,h3⟩:=ih (p / m) (div_lt hm (by omega)) (Nat.div_pos (Nat.le_of_dvd hp (Nat.dvd_of_mod_eq_zero h)) (by omega))
     have hd:=div_lt hm (o:=p) (by omega)
     refine ⟨s,i+1,?_,h1,h2,by omega⟩
     rw [Nat.pow_succ,← Nat.mul_assoc,← e,Nat.div_mul_cancel (Nat.dvd_of_mod_eq_zero h)]
   · exact ⟨p,0,by simp,h,hp,hp⟩
theorem sp_is {m s:Nat} (hm:2≤m) (hs:s % m≠0):∀ (i f k:Nat),i≤f→sp m f (s*m ^ i) k=List.replicate (k*m ^ i) s
 | 0,0,k,_=>by simp [sp]
 | 0,f+1,k,_=>by rw [Nat.pow_zero,Nat.mul_one,Nat.mul_one,sp,if_neg hs]
 | i+1,0,k,h=>absurd h (by omega)
 | i+1,f+1,k,h=>by
   have e:s*m ^ (i+1)=s*m ^ i*m:=by rw [Nat.pow_succ,Nat.mul_assoc]
   rw [sp,e,if_pos (Nat.mul_mod_left _ _),Nat.mul_div_cancel _ (by omega),sp_is hm hs i f (k*m) (by omega)]
   congr 1
   rw [Nat.pow_succ,Nat.mul_assoc,Nat.mul_comm m]
def sw (m p:Nat):List Nat:=sp m p p 1
theorem sw_is {m s i:Nat} (hm:2≤m) (hs:s % m≠0) (h0:0<s):sw m (s*m ^ i)=List.replicate (m ^ i) s:=by
 unfold sw
 rw [sp_is hm hs i _ 1 (by
  have h1:i<m ^ i:=Nat.lt_pow_self (by omega)
  have h2:m ^ i≤s*m ^ i:=Nat.le_mul_of_pos_left _ h0
  omega),Nat.one_mul]
theorem flat_rep {f:Nat→List Nat} {s c:Nat} {x:Nat} (h:f x=List.replicate c s):∀ n,(List.replicate n x).flatMap f=List.replicate (n*c) s
 | 0=>by simp
 | n+1=>by rw [List.replicate_succ,List.flatMap_cons,flat_rep h n,h,List.replicate_append_replicate,Nat.succ_mul,Nat.add_comm]
theorem sw_mp {m s:Nat} (hm:2≤m) (hs:s % m≠0) (h0:0<s):∀ (f i o:Nat),o≤f→(mp m f (s*m ^ i) o).flatMap (sw m)=List.replicate (m ^ i*o) s
 | 0,i,o,h=>by
   have:o=0:=by omega
   subst this
   simp [mp]
 | f+1,i,o,h=>by
   rw [mp]
   split
   · rename_i e;subst e;simp
   · rename_i ho
     have hd:=div_lt hm ho
     rw [List.flatMap_append,flat_rep (sw_is hm hs h0),show s*m ^ i*m=s*m ^ (i+1) by rw [Nat.pow_succ,Nat.mul_assoc],sw_mp hm hs h0 f (i+1) (o / m) (by omega),List.replicate_append_replicate]
     congr 1
     rw [Nat.pow_succ,Nat.mul_assoc,Nat.mul_comm (o % m),← Nat.mul_add]
     congr 1
     rw [Nat.add_comm]
     exact Nat.div_add_mod o m
theorem mp_mem {m:Nat}:∀ (f s o:Nat) (p:Nat),p∈mp m f s o→∃ i,p=s*m ^ i
 | 0,_,_,_,h=>by cases h
 | f+1,s,o,p,h=>by
   rw [mp] at h
   split at h
   · cases h
   · rcases List.mem_append.mp h with h | h
     · exact ⟨0,by rw [(List.mem_replicate.mp h).2];simp⟩
     · obtain ⟨i,e⟩:=mp_mem f _ _ p h
       exact ⟨i+1,by rw [e,Nat.pow_succ,Nat.mul_assoc,Nat.mul_comm m]⟩
theorem mp_few {m:Nat} (hm:2≤m):∀ (f s o p:Nat),0<s→(mp m f s o).count p<m
 | 0,_,_,_,_=>by simp [mp];omega
 | f+1,s,o,p,h0=>by
   rw [mp]
   split
   · simp;omega
   · rw [List.count_append]
     have hs':0<s*m:=Nat.mul_pos h0 (by omega)
     by_cases e:p=s
     · subst e
       have z:(mp m f (p*m) (o / m)).count p=0:=List.count_eq_zero.mpr fun hp=>by
        obtain ⟨i,e⟩:=mp_mem f _ _ p hp
        have h1:p*2≤p*m:=Nat.mul_le_mul_left _ hm
        have h2:p*m≤p*m*m ^ i:=Nat.le_mul_of_pos_right _ (Nat.pow_pos (by omega))
        omega
       rw [z,List.count_replicate_self,Nat.add_zero]
       exact Nat.mod_lt _ (by omega)
     · have z:(List.replicate (o % m) s).count p=0:=List.count_eq_zero.mpr fun hp=>e (List.mem_replicate.mp hp).2
       rw [z,Nat.zero_add]
       exact mp_few hm f (s*m) (o / m) p hs'
theorem base_one {m s s':Nat} (hm:2≤m) (hs:s % m≠0) (hs':s' % m≠0):∀ {i j:Nat},s*m ^ i=s' * m ^ j→s=s'
 | 0,0,e=>by simpa using e
 | 0,j+1,e=>by
   exfalso
   rw [Nat.pow_zero,Nat.mul_one,Nat.pow_succ,← Nat.mul_assoc] at e
   exact hs (by rw [e];exact Nat.mul_mod_left _ _)
 | i+1,0,e=>by
   exfalso
   rw [Nat.pow_zero,Nat.mul_one,Nat.pow_succ,← Nat.mul_assoc] at e
   exact hs' (by rw [← e];exact Nat.mul_mod_left _ _)
 | i+1,j+1,e=>by
   rw [Nat.pow_succ,Nat.pow_succ,← Nat.mul_assoc,← Nat.mul_assoc] at e
   exact base_one hm hs hs' (Nat.eq_of_mul_eq_mul_right (by omega) e)
theorem all_few {m:Nat} (hm:2≤m) (p:Nat):∀ (ps:List (Nat×Nat)),(ps.map (·.1)).Nodup→(∀ q∈ps,q.1 % m≠0∧0<q.1)→(ps.flatMap fun q=>mp m q.2 q.1 q.2).count p<m
 | [],_,_=>by simp;omega
 | q::ps,nd,h=>by
   rw [List.map_cons] at nd
   obtain ⟨n1,n2⟩:=List.nodup_cons.mp nd
   rw [List.flatMap_cons,List.count_append]
   have hq:=h q List.mem_cons_self
   by_cases e:p∈mp m q.2 q.1 q.2
   · obtain ⟨i,ei⟩:=mp_mem _ _ _ p e
     have z:(ps.flatMap fun q=>mp m q.2 q.1 q.2).count p=0:=List.count_eq_zero.mpr fun hp=>by
      obtain ⟨r,hr,hp⟩:=List.mem_flatMap.mp hp
      obtain ⟨j,ej⟩:=mp_mem _ _ _ p hp
      have:=base_one hm hq.1 (h r (List.mem_cons_of_mem _ hr)).1 (ei.symm.trans ej)
      exact n1 (this▸List.mem_map.mpr ⟨r,hr,rfl⟩)
     rw [z,Nat.add_zero]
     exact mp_few hm _ _ _ _ hq.2
   · rw [List.count_eq_zero.mpr e,Nat.zero_add]
     exact all_few hm p ps n2 fun r hr=>h r (List.mem_cons_of_mem _ hr)
theorem all_back {m:Nat} (hm:2≤m):∀ (ps:List (Nat×Nat)),(∀ q∈ps,q.1 % m≠0∧0<q.1)→(ps.flatMap fun q=>mp m q.2 q.1 q.2).flatMap (sw m)=ps.flatMap fun q=>List.replicate q.2 q.1
 | [],_=>rfl
 | q::ps,h=>by
   obtain ⟨h1,h2⟩:=h q List.mem_cons_self
   have e:=sw_mp hm h1 h2 q.2 0 q.2 (Nat.le_refl _)
   rw [Nat.pow_zero,Nat.mul_one,Nat.one_mul] at e
   rw [List.flatMap_cons,List.flatMap_append,List.flatMap_cons,e,all_back hm ps fun r hr=>h r (List.mem_cons_of_mem _ hr)]
theorem sw_mul {m k:Nat} (hm:2≤m) (hk:0<k):sw m (k*m)=(List.replicate m k).flatMap (sw m):=by
 obtain ⟨s,i,rfl,h1,h2,_⟩:=fac hm k hk
 rw [show s*m ^ i*m=s*m ^ (i+1) by rw [Nat.pow_succ,Nat.mul_assoc],sw_is hm h1 h2,flat_rep (sw_is hm h1 h2)]
 congr 1
 rw [Nat.pow_succ,Nat.mul_comm]
end M59
namespace M59
open M04 M54 M55 MP M56
theorem lenLe:∀ {x:List Int},(∀ p∈x,(1:Int)≤p)→(x.length:Int)≤x.sum
 | [],_=>Int.le_refl _
 | a::x,h=>by
   have:=lenLe (x:=x) fun p hp=>h p (List.mem_cons_of_mem _ hp)
   have:=h a List.mem_cons_self
   rw [List.sum_cons,List.length_cons]
   omega
theorem sumLe:∀ {x:List Int} {p:Int},(∀ p∈x,(1:Int)≤p)→p∈x→p≤x.sum
 | [],_,_,hp=>by cases hp
 | a::x,p,h,hp=>by
   have l:=lenLe (x:=x) fun p hp=>h p (List.mem_cons_of_mem _ hp)
   rw [List.sum_cons]
   rcases List.mem_cons.mp hp with rfl | hp
   · omega
   · have:=sumLe (fun p hp=>h p (List.mem_cons_of_mem _ hp)) hp
     have:=h a List.mem_cons_self
     omega
def fA (m K:Nat):List (List Int):=(List.range K).map fun (k:Nat)=>[(((k+1)*m:Nat):Int)]
def fB (m K:Nat):List (List Int):=(List.range K).map fun (k:Nat)=>List.replicate m ((k+1:Nat):Int)
theorem map_apart {f:Nat→List Int} (h:∀ a b,a≠b→∀ x∈f a,x∉f b):∀ {ks:List Nat},ks.Nodup→Apart (ks.map f)
 | [],_=>trivial
 | k::r,nd=>by
   obtain ⟨h1,h2⟩:=List.nodup_cons.mp nd
   refine ⟨fun g hg x hx=>?_,map_apart h h2⟩
   obtain ⟨k',hk',rfl⟩:=List.mem_map.mp hg
   exact h k k' (fun z=>h1 (z▸hk')) x hx
theorem rep_sum (n:Nat) (x:Int):(List.replicate n x).sum=(n:Int)*x:=by
 induction n with
 | zero=>simp
 | succ n ih=>rw [List.replicate_succ,List.sum_cons,ih,Int.natCast_succ,Int.add_mul,Int.one_mul,Int.add_comm]
theorem f_pd {m:Nat} (hm:2≤m) (K:Nat):Pd (fA m K) (fB m K):=by
 refine ⟨by unfold fA fB;rw [List.length_map,List.length_map],?_,?_,?_,?_,?_⟩
 · intro e he z hz
   obtain ⟨k,_,rfl⟩:=List.mem_map.mp he
   rw [List.mem_singleton.mp hz]
   have:=Nat.mul_pos (Nat.succ_pos k) (show 0<m by omega)
   show (1:Int)≤(((k+1)*m:Nat):Int)
   have e:(k+1)*m=(Nat.succ k)*m:=rfl
   omega
 · intro e he z hz
   obtain ⟨k,_,rfl⟩:=List.mem_map.mp he
   rw [(List.mem_replicate.mp hz).2];omega
 · refine map_apart (fun a b ne x hx z=>?_) List.nodup_range
   rw [List.mem_singleton.mp hx] at z
   have e:=Int.ofNat_inj.mp (List.mem_singleton.mp z)
   have:=Nat.eq_of_mul_eq_mul_right (show 0<m by omega) e
   omega
 · refine map_apart (fun a b ne x hx z=>?_) List.nodup_range
   rw [(List.mem_replicate.mp hx).2] at z
   have e:=Int.ofNat_inj.mp (List.mem_replicate.mp z).2
   omega
 · unfold fA fB
   rw [List.map_map,List.map_map]
   refine List.map_congr_left fun k _=>?_
   show [(((k+1)*m:Nat):Int)].sum=(List.replicate m ((k+1:Nat):Int)).sum
   rw [rep_sum,List.sum_singleton,Int.natCast_mul,Int.mul_comm]
theorem fA_at {m K k:Nat} (h:k<K):(fA m K).getD k []=[(((k+1)*m:Nat):Int)]:=by unfold fA;rw [List.getD_eq_getElem?_getD,List.getElem?_map,List.getElem?_range h];rfl
theorem fB_at {m K k:Nat} (h:k<K):(fB m K).getD k []=List.replicate m ((k+1:Nat):Int):=by unfold fB;rw [List.getD_eq_getElem?_getD,List.getElem?_map,List.getElem?_range h];rfl
def spl (m:Nat) (y:List Int):List Nat:=y.flatMap fun p=>sw m p.toNat
theorem spl_perm {m:Nat} {x y:List Int} (h:x.Perm y):(spl m x).Perm (spl m y):=h.flatMap_right _
theorem spl_app (m:Nat) (x y:List Int):spl m (x++y)=spl m x++spl m y:=by unfold spl;rw [List.flatMap_append]
theorem spl_rep (m k:Nat):∀ c,spl m (List.replicate c (k:Int))=(List.replicate c k).flatMap (sw m)
 | 0=>rfl
 | c+1=>by
   rw [List.replicate_succ,List.replicate_succ,List.flatMap_cons,← spl_rep m k c]
   unfold spl
   rw [List.flatMap_cons,Int.toNat_natCast]
theorem spl_go {m k n:Nat} {x e f:List Int} (hm:2≤m) (hx:x∈PB n n) (he:inn e x=true) (h1:∀ z∈e,(1:Int)≤z) (h2:∀ z∈f,(1:Int)≤z) (s:(spl m e).Perm (spl m f)):(spl m (go x e f)).Perm (spl m x):=by
 obtain ⟨x1,x2,x3⟩:=pb_iff.mp hx
 obtain ⟨y,y1,y2,y3,y4⟩:=taken x1 x2 h1 he
 have el:ls x e=some y:=by rw [← y4];exact ls_bt y2 y1 h1
 have eg:go x e f=bt y f:=by unfold go;rw [el];rfl
 have p1:=bt_perm y1 h2
 have p2:=bt_perm y1 h1
 rw [y4] at p2
 rw [eg]
 refine (spl_perm p1).trans ?_
 rw [spl_app]
 refine (List.Perm.append_left _ s.symm).trans ?_
 rw [← spl_app]
 exact (spl_perm p2).symm
theorem spl_pair {m k:Nat} (hm:2≤m) (hk:0<k):(spl m [((k*m:Nat):Int)]).Perm (spl m (List.replicate m (k:Int))):=by
 rw [spl_rep,← sw_mul hm hk]
 unfold spl
 rw [List.flatMap_cons,List.flatMap_nil,List.append_nil,Int.toNat_natCast]
def Free (m:Nat) (x:List Int):Prop:=∀ p∈x,p.toNat % m≠0
theorem sw_one {m p:Nat} (hm:2≤m) (h:p % m≠0) (h0:0<p):sw m p=[p]:=by
 have:=sw_is (i:=0) hm h h0
 rw [Nat.pow_zero,Nat.mul_one] at this
 exact this
theorem spl_free {m:Nat} (hm:2≤m):∀ {x:List Int},Free m x→(∀ p∈x,(1:Int)≤p)→spl m x=x.map Int.toNat
 | [],_,_=>rfl
 | p::x,h,h1=>by
   have e:=sw_one hm (h p List.mem_cons_self) (by have:=h1 p List.mem_cons_self;omega)
   unfold spl
   rw [List.flatMap_cons,e,List.map_cons]
   have ih:=spl_free hm (x:=x) (fun q hq=>h q (List.mem_cons_of_mem _ hq)) fun q hq=>h1 q (List.mem_cons_of_mem _ hq)
   unfold spl at ih
   rw [ih]
   rfl
theorem toNat_perm {x y:List Int} (hx:∀ p∈x,(1:Int)≤p) (hy:∀ p∈y,(1:Int)≤p) (h:(x.map Int.toNat).Perm (y.map Int.toNat)):x.Perm y:=by
 have back:∀ {l:List Int},(∀ p∈l,(1:Int)≤p)→(l.map Int.toNat).map (fun (n:Nat)=>(n:Int))=l:=fun {l} hl=>by
  rw [List.map_map]
  refine (List.map_congr_left fun p hp=>?_).trans (List.map_id _)
  have:=hl p hp
  show ((p.toNat:Nat):Int)=p
  omega
 have:=h.map fun (n:Nat)=>(n:Int)
 rwa [back hx,back hy] at this
theorem perm_pb {n:Nat} {x y:List Int} (hx:x∈PB n n) (hy:y∈PB n n) (h:x.Perm y):x=y:=pb_eq hx hy fun z=>h.count_eq z
theorem reach {m n K:Nat} (hm:2≤m) (hK:n≤K) {z:List Int} (hz:z∈PB n n) (fz:Free m z):∀ (d:Nat) (y:List Int),n - y.length=d→y∈PB n n→(spl m y).Perm (spl m z)→∃ js,Ok (fA m K) (fB m K) z js∧run (fA m K) (fB m K) z js=y:=by
 intro d
 induction d using Nat.strongRecOn with
 | ind d ih=>
   intro y ed hy hs
   obtain ⟨y1,y2,y3⟩:=pb_iff.mp hy
   obtain ⟨z1,z2,z3⟩:=pb_iff.mp hz
   by_cases fy:Free m y
   · refine ⟨[],fun s hs=>absurd hs (Nat.not_lt_zero _),?_⟩
     rw [spl_free hm fy y1,spl_free hm fz z1] at hs
     exact perm_pb hz hy (toNat_perm z1 y1 hs.symm)
   · obtain ⟨p,hp,hpm⟩:∃ p∈y,p.toNat % m=0:=Classical.byContradiction fun no=>fy fun p hp z=>no ⟨p,hp,z⟩
     have p1:=y1 p hp
     obtain ⟨k,ek⟩:∃ k,p.toNat=k*m:=⟨p.toNat / m,(Nat.div_mul_cancel (Nat.dvd_of_mod_eq_zero hpm)).symm⟩
     have k0:0<k:=Nat.pos_of_ne_zero fun z=>by rw [z,Nat.zero_mul] at ek;omega
     have ep:p=((k*m:Nat):Int):=by rw [← ek];omega
     have ple:p≤(n:Int):=by
      have:=(sumLe y1 hp)
      omega
     have kn:k≤n:=by
      have:k*1≤k*m:=Nat.mul_le_mul_left _ (by omega)
      omega
     have b1:∀ q∈[((k*m:Nat):Int)],(1:Int)≤q:=fun q hq=>by rw [List.mem_singleton.mp hq,← ep];exact p1
     have b2:∀ q∈List.replicate m (k:Int),(1:Int)≤q:=fun q hq=>by rw [(List.mem_replicate.mp hq).2];omega
     have sm:[((k*m:Nat):Int)].sum=(List.replicate m (k:Int)).sum:=by rw [rep_sum,List.sum_singleton,Int.natCast_mul,Int.mul_comm]
     have st:inn [((k*m:Nat):Int)] y=true:=(inn_iff _ _).mpr fun q=>by
      by_cases c:q=((k*m:Nat):Int)
      · subst c;rw [List.count_singleton_self];exact List.count_pos_iff.mpr (ep▸hp)
      · rw [List.count_eq_zero.mpr fun z=>c (List.mem_singleton.mp z)];exact Nat.zero_le _
     have g:=go_ok hy st b1 b2 sm
     generalize ey:go y [((k*m:Nat):Int)] (List.replicate m (k:Int))=y' at g
     have sp':(spl m y').Perm (spl m y):=by rw [← ey];exact spl_go (k:=k) hm hy st b1 b2 (spl_pair hm k0)
     have len:y'.length+1=y.length+m:=by
      have pm:(y'++[((k*m:Nat):Int)]).Perm (y++List.replicate m (k:Int)):=List.perm_iff_count.mpr fun q=>by
       rw [List.count_append,List.count_append]
       have:=g.2 q
       omega
      have:=pm.length_eq
      rw [List.length_append,List.length_append,List.length_replicate,List.length_singleton] at this
      exact this
     have yl:y'.length≤n:=by
      have:=lenLe (pb_iff.mp g.1).1
      have:=(pb_iff.mp g.1).2.2
      omega
     obtain ⟨js,j1,j2⟩:=ih (n - y'.length) (by omega) y' rfl g.1 (sp'.trans hs)
     obtain ⟨k',rfl⟩:∃ k',k=k' + 1:=⟨k - 1,by omega⟩
     have kK:k' < K:=by omega
     have st2:inn (List.replicate m ((k' + 1:Nat):Int)) y'=true:=(inn_iff _ _).mpr fun q=>by
      have:=g.2 q
      have hle:=(inn_iff _ _).mp st q
      omega
     refine ⟨js++[k'],Ok.snoc j1 (by unfold fA;rw [List.length_map,List.length_range];exact kK) (by rw [fB_at kK,j2];exact st2),?_⟩
     rw [run_snoc,j2,fA_at kK,fB_at kK]
     have g2:=go_ok g.1 st2 b2 b1 sm.symm
     refine pb_eq g2.1 hy fun q=>?_
     have a1:=g.2 q
     have a2:=g2.2 q
     omega
def Few (m:Nat) (y:List Int):Prop:=∀ p,y.count p<m
theorem few_no {m K:Nat} {y:List Int} (h:Few m y):NoE (fB m K) y=true:=by
 unfold NoE
 rw [List.any_eq_false.mpr]
 · rfl
 · intro e he z
   obtain ⟨k,_,rfl⟩:=List.mem_map.mp he
   have:=(inn_iff _ _).mp z ((k+1:Nat):Int)
   rw [List.count_replicate_self] at this
   have:=h ((k+1:Nat):Int)
   omega
theorem few_one {m n:Nat} (hm:2≤m) {z y1 y2:List Int} (hz:z∈PB n n) (fz:Free m z) (h1:y1∈PB n n) (h2:y2∈PB n n) (s1:(spl m y1).Perm (spl m z)) (s2:(spl m y2).Perm (spl m z)) (f1:Few m y1) (f2:Few m y2):y1=y2:=by
 obtain ⟨js,j1,rfl⟩:=reach hm (Nat.le_refl n) hz fz _ y1 rfl h1 s1
 obtain ⟨ks,k1,rfl⟩:=reach hm (Nat.le_refl n) hz fz _ y2 rfl h2 s2
 have no:NoE (fA m n) z=true:=by
  unfold NoE
  rw [List.any_eq_false.mpr]
  · rfl
  · intro e he c
    obtain ⟨k,_,rfl⟩:=List.mem_map.mp he
    have:=(inn_iff _ _).mp c (((k+1)*m:Nat):Int)
    rw [List.count_singleton_self] at this
    exact fz _ (List.count_pos_iff.mp this) (by rw [Int.toNat_natCast];exact Nat.mul_mod_left _ _)
 exact (conf (f_pd hm n) hz no j1 k1 (few_no f1) (few_no f2)).2
structure Cnt (x:List Int) (ps:List (Int×Int)):Prop where
 nd:(ps.map Prod.fst).Nodup
 is:∀ q∈ps,q.2=(x.count q.1:Int)
 key:∀ v,v∈ps.map Prod.fst↔v∈x
theorem cnt_tally (x:List Int):Cnt x (tally x):=⟨tally_nd x,fun q hq=>tally_count (by obtain ⟨a,b⟩:=q;exact hq),fun v=>tally_keys x v⟩
def nat (ps:List (Int×Int)):List (Nat×Nat):=ps.map fun q=>(q.1.toNat,q.2.toNat)
theorem rep_count {N:Nat→Nat} (v:Nat):∀ ps:List (Nat×Nat),(ps.map (·.1)).Nodup→(∀ q∈ps,q.2=N q.1)→(ps.flatMap fun q=>List.replicate q.2 q.1).count v=if v∈ps.map (·.1) then N v else 0
 | [],_,_=>by simp
 | q::ps,nd,h=>by
   rw [List.map_cons] at nd
   obtain ⟨n1,n2⟩:=List.nodup_cons.mp nd
   rw [List.flatMap_cons,List.count_append,rep_count v ps n2 fun r hr=>h r (List.mem_cons_of_mem _ hr),List.map_cons]
   by_cases e:v=q.1
   · subst e
     rw [List.count_replicate_self,if_neg n1,if_pos List.mem_cons_self,h q List.mem_cons_self]
     rfl
   · rw [List.count_eq_zero.mpr fun z=>e (List.mem_replicate.mp z).2,Nat.zero_add]
     have:(v∈ps.map (·.1))↔v∈q.1::ps.map (·.1):=⟨List.mem_cons_of_mem _,fun z=>(List.mem_cons.mp z).resolve_left e⟩
     simp only [this]
theorem Cnt.nodup {x:List Int} {ps:List (Int×Int)} (h:Cnt x ps) (h1:∀ p∈x,(1:Int)≤p):((nat ps).map (·.1)).Nodup:=by
 have e:(nat ps).map (·.1)=(ps.map Prod.fst).map Int.toNat:=by unfold nat;rw [List.map_map,List.map_map];rfl
 rw [e]
 unfold List.Nodup
 rw [List.pairwise_map]
 refine List.Pairwise.imp_of_mem (fun {a b} ha hb ne z=>ne ?_) h.nd
 have:=h1 a ((h.key a).mp ha)
 have:=h1 b ((h.key b).mp hb)
 omega
theorem Cnt.flat {x:List Int} {ps:List (Int×Int)} (h:Cnt x ps) (h1:∀ p∈x,(1:Int)≤p):((nat ps).flatMap fun q=>List.replicate q.2 q.1).Perm (x.map Int.toNat):=by
 refine List.perm_iff_count.mpr fun v=>?_
 rw [rep_count (N:=fun v=>x.count (v:Int)) v (nat ps) (h.nodup h1) fun q hq=>by
  obtain ⟨r,hr,rfl⟩:=List.mem_map.mp hq
  have:=h.is r hr
  have h2:=h1 r.1 ((h.key r.1).mp (List.mem_map.mpr ⟨r,hr,rfl⟩))
  show r.2.toNat=x.count ((r.1.toNat:Nat):Int)
  rw [show ((r.1.toNat:Nat):Int)=r.1 by omega]
  omega]
 have cm:(x.map Int.toNat).count v=if 1≤v then x.count (v:Int) else 0:=by
  have:∀ l:List Int,(∀ p∈l,(1:Int)≤p)→(l.map Int.toNat).count v=if 1≤v then l.count (v:Int) else 0:=fun l=>by
   induction l with
   | nil=>intro _;simp
   | cons a l ih=>
     intro hl
     have ha:=hl a List.mem_cons_self
     rw [List.map_cons,List.count_cons,List.count_cons,ih fun p hp=>hl p (List.mem_cons_of_mem _ hp)]
     by_cases c:1≤v
     · rw [if_pos c,if_pos c]
       congr 1
       by_cases d:a.toNat=v
       · rw [if_pos (by simpa using d),if_pos (by simp;omega)]
       · rw [if_neg (by simpa using d),if_neg (by simp;omega)]
     · rw [if_neg c,if_neg c,if_neg (by simp;omega)]
  exact this x h1
 rw [cm]
 have kk:v∈(nat ps).map (·.1)↔(1≤v∧(v:Int)∈x):=by
  constructor
  · intro hv
    obtain ⟨q,hq,rfl⟩:=List.mem_map.mp hv
    obtain ⟨r,hr,rfl⟩:=List.mem_map.mp hq
    have hx:=(h.key r.1).mp (List.mem_map.mpr ⟨r,hr,rfl⟩)
    have:=h1 _ hx
    refine ⟨by show 1≤r.1.toNat;omega,?_⟩
    show ((r.1.toNat:Nat):Int)∈x
    rw [show ((r.1.toNat:Nat):Int)=r.1 by omega]
    exact hx
  · rintro ⟨h2,h3⟩
    obtain ⟨r,hr,e⟩:=List.mem_map.mp ((h.key _).mpr h3)
    refine List.mem_map.mpr ⟨_,List.mem_map.mpr ⟨r,hr,rfl⟩,?_⟩
    show r.1.toNat=v
    rw [e];omega
 by_cases c:1≤v
 · rw [if_pos c]
   by_cases d:(v:Int)∈x
   · rw [if_pos (kk.mpr ⟨c,d⟩)]
   · rw [if_neg fun z=>d (kk.mp z).2,List.count_eq_zero.mpr d]
 · rw [if_neg c,if_neg fun z=>c (kk.mp z).1]
def mgl (m:Nat) (ps:List (Int×Int)):List Nat:=(nat ps).flatMap fun q=>mp m q.2 q.1 q.2
theorem mp_sum {m:Nat} (hm:2≤m):∀ (f s o:Nat),o≤f→(mp m f s o).sum=s*o
 | 0,s,o,h=>by
   have:o=0:=by omega
   subst this;simp [mp]
 | f+1,s,o,h=>by
   rw [mp]
   split
   · rename_i e;subst e;simp
   · rename_i ho
     have:=div_lt hm ho
     rw [List.sum_append,List.sum_replicate_nat,mp_sum hm f _ _ (by omega),Nat.mul_assoc,Nat.mul_comm (o % m),← Nat.mul_add,Nat.add_comm,Nat.div_add_mod]
theorem mgl_sum {m:Nat} (hm:2≤m):∀ ps:List (Nat×Nat),(ps.flatMap fun q=>mp m q.2 q.1 q.2).sum=(ps.flatMap fun q=>List.replicate q.2 q.1).sum
 | []=>rfl
 | q::ps=>by rw [List.flatMap_cons,List.flatMap_cons,List.sum_append,List.sum_append,mgl_sum hm ps,mp_sum hm _ _ _ (Nat.le_refl _),List.sum_replicate_nat,Nat.mul_comm]
def toI (l:List Nat):List Int:=l.map fun (n:Nat)=>(n:Int)
theorem toI_sum (l:List Nat):(toI l).sum=((l.sum:Nat):Int):=by
 unfold toI
 induction l with
 | nil=>rfl
 | cons a l ih=>rw [List.map_cons,List.sum_cons,ih,List.sum_cons];omega
theorem toI_nat {l:List Int} (hl:∀ p∈l,(1:Int)≤p):toI (l.map Int.toNat)=l:=by
 unfold toI
 rw [List.map_map]
 refine (List.map_congr_left fun p hp=>?_).trans (List.map_id _)
 have:=hl p hp
 show ((p.toNat:Nat):Int)=p
 omega
theorem nat_toI (l:List Nat):(toI l).map Int.toNat=l:=by
 unfold toI
 rw [List.map_map]
 exact (List.map_congr_left fun p _=>Int.toNat_natCast p).trans (List.map_id _)
structure Mg (m n:Nat) (x y:List Int):Prop where
 pb:y∈PB n n
 few:Few m y
 spl:(spl m y).Perm (spl m x)
theorem Mg.one {m n:Nat} (hm:2≤m) {x y1 y2:List Int} (hx:x∈PB n n) (fx:Free m x) (h1:Mg m n x y1) (h2:Mg m n x y2):y1=y2:=few_one hm hx fx h1.pb h2.pb h1.spl h2.spl h1.few h2.few
theorem mp_pos {m:Nat} (hm:2≤m) {f s o p:Nat} (h0:0<s) (h:p∈mp m f s o):0<p:=by
 obtain ⟨i,rfl⟩:=mp_mem f s o p h
 exact Nat.mul_pos h0 (Nat.pow_pos (by omega))
theorem sum_perm {a b:List Nat} (h:a.Perm b):a.sum=b.sum:=by
 induction h with
 | nil=>rfl
 | cons x _ ih=>rw [List.sum_cons,List.sum_cons,ih]
 | swap x y l=>simp only [List.sum_cons];omega
 | trans _ _ i1 i2=>exact i1.trans i2
theorem isum_perm {a b:List Int} (h:a.Perm b):a.sum=b.sum:=by
 induction h with
 | nil=>rfl
 | cons x _ ih=>rw [List.sum_cons,List.sum_cons,ih]
 | swap x y l=>simp only [List.sum_cons];omega
 | trans _ _ i1 i2=>exact i1.trans i2
theorem mg_of {m n:Nat} (hm:2≤m) {x y:List Int} {ps:List (Int×Int)} (hx:x∈PB n n) (fx:Free m x) (c:Cnt x ps) (pm:y.Perm (toI (mgl m ps))) (pw:y.Pairwise (·≥·)):Mg m n x y:=by
 obtain ⟨x1,x2,x3⟩:=pb_iff.mp hx
 have good:∀ q∈nat ps,q.1 % m≠0∧0<q.1:=fun q hq=>by
  obtain ⟨r,hr,rfl⟩:=List.mem_map.mp hq
  have hk:=(c.key r.1).mp (List.mem_map.mpr ⟨r,hr,rfl⟩)
  have:=x1 _ hk
  exact ⟨fx _ hk,by show 0<r.1.toNat;omega⟩
 have pos:∀ p∈y,(1:Int)≤p:=fun p hp=>by
  obtain ⟨k,hk,rfl⟩:=List.mem_map.mp (pm.mem_iff.mp hp)
  obtain ⟨q,hq,hk⟩:=List.mem_flatMap.mp hk
  have:=mp_pos hm (good q hq).2 hk
  omega
 have ny:(y.map Int.toNat).Perm (mgl m ps):=by have:=pm.map Int.toNat;rwa [nat_toI] at this
 refine ⟨pb_iff.mpr ⟨pos,pw,?_⟩,fun p=>?_,?_⟩
 · rw [isum_perm pm,toI_sum]
   unfold mgl
   rw [mgl_sum hm,sum_perm (c.flat x1)]
   have:=toI_sum (x.map Int.toNat)
   rw [toI_nat x1,x3] at this
   omega
 · rw [pm.count_eq]
   by_cases hp:p∈toI (mgl m ps)
   · obtain ⟨k,hk,rfl⟩:=List.mem_map.mp hp
     have e:(toI (mgl m ps)).count (k:Int)=(mgl m ps).count k:=by
      have:∀ l:List Nat,(toI l).count (k:Int)=l.count k:=fun l=>by
       unfold toI
       induction l with
       | nil=>rfl
       | cons a l ih=>
         rw [List.map_cons,List.count_cons,List.count_cons,ih]
         congr 1
         by_cases d:a=k
         · subst d;simp
         · rw [if_neg (by simp;omega),if_neg (by simpa using d)]
      exact this _
     rw [e]
     exact all_few hm k (nat ps) (c.nodup x1) good
   · rw [List.count_eq_zero.mpr hp];omega
 · have e1:spl m y=(y.map Int.toNat).flatMap (sw m):=by unfold spl;rw [List.flatMap_map]
   have e2:spl m x=(x.map Int.toNat).flatMap (sw m):=by unfold spl;rw [List.flatMap_map]
   rw [e1]
   refine (ny.flatMap_right _).trans ?_
   unfold mgl
   rw [all_back hm (nat ps) good]
   rw [spl_free hm fx x1]
   exact c.flat x1
theorem cnt_runs {x:List Int} (h:x.Pairwise (·≥·)):Cnt x (M02.runs x):=by
 have o:=M02.ok_of h
 refine ⟨?_,fun q hq=>((o.mem q.1 q.2).mp hq).1,fun v=>⟨fun hv=>?_,fun hv=>?_⟩⟩
 · unfold List.Nodup
   rw [List.pairwise_map]
   exact o.pw.imp fun {a b} g z=>by omega
 · obtain ⟨q,hq,rfl⟩:=List.mem_map.mp hv
   exact List.count_pos_iff.mp ((o.mem q.1 q.2).mp hq).2
 · exact List.mem_map.mpr ⟨(v,(x.count v:Int)),(o.mem _ _).mpr ⟨rfl,List.count_pos_iff.mpr hv⟩,rfl⟩
theorem sw_fine {m p:Nat} (hm:2≤m) (hp:0<p):(∀ q∈sw m p,q % m≠0∧0<q)∧(sw m p).sum=p:=by
 obtain ⟨s,i,rfl,h1,h2,_⟩:=fac hm p hp
 rw [sw_is hm h1 h2]
 refine ⟨fun q hq=>by rw [(List.mem_replicate.mp hq).2];exact ⟨h1,h2⟩,?_⟩
 rw [List.sum_replicate_nat,Nat.mul_comm]
theorem spl_fine {m:Nat} (hm:2≤m):∀ {y:List Int},(∀ p∈y,(1:Int)≤p)→(∀ q∈spl m y,q % m≠0∧0<q)∧(((spl m y).sum:Nat):Int)=y.sum
 | [],_=>⟨fun q hq=>(List.not_mem_nil hq).elim,rfl⟩
 | p::y,h=>by
   have hp:=h p List.mem_cons_self
   obtain ⟨a1,a2⟩:=sw_fine hm (p:=p.toNat) (by omega)
   obtain ⟨b1,b2⟩:=spl_fine hm (y:=y) fun q hq=>h q (List.mem_cons_of_mem _ hq)
   have e:spl m (p::y)=sw m p.toNat++spl m y:=by unfold spl;rw [List.flatMap_cons]
   rw [e]
   refine ⟨fun q hq=>?_,?_⟩
   · rcases List.mem_append.mp hq with k | k
     · exact a1 q k
     · exact b1 q k
   · rw [List.sum_append,a2,List.sum_cons];omega
structure Sl (m n:Nat) (y z:List Int):Prop where
 pb:z∈PB n n
 free:Free m z
 perm:(z.map Int.toNat).Perm (spl m y)
theorem sl_of {m n:Nat} (hm:2≤m) {y z:List Int} (hy:y∈PB n n) (pm:z.Perm (toI (spl m y))) (pw:z.Pairwise (·≥·)):Sl m n y z:=by
 obtain ⟨y1,y2,y3⟩:=pb_iff.mp hy
 obtain ⟨b1,b2⟩:=spl_fine hm y1
 have all:∀ p∈z,∃ k:Nat,k∈spl m y∧p=(k:Int):=fun p hp=>by
  obtain ⟨k,hk,e⟩:=List.mem_map.mp (pm.mem_iff.mp hp)
  exact ⟨k,hk,e.symm⟩
 refine ⟨pb_iff.mpr ⟨fun p hp=>?_,pw,?_⟩,fun p hp=>?_,?_⟩
 · obtain ⟨k,hk,rfl⟩:=all p hp
   have:=(b1 k hk).2
   omega
 · rw [isum_perm pm,toI_sum,b2,y3]
 · obtain ⟨k,hk,rfl⟩:=all p hp
   rw [Int.toNat_natCast]
   exact (b1 k hk).1
 · have:=pm.map Int.toNat
   rwa [nat_toI] at this
theorem Sl.spl {m n:Nat} (hm:2≤m) {y z:List Int} (h:Sl m n y z):(M59.spl m z).Perm (M59.spl m y):=by
 rw [spl_free hm h.free (pb_iff.mp h.pb).1]
 exact h.perm
theorem Sl.one {m n:Nat} {y z1 z2:List Int} (h1:Sl m n y z1) (h2:Sl m n y z2):z1=z2:=
 perm_pb h1.pb h2.pb (toNat_perm (pb_iff.mp h1.pb).1 (pb_iff.mp h2.pb).1 (h1.perm.trans h2.perm.symm))
theorem Mg.split {m n:Nat} (hm:2≤m) {x y z:List Int} (hx:x∈PB n n) (fx:Free m x) (h:Mg m n x y) (s:Sl m n y z):z=x:=by
 refine perm_pb s.pb hx (toNat_perm (pb_iff.mp s.pb).1 (pb_iff.mp hx).1 ?_)
 have:=s.perm.trans h.spl
 rwa [spl_free hm fx (pb_iff.mp hx).1] at this
theorem Sl.merge {m n:Nat} (hm:2≤m) {y z w:List Int} (hy:y∈PB n n) (fy:Few m y) (s:Sl m n y z) (h:Mg m n z w):w=y:=
 Mg.one hm s.pb s.free h ⟨hy,fy,(s.spl hm).symm⟩
theorem walk_spl {m n:Nat} (hm:2≤m) {ks:List Nat} (k0:∀ k∈ks,0<k) {x:List Int} (hx:x∈PB n n) (p:Pd (ks.map fun (k:Nat)=>[((k*m:Nat):Int)]) (ks.map fun (k:Nat)=>List.replicate m (k:Int))):∀ (l:Nat) (js:List Nat),js.length=l→Ok (ks.map fun (k:Nat)=>[((k*m:Nat):Int)]) (ks.map fun (k:Nat)=>List.replicate m (k:Int)) x js→(spl m (run (ks.map fun (k:Nat)=>[((k*m:Nat):Int)]) (ks.map fun (k:Nat)=>List.replicate m (k:Int)) x js)).Perm (spl m x)
 | 0,js,e,_=>by rw [List.length_eq_zero_iff.mp e];exact .refl _
 | l+1,js,e,h=>by
   obtain ⟨r,j,rfl⟩:∃ r j,js=r++[j]:=⟨js.dropLast,js.getLast (fun z=>by rw [z] at e;cases e),(List.dropLast_concat_getLast _).symm⟩
   obtain ⟨h1,hj,hi⟩:=h.init
   have ih:=walk_spl hm k0 hx p l r (by rw [List.length_append] at e;exact Nat.succ.inj e) h1
   have yin:=run_in p hx h1 r.length (Nat.le_refl _)
   rw [List.take_of_length_le (Nat.le_refl _)] at yin
   rw [List.length_map] at hj
   have ga:(ks.map fun (k:Nat)=>[((k*m:Nat):Int)]).getD j []=[((ks[j]*m:Nat):Int)]:=by rw [List.getD_eq_getElem?_getD,List.getElem?_map,List.getElem?_eq_getElem hj];rfl
   have gb:(ks.map fun (k:Nat)=>List.replicate m (k:Int)).getD j []=List.replicate m ((ks[j]:Nat):Int):=by rw [List.getD_eq_getElem?_getD,List.getElem?_map,List.getElem?_eq_getElem hj];rfl
   have kp:=k0 _ (List.getElem_mem hj)
   rw [run_snoc,ga,gb]
   rw [gb] at hi
   refine (spl_go (k:=ks[j]) hm yin hi (fun z hz=>by rw [(List.mem_replicate.mp hz).2];omega) (fun z hz=>by
    rw [List.mem_singleton.mp hz]
    have:=Nat.mul_pos kp (show 0<m by omega)
    omega) (spl_pair hm kp).symm).trans ih
end M59
namespace K59
open PySem L2 M04 M54 M55 MP M56 M59
theorem mp_len {m:Nat} (hm:2≤m):∀ (f s o:Nat),o≤f→(mp m f s o).length≤o
 | 0,_,_,_=>Nat.zero_le _
 | f+1,s,o,h=>by
   rw [mp]
   split
   · exact Nat.zero_le _
   · rename_i ho
     have hd:=div_lt hm ho
     have:=mp_len hm f (s*m) (o / m) (by omega)
     rw [List.length_append,List.length_replicate]
     have h1:=Nat.div_add_mod o m
     have h2:1*(o / m)≤m*(o / m):=Nat.mul_le_mul_right _ (by omega)
     omega
section
variable {P:Program} {w:World} {K:PySem.W.Frag} {mg:Str→Option Value} {base:Heap} {f:Addr} {fd:FuncData}
theorem sc_mpt:FnScope ["size","often","m","told"] ["size","often","m"] (defScope (top 15)):=⟨rfl,rfl,rfl,by decide +kernel,rfl,by decide +kernel,by decide +kernel⟩
def sp_mpt:Sp:=fun vs H Q _=>∃ (s o m:Nat),vs=[.int s,.int o,.int m]∧2≤m∧m≤60∧o≤300∧∀ p H',H p=none→Same H H'→H' p=some (.lst ((toI (mp m o s o)).map V.int))→Q (.ref p) H'
theorem ok_mpt (F:Fun K "merged_parts" "merged_parts" (top 15) f fd)  : FnOk P w K mg base CX0 1 f fd ["size","often","m"] sp_mpt:=by
 refine F.okz sc_mpt (fun vs H Q E h=>?_) (fun cdv A outer s H vs Q E hr h=>?_)
 · obtain ⟨s,o,m,rfl,_⟩:=h;rfl
 obtain ⟨sz,o,m,rfl,m2,m60,o300,q⟩:=h
 have nd:=sc_mpt.nd
 refine ⟨_,(zss_cons (zs_set (i:=3) nd rfl (Or.inl rfl) (ze_lst za_nil))
  (zss_cons (zs_while PassesOwn.never (zt_cmpP op_gtP (zn 1) ze_int (nomark _)) (zss_cons (zs_aug (i:=3) nd rfl (Or.inl rfl) (ze_op op_mulQ (ze_lst (za_cons (zn 0) za_nil)) (ze_op op_modP (zn 1) (zn 2))) ip_lst)
  (zss_cons (zs_aug (i:=0) nd rfl (Or.inl rfl) (zn 2) ip_mulP)
  (zss_one (zs_aug (i:=1) nd rfl (Or.inl rfl) (zn 2) ip_fdivP)))))
  (zss_one (zs_ret (zn 3))))),?_⟩
 refine ⟨Nat.zero_le _,fun L hL=>?_⟩
 have yL:=Same.new hL (.lst [])
 refine while_by2 (fun k σ H'=>∃ s' t,Same H H'∧k≤o∧t++mp m k s' k=mp m o sz o∧H' L=some (.lst ((toI t).map V.int))∧σ=[some (.int (s':Nat)),some (.int (k:Nat)),some (.int (m:Nat)),some (.ref L)]) o ⟨sz,[],yL,Nat.le_refl _,rfl,upd_same,rfl⟩ ?_
 rintro k σ H1 ⟨s',t,y1,ko,e,gL,rfl⟩
 refine iteD (fun c=>?_) (fun c=>?_)
 · have k0:k≠0:=by have c':(0:Int)<(k:Int):=c;omega
   have lt:=mp_len m2 o sz o (Nat.le_refl _)
   have l1:=congrArg List.length e
   rw [List.length_append] at l1
   refine ⟨fun σ' H'=>∃ m',m' < k∧∃ s' t,Same H H'∧m'≤o∧t++mp m m' s' m'=mp m o sz o∧H' L=some (.lst ((toI t).map V.int))∧σ'=[some (.int (s':Nat)),some (.int (m':Nat)),some (.int (m:Nat)),some (.ref L)],fun σ' H' h=>h,?_⟩
   have hmod:=Nat.mod_lt k (show 0<m by omega)
   refine ⟨_,rfl,by show 1≤sizeLine;decide,fun d hd=>?_⟩
   have yd:=Same.new hd (.lst [V.int (s':Nat)])
   refine ⟨(show (0:Int)<(m:Int) by omega),?_⟩
   refine ⟨⟨by omega,by omega⟩,.inl ⟨_,upd_same,le_line (show 1*((k:Int) % (m:Int)).toNat≤1000 by omega),fun d2 hd2=>?_⟩⟩
   have yd2:=Same.new hd2 (.lst (List.replicate ((k:Int) % (m:Int)).toNat [V.int (s':Nat)]).flatten)
   have gL2:=yd2 _ _ (yd _ _ gL)
   have g2:upd (upd H1 d (.lst [V.int (s':Nat)])) d2 (.lst (List.replicate ((k:Int) % (m:Int)).toNat [V.int (s':Nat)]).flatten) d2=some (.lst ((toI (List.replicate (k % m) s')).map V.int)):=by
    rw [upd_same,rep_flat,show ((k:Int) % (m:Int)).toNat=k % m by omega]
    simp only [toI,List.map_replicate]
   have z2:=y1.trans (yd.trans yd2)
   generalize upd (upd H1 d (.lst [V.int (s':Nat)])) d2 (.lst (List.replicate ((k:Int) % (m:Int)).toNat [V.int (s':Nat)]).flatten)=H2 at gL2 g2 z2
   have t1:t.length≤300:=by omega
   refine ⟨_,_,gL2,g2,by rw [List.length_map,List.length_map];unfold toI;rw [List.length_map,List.length_map,List.length_replicate];omega,?_⟩
   refine ⟨_,rfl,mulR (by omega) (by omega),?_⟩
   refine ⟨_,rfl,⟨by omega,by omega⟩,?_⟩
   have hd3:=div_lt m2 k0
   refine ⟨k / m,hd3,s' * m,t++List.replicate (k % m) s',Same.updN z2 hL,by omega,?_,?_,?_⟩
   · rw [← e,List.append_assoc]
     congr 1
     obtain ⟨k',rfl⟩:∃ k',k=k' + 1:=⟨k - 1,by omega⟩
     rw [mp,if_neg (by omega),mp_fuel m2 k' ((k' + 1) / m) _ _ (by omega) (Nat.le_refl _)]
   · rw [upd_same];unfold toI;rw [List.map_append,List.map_append]
   · rw [Int.natCast_mul,Int.natCast_ediv]
     rfl
 · have k0:k=0:=by have c':¬ (0:Int)<(k:Int):=c;omega
   subst k0
   rw [mp,List.append_nil] at e
   rw [e] at gL
   exact q L H1 hL y1 gL
theorem sc_spt:FnScope ["part","m","many"] ["part","m"] (defScope (top 17)):=⟨rfl,rfl,rfl,by decide +kernel,rfl,by decide +kernel,by decide +kernel⟩
def sp_spt:Sp:=fun vs H Q _=>∃ (p m:Nat),vs=[.int p,.int m]∧2≤m∧m≤60∧0<p∧p≤300∧∀ r H',H r=none→Same H H'→H' r=some (.lst ((toI (sw m p)).map V.int))→Q (.ref r) H'
theorem sw_len {m p:Nat} (hm:2≤m) (hp:0<p):(sw m p).length≤p:=by
 obtain ⟨s,i,rfl,h1,h2,_⟩:=fac hm p hp
 rw [sw_is hm h1 h2,List.length_replicate]
 exact Nat.le_mul_of_pos_left _ h2
theorem ok_spt (F:Fun K "split_parts" "split_parts" (top 17) f fd)  : FnOk P w K mg base CX0 1 f fd ["part","m"] sp_spt:=by
 refine F.okz sc_spt (fun vs H Q E h=>?_) (fun cdv A outer s H vs Q E hr h=>?_)
 · obtain ⟨p,m,rfl,_⟩:=h;rfl
 obtain ⟨p,m,rfl,m2,m60,p0,p300,q⟩:=h
 have nd:=sc_spt.nd
 have hu:=hr.units
 have lw:=sw_len m2 p0
 refine ⟨_,(zss_cons (zs_set (i:=2) nd rfl (Or.inl rfl) ze_int)
  (zss_cons (zs_while PassesOwn.never (zt_cmpP (op_eqD hu) (ze_op op_modP (zn 0) (zn 1)) ze_int (nomark _)) (zss_cons (zs_aug (i:=0) nd rfl (Or.inl rfl) (zn 1) ip_fdivP)
  (zss_one (zs_aug (i:=2) nd rfl (Or.inl rfl) (zn 1) ip_mulP))))
  (zss_one (zs_ret (ze_op op_mulQ (ze_lst (za_cons (zn 0) za_nil)) (zn 2)))))),?_⟩
 refine while_by2 (fun k σ H'=>∃ c,H'=H∧0<k∧k≤300∧sp m k k c=sw m p∧σ=[some (.int (k:Nat)),some (.int (m:Nat)),some (.int (c:Nat))]) p ⟨1,rfl,p0,p300,rfl,rfl⟩ ?_
 rintro k σ H1 ⟨c,rfl,k0,k300,e,rfl⟩
 refine ⟨(show (0:Int)<(m:Int) by omega),?_⟩
 refine iteD (fun c2=>?_) (fun c2=>?_)
 · have c':k % m=0:=by have:=V.int.inj c2;omega
   have kd:=div_lt m2 (show k≠0 by omega)
   have kp:0<k / m:=Nat.div_pos (Nat.le_of_dvd k0 (Nat.dvd_of_mod_eq_zero c')) (by omega)
   refine ⟨fun σ' H'=>∃ m',m' < k∧∃ c,H'=H1∧0<m'∧m'≤300∧sp m m' m' c=sw m p∧σ'=[some (.int (m':Nat)),some (.int (m:Nat)),some (.int (c:Nat))],fun σ' H' h=>h,?_⟩
   refine ⟨_,rfl,⟨by omega,by omega⟩,?_⟩
   refine ⟨_,rfl,mulR (by omega) (by omega),?_⟩
   refine ⟨k / m,kd,c*m,rfl,kp,by omega,?_,by rw [Int.natCast_mul,Int.natCast_ediv];rfl⟩
   rw [← e]
   obtain ⟨s,i,ek,h1,h2,h3⟩:=fac m2 (k / m) kp
   obtain ⟨k',ekk⟩:∃ k',k=k' + 1:=⟨k - 1,by omega⟩
   have:sp m k k c=sp m k' (k / m) (c*m):=by
    rw [ekk,sp,if_pos (by rw [← ekk];exact c')]
   rw [this,ek,M59.sp_is m2 h1 i (s*m ^ i) (c*m) (by omega),M59.sp_is m2 h1 i k' (c*m) (by omega)]
 · have c':¬ k % m=0:=fun z=>c2 (congrArg V.int (by omega))
   have e2:sp m k k c=List.replicate c k:=by
    obtain ⟨k',rfl⟩:∃ k',k=k' + 1:=⟨k - 1,by omega⟩
    rw [sp,if_neg c']
   rw [e2] at e
   rw [← e,List.length_replicate] at lw
   refine ⟨by show 1≤sizeLine;decide,fun d hd=>?_⟩
   have yd:=Same.new hd (.lst [V.int (k:Nat)])
   refine ⟨⟨by omega,by omega⟩,.inl ⟨_,upd_same,le_line (show 1*((c:Int)).toNat≤1000 by omega),fun d2 hd2=>?_⟩⟩
   refine q d2 _ (fresh_back yd hd2) (yd.trans (Same.new hd2 _)) ?_
   rw [upd_same,rep_flat,Int.toNat_natCast,← e]
   simp only [toI,List.map_replicate]
end
end K59
namespace L2
open PySem PySem.Spec PyProof.Rows
theorem kpg2_pair {K:PySem.W.Frag} {x y z:Str}:KpG2 [x,y,z] (gTup K 2 (gCons (gName 0) (gCons (gName 1) gNil))) (gName 2):=fun fr v H Q h=>by
 obtain ⟨a,xs,e,hq,hl,v1,r1,e1,v2,r2,e2,e3,q⟩:=h
 refine ⟨a,xs,e,hq,hl,v1,r1,e1,v2,r2,e2,e3,⟨⟨by simp,fun i w e=>?_⟩,fun v3 H3 Q3 h3=>⟨⟨by simp,fun i w e=>?_⟩,h3⟩⟩,q⟩
 · match i,e with
   | 0,e=>cases e
   | 1,e=>cases e
   | i+2,e=>exact e
 · match i,e with
   | 0,e=>exact e
   | 1,e=>exact e
   | 2,e=>cases e
   | i+3,e=>exact e
theorem cmpi_list {K:PySem.W.Frag} {σ:L2.St} {H:Hp} {g:TG} {ti:TT} {te:TE} {ys:List V} {Fin:List V→Hp→Prop} {a:Addr} {xs:List V} (Pv:Nat→List V→Hp→Prop) (h0:Pv 0 ys H) (hl:∀ i zs H,i≤xs.length→Pv i zs H→SqL K H a xs)
 (hs:∀ i x zs H,xs[i]? = some x→Pv i zs H→zs.length<sizeLine∧g x σ H fun σ2 H2=>ti σ2 H2 fun b H3=>if b=true then te σ2 H3 fun y H4=>Pv (i+1) (zs++[y]) H4 else Pv (i+1) zs H3)
 (hd:∀ zs H,Pv xs.length zs H→Fin zs H):CmpI g ti te σ (Itl K a) ys Fin H:=by
 refine ⟨fun i m zs H=>m=xs.length - i∧i≤xs.length∧Pv i zs H,⟨_,rfl,Nat.zero_le _,h0⟩,?_⟩
 rintro i m zs H ⟨rfl,hi,p⟩
 have q:=hl i zs H hi p
 by_cases hlt:i<xs.length
 · refine .inr ⟨⟨xs,xs[i],q,by simp [hlt]⟩,(hs i xs[i] zs H (by simp [hlt]) p).1,Pv (i+1),fun σ' H' p'=>⟨_,by omega,rfl,hlt,p'⟩,fun x H' y=>?_⟩
   obtain ⟨e',y⟩:=y
   subst e'
   exact (hs i x zs _ (y xs q) p).2
 · have e:i=xs.length:=by omega
   subst e
   exact .inl ⟨⟨xs,q,Nat.le_refl _⟩,hd zs H p⟩
end L2
namespace K59
open PySem L2 M04 M54 M55 MP M56 M59
theorem any_no (n:Nat):(List.replicate n false).any id=false:=by
 induction n with
 | zero=>rfl
 | succ n ih=>rw [List.replicate_succ,List.any_cons,ih];rfl
theorem toI_app (a b:List Nat):toI (a++b)=toI a++toI b:=by unfold toI;rw [List.map_append]
theorem toI_len (a:List Nat):(toI a).length=a.length:=by unfold toI;rw [List.length_map]
theorem mgl_snoc (m:Nat) (ps:List (Int×Int)) (q:Int×Int):mgl m (ps++[q])=mgl m ps++mp m q.2.toNat q.1.toNat q.2.toNat:=by
 unfold mgl nat
 rw [List.map_append,List.flatMap_append]
 show _++List.flatMap _ [(q.1.toNat,q.2.toNat)]=_
 rw [List.flatMap_cons,List.flatMap_nil,List.append_nil]
theorem spl_snoc (m:Nat) (y:List Int) (p:Int):spl m (y++[p])=spl m y++sw m p.toNat:=by
 rw [spl_app]
 congr 1
 unfold spl
 rw [List.flatMap_cons,List.flatMap_nil,List.append_nil]
theorem mgl_len {m:Nat} (hm:2≤m):∀ ps:List (Int×Int),((mgl m ps).length:Nat)≤((nat ps).map (·.2)).sum
 | []=>Nat.le_refl _
 | q::ps=>by
   have ih:=mgl_len hm ps
   have:=mp_len hm q.2.toNat q.1.toNat q.2.toNat (Nat.le_refl _)
   show (mp m q.2.toNat q.1.toNat q.2.toNat++mgl m ps).length≤(q.2.toNat::(nat ps).map (·.2)).sum
   rw [List.length_append,List.sum_cons]
   omega
theorem cnt_sum {x:List Int} {ps:List (Int×Int)} (c:Cnt x ps) (h1:∀ p∈x,(1:Int)≤p):((nat ps).map (·.2)).sum=x.length:=by
 have:=(c.flat h1).length_eq
 rw [List.length_map] at this
 rw [← this]
 have key:∀ l:List (Nat×Nat),(l.map (·.2)).sum=(l.flatMap fun q=>List.replicate q.2 q.1).length:=fun l=>by
  induction l with
  | nil=>rfl
  | cons q l ih=>rw [List.map_cons,List.sum_cons,List.flatMap_cons,List.length_append,List.length_replicate,ih]
 exact key _
theorem take_low {x:List Int} {ps:List (Int×Int)} (c:Cnt x ps) {m:Nat} (hm:2≤m) (h1:∀ p∈x,(1:Int)≤p) (i:Nat):(mgl m (ps.take i)).length≤x.length:=by
 have a:=mgl_len hm (ps.take i)
 have b:=cnt_sum c h1
 have e:ps=ps.take i++ps.drop i:=(List.take_append_drop i ps).symm
 have:((nat ps).map (·.2)).sum=((nat (ps.take i)).map (·.2)).sum+((nat (ps.drop i)).map (·.2)).sum:=by
  conv=>lhs;rw [e]
  unfold nat
  rw [List.map_append,List.map_append,List.sum_append]
 omega
theorem pair_fine {x:List Int} {ps:List (Int×Int)} (c:Cnt x ps) (h1:∀ p∈x,(1:Int)≤p) (l:x.length≤300) {q:Int×Int} (hq:q∈ps):∃ s o:Nat,q=((s:Int),(o:Int))∧o≤300∧0<s:=by
 have a:=h1 q.1 ((c.key _).mp (List.mem_map.mpr ⟨q,hq,rfl⟩))
 have b:=c.is q hq
 have d:=List.count_le_length (a:=q.1) (l:=x)
 refine ⟨q.1.toNat,x.count q.1,?_,by omega,by omega⟩
 rw [Int.toNat_of_nonneg (by omega),← b]
section
variable {P:Program} {w:World} {K:PySem.W.Frag} {mg:Str→Option Value} {base:Heap} {f:Addr} {fd:FuncData}
theorem sc_hno:FnScope ["parting","m"] ["parting","m"] (defScope (top 13)):=⟨rfl,rfl,rfl,by decide +kernel,rfl,by decide +kernel,by decide +kernel⟩
def sp_hno:Sp:=fun vs H Q _=>∃ (a:Addr) (y:List Int) (m:Nat),vs=[.ref a,.int m]∧H a=some (.tup (y.map V.int))∧y.length≤300∧y.Pairwise (·≥·)∧Few m y∧∀ H',Same H H'→Q (.bl true) H'
theorem ok_hno (F:Fun K "has_none_often" "has_none_often" (top 13) f fd) (m_all:mg "all" = none) (F_sizes:FnA P w K mg base "sizes" 1 ["parting"] sp_sizes):FnOk P w K mg base CX0 2 f fd ["parting","m"] sp_hno:=by
 refine F.okz sc_hno (fun vs H Q E h=>?_) (fun cdv A outer s H vs Q E hr h=>?_)
 · obtain ⟨a,y,m,rfl,_⟩:=h;rfl
 obtain ⟨a,y,m,rfl,ha,l300,pw,few,q⟩:=h
 have nd:=sc_hno.nd
 have c:=cnt_runs pw
 have lr:=M02.runs_len' y
 refine ⟨_,(zss_one (zs_ret (zcb_all rfl rfl m_all (za_cons (ze_comp ["size","often"] [("m",1)] rfl ⟨rfl,by decide +kernel,by decide +kernel,rfl,rfl⟩ (zi_tup (ze_fn F_sizes hr (by decide) rfl (za_cons (zn 0) za_nil))) kpg_two (fun _ _ _ _=>zg_tup rfl (zgs_cons (zg_name (i:=0) (show List.Nodup (["size","often","m"]:List Str) by decide +kernel) rfl (Or.inl rfl)) (zgs_cons (zg_name (i:=1) (show List.Nodup (["size","often","m"]:List Str) by decide +kernel) rfl (Or.inl rfl)) zgs_nil))) (fun _ _ _ _=>zif_nil) (fun _ _ _ _=>(ze_cmpR op_ltP (zn 1) (zn 2) (nomark _)))) za_nil) rfl rfl))),?_⟩
 refine ⟨a,y,rfl,ha,by omega,fun r H1 us y1 hr1 prs=>?_⟩
 have lp:=prs.length
 refine ⟨r,rfl,⟨_,SqT.of hr1⟩,cmp_tup (xs:=us) (fun i zs H'=>H'=H1∧zs=(List.replicate i true).map V.bl) ⟨rfl,rfl⟩ ?_ ?_ ?_⟩
 · rintro i zs H' _ ⟨rfl,_⟩
   exact SqT.of hr1
 · rintro i v zs H' hv ⟨rfl,rfl⟩
   obtain ⟨pr,hpr,⟨b,rfl,hb⟩⟩:=prs.get hv
   have hi:i<us.length:=(List.getElem?_eq_some_iff.mp hv).1
   refine ⟨by rw [List.length_map,List.length_replicate];exact small1000 (by omega),?_⟩
   refine ⟨b,_,rfl,SqT.of hb,rfl,_,_,rfl,_,_,rfl,rfl,rfl,?_⟩
   rw [List.replicate_succ',List.map_append]
   congr 1
   show [V.bl (decide (pr.2<(m:Int)))]=[V.bl true]
   have e:=c.is pr (List.mem_of_getElem? hpr)
   have:=few pr.1
   rw [decide_eq_true (by omega)]
 · rintro zs H' ⟨rfl,rfl⟩ D hD
   refine ⟨_,SqL.of upd_same,?_⟩
   rw [rep_all]
   exact q _ (y1.trans (Same.new hD _))
theorem sc_mg:FnScope ["parting","m","told"] ["parting","m"] (defScope (top 16)):=⟨rfl,rfl,rfl,by decide +kernel,rfl,by decide +kernel,by decide +kernel⟩
def sp_mg:Sp:=fun vs H Q _=>∃ (a:Addr) (x:List Int) (m n:Nat),vs=[.ref a,.int m]∧H a=some (.tup (x.map V.int))∧2≤m∧m≤60∧n≤300∧x∈PB n n∧Free m x∧∀ r y H',Same H H'→H' r=some (.tup (y.map V.int))→Mg m n x y→Q (.ref r) H'
theorem ok_mg (F:Fun K "merged" "merged" (top 16) f fd) (m_any:mg "any" = none) (m_sorted:mg "sorted" = none) (m_tuple:mg "tuple" = none) (F_merged_parts:FnA P w K mg base "merged_parts" 1 ["size","often","m"] sp_mpt) (F_sizes:FnA P w K mg base "sizes" 1 ["parting"] sp_sizes):FnOk P w K mg base CX0 2 f fd ["parting","m"] sp_mg:=by
 refine F.okz sc_mg (fun vs H Q E h=>?_) (fun cdv A outer s H vs Q E hr h=>?_)
 · obtain ⟨a,x,m,n,rfl,_⟩:=h;rfl
 obtain ⟨a,x,m,n,rfl,ha,m2,m60,n300,hx,fx,q⟩:=h
 have nd:=sc_mg.nd
 have hu:=hr.units
 obtain ⟨x1,x2,x3⟩:=pb_iff.mp hx
 have lx:x.length≤300:=by have:=M59.lenLe x1;omega
 have c:=cnt_runs x2
 have lr:=M02.runs_len' x
 refine ⟨_,(zss_cons (zs_if (zt_valP (zcb_any rfl rfl m_any (za_cons (ze_comp ["part"] [("m",1)] rfl ⟨rfl,by decide +kernel,by decide +kernel,rfl,rfl⟩ (zi_tup (zn 0)) kpg_name (fun _ _ _ _=>zg_name (i:=0) (show List.Nodup (["part","m"]:List Str) by decide +kernel) rfl (Or.inl rfl)) (fun _ _ _ _=>zif_nil) (fun _ _ _ _=>(ze_cmpR (op_eqD hu) (ze_op op_modP (zn 0) (zn 1)) ze_int (nomark _)))) za_nil) rfl rfl)) (zss_one zs_no) zss_nil)
  (zss_cons (zs_settwo (i:=2) ["size","often","part"] [("m",1)] rfl nd rfl (Or.inl rfl) ⟨rfl,by decide +kernel,by decide +kernel,rfl,rfl⟩ (zi_tup (ze_fn F_sizes hr (by decide) rfl (za_cons (zn 0) za_nil))) kpg2_pair (fun _ _ _ _=>zg_tup rfl (zgs_cons (zg_name (i:=0) (show List.Nodup (["size","often","part","m"]:List Str) by decide +kernel) rfl (Or.inl rfl)) (zgs_cons (zg_name (i:=1) (show List.Nodup (["size","often","part","m"]:List Str) by decide +kernel) rfl (Or.inl rfl)) zgs_nil))) (fun _ _ _ _=>zif_nil) (fun _ _ _ _=>(zi_list' (ze_fn F_merged_parts hr (by decide) rfl (za_cons (zn 0) (za_cons (zn 1) (za_cons (zn 3) za_nil)))) rfl)) (fun _ _ _ _=>zg_name (i:=2) (show List.Nodup (["size","often","part","m"]:List Str) by decide +kernel) rfl (Or.inl rfl)) (fun _ _ _ _=>zif_nil) (fun _ _ _ _=>(zn 2)))
  (zss_one (zs_ret (zcb_tuple rfl m_tuple (za_cons (zcb_sortR rfl m_sorted (za_cons (zn 2) za_nil) rfl) za_nil) rfl rfl))))),?_⟩
 refine ⟨a,rfl,⟨_,SqT.of ha⟩,cmp_tup (xs:=x.map V.int) (fun i zs H'=>H'=H∧zs=(List.replicate i false).map V.bl) ⟨rfl,rfl⟩ ?_ ?_ ?_⟩
 · rintro i zs H' _ ⟨rfl,_⟩
   exact SqT.of ha
 · rintro i v zs H' hv ⟨rfl,rfl⟩
   have hi:i<x.length:=by have:=(List.getElem?_eq_some_iff.mp hv).1;rw [List.length_map] at this;exact this
   have ev:v=.int x[i]:=by rw [getI hi] at hv;exact (Option.some.inj hv).symm
   subst ev
   refine ⟨by rw [List.length_map,List.length_replicate];exact small1000 (by omega),?_⟩
   refine ⟨(show (0:Int)<(m:Int) by omega),?_⟩
   refine ⟨rfl,?_⟩
   rw [List.replicate_succ',List.map_append]
   congr 1
   show [V.bl (decide (V.int (x[i] % (m:Int))=V.int 0))]=[V.bl false]
   have p1:=x1 _ (List.getElem_mem hi)
   have f1:=fx _ (List.getElem_mem hi)
   rw [decide_eq_false fun z=>f1 (by
    have z':x[i] % (m:Int)=0:=V.int.inj z
    have e:((x[i].toNat % m:Nat):Int)=x[i] % (m:Int):=by rw [Int.natCast_emod,Int.toNat_of_nonneg (by omega)]
    omega)]
 · rintro zs H' ⟨rfl,rfl⟩ D hD
   refine ⟨_,SqL.of upd_same,?_⟩
   rw [any_no]
   refine iteB (fun c=>absurd c (by decide)) (fun _=>?_)
   have y1:=Same.new hD (.lst ((List.replicate (x.map V.int).length false).map V.bl))
   generalize upd H' D (.lst ((List.replicate (x.map V.int).length false).map V.bl))=H1 at y1
   refine ⟨a,x,rfl,y1 _ _ ha,by omega,fun r H2 us y2 hr2 prs=>?_⟩
   have lp:=prs.length
   refine ⟨r,rfl,⟨_,SqT.of hr2⟩,cmp2_tup (xs:=us) (fun i zs H3=>Same H2 H3∧zs=(toI (mgl m ((M02.runs x).take i))).map V.int) ⟨Same.refl _,by rw [List.take_zero];rfl⟩ ?_ ?_ ?_⟩
   · rintro i zs H3 _ ⟨y3,_⟩
     exact SqT.of (y3 _ _ hr2)
   · rintro i v zs H3 hv ⟨y3,rfl⟩
     obtain ⟨pr,hpr,⟨b,rfl,hb⟩⟩:=prs.get hv
     obtain ⟨sz,o,rfl,o300,s0⟩:=pair_fine c x1 lx (List.mem_of_getElem? hpr)
     refine ⟨b,_,rfl,SqT.of (y3 _ _ hb),rfl,_,_,rfl,_,_,rfl,rfl,?_⟩
     refine ⟨sz,o,m,rfl,m2,m60,o300,fun p4 H4 hp4 y4 g4=>?_⟩
     have l1:=take_low c m2 x1 i
     have l2:=mp_len m2 o sz o (Nat.le_refl _)
     refine ⟨p4,rfl,⟨_,SqL.of g4⟩,cmpi_list (xs:=(toI (mp m o sz o)).map V.int) (fun j zs H5=>H5=H4∧zs=(toI (mgl m ((M02.runs x).take i)++(mp m o sz o).take j)).map V.int) ⟨rfl,by rw [List.take_zero,List.append_nil]⟩ ?_ ?_ ?_⟩
     · rintro j zs H5 _ ⟨rfl,_⟩
       exact SqL.of g4
     · rintro j z zs H5 hz ⟨rfl,rfl⟩
       have hj:j<(mp m o sz o).length:=by have:=(List.getElem?_eq_some_iff.mp hz).1;rw [List.length_map,toI_len] at this;exact this
       have ez:z=.int (((mp m o sz o)[j]:Nat):Int):=by
        unfold toI at hz
        rw [List.getElem?_map,List.getElem?_map,List.getElem?_eq_getElem hj] at hz
        exact (Option.some.inj hz).symm
       subst ez
       refine ⟨by rw [List.length_map,toI_len,List.length_append,List.length_take];exact small1000 (by omega),?_⟩
       refine ⟨rfl,?_⟩
       rw [List.take_succ,List.getElem?_eq_getElem hj,← List.append_assoc,toI_app,toI_app,List.map_append,List.map_append]
       simp [toI]
     · rintro zs H5 ⟨rfl,rfl⟩
       refine ⟨y3.trans y4,?_⟩
       rw [List.length_map,toI_len,List.take_of_length_le (Nat.le_refl _),List.take_succ,hpr]
       show _=(toI (mgl m ((M02.runs x).take i++[((sz:Int),(o:Int))]))).map V.int
       rw [mgl_snoc]
       simp only [Int.toNat_natCast]
   · rintro zs H3 ⟨y3,rfl⟩ D2 hD2
     rw [lp,List.take_of_length_le (Nat.le_refl _)]
     have y5:=Same.new hD2 (.lst ((toI (mgl m (M02.runs x))).map V.int))
     refine ⟨toI (mgl m (M02.runs x)),.inl (SqL.of upd_same),fun l ms hl pm ord=>?_⟩
     have y6:=Same.new hl (.lst (ms.map V.int))
     refine ⟨_,.inl (SqL.of upd_same),fun r7 H7 y7 hr7=>?_⟩
     exact q r7 ms H7 ((y1.trans y2).trans (y3.trans (y5.trans (y6.trans y7)))) hr7 (mg_of m2 hx fx c pm ord)
theorem sc_sl:FnScope ["parting","m","told"] ["parting","m"] (defScope (top 18)):=⟨rfl,rfl,rfl,by decide +kernel,rfl,by decide +kernel,by decide +kernel⟩
def sp_sl:Sp:=fun vs H Q _=>∃ (a:Addr) (y:List Int) (m n:Nat),vs=[.ref a,.int m]∧H a=some (.tup (y.map V.int))∧2≤m∧m≤60∧n≤300∧y∈PB n n∧Few m y∧∀ r z H',Same H H'→H' r=some (.tup (z.map V.int))→Sl m n y z→Q (.ref r) H'
theorem spl_low {m:Nat} (hm:2≤m):∀ {y:List Int},(∀ p∈y,(1:Int)≤p)→((spl m y).length:Int)≤y.sum
 | [],_=>Int.le_refl _
 | p::y,h=>by
   have hp:=h p List.mem_cons_self
   have ih:=spl_low hm (y:=y) fun q hq=>h q (List.mem_cons_of_mem _ hq)
   have:=sw_len hm (p:=p.toNat) (by omega)
   have e:spl m (p::y)=sw m p.toNat++spl m y:=by unfold spl;rw [List.flatMap_cons]
   rw [e,List.length_append,List.sum_cons]
   omega
theorem take_sum:∀ {y:List Int} (i:Nat),(∀ p∈y,(1:Int)≤p)→(y.take i).sum≤y.sum
 | [],i,_=>by simp
 | p::y,0,h=>by
   have:=M59.lenLe h
   rw [List.take_zero,List.sum_nil]
   omega
 | p::y,i+1,h=>by
   have:=take_sum (y:=y) i fun q hq=>h q (List.mem_cons_of_mem _ hq)
   rw [List.take_succ_cons,List.sum_cons,List.sum_cons]
   omega
theorem ok_sl (F:Fun K "split" "split" (top 18) f fd) (m_sorted:mg "sorted" = none) (m_tuple:mg "tuple" = none) (F_has_none_often:FnA P w K mg base "has_none_often" 2 ["parting","m"] sp_hno) (F_split_parts:FnA P w K mg base "split_parts" 1 ["part","m"] sp_spt):FnOk P w K mg base CX0 3 f fd ["parting","m"] sp_sl:=by
 refine F.okz sc_sl (fun vs H Q E h=>?_) (fun cdv A outer s H vs Q E hr h=>?_)
 · obtain ⟨a,y,m,n,rfl,_⟩:=h;rfl
 obtain ⟨a,y,m,n,rfl,ha,m2,m60,n300,hy,few,q⟩:=h
 have nd:=sc_sl.nd
 obtain ⟨x1,x2,x3⟩:=pb_iff.mp hy
 have lx:y.length≤300:=by have:=M59.lenLe x1;omega
 refine ⟨_,(zss_cons (zs_if (zt_not (zt_valP (ze_fn F_has_none_often hr (by decide) rfl (za_cons (zn 0) (za_cons (zn 1) za_nil))))) (zss_one zs_no) zss_nil)
  (zss_cons (zs_settwo (i:=2) ["part","piece"] [("m",1)] rfl nd rfl (Or.inl rfl) ⟨rfl,by decide +kernel,by decide +kernel,rfl,rfl⟩ (zi_tup (zn 0)) kpg2_names (fun _ _ _ _=>zg_name (i:=0) (show List.Nodup (["part","piece","m"]:List Str) by decide +kernel) rfl (Or.inl rfl)) (fun _ _ _ _=>zif_nil) (fun _ _ _ _=>(zi_list' (ze_fn F_split_parts hr (by decide) rfl (za_cons (zn 0) (za_cons (zn 2) za_nil))) rfl)) (fun _ _ _ _=>zg_name (i:=1) (show List.Nodup (["part","piece","m"]:List Str) by decide +kernel) rfl (Or.inl rfl)) (fun _ _ _ _=>zif_nil) (fun _ _ _ _=>(zn 1)))
  (zss_one (zs_ret (zcb_tuple rfl m_tuple (za_cons (zcb_sortR rfl m_sorted (za_cons (zn 2) za_nil) rfl) za_nil) rfl rfl))))),?_⟩
 refine ⟨a,y,m,rfl,ha,lx,x2,few,fun H1 y1=>?_⟩
 refine iteB (fun c=>absurd c (by decide)) (fun _=>?_)
 have ha1:=y1 _ _ ha
 refine ⟨a,rfl,⟨_,SqT.of ha1⟩,cmp2_tup (xs:=y.map V.int) (fun i zs H3=>Same H1 H3∧zs=(toI (spl m (y.take i))).map V.int) ⟨Same.refl _,by rw [List.take_zero];rfl⟩ ?_ ?_ ?_⟩
 · rintro i zs H3 _ ⟨y3,_⟩
   exact SqT.of (y3 _ _ ha1)
 · rintro i v zs H3 hv ⟨y3,rfl⟩
   have hi:i<y.length:=by have:=(List.getElem?_eq_some_iff.mp hv).1;rw [List.length_map] at this;exact this
   have ev:v=.int y[i]:=by rw [getI hi] at hv;exact (Option.some.inj hv).symm
   subst ev
   have p1:=x1 _ (List.getElem_mem hi)
   have p2:=M59.sumLe x1 (List.getElem_mem hi)
   obtain ⟨p,ep⟩:∃ p:Nat,y[i]=(p:Int):=⟨y[i].toNat,by omega⟩
   refine ⟨p,m,by rw [ep],m2,m60,by omega,by omega,fun p4 H4 hp4 y4 g4=>?_⟩
   have l1:=spl_low m2 (y:=y.take i) fun q hq=>x1 q (List.mem_of_mem_take hq)
   have l3:=take_sum i x1
   have l2:=sw_len m2 (p:=p) (by omega)
   refine ⟨p4,rfl,⟨_,SqL.of g4⟩,cmpi_list (xs:=(toI (sw m p)).map V.int) (fun j zs H5=>H5=H4∧zs=(toI (spl m (y.take i)++(sw m p).take j)).map V.int) ⟨rfl,by rw [List.take_zero,List.append_nil]⟩ ?_ ?_ ?_⟩
   · rintro j zs H5 _ ⟨rfl,_⟩
     exact SqL.of g4
   · rintro j z zs H5 hz ⟨rfl,rfl⟩
     have hj:j<(sw m p).length:=by have:=(List.getElem?_eq_some_iff.mp hz).1;rw [List.length_map,toI_len] at this;exact this
     have ez:z=.int (((sw m p)[j]:Nat):Int):=by
      unfold toI at hz
      rw [List.getElem?_map,List.getElem?_map,List.getElem?_eq_getElem hj] at hz
      exact (Option.some.inj hz).symm
     subst ez
     refine ⟨by rw [List.length_map,toI_len,List.length_append,List.length_take];exact small1000 (by omega),?_⟩
     refine ⟨rfl,?_⟩
     rw [List.take_succ,List.getElem?_eq_getElem hj,← List.append_assoc,toI_app,toI_app,List.map_append,List.map_append]
     simp [toI]
   · rintro zs H5 ⟨rfl,rfl⟩
     refine ⟨y3.trans y4,?_⟩
     rw [List.length_map,toI_len,List.take_of_length_le (Nat.le_refl _),List.take_succ,List.getElem?_eq_getElem hi]
     show _=(toI (spl m (y.take i++[y[i]]))).map V.int
     rw [spl_snoc,ep,Int.toNat_natCast]
 · rintro zs H3 ⟨y3,rfl⟩ D2 hD2
   rw [List.length_map,List.take_of_length_le (Nat.le_refl _)]
   have y5:=Same.new hD2 (.lst ((toI (spl m y)).map V.int))
   refine ⟨toI (spl m y),.inl (SqL.of upd_same),fun l ms hl pm ord=>?_⟩
   have y6:=Same.new hl (.lst (ms.map V.int))
   refine ⟨_,.inl (SqL.of upd_same),fun r7 H7 y7 hr7=>?_⟩
   exact q r7 ms H7 (y1.trans (y3.trans (y5.trans (y6.trans y7)))) hr7 (sl_of m2 hy pm ord)
end
section
variable {P:Program} {w:World} {K:PySem.W.Frag} {mg:Str→Option Value} {base:Heap} {f:Addr} {fd:FuncData}
theorem sc_lm:FnScope ["_law_parting","_law_m","_law_parts","_law_size","_law_many"] ["_law_parting","_law_m"] (defScope (top 35)):=⟨rfl,rfl,rfl,by decide +kernel,rfl,by decide +kernel,by decide +kernel⟩
theorem ok_lm (F:Fun K "_law_merged" "_law_merged" (top 35) f fd)  (F_law_falling:FnA P w K mg base "_law_falling" 1 ["_law_parts"] sp_fall) (F_law_often:FnA P w K mg base "_law_often" 1 ["_law_parting"] sp_of):FnOk P w K mg base CX0 2 f fd ["_law_parting","_law_m"] sp_mg:=by
 refine F.okz sc_lm (fun vs H Q E h=>?_) (fun cdv A outer s H vs Q E hr h=>?_)
 · obtain ⟨a,x,m,n,rfl,_⟩:=h;rfl
 obtain ⟨a,x,m,n,rfl,ha,m2,m60,n300,hx,fx,q⟩:=h
 have nd:=sc_lm.nd
 obtain ⟨x1,x2,x3⟩:=pb_iff.mp hx
 have lx:x.length≤300:=by have:=M59.lenLe x1;omega
 have c:=cnt_tally x
 refine ⟨_,(zss_cons (zs_set (i:=2) nd rfl (Or.inl rfl) (ze_lst za_nil))
  (zss_cons (zs_for PassesOwn.never rfl (zi_items (ze_fn F_law_often hr (by decide) rfl (za_cons (zn 0) za_nil))) (zg_tup rfl (zgs_cons (zg_name (i:=3) nd rfl (Or.inl rfl)) (zgs_cons (zg_name (i:=4) nd rfl (Or.inl rfl)) zgs_nil))) (zss_one (zs_while PassesOwn.never (zt_cmpP op_gtP (zn 4) ze_int (nomark _)) (zss_cons (zs_set (i:=2) nd rfl (Or.inl rfl) (ze_op op_addP (zn 2) (ze_op op_mulQ (ze_lst (za_cons (zn 3) za_nil)) (ze_op op_modP (zn 4) (zn 1)))))
  (zss_one (zs_par (i:=4) (j:=3) rfl nd rfl rfl (by decide) rfl rfl (za_cons (ze_op op_fdivP (zn 4) (zn 1)) (za_cons (ze_op op_mulQ (zn 3) (zn 1)) za_nil)) rfl))))))
  (zss_one (zs_ret (ze_fn F_law_falling hr (by decide) rfl (za_cons (zn 2) za_nil)))))),?_⟩
 refine ⟨Nat.zero_le _,fun L hL=>?_⟩
 have yL:=Same.new hL (.lst [])
 have gL:upd H L (.lst []) L=some (.lst ((toI []).map V.int)):=upd_same
 generalize upd H L (.lst [])=H1 at yL gL
 refine ⟨a,x,rfl,yL _ _ ha,by omega,fun d H2 hd y2 gd=>?_⟩
 have dH:H d=none:=fresh_back yL hd
 have Ld:L≠d:=fun z=>by rw [← z,gL] at hd;cases hd
 refine ⟨_,gd,fun o=>?_⟩
 have z3:Same H (upd H2 d (.frz o (.dK (kd (tally x))))):=Same.updN (yL.trans y2) dH
 have gd3:upd H2 d (.frz o (.dK (kd (tally x)))) d=some (.frz o (.dK (kd (tally x)))):=upd_same
 have gL3:upd H2 d (.frz o (.dK (kd (tally x)))) L=some (.lst ((toI []).map V.int)):=by rw [upd_ne Ld];exact y2 _ _ gL
 generalize upd H2 d (.frz o (.dK (kd (tally x))))=H3 at z3 gd3 gL3
 refine for_items (kvs:=kd (tally x)) (fun i σ H'=>Same H3 H'∧∃ A x3 x4,H' A=some (.lst ((toI (mgl m ((tally x).take i))).map V.int))∧σ=[some (.ref a),some (.int (m:Nat)),some (.ref A),x3,x4]) ⟨Same.refl _,L,_,_,by rw [List.take_zero];exact gL3,rfl⟩ ?_ ?_ ?_
 · rintro i σ H' _ ⟨y,_⟩
   exact y _ _ gd3
 · rintro i kv σ H4 b hkv ⟨y4,A,x3,x4,gA,rfl⟩ hb
   obtain ⟨pr,hpr,rfl⟩:=kd_at hkv
   obtain ⟨sz,oo,rfl,o300,s0⟩:=pair_fine c x1 lx (List.mem_of_getElem? hpr)
   have yb:=Same.new hb (.tup [kV (Sum.inl (sz:Int):Key),V.int (oo:Int)])
   refine ⟨b,_,rfl,SqT.of upd_same,rfl,_,_,rfl,_,_,rfl,rfl,?_⟩
   have z4:=y4.trans yb
   have gA4:=yb _ _ gA
   generalize upd H4 b (.tup [kV (Sum.inl (sz:Int):Key),V.int (oo:Int)])=H5 at z4 gA4
   have l1:=take_low c m2 x1 i
   have l2:=mp_len m2 oo sz oo (Nat.le_refl _)
   refine while_by2 (fun k σ H'=>∃ s' t A,Same H3 H'∧k≤oo∧t++mp m k s' k=mgl m ((tally x).take i)++mp m oo sz oo∧H' A=some (.lst ((toI t).map V.int))∧σ=[some (.ref a),some (.int (m:Nat)),some (.ref A),some (.int (s':Nat)),some (.int (k:Nat))]) oo ⟨sz,_,A,z4,Nat.le_refl _,rfl,gA4,rfl⟩ ?_
   rintro k σ H6 ⟨s',t,A,y6,ko,e,gA6,rfl⟩
   have le:=congrArg List.length e
   rw [List.length_append,List.length_append] at le
   refine iteD (fun c=>?_) (fun c=>?_)
   · have k0:k≠0:=by have c':(0:Int)<(k:Int):=c;omega
     have hmod:=Nat.mod_lt k (show 0<m by omega)
     refine ⟨fun σ' H'=>∃ m',m' < k∧∃ s' t A,Same H3 H'∧m'≤oo∧t++mp m m' s' m'=mgl m ((tally x).take i)++mp m oo sz oo∧H' A=some (.lst ((toI t).map V.int))∧σ'=[some (.ref a),some (.int (m:Nat)),some (.ref A),some (.int (s':Nat)),some (.int (m':Nat))],fun σ' H' h=>h,?_⟩
     refine ⟨by show 1≤sizeLine;decide,fun d1 hd1=>?_⟩
     have yd:=Same.new hd1 (.lst [V.int (s':Nat)])
     refine ⟨(show (0:Int)<(m:Int) by omega),?_⟩
     refine ⟨⟨by omega,by omega⟩,.inl ⟨_,upd_same,le_line (show 1*((k:Int) % (m:Int)).toNat≤1000 by omega),fun d2 hd2=>?_⟩⟩
     have yd2:=Same.new hd2 (.lst (List.replicate ((k:Int) % (m:Int)).toNat [V.int (s':Nat)]).flatten)
     have gA2:=yd2 _ _ (yd _ _ gA6)
     have g2:upd (upd H6 d1 (.lst [V.int (s':Nat)])) d2 (.lst (List.replicate ((k:Int) % (m:Int)).toNat [V.int (s':Nat)]).flatten) d2=some (.lst ((toI (List.replicate (k % m) s')).map V.int)):=by
      rw [upd_same,rep_flat,show ((k:Int) % (m:Int)).toNat=k % m by omega]
      simp only [toI,List.map_replicate]
     have z7:=y6.trans (yd.trans yd2)
     generalize upd (upd H6 d1 (.lst [V.int (s':Nat)])) d2 (.lst (List.replicate ((k:Int) % (m:Int)).toNat [V.int (s':Nat)]).flatten)=H7 at gA2 g2 z7
     refine .inl ⟨_,_,gA2,g2,le_line (by rw [List.length_map,List.length_map,toI_len,toI_len,List.length_replicate];omega),fun d3 hd3=>?_⟩
     have y8:=Same.new hd3 (.lst ((toI t).map V.int++(toI (List.replicate (k % m) s')).map V.int))
     refine ⟨⟨by omega,by omega⟩,?_⟩
     refine ⟨mulR (by omega) (by omega),?_⟩
     refine ⟨_,_,rfl,?_⟩
     have hd4:=div_lt m2 k0
     refine ⟨k / m,hd4,s' * m,t++List.replicate (k % m) s',d3,z7.trans y8,by omega,?_,?_,?_⟩
     · rw [← e,List.append_assoc]
       congr 1
       obtain ⟨k',rfl⟩:∃ k',k=k' + 1:=⟨k - 1,by omega⟩
       rw [mp,if_neg (by omega),mp_fuel m2 k' ((k' + 1) / m) _ _ (by omega) (Nat.le_refl _)]
     · rw [upd_same,toI_app,List.map_append]
     · rw [Int.natCast_mul,Int.natCast_ediv]
       rfl
   · have k0:k=0:=by have c':¬ (0:Int)<(k:Int):=c;omega
     subst k0
     rw [mp,List.append_nil] at e
     refine ⟨y6,A,_,_,?_,rfl⟩
     rw [gA6,e,List.take_succ,hpr]
     show _=some (HO.lst ((toI (mgl m ((tally x).take i++[((sz:Int),(oo:Int))]))).map V.int))
     rw [mgl_snoc]
     simp only [Int.toNat_natCast]
 · rintro σ H4 ⟨y4,A,x3,x4,gA,rfl⟩
   rw [kd_len,List.take_of_length_le (Nat.le_refl _)] at gA
   refine ⟨A,toI (mgl m (tally x)),rfl,.inl gA,fun r ms H5 y5 pm pw hr5=>?_⟩
   exact q r ms H5 (z3.trans (y4.trans y5)) hr5 (mg_of m2 hx fx c pm pw)
theorem sc_ls:FnScope ["_law_parting","_law_m","_law_parts","_law_part","_law_many"] ["_law_parting","_law_m"] (defScope (top 36)):=⟨rfl,rfl,rfl,by decide +kernel,rfl,by decide +kernel,by decide +kernel⟩
theorem ok_ls (F:Fun K "_law_split" "_law_split" (top 36) f fd)  (F_law_falling:FnA P w K mg base "_law_falling" 1 ["_law_parts"] sp_fall):FnOk P w K mg base CX0 2 f fd ["_law_parting","_law_m"] sp_sl:=by
 refine F.okz sc_ls (fun vs H Q E h=>?_) (fun cdv A outer s H vs Q E hr h=>?_)
 · obtain ⟨a,y,m,n,rfl,_⟩:=h;rfl
 obtain ⟨a,y,m,n,rfl,ha,m2,m60,n300,hy,few,q⟩:=h
 have nd:=sc_ls.nd
 have hu:=hr.units
 obtain ⟨x1,x2,x3⟩:=pb_iff.mp hy
 have lx:y.length≤300:=by have:=M59.lenLe x1;omega
 refine ⟨_,(zss_cons (zs_set (i:=2) nd rfl (Or.inl rfl) (ze_lst za_nil))
  (zss_cons (zs_for PassesOwn.never rfl (zi_tup (zn 0)) (zg_name (i:=3) nd rfl (Or.inl rfl)) (zss_cons (zs_set (i:=4) nd rfl (Or.inl rfl) ze_int)
  (zss_cons (zs_while PassesOwn.never (zt_cmpP (op_eqD hu) (ze_op op_modP (zn 3) (zn 1)) ze_int (nomark _)) (zss_one (zs_par (i:=3) (j:=4) rfl nd rfl rfl (by decide) rfl rfl (za_cons (ze_op op_fdivP (zn 3) (zn 1)) (za_cons (ze_op op_mulQ (zn 4) (zn 1)) za_nil)) rfl)))
  (zss_one (zs_set (i:=2) nd rfl (Or.inl rfl) (ze_op op_addP (zn 2) (ze_op op_mulQ (ze_lst (za_cons (zn 3) za_nil)) (zn 4))))))))
  (zss_one (zs_ret (ze_fn F_law_falling hr (by decide) rfl (za_cons (zn 2) za_nil)))))),?_⟩
 refine ⟨Nat.zero_le _,fun L hL=>?_⟩
 have yL:=Same.new hL (.lst [])
 have gL:upd H L (.lst []) L=some (.lst ((toI (spl m (y.take 0))).map V.int)):=upd_same
 generalize upd H L (.lst [])=H1 at yL gL
 refine ⟨a,rfl,⟨_,SqT.of (yL _ _ ha)⟩,for_tup (xs:=y.map V.int) (fun i σ H'=>Same H H'∧∃ A x3 x4,H' A=some (.lst ((toI (spl m (y.take i))).map V.int))∧σ=[some (.ref a),some (.int (m:Nat)),some (.ref A),x3,x4]) ⟨yL,L,_,_,gL,rfl⟩ ?_ ?_ ?_⟩
 · rintro i σ H' _ ⟨yy,_⟩
   exact SqT.of (yy _ _ ha)
 · rintro i v σ H2 hv ⟨y2,A,x3,x4,gA,rfl⟩
   have hi:i<y.length:=by have:=(List.getElem?_eq_some_iff.mp hv).1;rw [List.length_map] at this;exact this
   have ev:v=.int y[i]:=by rw [getI hi] at hv;exact (Option.some.inj hv).symm
   subst ev
   have p1:=x1 _ (List.getElem_mem hi)
   have p2:=M59.sumLe x1 (List.getElem_mem hi)
   obtain ⟨p,ep⟩:∃ p:Nat,y[i]=(p:Int):=⟨y[i].toNat,by omega⟩
   have l1:=spl_low m2 (y:=y.take i) fun q hq=>x1 q (List.mem_of_mem_take hq)
   have l3:=take_sum i x1
   have lw:=sw_len m2 (p:=p) (by omega)
   refine while_by2 (fun k σ H'=>∃ c,H'=H2∧0<k∧k≤300∧sp m k k c=sw m p∧σ=[some (.ref a),some (.int (m:Nat)),some (.ref A),some (.int (k:Nat)),some (.int (c:Nat))]) p ⟨1,rfl,by omega,by omega,rfl,by rw [ep];rfl⟩ ?_
   rintro k σ H3 ⟨c,rfl,k0,k300,e,rfl⟩
   refine ⟨(show (0:Int)<(m:Int) by omega),?_⟩
   refine iteD (fun c2=>?_) (fun c2=>?_)
   · have c':k % m=0:=by have:=V.int.inj c2;omega
     have kd:=div_lt m2 (show k≠0 by omega)
     have kp:0<k / m:=Nat.div_pos (Nat.le_of_dvd k0 (Nat.dvd_of_mod_eq_zero c')) (by omega)
     refine ⟨fun σ' H'=>∃ m',m' < k∧∃ c,H'=H3∧0<m'∧m'≤300∧sp m m' m' c=sw m p∧σ'=[some (.ref a),some (.int (m:Nat)),some (.ref A),some (.int (m':Nat)),some (.int (c:Nat))],fun σ' H' h=>h,?_⟩
     refine ⟨⟨by omega,by omega⟩,?_⟩
     refine ⟨mulR (by omega) (by omega),?_⟩
     refine ⟨_,_,rfl,?_⟩
     refine ⟨k / m,kd,c*m,rfl,kp,by omega,?_,by rw [Int.natCast_mul,Int.natCast_ediv];rfl⟩
     rw [← e]
     obtain ⟨s,i,ek,h1,h2,h3⟩:=fac m2 (k / m) kp
     obtain ⟨k',ekk⟩:∃ k',k=k' + 1:=⟨k - 1,by omega⟩
     have:sp m k k c=sp m k' (k / m) (c*m):=by
      rw [ekk,sp,if_pos (by rw [← ekk];exact c')]
     rw [this,ek,M59.sp_is m2 h1 i (s*m ^ i) (c*m) (by omega),M59.sp_is m2 h1 i k' (c*m) (by omega)]
   · have c':¬ k % m=0:=fun z=>c2 (congrArg V.int (by omega))
     have e2:sp m k k c=List.replicate c k:=by
      obtain ⟨k',rfl⟩:∃ k',k=k' + 1:=⟨k - 1,by omega⟩
      rw [sp,if_neg c']
     rw [e2] at e
     rw [← e,List.length_replicate] at lw
     refine ⟨by show 1≤sizeLine;decide,fun d hd=>?_⟩
     have yd:=Same.new hd (.lst [V.int (k:Nat)])
     refine ⟨⟨by omega,by omega⟩,.inl ⟨_,upd_same,le_line (show 1*((c:Int)).toNat≤1000 by omega),fun d2 hd2=>?_⟩⟩
     have yd2:=Same.new hd2 (.lst (List.replicate ((c:Int)).toNat [V.int (k:Nat)]).flatten)
     have gA2:=yd2 _ _ (yd _ _ gA)
     have g2:upd (upd H3 d (.lst [V.int (k:Nat)])) d2 (.lst (List.replicate ((c:Int)).toNat [V.int (k:Nat)]).flatten) d2=some (.lst ((toI (List.replicate c k)).map V.int)):=by
      rw [upd_same,rep_flat,Int.toNat_natCast]
      simp only [toI,List.map_replicate]
     have z7:=y2.trans (yd.trans yd2)
     generalize upd (upd H3 d (.lst [V.int (k:Nat)])) d2 (.lst (List.replicate ((c:Int)).toNat [V.int (k:Nat)]).flatten)=H7 at gA2 g2 z7
     refine .inl ⟨_,_,gA2,g2,le_line (by rw [List.length_map,List.length_map,toI_len,toI_len,List.length_replicate];omega),fun d3 hd3=>?_⟩
     refine ⟨z7.trans (Same.new hd3 _),d3,_,_,?_,rfl⟩
     rw [upd_same,← List.map_append,← toI_app,List.take_succ,List.getElem?_eq_getElem hi]
     show _=some (HO.lst ((toI (spl m (y.take i++[y[i]]))).map V.int))
     rw [spl_snoc,ep,Int.toNat_natCast,e]
 · rintro σ H2 ⟨y2,A,x3,x4,gA,rfl⟩
   rw [List.length_map,List.take_of_length_le (Nat.le_refl _)] at gA
   refine ⟨A,toI (spl m y),rfl,.inl gA,fun r ms H5 y5 pm pw hr5=>?_⟩
   exact q r ms H5 (y2.trans y5) hr5 (sl_of m2 hy pm pw)
end
theorem sub_sum:∀ {y x:List Int},y.Sublist x→(∀ n∈x,(1:Int)≤n)→0≤y.sum∧y.sum≤x.sum
 | _,_,.slnil,_=>⟨Int.le_refl _,Int.le_refl _⟩
 | _,_,.cons a s,h=>by
   obtain ⟨h1,h2⟩:=sub_sum s fun n hn=>h n (List.mem_cons_of_mem _ hn)
   have:=h a List.mem_cons_self
   rw [List.sum_cons]
   omega
 | _,_,.cons₂ a s,h=>by
   obtain ⟨h1,h2⟩:=sub_sum s fun n hn=>h n (List.mem_cons_of_mem _ hn)
   have:=h a List.mem_cons_self
   rw [List.sum_cons,List.sum_cons]
   omega
theorem sub_pb {y x:List Int} {n:Nat} (s:y.Sublist x) (hx:x∈PB n n):∃ k,k≤n∧y∈PB k k:=by
 obtain ⟨x1,x2,x3⟩:=pb_iff.mp hx
 obtain ⟨k1,k2⟩:=sub_sum s x1
 exact ⟨y.sum.toNat,by omega,pb_iff.mpr ⟨fun p hp=>x1 p (s.mem hp),x2.sublist s,by omega⟩⟩
def fr (m:Nat) (p:Int):Bool:=decide (0<p % (m:Int))
theorem fr_free {m:Nat} (hm:2≤m) {x:List Int} (h1:∀ p∈x,(1:Int)≤p):Free m (x.filter (fr m)):=fun p hp z=>by
 obtain ⟨a,b⟩:=List.mem_filter.mp hp
 have b:=of_decide_eq_true b
 have:=h1 p a
 have e:((p.toNat % m:Nat):Int)=p % (m:Int):=by rw [Int.natCast_emod,Int.toNat_of_nonneg (by omega)]
 omega
theorem fr_take {m:Nat} {x:List Int} {i:Nat} (hi:i<x.length):(x.take (i+1)).filter (fr m)=(x.take i).filter (fr m)++if 0<x[i] % (m:Int) then [x[i]] else []:=by
 rw [List.take_succ,List.getElem?_eq_getElem hi,List.filter_append]
 congr 1
 show [x[i]].filter (fr m)=_
 rw [List.filter_cons]
 by_cases h:0<x[i] % (m:Int)
 · rw [if_pos (show fr m x[i]=true from decide_eq_true h),if_pos h];rfl
 · rw [if_neg (show ¬ fr m x[i]=true by unfold fr;simpa using h),if_neg h];rfl
def fwl (m:Nat) (ps:List (Int×Int)):List Nat:=(nat ps).flatMap fun q=>List.replicate (q.2 % m) q.1
theorem fwl_snoc (m:Nat) (ps:List (Int×Int)) (q:Int×Int):fwl m (ps++[q])=fwl m ps++List.replicate (q.2.toNat % m) q.1.toNat:=by
 unfold fwl nat
 rw [List.map_append,List.flatMap_append]
 show _++List.flatMap _ [(q.1.toNat,q.2.toNat)]=_
 rw [List.flatMap_cons,List.flatMap_nil,List.append_nil]
theorem fwl_sum (m:Nat):∀ ps:List (Nat×Nat),(ps.flatMap fun q=>List.replicate (q.2 % m) q.1).sum≤(ps.flatMap fun q=>List.replicate q.2 q.1).sum∧(ps.flatMap fun q=>List.replicate (q.2 % m) q.1).length≤(ps.flatMap fun q=>List.replicate q.2 q.1).length
 | []=>⟨Nat.le_refl _,Nat.le_refl _⟩
 | q::ps=>by
   obtain ⟨a,b⟩:=fwl_sum m ps
   have c:=Nat.mod_le q.2 m
   have d:=Nat.mul_le_mul_right q.1 c
   simp only [List.flatMap_cons,List.sum_append,List.sum_replicate_nat,List.length_append,List.length_replicate]
   omega
theorem fwl_low {x:List Int} {ps:List (Int×Int)} (c:Cnt x ps) (h1:∀ p∈x,(1:Int)≤p) (m i:Nat):(fwl m (ps.take i)).length≤x.length:=by
 have a:=(fwl_sum m (nat (ps.take i))).2
 have b:=(c.flat h1).length_eq
 rw [List.length_map] at b
 have e:nat ps=nat (ps.take i)++nat (ps.drop i):=by unfold nat;rw [← List.map_append,List.take_append_drop]
 rw [e,List.flatMap_append,List.length_append] at b
 unfold fwl
 omega
theorem few_of {m n:Nat} (hm:2≤m) {x y:List Int} {ps:List (Int×Int)} (hx:x∈PB n n) (c:Cnt x ps) (pm:y.Perm (toI (fwl m ps))) (pw:y.Pairwise (·≥·)):Few m y∧∃ k,k≤n∧y∈PB k k:=by
 obtain ⟨x1,x2,x3⟩:=pb_iff.mp hx
 have good:∀ q∈nat ps,0<q.1:=fun q hq=>by
  obtain ⟨r,hr,rfl⟩:=List.mem_map.mp hq
  have:=x1 _ ((c.key r.1).mp (List.mem_map.mpr ⟨r,hr,rfl⟩))
  show 0<r.1.toNat
  omega
 have pos:∀ p∈y,∃ k:Nat,0<k∧k∈fwl m ps∧p=(k:Int):=fun p hp=>by
  obtain ⟨k,hk,rfl⟩:=List.mem_map.mp (pm.mem_iff.mp hp)
  obtain ⟨q,hq,hk2⟩:=List.mem_flatMap.mp hk
  refine ⟨k,?_,hk,rfl⟩
  rw [(List.mem_replicate.mp hk2).2]
  exact good q hq
 have e:fwl m ps=((nat ps).map fun q=>(q.1,q.2 % m)).flatMap fun q=>List.replicate q.2 q.1:=by unfold fwl;rw [List.flatMap_map]
 refine ⟨fun p=>?_,y.sum.toNat,?_,pb_iff.mpr ⟨fun p hp=>?_,pw,?_⟩⟩
 · by_cases hp:p∈y
   · obtain ⟨k,k0,kf,rfl⟩:=pos p hp
     have c1:y.count (k:Int)=(fwl m ps).count k:=by
      rw [pm.count_eq]
      have:∀ l:List Nat,(toI l).count (k:Int)=l.count k:=fun l=>by
       unfold toI
       induction l with
       | nil=>rfl
       | cons a l ih=>
         rw [List.map_cons,List.count_cons,List.count_cons,ih]
         congr 1
         by_cases d:a=k
         · subst d;simp
         · rw [if_neg (by simp;omega),if_neg (by simpa using d)]
      exact this _
     rw [c1,e,rep_count (N:=fun v=>x.count (v:Int) % m) k _ (by rw [List.map_map];exact c.nodup x1) fun q hq=>by
      obtain ⟨q2,hq2,rfl⟩:=List.mem_map.mp hq
      obtain ⟨r,hr,rfl⟩:=List.mem_map.mp hq2
      have a1:=c.is r hr
      have a2:=x1 _ ((c.key r.1).mp (List.mem_map.mpr ⟨r,hr,rfl⟩))
      show r.2.toNat % m=x.count ((r.1.toNat:Nat):Int) % m
      rw [show ((r.1.toNat:Nat):Int)=r.1 by omega,show r.2.toNat=x.count r.1 by omega]]
     split
     · exact Nat.mod_lt _ (by omega)
     · omega
   · rw [List.count_eq_zero.mpr hp];omega
 · have a:=(fwl_sum m (nat ps)).1
   have b:=sum_perm (c.flat x1)
   have t:=toI_sum (x.map Int.toNat)
   rw [toI_nat x1,x3] at t
   have s:=isum_perm pm
   rw [toI_sum] at s
   have:(fwl m ps).sum≤n:=by unfold fwl;omega
   omega
 · obtain ⟨k,k0,_,rfl⟩:=pos p hp
   omega
 · have s:=isum_perm pm
   rw [toI_sum] at s
   omega
section
variable {P:Program} {w:World} {K:PySem.W.Frag} {mg:Str→Option Value} {base:Heap} {f:Addr} {fd:FuncData}
theorem sc_ri:FnScope ["_law_parting","_law_m","_law_free","_law_due","_law_few","_law_size","_law_many"] ["_law_parting","_law_m"] (defScope (top 37)):=⟨rfl,rfl,rfl,by decide +kernel,rfl,by decide +kernel,by decide +kernel⟩
def sp_ri:Sp:=fun vs H Q _=>∃ (a:Addr) (x:List Int) (m n:Nat),vs=[.ref a,.int m]∧H a=some (.tup (x.map V.int))∧2≤m∧m≤60∧n≤300∧x∈PB n n∧∀ H',Same H H'→Q (.bl true) H'
theorem ok_ri (F:Fun K "_law_right" "_law_right" (top 37) f fd) (m_tuple:mg "tuple" = none) (F_law_falling:FnA P w K mg base "_law_falling" 1 ["_law_parts"] sp_fall) (F_law_merged:FnA P w K mg base "_law_merged" 2 ["_law_parting","_law_m"] sp_mg) (F_law_often:FnA P w K mg base "_law_often" 1 ["_law_parting"] sp_of) (F_law_same:FnA P w K mg base "_law_same" 2 ["_law_found","_law_due"] (sp_sm 2)) (F_law_split:FnA P w K mg base "_law_split" 2 ["_law_parting","_law_m"] sp_sl) (F_merged:FnA P w K mg base "merged" 2 ["parting","m"] sp_mg) (F_split:FnA P w K mg base "split" 3 ["parting","m"] sp_sl):FnOk P w K mg base CX0 4 f fd ["_law_parting","_law_m"] sp_ri:=by
 refine F.okz sc_ri (fun vs H Q E h=>?_) (fun cdv A outer s H vs Q E hr h=>?_)
 · obtain ⟨a,x,m,n,rfl,_⟩:=h;rfl
 obtain ⟨a,x,m,n,rfl,ha,m2,m60,n300,hx,q⟩:=h
 have nd:=sc_ri.nd
 have hu:=hr.units
 obtain ⟨x1,x2,x3⟩:=pb_iff.mp hx
 have lx:x.length≤300:=by have:=M59.lenLe x1;omega
 refine ⟨_,(zss_cons (zs_set (i:=2) nd rfl (Or.inl rfl) (zcb_tuple rfl m_tuple (za_cons (ze_comp ["_law_part"] [("_law_m",1)] rfl ⟨rfl,by decide +kernel,by decide +kernel,rfl,rfl⟩ (zi_tup (zn 0)) kpg_name (fun _ _ _ _=>zg_name (i:=0) (show List.Nodup (["_law_part","_law_m"]:List Str) by decide +kernel) rfl (Or.inl rfl)) (fun _ _ _ _=>(zif_one (zt_cmpP op_gtP (ze_op op_modP (zn 0) (zn 1)) ze_int (nomark _)))) (fun _ _ _ _=>(zn 0))) za_nil) rfl rfl))
  (zss_cons (zs_set (i:=3) nd rfl (Or.inl rfl) (ze_fn F_law_merged hr (by decide) rfl (za_cons (zn 2) (za_cons (zn 1) za_nil))))
  (zss_cons (zs_if (ZW.zt (zw_or (zt_not (zt_valP (ze_fn F_law_same hr (by decide) rfl (za_cons (ze_fn F_merged hr (by decide) rfl (za_cons (zn 2) (za_cons (zn 1) za_nil))) (za_cons (zn 3) za_nil))))) (zw_or (zt_not (zt_valP (ze_fn F_law_same hr (by decide) rfl (za_cons (ze_fn F_merged hr (by decide) rfl (za_cons (zn 2) (za_cons (zn 1) za_nil))) (za_cons (zn 3) za_nil))))) (zw_or1 (zt_cmpP (op_neD hu) (ze_fn F_split hr (by decide) rfl (za_cons (zn 3) (za_cons (zn 1) za_nil))) (zn 2) (nomark _)))))) (zss_one (zs_ret ze_bl)) zss_nil)
  (zss_cons (zs_set (i:=4) nd rfl (Or.inl rfl) (ze_lst za_nil))
  (zss_cons (zs_for PassesOwn.never rfl (zi_items (ze_fn F_law_often hr (by decide) rfl (za_cons (zn 0) za_nil))) (zg_tup rfl (zgs_cons (zg_name (i:=5) nd rfl (Or.inl rfl)) (zgs_cons (zg_name (i:=6) nd rfl (Or.inl rfl)) zgs_nil))) (zss_one (zs_set (i:=4) nd rfl (Or.inl rfl) (ze_op op_addP (zn 4) (ze_op op_mulQ (ze_lst (za_cons (zn 5) za_nil)) (ze_op op_modP (zn 6) (zn 1)))))))
  (zss_cons (zs_set (i:=4) nd rfl (Or.inl rfl) (ze_fn F_law_falling hr (by decide) rfl (za_cons (zn 4) za_nil)))
  (zss_cons (zs_set (i:=3) nd rfl (Or.inl rfl) (ze_fn F_law_split hr (by decide) rfl (za_cons (zn 4) (za_cons (zn 1) za_nil))))
  (zss_one (zs_ret (ze_andP (ze_fn F_law_same hr (by decide) rfl (za_cons (ze_fn F_split hr (by decide) rfl (za_cons (zn 4) (za_cons (zn 1) za_nil))) (za_cons (zn 3) za_nil))) (ze_andP (ze_fn F_law_same hr (by decide) rfl (za_cons (ze_fn F_split hr (by decide) rfl (za_cons (zn 4) (za_cons (zn 1) za_nil))) (za_cons (zn 3) za_nil))) (ze_one (ze_cmpR (op_eqD hu) (ze_fn F_merged hr (by decide) rfl (za_cons (zn 3) (za_cons (zn 1) za_nil))) (zn 4) (nomark _)))))))))))))),?_⟩
 refine ⟨a,rfl,⟨_,SqT.of ha⟩,cmp_tup (xs:=x.map V.int) (fun i zs H'=>H'=H∧zs=((x.take i).filter (fr m)).map V.int) ⟨rfl,by rw [List.take_zero];rfl⟩ ?_ ?_ ?_⟩
 · rintro i zs H' _ ⟨rfl,_⟩
   exact SqT.of ha
 · rintro i v zs H' hv ⟨rfl,rfl⟩
   have hi:i<x.length:=by have:=(List.getElem?_eq_some_iff.mp hv).1;rw [List.length_map] at this;exact this
   have ev:v=.int x[i]:=by rw [getI hi] at hv;exact (Option.some.inj hv).symm
   subst ev
   have lf:=List.length_filter_le (fr m) (x.take i)
   rw [List.length_take] at lf
   refine ⟨by rw [List.length_map];exact small1000 (by omega),?_⟩
   refine ⟨(show (0:Int)<(m:Int) by omega),?_⟩
   rw [fr_take hi]
   refine iteD (fun c=>?_) (fun c=>?_)
   · have c':0<x[i] % (m:Int):=c
     refine ⟨rfl,?_⟩
     rw [if_pos c',List.map_append]
     rfl
   · have c':¬ 0<x[i] % (m:Int):=c
     refine ⟨rfl,?_⟩
     rw [if_neg c',List.append_nil]
 · rintro zs H' ⟨rfl,rfl⟩ D hD
   rw [List.length_map,List.take_of_length_le (Nat.le_refl _)]
   have yD:=Same.new hD (.lst ((x.filter (fr m)).map V.int))
   refine ⟨_,.inl (SqL.of upd_same),fun fe H1 y1 hfe=>?_⟩
   have z1:=yD.trans y1
   have fx:=fr_free m2 x1
   obtain ⟨k,kn,hf⟩:=sub_pb (List.filter_sublist (p:=fr m)) hx
   generalize x.filter (fr m)=xf at hfe fx hf
   refine ⟨fe,xf,m,k,rfl,hfe,m2,m60,by omega,hf,fx,fun du yy H2 y2 hdu mg2=>?_⟩
   have hfe2:=y2 _ _ hfe
   obtain ⟨g1,g2,g3⟩:=pb_iff.mp mg2.pb
   have ly:yy.length≤300:=by have:=M59.lenLe g1;omega
   have ni:=Nice.ints (ns:=yy) (by omega)
   refine ⟨fe,xf,m,k,rfl,hfe2,m2,m60,by omega,hf,fx,fun r3 y3' H3 y3 hr3 mg3=>?_⟩
   have e3:=Mg.one m2 hf fx mg3 mg2
   subst e3
   refine ⟨.ref r3,.ref du,_,rfl,.ints hr3,.ints (y3 _ _ hdu),ni,fun H4 y4=>?_⟩
   have z4:=y3.trans y4
   refine ⟨fe,xf,m,k,rfl,z4 _ _ hfe2,m2,m60,by omega,hf,fx,fun r5 y5' H5 y5 hr5 mg5=>?_⟩
   have e5:=Mg.one m2 hf fx mg5 mg2
   subst e5
   refine ⟨.ref r5,.ref du,_,rfl,.ints hr5,.ints ((z4.trans y5) _ _ hdu),ni,fun H6 y6=>?_⟩
   have z6:=z4.trans (y5.trans y6)
   refine ⟨du,_,m,k,rfl,z6 _ _ hdu,m2,m60,by omega,mg2.pb,mg2.few,fun r7 zz H7 y7 hr7 sl7=>?_⟩
   have e7:=mg2.split m2 hf fx sl7
   subst e7
   refine ⟨_,_,.ints hr7,.ints ((z6.trans y7) _ _ hfe2),shaped_ints _,shaped_ints _,?_⟩
   rw [if_pos rfl,eqv_self (shaped_ints _)]
   refine iteB (fun c=>absurd c (by decide)) (fun _=>?_)
   have zA:Same H' H7:=z1.trans (y2.trans (z6.trans y7))
   clear hfe hfe2 hdu hr3 hr5 hr7
   refine ⟨Nat.zero_le _,fun L hL=>?_⟩
   have yL:=Same.new hL (.lst [])
   have gL:upd H7 L (.lst []) L=some (.lst ((toI []).map V.int)):=upd_same
   have zB:=zA.trans yL
   generalize upd H7 L (.lst [])=H8 at yL gL zB
   refine ⟨a,x,rfl,zB _ _ ha,by omega,fun d H9 hd y9 gd=>?_⟩
   have c:=cnt_tally x
   have dH:H' d=none:=fresh_back zB hd
   have Ld:L≠d:=fun z=>by rw [← z,gL] at hd;cases hd
   refine ⟨_,gd,fun o=>?_⟩
   have zC:Same H' (upd H9 d (.frz o (.dK (kd (tally x))))):=Same.updN (zB.trans y9) dH
   have gd3:upd H9 d (.frz o (.dK (kd (tally x)))) d=some (.frz o (.dK (kd (tally x)))):=upd_same
   have gL3:upd H9 d (.frz o (.dK (kd (tally x)))) L=some (.lst ((toI []).map V.int)):=by rw [upd_ne Ld];exact y9 _ _ gL
   generalize upd H9 d (.frz o (.dK (kd (tally x))))=HA at zC gd3 gL3
   refine for_items (kvs:=kd (tally x)) (fun i σ H2=>Same HA H2∧∃ A x5 x6,H2 A=some (.lst ((toI (fwl m ((tally x).take i))).map V.int))∧σ=[some (.ref a),some (.int (m:Nat)),some (.ref fe),some (.ref du),some (.ref A),x5,x6]) ⟨Same.refl _,L,_,_,by rw [List.take_zero];exact gL3,rfl⟩ ?_ ?_ ?_
   · rintro i σ H2 _ ⟨y,_⟩
     exact y _ _ gd3
   · rintro i kv σ H4 b hkv ⟨y4,A,x5,x6,gA,rfl⟩ hb
     obtain ⟨pr,hpr,rfl⟩:=kd_at hkv
     obtain ⟨sz,oo,rfl,o300,s0⟩:=pair_fine c x1 lx (List.mem_of_getElem? hpr)
     have yb:=Same.new hb (.tup [kV (Sum.inl (sz:Int):Key),V.int (oo:Int)])
     refine ⟨b,_,rfl,SqT.of upd_same,rfl,_,_,rfl,_,_,rfl,rfl,?_⟩
     dsimp only
     have zb:=y4.trans yb
     have gA4:=yb _ _ gA
     generalize upd H4 b (.tup [kV (Sum.inl (sz:Int):Key),V.int (oo:Int)])=H5 at zb gA4
     have l1:=fwl_low c x1 m i
     have hmod:=Nat.mod_lt oo (show 0<m by omega)
     refine ⟨by show 1≤sizeLine;decide,fun d1 hd1=>?_⟩
     have yd:=Same.new hd1 (.lst [V.int (sz:Nat)])
     refine ⟨(show (0:Int)<(m:Int) by omega),?_⟩
     refine ⟨⟨by omega,by omega⟩,.inl ⟨_,upd_same,le_line (show 1*((oo:Int) % (m:Int)).toNat≤1000 by omega),fun d2 hd2=>?_⟩⟩
     have yd2:=Same.new hd2 (.lst (List.replicate ((oo:Int) % (m:Int)).toNat [V.int (sz:Nat)]).flatten)
     have gA2:=yd2 _ _ (yd _ _ gA4)
     have g2':upd (upd H5 d1 (.lst [V.int (sz:Nat)])) d2 (.lst (List.replicate ((oo:Int) % (m:Int)).toNat [V.int (sz:Nat)]).flatten) d2=some (.lst ((toI (List.replicate (oo % m) sz)).map V.int)):=by
      rw [upd_same,rep_flat,show ((oo:Int) % (m:Int)).toNat=oo % m by omega]
      simp only [toI,List.map_replicate]
     have z7:=zb.trans (yd.trans yd2)
     refine .inl ⟨_,_,gA2,g2',le_line (by rw [List.length_map,List.length_map,toI_len,toI_len,List.length_replicate];omega),fun d3 hd3=>?_⟩
     refine ⟨z7.trans (Same.new hd3 _),d3,_,_,?_,rfl⟩
     rw [upd_same,← List.map_append,← toI_app,List.take_succ,hpr]
     show _=some (HO.lst ((toI (fwl m ((tally x).take i++[((sz:Int),(oo:Int))]))).map V.int))
     rw [fwl_snoc]
     simp only [Int.toNat_natCast]
   · rintro σ H4 ⟨y4,A,x5,x6,gA,rfl⟩
     rw [kd_len,List.take_of_length_le (Nat.le_refl _)] at gA
     refine ⟨A,toI (fwl m (tally x)),rfl,.inl gA,fun fw ms H5 y5 pm pw hfw=>?_⟩
     obtain ⟨fewm,k2,k2n,hms⟩:=few_of m2 hx c pm pw
     refine ⟨fw,ms,m,k2,rfl,hfw,m2,m60,by omega,hms,fewm,fun d6 zz H6 y6 hd6 sl6=>?_⟩
     have hfw6:=y6 _ _ hfw
     have lz:zz.length≤300:=by have:=M59.lenLe (pb_iff.mp sl6.pb).1;have:=(pb_iff.mp sl6.pb).2.2;omega
     have ni:=Nice.ints (ns:=zz) (by omega)
     refine ⟨fw,ms,m,k2,rfl,hfw6,m2,m60,by omega,hms,fewm,fun r7 z7 H7 y7 hr7 sl7=>?_⟩
     have e7:=sl7.one sl6
     subst e7
     refine ⟨.ref r7,.ref d6,_,rfl,.ints hr7,.ints (y7 _ _ hd6),ni,fun H8 y8=>?_⟩
     have z8:=y7.trans y8
     refine ⟨fw,ms,m,k2,rfl,z8 _ _ hfw6,m2,m60,by omega,hms,fewm,fun r9 z9 H9 y9 hr9 sl9=>?_⟩
     have e9:=sl9.one sl6
     subst e9
     refine ⟨.ref r9,.ref d6,_,rfl,.ints hr9,.ints ((z8.trans y9) _ _ hd6),ni,fun HD yD2=>?_⟩
     have zD:=z8.trans (y9.trans yD2)
     refine ⟨d6,_,m,k2,rfl,zD _ _ hd6,m2,m60,by omega,sl6.pb,sl6.free,fun rE ww HE yE hrE mgE=>?_⟩
     have eE:=sl6.merge m2 hms fewm mgE
     subst eE
     refine ⟨_,_,.ints hrE,.ints ((zD.trans yE) _ _ hfw6),shaped_ints _,shaped_ints _,?_⟩
     rw [if_neg (by decide),eqv_self (shaped_ints _)]
     exact q _ (zC.trans (y4.trans (y5.trans (y6.trans (zD.trans yE)))))
end
end K59
namespace L2
open PySem PySem.Spec PyProof.Rows
section
variable {X:Cx} {e:Expr} {es:List Expr} {t:TA}
def rInsP:V→List V→Hp→VK→Prop:=fun x vs H Q=>match x,vs with
 | .ref l,[.int k,v]=>∃ (xs:List V) (j:Nat),H l=some (.lst xs)∧k=(j:Int)∧j≤xs.length∧xs.length<1000∧Q .non (upd H l (.lst (xs.take j++v::xs.drop j)))
 | _,_=>False
theorem ins_of {X:Cx} {pins:List (Addr×Obj)} {s:Shared} {σ:St} {H:Hp} {Q:VK} {l:Addr} {xs:List V} {k:Int} {y:V} {t:Tok} {u:Value} (I:Inv X pins σ H s) (hH:H l=some (.lst xs)) (h0:0≤k) (hk:k.toNat≤xs.length) (h1000:xs.length<1000) (ry:RelV y u) (q:Q .non (upd H l (.lst (xs.take k.toNat++y::xs.drop k.toNat)))) :
 wpAny (model X.prog X.w) X.A (call (.builtin "list.insert") (.ref l::[.int k t,u])) (EP X pins σ Q) X.xe s:=by
 obtain ⟨z,its,n,r,hl,e⟩:=I.lstM hH
 have hsz:its.toArray.size≤sizeLine:=by rw [List.size_toArray];omega
 have fit:¬(!Builtin.List.listFitsIndex k)=true:=by
  simp only [Builtin.List.listFitsIndex,Bool.not_eq_true',Bool.not_eq_false,Bool.and_eq_true,decide_eq_true_eq]
  omega
 refine call_meets F.slot_list_insert ⟨_,e,rfl⟩ F.entry_list_insert (F.args_list_insert_3 _ _ _) (@AutoListH.list_insert_list_int_val_1 l its.toArray n k t u fit hsz) ⟨e,?_⟩
 have hb:¬ (k<0):=by omega
 refine ⟨.non,_,I.lset (its':=its.take k.toNat++u::its.drop k.toNat) hH e ?_ ?_ ?_,rfl,q⟩
 · simp only [if_neg hb,List.size_toArray]
   rw [Nat.min_eq_left (by omega)]
   apply Array.ext'
   simp [List.extract_eq_take_drop]
   exact List.take_of_length_le (by rw [List.length_drop];exact Nat.le_refl _)
 · exact (r.take k.toNat).append (.cons ry (r.drop k.toNat))
 · rw [List.length_append,List.length_cons,List.length_take,List.length_drop]
   have:=z
   have hz:(1001:Nat)≤sizeLine:=by rw [sizeLine_eq];decide
   omega
theorem mt_insert:MtM X "list.insert" rInsP:=by
 intro pins s σ H x vs v us Q I rx rv h
 unfold rInsP at h
 split at h
 · rename_i l k y
   obtain ⟨xs,j,hH,ek,hj,h1000,q⟩:=h
   have k0:0≤k:=by omega
   have kj:k.toNat=j:=by omega
   clear ek
   subst kj
   cases rx
   obtain ⟨u1,u,rfl,r1,r2⟩:∃ u1 u,us=[u1,u]∧RelV (.int k) u1∧RelV y u:=by
    cases rv with
    | cons r1 rv=>
      cases rv with
      | cons r2 rv=>
        cases rv
        exact ⟨_,_,rfl,r1,r2⟩
   obtain ⟨t,rfl⟩:=r1
   exact ins_of I hH k0 hj h1000 r2 q
 · exact h.elim
variable {o:Expr} {to:TE} {apos cpos:Pos}
theorem pm_insert (ho:PE X o to) (ha:PA X (e::es) t) (hbase:attributeBase o "insert" X.env (eval o X.env)=eval o X.env:=by rfl)
 (hfew:((backTo cpos (starEach (e::es) X.env)).all (fun x=>!x.1)&&(backToKw cpos (keywordEach [] X.env)).all (fun x=>x.1.isSome)
   && decide ((e::es).length+([]:List Keyword).length+(if ([]:List Keyword).isEmpty then 0 else 1)<30))=true:=by rfl)
 (hline:(apos.endLine == cpos.line)=true:=by rfl) (hs:starEach (e::es) X.env=(false,eval e X.env)::starEach es X.env:=by rfl) (hplain:(backTo cpos (starEach es X.env)).any (·.1)=false:=by rfl) :
 PE X (.Call (.Attribute o "insert" apos) (e::es) [] cpos) (fun σ H Q=>to σ H fun x H1=>tyV X.K "list" x H1∧t σ H1 fun xs H2=>rInsP x xs H2 Q):=
 pe_bm PySem.F.plainAttrs_list PySem.F.slot_list_insert PySem.F.type_list_insert mt_insert ho ha hbase hfew hline hs hplain
theorem zm_insert (ho:ZE X o to) (ha:ZA X (e::es) t) (hbase:attributeBase o "insert" X.env (eval o X.env)=eval o X.env:=by rfl)
 (hfew:((backTo cpos (starEach (e::es) X.env)).all (fun x=>!x.1)&&(backToKw cpos (keywordEach [] X.env)).all (fun x=>x.1.isSome)
   && decide ((e::es).length+([]:List Keyword).length+(if ([]:List Keyword).isEmpty then 0 else 1)<30))=true:=by rfl)
 (hline:(apos.endLine == cpos.line)=true:=by rfl) (hs:starEach (e::es) X.env=(false,eval e X.env)::starEach es X.env:=by rfl) (hplain:(backTo cpos (starEach es X.env)).any (·.1)=false:=by rfl) :
 ZE X (.Call (.Attribute o "insert" apos) (e::es) [] cpos) (fun σ H Q=>to σ H fun x H1=>tyV X.K "list" x H1∧t σ H1 fun xs H2=>rInsP x xs H2 Q):=by with_unfolding_all exact pm_insert ho ha hbase hfew hline hs hplain
end
end L2
namespace K59
open PySem L2 M04 M54 M55 MP M56 M59
theorem Step.updL {p L:Addr} {n:Nat} {H H':Hp} {o:HO} (st:Step p n H H') (hL:H L=none) (Lp:L≠p):Step p n H (upd H' L o):=by
 refine ⟨fun b ob nb e=>?_,?_⟩
 · rw [upd_ne (fun z=>by rw [z,hL] at e;cases e)]
   exact st.1 b ob nb e
 · obtain ⟨g,s,c,e,r⟩:=st.2
   exact ⟨g,s,c,by rw [upd_ne (Ne.symm Lp)];exact e,r⟩
inductive PT (H:Hp):List V→List (List Int×List Int)→Prop where
 | nil:PT H [] []
 | cons {r a b:Addr} {x y:List Int} {us ls}:H r=some (.tup [.ref a,.ref b])→H a=some (.tup (x.map V.int))→H b=some (.tup (y.map V.int))→PT H us ls→PT H (.ref r::us) ((x,y)::ls)
theorem PT.mono {H H':Hp} (y:∀ b xs,H b=some (.tup xs)→H' b=some (.tup xs)):∀ {us ls},PT H us ls→PT H' us ls
 | _,_,.nil=>.nil
 | _,_,.cons h1 h2 h3 r=>.cons (y _ _ h1) (y _ _ h2) (y _ _ h3) (PT.mono y r)
theorem PT.same {H H':Hp} (y:Same H H') {us ls} (h:PT H us ls):PT H' us ls:=h.mono fun _ _ e=>y _ _ e
theorem PT.length {H:Hp}:∀ {us ls},PT H us ls→us.length=ls.length
 | _,_,.nil=>rfl
 | _,_,.cons _ _ _ r=>congrArg (· + 1) (PT.length r)
theorem PT.ins {H:Hp} {r a b:Addr} {x y:List Int} (h1:H r=some (.tup [.ref a,.ref b])) (h2:H a=some (.tup (x.map V.int))) (h3:H b=some (.tup (y.map V.int))):∀ (j:Nat) {us ls},PT H us ls→PT H (us.take j++.ref r::us.drop j) (ls.take j++(x,y)::ls.drop j)
 | 0,_,_,h=>.cons h1 h2 h3 h
 | j+1,_,_,.nil=>.cons h1 h2 h3 .nil
 | j+1,_,_,.cons k1 k2 k3 k=>.cons k1 k2 k3 (PT.ins h1 h2 h3 j k)
theorem PT.get {H:Hp}:∀ {us ls} {i:Nat} {v:V},PT H us ls→us[i]? = some v→∃ r a b x y,v=.ref r∧ls[i]? = some (x,y)∧H r=some (.tup [.ref a,.ref b])∧H a=some (.tup (x.map V.int))∧H b=some (.tup (y.map V.int))
 | _,_,0,_,.cons h1 h2 h3 _,e=>⟨_,_,_,_,_,(Option.some.inj e).symm,rfl,h1,h2,h3⟩
 | _,_,i+1,_,.cons _ _ _ r,e=>PT.get (i:=i) r e
def famO (m:Nat) (ks:List Nat):List (List Int×List Int):=ks.map fun k=>([((k*m:Nat):Int)],List.replicate m (k:Int))
theorem fam_ins (m j k:Nat) (ks:List Nat):(famO m ks).take j++([((k*m:Nat):Int)],List.replicate m (k:Int))::(famO m ks).drop j=famO m (ks.take j++k::ks.drop j):=by
 unfold famO
 rw [List.map_append,List.map_cons,List.map_take,List.map_drop]
structure Fam (m i:Nat) (ks:List Nat):Prop where
 len:ks.length≤i
 nd:ks.Nodup
 all:∀ k∈ks,1≤k∧k≤i∧k*m≤25
 has:∀ k,1≤k→k≤i→k*m≤25→k∈ks
 full:i*m≤25→ks.length=i
theorem Fam.up {m i:Nat} {ks:List Nat} (h:Fam m i ks) (c:¬ (i+1)*m≤25):Fam m (i+1) ks:=⟨Nat.le_succ_of_le h.len,h.nd,fun k hk=>⟨(h.all k hk).1,Nat.le_succ_of_le (h.all k hk).2.1,(h.all k hk).2.2⟩,fun k k1 k2 k3=>h.has k k1 (by
 have:k≠i+1:=fun z=>c (by rw [← z];exact k3)
 omega) k3,fun z=>absurd z c⟩
theorem Fam.ins {m i j:Nat} {ks:List Nat} (h:Fam m i ks) (k:(i+1)*m≤25):Fam m (i+1) (ks.take j++(i+1)::ks.drop j):=by
 have pm:List.Perm (ks.take j++(i+1)::ks.drop j) ((i+1)::ks):=by
  have:=List.perm_middle (a:=i+1) (l₁:=ks.take j) (l₂:=ks.drop j)
  rwa [List.take_append_drop] at this
 refine ⟨?_,pm.nodup_iff.mpr (List.nodup_cons.mpr ⟨fun z=>?_,h.nd⟩),fun x hx=>?_,fun x x1 x2 x3=>?_,fun _=>?_⟩
 · rw [pm.length_eq,List.length_cons];exact Nat.succ_le_succ h.len
 · have:=(h.all _ z).2.1;omega
 · rcases List.mem_cons.mp (pm.mem_iff.mp hx) with e | e
   · rw [e];exact ⟨by omega,Nat.le_refl _,k⟩
   · exact ⟨(h.all x e).1,Nat.le_succ_of_le (h.all x e).2.1,(h.all x e).2.2⟩
 · refine pm.mem_iff.mpr ?_
   by_cases z:x=i+1
   · rw [z];exact List.mem_cons_self
   · exact List.mem_cons_of_mem _ (h.has x x1 (by omega) x3)
 · rw [pm.length_eq,List.length_cons,h.full (Nat.le_trans (Nat.mul_le_mul_right m (Nat.le_succ i)) k)]
theorem one_apart {m:Nat} (hm:1≤m):∀ {ks:List Nat},ks.Nodup→M55.Apart (ks.map fun (k:Nat)=>[((k*m:Nat):Int)])
 | [],_=>trivial
 | k::r,h=>by
   obtain ⟨h1,h2⟩:=List.nodup_cons.mp h
   refine ⟨fun f hf x hx z=>?_,one_apart hm h2⟩
   obtain ⟨k',hk',rfl⟩:=List.mem_map.mp hf
   rw [List.mem_singleton.mp hx] at z
   have e:=Int.ofNat_inj.mp (List.mem_singleton.mp z)
   rw [Nat.eq_of_mul_eq_mul_right hm e] at h1
   exact h1 hk'
theorem many_apart {m:Nat}:∀ {ks:List Nat},ks.Nodup→M55.Apart (ks.map fun (k:Nat)=>List.replicate m (k:Int))
 | [],_=>trivial
 | k::r,h=>by
   obtain ⟨h1,h2⟩:=List.nodup_cons.mp h
   refine ⟨fun f hf x hx z=>?_,many_apart h2⟩
   obtain ⟨k',hk',rfl⟩:=List.mem_map.mp hf
   rw [(List.mem_replicate.mp hx).2] at z
   have e:=Int.ofNat_inj.mp (List.mem_replicate.mp z).2
   rw [e] at h1
   exact h1 hk'
theorem Fam.one {m:Nat} {ks:List Nat} (h:Fam m 12 ks) (hm:1≤m):EvT (ks.map fun (k:Nat)=>[((k*m:Nat):Int)]):=by
 refine ⟨by rw [List.length_map];exact h.len,fun x hx=>?_,fun x hx=>?_,fun x hx z=>?_,one_apart hm h.nd⟩
 · obtain ⟨k,_,rfl⟩:=List.mem_map.mp hx;show 1≤300;decide
 · obtain ⟨k,hk,rfl⟩:=List.mem_map.mp hx
   have:=Nat.mul_le_mul (h.all k hk).1 hm
   exact ⟨fun y hy=>by rw [List.mem_singleton.mp hy];omega,List.pairwise_singleton _ _⟩
 · obtain ⟨k,_,rfl⟩:=List.mem_map.mp hx;cases z
theorem Fam.many {m:Nat} {ks:List Nat} (h:Fam m 12 ks) (hm:1≤m) (h4:m≤60):EvT (ks.map fun (k:Nat)=>List.replicate m (k:Int)):=by
 refine ⟨by rw [List.length_map];exact h.len,fun x hx=>?_,fun x hx=>?_,fun x hx z=>?_,many_apart h.nd⟩
 · obtain ⟨k,_,rfl⟩:=List.mem_map.mp hx;rw [List.length_replicate];omega
 · obtain ⟨k,hk,rfl⟩:=List.mem_map.mp hx
   have:=(h.all k hk).1
   exact ⟨fun y hy=>by rw [(List.mem_replicate.mp hy).2];omega,List.pairwise_replicate.mpr (.inr (Int.le_refl _))⟩
 · obtain ⟨k,_,rfl⟩:=List.mem_map.mp hx
   have:=congrArg List.length z
   rw [List.length_replicate] at this
   simp at this
   omega
theorem fam_sum (m:Nat) (ks:List Nat):(ks.map fun (k:Nat)=>[((k*m:Nat):Int)]).map List.sum=(ks.map fun (k:Nat)=>List.replicate m (k:Int)).map List.sum:=by
 rw [List.map_map,List.map_map]
 refine List.map_congr_left fun k _=>?_
 show [((k*m:Nat):Int)].sum=(List.replicate m (k:Int)).sum
 rw [sum_rep,List.sum_singleton,Int.natCast_mul,Int.mul_comm]
theorem free_no {m:Nat} {ks:List Nat} {x:List Int} (f:Free m x):NoE (ks.map fun (k:Nat)=>[((k*m:Nat):Int)]) x=true:=by
 unfold NoE
 rw [List.any_eq_false.mpr]
 · rfl
 · intro e he c
   obtain ⟨k,_,rfl⟩:=List.mem_map.mp he
   have:=(inn_iff _ _).mp c ((k*m:Nat):Int)
   rw [List.count_singleton_self] at this
   exact f _ (List.count_pos_iff.mp this) (by rw [Int.toNat_natCast];exact Nat.mul_mod_left _ _)
theorem count_sum (p:Int):∀ {y:List Int},(∀ q∈y,(1:Int)≤q)→(y.count p:Int)*p≤y.sum
 | [],_=>by simp
 | a::y,h=>by
   have ih:=count_sum p (y:=y) fun q hq=>h q (List.mem_cons_of_mem _ hq)
   have ha:=h a List.mem_cons_self
   rw [List.count_cons,List.sum_cons]
   by_cases c:a=p
   · subst c
     rw [if_pos (by simp),Int.natCast_add,Int.add_mul]
     simp only [Int.natCast_one,Int.one_mul]
     omega
   · rw [if_neg (by simpa using c),Nat.add_zero]
     omega
theorem fl_few {m n:Nat} (hm:2≤m) (n25:n≤25) {ks:List Nat} (fm:Fam m 12 ks) {y:List Int} (hy:y∈PB n n) (h:fl (ks.map fun (k:Nat)=>List.replicate m (k:Int)) y=[]):Few m y:=fun p=>by
 obtain ⟨y1,y2,y3⟩:=pb_iff.mp hy
 refine Nat.lt_of_not_le fun c=>?_
 have hp:p∈y:=List.count_pos_iff.mp (by omega)
 have p1:=y1 p hp
 have s:=count_sum p y1
 rw [y3] at s
 obtain ⟨k,rfl⟩:∃ k:Nat,p=(k:Int):=⟨p.toNat,by omega⟩
 have s2:y.count (k:Int)*k≤n:=by exact_mod_cast s
 have s3:m*k≤y.count (k:Int)*k:=Nat.mul_le_mul_right k c
 have s4:2*k≤m*k:=Nat.mul_le_mul_right k hm
 have hk:=fm.has k (by omega) (by omega) (by rw [Nat.mul_comm];omega)
 obtain ⟨i,hi,ei⟩:=List.getElem_of_mem hk
 have:i∈fl (ks.map fun (k:Nat)=>List.replicate m (k:Int)) y:=by
  refine List.mem_filter.mpr ⟨List.mem_range.mpr (by rw [List.length_map];exact hi),?_⟩
  have e:(ks.map fun (k:Nat)=>List.replicate m (k:Int)).getD i []=List.replicate m (k:Int):=by rw [List.getD_eq_getElem?_getD,List.getElem?_map,List.getElem?_eq_getElem hi,ei];rfl
  rw [e]
  have g:inn (List.replicate m (k:Int)) y=true:=(inn_iff _ _).mpr fun v=>by
   rw [List.count_replicate]
   split
   · rename_i z
     have z:(k:Int)=v:=by simpa using z
     rw [← z];exact c
   · omega
  rw [inn_is] at g
  exact g
 rw [h] at this
 cases this
section
variable {P:Program} {w:World} {K:PySem.W.Frag} {mg:Str→Option Value} {base:Heap} {f:Addr} {fd:FuncData}
theorem sc_lr:FnScope ["_law_hand_here","_law_m","_law_free","_law_pairs","_law_size","_law_ones","_law_others"] ["_law_hand_here","_law_m"] (defScope (top 38)):=⟨rfl,rfl,rfl,by decide +kernel,rfl,by decide +kernel,by decide +kernel⟩
def sp_lr:Sp:=fun vs H Q _=>∃ (p:Addr) (m n:Nat),vs=[.ref p,.int m]∧Hand H p n∧n<1000000∧2≤m∧m≤60∧∀ H',Step p (n+600) H H'→Q (.bl true) H'
theorem ok_lr (F:Fun K "_law_led_right" "_law_led_right" (top 38) f fd) (m_range:mg "range" = none) (m_tuple:mg "tuple" = none) (F_law_drawn:FnA P w K mg base "_law_drawn" 2 ["_law_hand_here","_law_heavy"] sp_dr) (F_law_take:FnA P w K mg base "_law_take" 1 ["_law_hand_here","_law_many"] sp_take) (F_led:FnA P w K mg base "led" 5 ["ones","others","parting"] sp_led) (F_merged:FnA P w K mg base "merged" 2 ["parting","m"] sp_mg):FnOk P w K mg base CX0 6 f fd ["_law_hand_here","_law_m"] sp_lr:=by
 refine F.okz sc_lr (fun vs H Q E h=>?_) (fun cdv A outer s H vs Q E hr h=>?_)
 · obtain ⟨p,m,n,rfl,_⟩:=h;rfl
 obtain ⟨p,m,n,rfl,hh,hn,m2,m60,q⟩:=h
 have nd:=sc_lr.nd
 have hu:=hr.units
 refine ⟨_,(zss_cons (zs_set (i:=2) nd rfl (Or.inl rfl) (zcb_tuple rfl m_tuple (za_cons (ze_comp ["_law_part"] [("_law_m",1)] rfl ⟨rfl,by decide +kernel,by decide +kernel,rfl,rfl⟩ (zi_tup (ze_fn F_law_drawn hr (by decide) rfl (za_cons (zn 0) (za_cons (ze_fn F_law_take hr (by decide) rfl (za_cons (zn 0) (za_cons ze_int za_nil))) za_nil)))) kpg_name (fun _ _ _ _=>zg_name (i:=0) (show List.Nodup (["_law_part","_law_m"]:List Str) by decide +kernel) rfl (Or.inl rfl)) (fun _ _ _ _=>(zif_one (zt_cmpP op_gtP (ze_op op_modP (zn 0) (zn 1)) ze_int (nomark _)))) (fun _ _ _ _=>(zn 0))) za_nil) rfl rfl))
  (zss_cons (zs_set (i:=3) nd rfl (Or.inl rfl) (ze_lst za_nil))
  (zss_cons (zs_for PassesOwn.never rfl (zi_range2 rfl m_range (za_cons ze_int (za_cons ze_int za_nil))) (zg_name (i:=4) nd rfl (Or.inl rfl)) (zss_one (zs_if (zt_cmpP op_leP (ze_op op_mulQ (zn 4) (zn 1)) ze_int (nomark _)) (zss_one (zs_expr (zm_insert (zn 3) (za_cons (ze_fn F_law_take hr (by decide) rfl (za_cons (zn 0) (za_cons (zn 4) za_nil))) (za_cons (ze_tup (za_cons (ze_tup (za_cons (ze_op op_mulQ (zn 4) (zn 1)) za_nil)) (za_cons (ze_op op_mulQ (ze_tup (za_cons (zn 4) za_nil)) (zn 1)) za_nil))) za_nil))))) zss_nil)))
  (zss_cons (zs_par (i:=5) (j:=6) rfl nd rfl rfl (by decide) rfl rfl (za_cons (zcb_tuple rfl m_tuple (za_cons (ze_comp ["_law_one","_law_other"] [] rfl ⟨rfl,by decide +kernel,by decide +kernel,rfl,rfl⟩ (zi_list (zn 3)) kpg_two (fun _ _ _ _=>zg_tup rfl (zgs_cons (zg_name (i:=0) (show List.Nodup (["_law_one","_law_other"]:List Str) by decide +kernel) rfl (Or.inl rfl)) (zgs_cons (zg_name (i:=1) (show List.Nodup (["_law_one","_law_other"]:List Str) by decide +kernel) rfl (Or.inl rfl)) zgs_nil))) (fun _ _ _ _=>zif_nil) (fun _ _ _ _=>(zn 0))) za_nil) rfl rfl) (za_cons (zcb_tuple rfl m_tuple (za_cons (ze_comp ["_law_one","_law_other"] [] rfl ⟨rfl,by decide +kernel,by decide +kernel,rfl,rfl⟩ (zi_list (zn 3)) kpg_two (fun _ _ _ _=>zg_tup rfl (zgs_cons (zg_name (i:=0) (show List.Nodup (["_law_one","_law_other"]:List Str) by decide +kernel) rfl (Or.inl rfl)) (zgs_cons (zg_name (i:=1) (show List.Nodup (["_law_one","_law_other"]:List Str) by decide +kernel) rfl (Or.inl rfl)) zgs_nil))) (fun _ _ _ _=>zif_nil) (fun _ _ _ _=>(zn 1))) za_nil) rfl rfl) za_nil)) rfl)
  (zss_one (zs_ret (ze_cmpR (op_eqD hu) (ze_ix ix_P (ze_fn F_led hr (by decide) rfl (za_cons (zn 5) (za_cons (zn 6) (za_cons (zn 2) za_nil)))) ze_int (fun _ _=>rfl)) (ze_fn F_merged hr (by decide) rfl (za_cons (zn 2) (za_cons (zn 1) za_nil))) (nomark _)))))))),?_⟩
 refine ⟨p,26,n,rfl,hh,by omega,by decide,by decide,fun t26 H1 t0 t1 st1=>?_⟩
 obtain ⟨hv,rfl⟩:∃ hv:Nat,t26=(hv:Int):=⟨t26.toNat,by omega⟩
 refine ⟨p,hv,n+1,rfl,st1.2,by omega,by omega,fun a x H2 st2 ha l2 x1 x3 x2=>?_⟩
 have hx:x∈PB hv hv:=pb_iff.mpr ⟨x1,x2,x3⟩
 have st12:=st1.trans st2
 refine ⟨a,rfl,⟨_,SqT.of ha⟩,cmp_tup (xs:=x.map V.int) (fun i zs H'=>H'=H2∧zs=((x.take i).filter (fr m)).map V.int) ⟨rfl,by rw [List.take_zero];rfl⟩ ?_ ?_ ?_⟩
 · rintro i zs H' _ ⟨rfl,_⟩
   exact SqT.of ha
 · rintro i v zs H' hv' ⟨rfl,rfl⟩
   have hi:i<x.length:=by have:=(List.getElem?_eq_some_iff.mp hv').1;rw [List.length_map] at this;exact this
   have ev:v=.int x[i]:=by rw [getI hi] at hv';exact (Option.some.inj hv').symm
   subst ev
   have lf:=List.length_filter_le (fr m) (x.take i)
   rw [List.length_take] at lf
   refine ⟨by rw [List.length_map];exact small1000 (by omega),?_⟩
   refine ⟨(show (0:Int)<(m:Int) by omega),?_⟩
   rw [fr_take hi]
   refine iteD (fun c=>?_) (fun c=>?_)
   · have c':0<x[i] % (m:Int):=c
     refine ⟨rfl,?_⟩
     rw [if_pos c',List.map_append]
     rfl
   · have c':¬ 0<x[i] % (m:Int):=c
     refine ⟨rfl,?_⟩
     rw [if_neg c',List.append_nil]
 rintro zs H' ⟨rfl,rfl⟩ D hD
 rw [List.length_map,List.take_of_length_le (Nat.le_refl _)]
 have yD:=Same.new hD (.lst ((x.filter (fr m)).map V.int))
 refine ⟨_,.inl (SqL.of upd_same),fun fe H3 y3 hfe=>?_⟩
 have st3:=st12.same (yD.trans y3)
 have fx:=fr_free m2 x1
 obtain ⟨k,kn,hf⟩:=sub_pb (List.filter_sublist (p:=fr m)) hx
 generalize x.filter (fr m)=xf at hfe fx hf
 clear yD y3
 refine ⟨Nat.zero_le _,fun L hL=>?_⟩
 have yL:=Same.new hL (.lst [])
 have Lp:L≠p:=st3.2.ne hL
 have gL:upd H3 L (.lst []) L=some (.lst []):=upd_same
 have st4:=st3.same yL
 have hfe4:=yL _ _ hfe
 have LH:H L=none:=by
  cases e:H L with
  | none=>rfl
  | some o=>rw [st3.1 _ _ Lp e] at hL;cases hL
 generalize upd H3 L (.lst [])=H4 at gL st4 hfe4
 refine ⟨1,13,rfl,⟨by decide,by decide,by decide,by decide⟩,for_range (fun i σ H'=>Step p (n+1+500+i) H H'∧H' fe=some (.tup (xf.map V.int))∧∃ us ks x4,H' L=some (.lst us)∧PT H' us (famO m ks)∧Fam m i ks∧σ=[some (.ref p),some (.int (m:Nat)),some (.ref fe),some (.ref L),x4,none,none]) ⟨st4,hfe4,[],[],_,gL,.nil,⟨Nat.le_refl _,List.nodup_nil,(fun _ z=>(List.not_mem_nil z).elim),(fun k k1 k2 _=>by omega),fun _=>rfl⟩,rfl⟩ ?_ ?_⟩
 · rintro i σ H3 hi ⟨st3,hfe3,us,ks,x4,hL3,pt,fm,rfl⟩
   have hi:i<12:=hi
   have lp:=pt.length
   have lk:(famO m ks).length=ks.length:=by unfold famO;rw [List.length_map]
   have fl:=fm.len
   have e1:(1+(i:Int))*(m:Int)=(((i+1)*m:Nat):Int):=by rw [Int.natCast_mul,Int.natCast_succ,Int.add_comm 1]
   refine ⟨mulL (by omega) (by omega),?_⟩
   refine iteD (fun c=>?_) (fun c=>?_)
   · have c2:(i+1)*m≤25:=by
      have c':(1+(i:Int))*(m:Int)≤25:=c
      rw [e1] at c'
      omega
     have full:=fm.full (Nat.le_trans (Nat.mul_le_mul_right m (Nat.le_succ i)) c2)
     refine ⟨tyL hL3,?_⟩
     refine ⟨p,1+(i:Int),n+1+500+i,rfl,st3.2,by omega,by omega,by omega,fun t4 H4 u0 u1 st4=>?_⟩
     have hL4:=st4.1 _ _ Lp hL3
     have st34:=st3.trans st4
     have hfe4:=Step.tup st3.2 st4 hfe3
     have pt4:PT H4 us (famO m ks):=pt.mono fun b xs e=>Step.tup st3.2 st4 e
     obtain ⟨j,ej,hj⟩:∃ j:Nat,t4=(j:Int)∧j≤us.length:=⟨t4.toNat,by omega,by omega⟩
     refine ⟨mulL (by omega) (by omega),?_⟩
     refine ⟨by show 1≤sizeLine;decide,fun a ha=>?_⟩
     have ya:=Same.new ha (.tup [V.int ((1+(i:Int))*(m:Int))])
     refine ⟨by show 1≤sizeLine;decide,fun d hd=>?_⟩
     have yd:=Same.new hd (.tup [V.int (1+(i:Int))])
     refine ⟨⟨by omega,by omega⟩,.inr ⟨_,upd_same,le_line (show 1*(m:Int).toNat≤1000 by omega),fun b H5 y5 hb=>?_⟩⟩
     refine ⟨by show 2≤sizeLine;decide,fun r hr'=>?_⟩
     have yr:=Same.new hr' (.tup [V.ref a,.ref b])
     rw [rep_flat] at hb
     have z5:=(ya.trans yd).trans (y5.trans yr)
     have ga:=(yd.trans (y5.trans yr)) _ _ (upd_same:upd H4 a (.tup [V.int ((1+(i:Int))*(m:Int))]) a=_)
     have gb:=yr _ _ hb
     have gr:upd H5 r (.tup [V.ref a,.ref b]) r=some (.tup [V.ref a,.ref b]):=upd_same
     have hL5:=z5 _ _ hL4
     have pt5:=pt4.same z5
     have st5:=st34.same z5
     have hfe5:=z5 _ _ hfe4
     generalize upd H5 r (.tup [V.ref a,.ref b])=H6 at ga gb gr hL5 pt5 st5 hfe5
     refine ⟨us,j,hL5,ej,hj,by omega,?_⟩
     have e2:List.replicate (m:Int).toNat (1+(i:Int))=List.replicate m (((i+1:Nat)):Int):=by rw [Int.toNat_natCast,Int.natCast_succ,Int.add_comm 1]
     rw [e1] at ga
     rw [e2] at gb
     refine ⟨st5.updL LH Lp,by rw [upd_ne (ne_of hfe5 hL5 (by intro z;cases z))];exact hfe5,_,ks.take j++(i+1)::ks.drop j,_,upd_same,?_,fm.ins c2,rfl⟩
     rw [← fam_ins]
     exact (PT.ins (x:=[_]) gr ga gb j pt5).mono fun b xs e=>by rw [upd_ne (ne_of e hL5 (by intro z;cases z))];exact e
   · have c2:¬ (i+1)*m≤25:=fun z=>c (by show (1+(i:Int))*(m:Int)≤25;rw [e1];omega)
     exact ⟨st3.mono (by omega),hfe3,us,ks,_,hL3,pt,fm.up c2,rfl⟩
 · rintro σ H6 ⟨stM,hfeM,zs,ks,x4,hM,pM,fm,rfl⟩
   have l12':(famO m ks).length≤12:=by unfold famO;rw [List.length_map];exact fm.len
   have lzs:=pM.length
   refine ⟨_,rfl,⟨_,SqL.of hM⟩,cmp_list (xs:=zs) (fun i ys H'=>H'=H6∧Tps H' ys (((famO m ks).take i).map (·.1))) ⟨rfl,by rw [List.take_zero];exact .nil⟩ ?_ ?_ ?_⟩
   · rintro i ys H' _ ⟨rfl,_⟩
     exact SqL.of hM
   · rintro i v ys H' hv ⟨rfl,pz⟩
     have hi:i<zs.length:=(List.getElem?_eq_some_iff.mp hv).1
     obtain ⟨r,a,b,xx,yy,rfl,el,g1,g2,g3⟩:=pM.get hv
     have lz:=pz.length
     rw [List.length_map,List.length_take] at lz
     refine ⟨small1000 (by omega),?_⟩
     refine ⟨r,_,rfl,SqT.of g1,rfl,_,_,rfl,_,_,rfl,rfl,?_⟩
     refine ⟨rfl,?_⟩
     rw [List.take_succ,el,List.map_append]
     exact pz.snoc g2
   · rintro ys H' ⟨rfl,pz⟩ D hD
     have yD:=Same.new hD (.lst ys)
     rw [lzs,List.take_of_length_le (Nat.le_refl _)] at pz
     have gD:upd H' D (.lst ys) D=some (.lst ys):=upd_same
     have hM7:=yD _ _ hM
     have pz7:=pz.same yD
     have pM7:=pM.same yD
     have st7:=stM.same yD
     have hfe7:=yD _ _ hfeM
     generalize upd H' D (.lst ys)=H7 at gD hM7 pz7 pM7 st7 hfe7
     refine ⟨_,.inl (SqL.of gD),fun o H8 y8 ho=>?_⟩
     have hM8:=y8 _ _ hM7
     have pz8:=pz7.same y8
     have pM8:=pM7.same y8
     have st8:=st7.same y8
     have hfe8:=y8 _ _ hfe7
     refine ⟨_,rfl,⟨_,SqL.of hM8⟩,cmp_list (xs:=zs) (fun i ys H'=>H'=H8∧Tps H' ys (((famO m ks).take i).map (·.2))) ⟨rfl,by rw [List.take_zero];exact .nil⟩ ?_ ?_ ?_⟩
     · rintro i ys H' _ ⟨rfl,_⟩
       exact SqL.of hM8
     · rintro i v ys H' hv ⟨rfl,pz⟩
       have hi:i<zs.length:=(List.getElem?_eq_some_iff.mp hv).1
       obtain ⟨r,a,b,xx,yy,rfl,el,g1,g2,g3⟩:=pM8.get hv
       have lz:=pz.length
       rw [List.length_map,List.length_take] at lz
       refine ⟨small1000 (by omega),?_⟩
       refine ⟨r,_,rfl,SqT.of g1,rfl,_,_,rfl,_,_,rfl,rfl,?_⟩
       refine ⟨rfl,?_⟩
       rw [List.take_succ,el,List.map_append]
       exact pz.snoc g3
     · rintro ws H' ⟨rfl,pw⟩ D2 hD2
       have yD2:=Same.new hD2 (.lst ws)
       rw [lzs,List.take_of_length_le (Nat.le_refl _)] at pw
       refine ⟨_,.inl (SqL.of upd_same),fun q' H9 y9 hq=>?_⟩
       have z9:=yD2.trans y9
       refine ⟨_,_,rfl,?_⟩
       have f1:(famO m ks).map (·.1)=ks.map fun (k:Nat)=>[((k*m:Nat):Int)]:=by unfold famO;rw [List.map_map];rfl
       have f2:(famO m ks).map (·.2)=ks.map fun (k:Nat)=>List.replicate m (k:Int):=by unfold famO;rw [List.map_map];rfl
       rw [f1] at pz8
       rw [f2] at pw
       have hfe9:=z9 _ _ hfe8
       have ea:=fm.one (by omega)
       have eb:=fm.many (by omega) m60
       have es:=fam_sum m ks
       have pd:=EvT.pd ea eb es
       have st9:=st8.same z9
       refine ⟨o,q',fe,ys,ws,_,_,xf,k,rfl,z9 _ _ ho,pz8.same z9,hq,pw.same z9,ea,eb,es,hfe9,by omega,hf,free_no fx,fun r3 t3 u3 js HA yA hr3 ht3 hu3 wy fin=>?_⟩
       refine ⟨_,.inr hr3,.ref t3,atI_of (j:=0) rfl rfl,?_⟩
       refine ⟨fe,xf,m,k,rfl,yA _ _ hfe9,m2,m60,by omega,hf,fx,fun rB yy HB yB hrB mgB=>?_⟩
       have run1:=run_in pd hf (wy.ok pd) js.length (Nat.le_refl _)
       rw [List.take_of_length_le (Nat.le_refl _)] at run1
       have e:=Mg.one m2 hf fx ⟨run1,fl_few m2 (by omega) fm run1 fin,walk_spl m2 (fun k hk=>(fm.all k hk).1) hf pd _ js rfl (wy.ok pd)⟩ mgB
       subst e
       refine ⟨_,_,.ints (yB _ _ ht3),.ints hrB,shaped_ints _,shaped_ints _,?_⟩
       rw [if_neg (by decide),eqv_self (shaped_ints _)]
       exact q _ ((st9.same (yA.trans yB)).mono (by omega))
end
theorem two {s:Int} (s0:0≤s) (s1:s<2):∃ j v:Nat,s=(j:Int)∧1≤v∧v≤59∧([V.int 3,.int 59]:List V)[j]? = some (V.int (v:Int)):=by
 have:s=0∨s=1:=by omega
 rcases this with rfl | rfl
 · exact ⟨0,3,rfl,by decide,by decide,rfl⟩
 · exact ⟨1,59,rfl,by decide,by decide,rfl⟩
theorem four {s:Int} (s0:0≤s) (s1:s<4) {t u:Int} (t0:0≤t) (t1:t<301) (u0:0≤u) (u1:u<31):∃ j v:Nat,s=(j:Int)∧v≤300∧([V.int 300,.int t,.int u,.int 256]:List V)[j]? = some (V.int (v:Int)):=by
 have:s=0∨s=1∨s=2∨s=3:=by omega
 rcases this with rfl | rfl | rfl | rfl
 · exact ⟨0,300,rfl,by decide,rfl⟩
 · exact ⟨1,t.toNat,rfl,by omega,by show some (V.int t)=_;rw [Int.toNat_of_nonneg t0]⟩
 · exact ⟨2,u.toNat,rfl,by omega,by show some (V.int u)=_;rw [Int.toNat_of_nonneg u0]⟩
 · exact ⟨3,256,rfl,by decide,rfl⟩
theorem few_len {m:Nat} {y:List Int} (h:y.length<m):Few m y:=fun p=>Nat.lt_of_le_of_lt List.count_le_length h
theorem o300:List.replicate 300 (1:Int)∈PB 300 300:=pb_iff.mpr ⟨(fun p hp=>by rw [(List.mem_replicate.mp hp).2];decide),List.pairwise_replicate.mpr (.inr (Int.le_refl _)),by decide⟩
theorem of60:Free 60 (List.replicate 300 (1:Int)):=fun p hp=>by rw [(List.mem_replicate.mp hp).2];decide
theorem of2:Free 2 (List.replicate 300 (1:Int)):=fun p hp=>by rw [(List.mem_replicate.mp hp).2];decide
theorem mg60:Mg 60 300 (List.replicate 300 (1:Int)) (List.replicate 5 60):=⟨pb_iff.mpr ⟨by decide,by decide,by decide⟩,few_len (by decide),.of_eq (by decide +kernel)⟩
theorem bin:([256,32,8,4]:List Int)∈PB 300 300:=pb_iff.mpr ⟨by decide,by decide,by decide⟩
theorem binf:Few 2 [256,32,8,4]:=fun p=>Nat.lt_succ_of_le (List.nodup_iff_count.mp (by decide) p)
theorem mg2':Mg 2 300 (List.replicate 300 (1:Int)) [256,32,8,4]:=⟨bin,binf,.of_eq (by decide +kernel)⟩
theorem h300:([300]:List Int)∈PB 300 300:=pb_iff.mpr ⟨by decide,by decide,by decide⟩
theorem sl60:Sl 60 300 [300] (List.replicate 60 (5:Int)):=⟨pb_iff.mpr ⟨(fun p hp=>by rw [(List.mem_replicate.mp hp).2];decide),List.pairwise_replicate.mpr (.inr (Int.le_refl _)),by decide⟩,(fun p hp=>by rw [(List.mem_replicate.mp hp).2];decide),.of_eq (by decide +kernel)⟩
theorem sl2':Sl 2 300 [256,32,8,4] (List.replicate 300 (1:Int)):=⟨o300,of2,.of_eq (by decide +kernel)⟩
theorem nilp:([]:List Int)∈PB 0 0:=pb_iff.mpr ⟨(fun _ z=>(List.not_mem_nil z).elim),.nil,rfl⟩
theorem nilf (m:Nat):Free m []:=fun _ z=>(List.not_mem_nil z).elim
theorem mg0:Mg 2 0 [] []:=⟨nilp,few_len (by decide),.refl _⟩
theorem sl0:Sl 60 0 [] []:=⟨nilp,nilf 60,.refl _⟩
section
variable {P:Program} {w:World} {K:PySem.W.Frag} {mg:Str→Option Value} {base:Heap} {f:Addr} {fd:FuncData}
theorem sc_law:FnScope ["_law_script","_law_k","_law_hand_here","_law_m","_law_turn","_law_spot"] ["_law_script"] (defScope (top 39)):=⟨rfl,rfl,rfl,by decide +kernel,rfl,by decide +kernel,by decide +kernel⟩
def sp_law (K:PySem.W.Frag):Sp:=fun vs H Q _=>∃ (a:Addr) (ns:List Int),vs=[.ref a]∧SqL K H a (ns.map V.int)∧ns.length≤63∧∀ H',Q (.bl true) H'
theorem ok_law (F:Fun K "law" "law" (top 39) f fd) (m_len:mg "len" = none) (m_max:mg "max" = none) (m_min:mg "min" = none) (m_range:mg "range" = none) (F_law_drawn:FnA P w K mg base "_law_drawn" 2 ["_law_hand_here","_law_heavy"] sp_dr) (F_law_hand:FnA P w K mg base "_law_hand" 1 ["_law_script","_law_k"] (sp_hand K)) (F_law_led_right:FnA P w K mg base "_law_led_right" 6 ["_law_hand_here","_law_m"] sp_lr) (F_law_right:FnA P w K mg base "_law_right" 4 ["_law_parting","_law_m"] sp_ri) (F_law_take:FnA P w K mg base "_law_take" 1 ["_law_hand_here","_law_many"] sp_take) (F_merged:FnA P w K mg base "merged" 2 ["parting","m"] sp_mg) (F_split:FnA P w K mg base "split" 3 ["parting","m"] sp_sl):FnOk P w K mg base CX0 7 f fd ["_law_script"] (sp_law K):=by
 refine F.okz sc_law (fun vs H Q E h=>?_) (fun cdv A outer s H vs Q E hr h=>?_)
 · obtain ⟨a,ns,rfl,_⟩:=h;rfl
 obtain ⟨a,ns,rfl,hS,hl,q⟩:=h
 have nd:=sc_law.nd
 have hu:=hr.units
 refine ⟨_,(zss_cons (zs_for PassesOwn.never rfl (zi_range1 rfl m_range (za_cons (zcb_max rfl rfl m_max (za_cons ze_int (za_cons (zcb_min rfl rfl m_min (za_cons ze_int (za_cons (zcb_len rfl m_len (za_cons (zn 0) za_nil) rfl rfl) za_nil)) rfl rfl) za_nil)) rfl rfl) za_nil)) (zg_name (i:=1) nd rfl (Or.inl rfl)) (zss_cons (zs_set (i:=2) nd rfl (Or.inl rfl) (ze_fn F_law_hand hr (by decide) rfl (za_cons (zn 0) (za_cons (zn 1) za_nil))))
  (zss_cons (zs_set (i:=3) nd rfl (Or.inl rfl) (ze_op op_addP ze_int (ze_fn F_law_take hr (by decide) rfl (za_cons (zn 2) (za_cons (ze_ix ix_P (ze_lst (za_cons ze_int (za_cons ze_int za_nil))) (ze_fn F_law_take hr (by decide) rfl (za_cons (zn 2) (za_cons ze_int za_nil))) (fun _ _=>rfl)) za_nil)))))
  (zss_cons (zs_for PassesOwn.never rfl (zi_range1 rfl m_range (za_cons ze_int za_nil)) (zg_name (i:=4) nd rfl (Or.inl rfl)) (zss_cons (zs_set (i:=5) nd rfl (Or.inl rfl) (ze_fn F_law_take hr (by decide) rfl (za_cons (zn 2) (za_cons ze_int za_nil))))
  (zss_one (zs_if (zt_not (zt_valP (ze_fn F_law_right hr (by decide) rfl (za_cons (ze_fn F_law_drawn hr (by decide) rfl (za_cons (zn 2) (za_cons (ze_ix ix_P (ze_lst (za_cons ze_int (za_cons (ze_fn F_law_take hr (by decide) rfl (za_cons (zn 2) (za_cons ze_int za_nil))) (za_cons (ze_fn F_law_take hr (by decide) rfl (za_cons (zn 2) (za_cons ze_int za_nil))) (za_cons ze_int za_nil))))) (zn 5) (fun _ _=>rfl)) za_nil))) (za_cons (zn 3) za_nil))))) (zss_one (zs_ret ze_bl)) zss_nil))))
  (zss_one (zs_if (zt_not (zt_valP (ze_fn F_law_led_right hr (by decide) rfl (za_cons (zn 2) (za_cons (zn 3) za_nil))))) (zss_one (zs_ret ze_bl)) zss_nil))))))
  (zss_cons (zs_if (ZW.zt (zw_or (zt_cmpP (op_neD hu) (ze_fn F_merged hr (by decide) rfl (za_cons (ze_op op_mulQ (ze_tup (za_cons ze_int za_nil)) ze_int) (za_cons ze_int za_nil))) (ze_op op_mulQ (ze_tup (za_cons ze_int za_nil)) ze_int) (nomark _)) (zw_or1 (zt_cmpP (op_neD hu) (ze_fn F_split hr (by decide) rfl (za_cons (ze_tup (za_cons ze_int za_nil)) (za_cons ze_int za_nil))) (ze_op op_mulQ (ze_tup (za_cons ze_int za_nil)) ze_int) (nomark _))))) (zss_one (zs_ret ze_bl)) zss_nil)
  (zss_cons (zs_if (zt_cmpP (op_neD hu) (ze_fn F_split hr (by decide) rfl (za_cons (ze_tup (za_cons ze_int (za_cons ze_int (za_cons ze_int (za_cons ze_int za_nil))))) (za_cons ze_int za_nil))) (ze_op op_mulQ (ze_tup (za_cons ze_int za_nil)) ze_int) (nomark _)) (zss_one (zs_ret ze_bl)) zss_nil)
  (zss_one (zs_ret (ze_andP (ze_cmpR (op_eqD hu) (ze_fn F_merged hr (by decide) rfl (za_cons (ze_tup za_nil) (za_cons ze_int za_nil))) (ze_tup za_nil) (nomark _)) (ze_andP (ze_cmpR (op_eqD hu) (ze_fn F_split hr (by decide) rfl (za_cons (ze_tup za_nil) (za_cons ze_int za_nil))) (ze_tup za_nil) (nomark _)) (ze_one (ze_cmpR (op_eqD hu) (ze_fn F_merged hr (by decide) rfl (za_cons (ze_op op_mulQ (ze_tup (za_cons ze_int za_nil)) ze_int) (za_cons ze_int za_nil))) (ze_tup (za_cons ze_int (za_cons ze_int (za_cons ze_int (za_cons ze_int za_nil))))) (nomark _)))))))))),?_⟩
 refine ⟨_,.inl hS,?_⟩
 rw [List.length_map]
 obtain ⟨m,em,m5⟩:∃ m:Int,(if 1<(if (ns.length:Int)<4 then (ns.length:Int) else 4) then (if (ns.length:Int)<4 then (ns.length:Int) else 4) else 1)=m∧(0≤m∧m≤4):=⟨_,rfl,by split <;> split <;> omega⟩
 refine ⟨m,congrArg (fun z=>[V.int z]) em,by omega,by omega,?_⟩
 refine for_range (fun i σ H'=>i≤4∧Same H H'∧∃ x1 x2 x3 x4 x5,σ=[some (.ref a),x1,x2,x3,x4,x5]) ⟨by decide,Same.refl _,_,_,_,_,_,rfl⟩ ?_ ?_
 · rintro i σ H0 hi ⟨_,y0,x1,x2,x3,x4,x5,rfl⟩
   have hi5:i+1≤4:=by omega
   refine ⟨a,0+(i:Int),ns,rfl,SqL.same y0 hS,by omega,by omega,fun p H1 hp y1 hh1=>?_⟩
   have hpH:H p=none:=fresh_back y0 hp
   have z1:=y0.trans y1
   have key:∀ {Hx:Hp} {k:Nat},Step p k H1 Hx→Same H Hx:=fun {Hx k} st b o e'=>st.1 b o (fun z=>by rw [z,hpH] at e';cases e') (z1 _ _ e')
   refine ⟨by show 2≤sizeLine;decide,fun l hl1=>?_⟩
   have yl:=Same.new hl1 (.lst [V.int 3,.int 59])
   have lp:l≠p:=hh1.ne hl1
   have gl:upd H1 l (.lst [V.int 3,.int 59]) l=some (.lst [V.int 3,.int 59]):=upd_same
   have st2:=Step.of_same hh1 yl
   generalize upd H1 l (.lst [V.int 3,.int 59])=H2 at gl st2
   refine ⟨p,2,0,rfl,st2.2,by decide,by decide,by decide,fun t2 H3 s0 s1 st3=>?_⟩
   obtain ⟨jj,v,ej,v1,v59,gv⟩:=two s0 s1
   refine ⟨_,.inl (SqL.of (st3.1 _ _ lp gl)),.int (v:Int),atI_of (j:=jj) (by rw [ej]) gv,?_⟩
   refine ⟨p,v,1,rfl,st3.2,by decide,by omega,by omega,fun tm H4 u0 u1 st4=>?_⟩
   obtain ⟨mm,emm,mm2,mm60⟩:∃ mm:Nat,2+tm=(mm:Int)∧2≤mm∧mm≤60:=⟨(2+tm).toNat,by omega,by omega,by omega⟩
   have st14:=(st2.trans st3).trans st4
   refine ⟨6,rfl,by decide,by decide,?_⟩
   refine for_range (n:=6) (fun j σ H'=>j≤6∧Step p (2+j*1000) H1 H'∧∃ x4 x5,σ=[some (.ref a),some (.int (0+(i:Int))),some (.ref p),some (.int (2+tm)),x4,x5]) ⟨by decide,by simpa using st14,_,_,rfl⟩ ?_ ?_
   · rintro j σ H3 hj ⟨_,st3,x4,x5,rfl⟩
     refine ⟨p,4,2+j*1000,rfl,st3.2,by omega,by decide,by decide,fun spot H4 s0 s1 st4=>?_⟩
     refine ⟨p,301,2+j*1000+1,rfl,st4.2,by omega,by decide,by decide,fun t301 H5 t0 t1 st5=>?_⟩
     refine ⟨p,31,2+j*1000+1+1,rfl,st5.2,by omega,by decide,by decide,fun t31 H6 r0 r1 st6=>?_⟩
     refine ⟨by show 4≤sizeLine;decide,fun l hl5=>?_⟩
     have yl:=Same.new hl5 (.lst [V.int 300,.int t301,.int t31,.int 256])
     obtain ⟨jj,hv,ej,h300,gv⟩:=four s0 s1 t0 t1 r0 r1
     refine ⟨_,.inl (SqL.of upd_same),.int (hv:Int),atI_of (j:=jj) (by rw [ej]) gv,?_⟩
     have st7:=st6.same yl
     generalize upd H6 l (.lst [V.int 300,.int t301,.int t31,.int 256])=H7 at yl st7
     refine ⟨p,hv,2+j*1000+1+1+1,rfl,st7.2,by omega,by omega,fun r7 ms H8 st8 hr7 l7 p7 s7 d7=>?_⟩
     refine ⟨r7,ms,mm,hv,congrArg (fun z=>[V.ref r7,V.int z]) emm,hr7,mm2,mm60,by omega,pb_iff.mpr ⟨p7,d7,s7⟩,fun H9 y9=>?_⟩
     have st9:Step p (2+(j+1)*1000) H1 H9:=(((((st3.trans st4).trans st5).trans st7).trans st8).same y9).mono (by rw [Nat.succ_mul];omega)
     exact ⟨by omega,st9,_,_,rfl⟩
   · rintro σ H3 ⟨_,st3,x4,x5,rfl⟩
     refine ⟨p,mm,2+6*1000,congrArg (fun z=>[V.ref p,V.int z]) emm,st3.2,by decide,mm2,mm60,fun H4 st4=>?_⟩
     exact ⟨hi5,key (st3.trans st4),_,_,_,_,_,rfl⟩
 · rintro σ H' ⟨_,_,x1,x2,x3,x4,x5,rfl⟩
   clear hS
   refine ⟨by show 1≤sizeLine;decide,fun d hd=>?_⟩
   refine ⟨⟨by decide,by decide⟩,.inr ⟨_,upd_same,le_line (show 1*(300:Int).toNat≤1000 by decide),fun b H1 y1 hb=>?_⟩⟩
   rw [rep_flat] at hb
   refine ⟨b,List.replicate 300 1,60,300,rfl,hb,by decide,by decide,by decide,o300,of60,fun r2 z2 H2 y2 hr2 g2=>?_⟩
   have e2:=Mg.one (by decide) o300 of60 g2 mg60
   subst e2
   refine ⟨by show 1≤sizeLine;decide,fun d3 hd3=>?_⟩
   have yd3:=Same.new hd3 (.tup [V.int 60])
   refine ⟨⟨by decide,by decide⟩,.inr ⟨_,upd_same,le_line (show 1*(5:Int).toNat≤1000 by decide),fun b4 H4 y4 hb4=>?_⟩⟩
   rw [rep_flat] at hb4
   refine ⟨_,_,.ints ((yd3.trans y4) _ _ hr2),.ints (ns:=List.replicate 5 60) hb4,shaped_ints _,shaped_ints _,?_⟩
   rw [if_pos rfl,eqv_self (shaped_ints _)]
   refine iteB (fun c=>absurd c (by decide)) (fun _=>?_)
   clear hb hr2 hb4 yd3 y4 y1 y2
   refine ⟨by show 1≤sizeLine;decide,fun d5 hd5=>?_⟩
   refine ⟨d5,[300],60,300,rfl,upd_same,by decide,by decide,by decide,h300,few_len (by decide),fun r6 z6 H6 y6 hr6 g6=>?_⟩
   have e6:=g6.one sl60
   subst e6
   refine ⟨by show 1≤sizeLine;decide,fun d7 hd7=>?_⟩
   have yd7:=Same.new hd7 (.tup [V.int 5])
   refine ⟨⟨by decide,by decide⟩,.inr ⟨_,upd_same,le_line (show 1*(60:Int).toNat≤1000 by decide),fun b8 H8 y8 hb8=>?_⟩⟩
   rw [rep_flat] at hb8
   refine ⟨_,_,.ints ((yd7.trans y8) _ _ hr6),.ints (ns:=List.replicate 60 5) hb8,shaped_ints _,shaped_ints _,?_⟩
   rw [if_pos rfl,eqv_self (shaped_ints _)]
   refine iteB (fun c=>absurd c (by decide)) (fun _=>?_)
   clear hr6 hb8 yd7 y8 y6
   refine ⟨by show 4≤sizeLine;decide,fun d9 hd9=>?_⟩
   refine ⟨d9,[256,32,8,4],2,300,rfl,upd_same,by decide,by decide,by decide,bin,binf,fun rA zA HA yA hrA gA=>?_⟩
   have eA:=gA.one sl2'
   subst eA
   refine ⟨by show 1≤sizeLine;decide,fun dB hdB=>?_⟩
   have ydB:=Same.new hdB (.tup [V.int 1])
   refine ⟨⟨by decide,by decide⟩,.inr ⟨_,upd_same,le_line (show 1*(300:Int).toNat≤1000 by decide),fun bC HC yC hbC=>?_⟩⟩
   rw [rep_flat] at hbC
   refine ⟨_,_,.ints ((ydB.trans yC) _ _ hrA),.ints (ns:=List.replicate 300 1) hbC,shaped_ints _,shaped_ints _,?_⟩
   rw [if_pos rfl,eqv_self (shaped_ints _)]
   refine iteB (fun c=>absurd c (by decide)) (fun _=>?_)
   clear hrA hbC ydB yC yA
   refine ⟨Nat.zero_le _,fun dD hdD=>?_⟩
   refine ⟨dD,[],2,0,rfl,upd_same,by decide,by decide,by decide,nilp,nilf 2,fun rE zE HE yE hrE gE=>?_⟩
   have eE:=Mg.one (by decide) nilp (nilf 2) gE mg0
   subst eE
   refine ⟨Nat.zero_le _,fun dF hdF=>?_⟩
   have ydF:=Same.new hdF (.tup [])
   refine ⟨_,_,.ints (ydF _ _ hrE),.ints (ns:=[]) upd_same,shaped_ints _,shaped_ints _,?_⟩
   rw [if_neg (by decide),eqv_self (shaped_ints _)]
   refine iteB (fun _=>?_) (fun c=>absurd c (by decide))
   clear hrE ydF yE
   refine ⟨Nat.zero_le _,fun dG hdG=>?_⟩
   refine ⟨dG,[],60,0,rfl,upd_same,by decide,by decide,by decide,nilp,few_len (by decide),fun rH zH HH yH hrH gH=>?_⟩
   have eH:=gH.one sl0
   subst eH
   refine ⟨Nat.zero_le _,fun dI hdI=>?_⟩
   have ydI:=Same.new hdI (.tup [])
   refine ⟨_,_,.ints (ydI _ _ hrH),.ints (ns:=[]) upd_same,shaped_ints _,shaped_ints _,?_⟩
   rw [if_neg (by decide),eqv_self (shaped_ints _)]
   refine iteB (fun _=>?_) (fun c=>absurd c (by decide))
   clear hrH ydI yH
   refine ⟨by show 1≤sizeLine;decide,fun dJ hdJ=>?_⟩
   refine ⟨⟨by decide,by decide⟩,.inr ⟨_,upd_same,le_line (show 1*(300:Int).toNat≤1000 by decide),fun bK HK yK hbK=>?_⟩⟩
   rw [rep_flat] at hbK
   refine ⟨bK,List.replicate 300 1,2,300,rfl,hbK,by decide,by decide,by decide,o300,of2,fun rL zL HL yL hrL gL=>?_⟩
   have eL:=Mg.one (by decide) o300 of2 gL mg2'
   subst eL
   refine ⟨by show 4≤sizeLine;decide,fun dM hdM=>?_⟩
   have ydM:=Same.new hdM (.tup [V.int 256,.int 32,.int 8,.int 4])
   refine ⟨_,_,.ints (ydM _ _ hrL),.ints (ns:=[256,32,8,4]) upd_same,shaped_ints _,shaped_ints _,?_⟩
   rw [if_neg (by decide),eqv_self (shaped_ints _)]
   exact q _
end
end K59
namespace K59
open PySem L2
theorem fnA {P:Program} {w:World} {K:PySem.W.Frag} {mg:Str→Option Value} {base:Heap} {x:Str} {k:Nat} {ps:List Str} {sp:Sp} {f:Addr} {fd:FuncData} (F:FnOk P w K mg base CX0 k f fd ps sp) (b:Binds K fd ps []) (kp:PySem.W.keepIn K (.ref f)=true) (m:mg x=some (.ref f)):FnA P w K mg base x k ps sp:=⟨⟨f,fd,F,b,kp,m⟩⟩
theorem us1 {α:Type} {p:List α→Prop} (h:∀ a,p [a]):∀ us:List α,us.length=1→p us
 | [a],_=>h a
theorem us2 {α:Type} {p:List α→Prop} (h:∀ a b,p [a,b]):∀ us:List α,us.length=2→p us
 | [a,b],_=>h a b
theorem us3 {α:Type} {p:List α→Prop} (h:∀ a b c,p [a,b,c]):∀ us:List α,us.length=3→p us
 | [a,b,c],_=>h a b c
theorem all_mk {l:PySem.W.OpenLaw} {w:World} {K:PySem.W.Frag} {h:Heap} {mg:Str→Option Value} {fa f1 f2 f3 f4 f5 f6 f7 f8 f9 f10 f11 f12 f13 f14 f15 f16 f17 f18 f19 f20 f21 f22 f23 f24 f25 f26 f27 f28:Addr} {tk1:Tok} (X:K.In h) (G:h.Ns mainGlobals mg) (hfa:mg "law" = some (.ref fa))
 {od1 an1 od2 an2 od3 an3 od4 an4 od5 an5 od6 an6 od7 an7 od8 an8 od9 an9 od10 an10 od11 an11 od12 an12 od13 an13 od14 an14 od15 an15 od16 an16 od17 an17 od18 an18 od19 an19 od20 an20 od21 an21 od22 an22 od23 an23 od24 an24 od25 an25 od26 an26 od27 an27 od28 an28:Option Addr} {sl1 sl2 sl3 sl4 sl5 sl6 sl7 sl8 sl9 sl10 sl11 sl12 sl13 sl14 sl15 sl16 sl17 sl18 sl19 sl20 sl21 sl22 sl23 sl24 sl25 sl26 sl27 sl28:Array (Option Value)} {oc1 kV1 dc1 pm1 cd1 ct1 oc2 kV2 dc2 pm2 cd2 ct2 oc3 kV3 dc3 pm3 cd3 ct3 oc4 kV4 dc4 pm4 cd4 ct4 oc5 kV5 dc5 pm5 cd5 ct5 oc6 kV6 dc6 pm6 cd6 ct6 oc7 kV7 dc7 pm7 cd7 ct7 oc8 kV8 dc8 pm8 cd8 ct8 oc9 kV9 dc9 pm9 cd9 ct9 oc10 kV10 dc10 pm10 cd10 ct10 oc11 kV11 dc11 pm11 cd11 ct11 oc12 kV12 dc12 pm12 cd12 ct12 oc13 kV13 dc13 pm13 cd13 ct13 oc14 kV14 dc14 pm14 cd14 ct14 oc15 kV15 dc15 pm15 cd15 ct15 oc16 kV16 dc16 pm16 cd16 ct16 oc17 kV17 dc17 pm17 cd17 ct17 oc18 kV18 dc18 pm18 cd18 ct18 oc19 kV19 dc19 pm19 cd19 ct19 oc20 kV20 dc20 pm20 cd20 ct20 oc21 kV21 dc21 pm21 cd21 ct21 oc22 kV22 dc22 pm22 cd22 ct22 oc23 kV23 dc23 pm23 cd23 ct23 oc24 kV24 dc24 pm24 cd24 ct24 oc25 kV25 dc25 pm25 cd25 ct25 oc26 kV26 dc26 pm26 cd26 ct26 oc27 kV27 dc27 pm27 cd27 ct27 oc28 kV28 dc28 pm28 cd28 ct28:Value}
 (a1:PySem.W.nsIn K mainGlobals "is_whole" = some (some (.ref f1))) (l1:K.lookup f1=some ⟨oc1,od1,.func (PySem.W.fnOf "is_whole" "is_whole" (defArgs (top 5)) (defBody (top 5)) (defScope (top 5)) .none kV1 dc1 pm1 an1 cd1 ct1),sl1⟩) (c1:PySem.W.codeIn K cd1 "is_whole" = true) (k1:PySem.W.keepIn K (.ref f1)=true)
 (a2:PySem.W.nsIn K mainGlobals "is_parting" = some (some (.ref f2))) (l2:K.lookup f2=some ⟨oc2,od2,.func (PySem.W.fnOf "is_parting" "is_parting" (defArgs (top 7)) (defBody (top 7)) (defScope (top 7)) .none kV2 dc2 pm2 an2 cd2 ct2),sl2⟩) (c2:PySem.W.codeIn K cd2 "is_parting" = true) (k2:PySem.W.keepIn K (.ref f2)=true)
 (a3:PySem.W.nsIn K mainGlobals "weight" = some (some (.ref f3))) (l3:K.lookup f3=some ⟨oc3,od3,.func (PySem.W.fnOf "weight" "weight" (defArgs (top 8)) (defBody (top 8)) (defScope (top 8)) .none kV3 dc3 pm3 an3 cd3 ct3),sl3⟩) (c3:PySem.W.codeIn K cd3 "weight" = true) (k3:PySem.W.keepIn K (.ref f3)=true)
 (a4:PySem.W.nsIn K mainGlobals "sizes" = some (some (.ref f4))) (l4:K.lookup f4=some ⟨oc4,od4,.func (PySem.W.fnOf "sizes" "sizes" (defArgs (top 9)) (defBody (top 9)) (defScope (top 9)) .none kV4 dc4 pm4 an4 cd4 ct4),sl4⟩) (c4:PySem.W.codeIn K cd4 "sizes" = true) (k4:PySem.W.keepIn K (.ref f4)=true)
 (a5:PySem.W.nsIn K mainGlobals "both" = some (some (.ref f5))) (l5:K.lookup f5=some ⟨oc5,od5,.func (PySem.W.fnOf "both" "both" (defArgs (top 10)) (defBody (top 10)) (defScope (top 10)) .none kV5 dc5 pm5 an5 cd5 ct5),sl5⟩) (c5:PySem.W.codeIn K cd5 "both" = true) (k5:PySem.W.keepIn K (.ref f5)=true)
 (a6:PySem.W.nsIn K mainGlobals "less" = some (some (.ref f6))) (l6:K.lookup f6=some ⟨oc6,od6,.func (PySem.W.fnOf "less" "less" (defArgs (top 11)) (defBody (top 11)) (defScope (top 11)) .none kV6 dc6 pm6 an6 cd6 ct6),sl6⟩) (c6:PySem.W.codeIn K cd6 "less" = true) (k6:PySem.W.keepIn K (.ref f6)=true)
 (a7:PySem.W.nsIn K mainGlobals "share_no_size" = some (some (.ref f7))) (l7:K.lookup f7=some ⟨oc7,od7,.func (PySem.W.fnOf "share_no_size" "share_no_size" (defArgs (top 21)) (defBody (top 21)) (defScope (top 21)) .none kV7 dc7 pm7 an7 cd7 ct7),sl7⟩) (c7:PySem.W.codeIn K cd7 "share_no_size" = true) (k7:PySem.W.keepIn K (.ref f7)=true)
 (a8:PySem.W.nsIn K mainGlobals "are_events" = some (some (.ref f8))) (l8:K.lookup f8=some ⟨oc8,od8,.func (PySem.W.fnOf "are_events" "are_events" (defArgs (top 22)) (defBody (top 22)) (defScope (top 22)) .none kV8 dc8 pm8 an8 cd8 ct8),sl8⟩) (c8:PySem.W.codeIn K cd8 "are_events" = true) (k8:PySem.W.keepIn K (.ref f8)=true)
 (a9:PySem.W.nsIn K mainGlobals "are_paired" = some (some (.ref f9))) (l9:K.lookup f9=some ⟨oc9,od9,.func (PySem.W.fnOf "are_paired" "are_paired" (defArgs (top 26)) (defBody (top 26)) (defScope (top 26)) .none kV9 dc9 pm9 an9 cd9 ct9),sl9⟩) (c9:PySem.W.codeIn K cd9 "are_paired" = true) (k9:PySem.W.keepIn K (.ref f9)=true)
 (a10:PySem.W.nsIn K mainGlobals "stands" = some (some (.ref f10))) (l10:K.lookup f10=some ⟨oc10,od10,.func (PySem.W.fnOf "stands" "stands" (defArgs (top 23)) (defBody (top 23)) (defScope (top 23)) .none kV10 dc10 pm10 an10 cd10 ct10),sl10⟩) (c10:PySem.W.codeIn K cd10 "stands" = true) (k10:PySem.W.keepIn K (.ref f10)=true)
 (a11:PySem.W.nsIn K mainGlobals "standing" = some (some (.ref f11))) (l11:K.lookup f11=some ⟨oc11,od11,.func (PySem.W.fnOf "standing" "standing" (defArgs (top 24)) (defBody (top 24)) (defScope (top 24)) .none kV11 dc11 pm11 an11 cd11 ct11),sl11⟩) (c11:PySem.W.codeIn K cd11 "standing" = true) (k11:PySem.W.keepIn K (.ref f11)=true)
 (a12:PySem.W.nsIn K mainGlobals "led" = some (some (.ref f12))) (l12:K.lookup f12=some ⟨oc12,od12,.func (PySem.W.fnOf "led" "led" (defArgs (top 27)) (defBody (top 27)) (defScope (top 27)) .none kV12 dc12 pm12 an12 cd12 ct12),sl12⟩) (c12:PySem.W.codeIn K cd12 "led" = true) (k12:PySem.W.keepIn K (.ref f12)=true)
 (a13:PySem.W.nsIn K mainGlobals "merged_parts" = some (some (.ref f13))) (l13:K.lookup f13=some ⟨oc13,od13,.func (PySem.W.fnOf "merged_parts" "merged_parts" (defArgs (top 15)) (defBody (top 15)) (defScope (top 15)) .none kV13 dc13 pm13 an13 cd13 ct13),sl13⟩) (c13:PySem.W.codeIn K cd13 "merged_parts" = true) (k13:PySem.W.keepIn K (.ref f13)=true)
 (a14:PySem.W.nsIn K mainGlobals "split_parts" = some (some (.ref f14))) (l14:K.lookup f14=some ⟨oc14,od14,.func (PySem.W.fnOf "split_parts" "split_parts" (defArgs (top 17)) (defBody (top 17)) (defScope (top 17)) .none kV14 dc14 pm14 an14 cd14 ct14),sl14⟩) (c14:PySem.W.codeIn K cd14 "split_parts" = true) (k14:PySem.W.keepIn K (.ref f14)=true)
 (a15:PySem.W.nsIn K mainGlobals "has_none_often" = some (some (.ref f15))) (l15:K.lookup f15=some ⟨oc15,od15,.func (PySem.W.fnOf "has_none_often" "has_none_often" (defArgs (top 13)) (defBody (top 13)) (defScope (top 13)) .none kV15 dc15 pm15 an15 cd15 ct15),sl15⟩) (c15:PySem.W.codeIn K cd15 "has_none_often" = true) (k15:PySem.W.keepIn K (.ref f15)=true)
 (a16:PySem.W.nsIn K mainGlobals "merged" = some (some (.ref f16))) (l16:K.lookup f16=some ⟨oc16,od16,.func (PySem.W.fnOf "merged" "merged" (defArgs (top 16)) (defBody (top 16)) (defScope (top 16)) .none kV16 dc16 pm16 an16 cd16 ct16),sl16⟩) (c16:PySem.W.codeIn K cd16 "merged" = true) (k16:PySem.W.keepIn K (.ref f16)=true)
 (a17:PySem.W.nsIn K mainGlobals "split" = some (some (.ref f17))) (l17:K.lookup f17=some ⟨oc17,od17,.func (PySem.W.fnOf "split" "split" (defArgs (top 18)) (defBody (top 18)) (defScope (top 18)) .none kV17 dc17 pm17 an17 cd17 ct17),sl17⟩) (c17:PySem.W.codeIn K cd17 "split" = true) (k17:PySem.W.keepIn K (.ref f17)=true)
 (a18:PySem.W.nsIn K mainGlobals "_law_hand" = some (some (.ref f18))) (l18:K.lookup f18=some ⟨oc18,od18,.func (PySem.W.fnOf "_law_hand" "_law_hand" (defArgs (top 29)) (defBody (top 29)) (defScope (top 29)) .none kV18 dc18 pm18 an18 cd18 ct18),sl18⟩) (c18:PySem.W.codeIn K cd18 "_law_hand" = true) (k18:PySem.W.keepIn K (.ref f18)=true)
 (a19:PySem.W.nsIn K mainGlobals "_law_take" = some (some (.ref f19))) (l19:K.lookup f19=some ⟨oc19,od19,.func (PySem.W.fnOf "_law_take" "_law_take" (defArgs (top 30)) (defBody (top 30)) (defScope (top 30)) .none kV19 dc19 pm19 an19 cd19 ct19),sl19⟩) (c19:PySem.W.codeIn K cd19 "_law_take" = true) (k19:PySem.W.keepIn K (.ref f19)=true)
 (a20:PySem.W.nsIn K mainGlobals "_law_falling" = some (some (.ref f20))) (l20:K.lookup f20=some ⟨oc20,od20,.func (PySem.W.fnOf "_law_falling" "_law_falling" (defArgs (top 31)) (defBody (top 31)) (defScope (top 31)) .none kV20 dc20 pm20 an20 cd20 ct20),sl20⟩) (c20:PySem.W.codeIn K cd20 "_law_falling" = true) (k20:PySem.W.keepIn K (.ref f20)=true)
 (a21:PySem.W.nsIn K mainGlobals "_law_drawn" = some (some (.ref f21))) (l21:K.lookup f21=some ⟨oc21,od21,.func (PySem.W.fnOf "_law_drawn" "_law_drawn" (defArgs (top 32)) (defBody (top 32)) (defScope (top 32)) .none kV21 dc21 pm21 an21 cd21 ct21),sl21⟩) (c21:PySem.W.codeIn K cd21 "_law_drawn" = true) (k21:PySem.W.keepIn K (.ref f21)=true)
 (a22:PySem.W.nsIn K mainGlobals "_law_often" = some (some (.ref f22))) (l22:K.lookup f22=some ⟨oc22,od22,.func (PySem.W.fnOf "_law_often" "_law_often" (defArgs (top 33)) (defBody (top 33)) (defScope (top 33)) .none kV22 dc22 pm22 an22 cd22 ct22),sl22⟩) (c22:PySem.W.codeIn K cd22 "_law_often" = true) (k22:PySem.W.keepIn K (.ref f22)=true)
 (a23:PySem.W.nsIn K mainGlobals "_law_merged" = some (some (.ref f23))) (l23:K.lookup f23=some ⟨oc23,od23,.func (PySem.W.fnOf "_law_merged" "_law_merged" (defArgs (top 35)) (defBody (top 35)) (defScope (top 35)) .none kV23 dc23 pm23 an23 cd23 ct23),sl23⟩) (c23:PySem.W.codeIn K cd23 "_law_merged" = true) (k23:PySem.W.keepIn K (.ref f23)=true)
 (a24:PySem.W.nsIn K mainGlobals "_law_split" = some (some (.ref f24))) (l24:K.lookup f24=some ⟨oc24,od24,.func (PySem.W.fnOf "_law_split" "_law_split" (defArgs (top 36)) (defBody (top 36)) (defScope (top 36)) .none kV24 dc24 pm24 an24 cd24 ct24),sl24⟩) (c24:PySem.W.codeIn K cd24 "_law_split" = true) (k24:PySem.W.keepIn K (.ref f24)=true)
 (a25:PySem.W.nsIn K mainGlobals "_law_same" = some (some (.ref f25))) (l25:K.lookup f25=some ⟨oc25,od25,.func (PySem.W.fnOf "_law_same" "_law_same" (defArgs (top 34)) (defBody (top 34)) (defScope (top 34)) .none kV25 dc25 pm25 an25 cd25 ct25),sl25⟩) (c25:PySem.W.codeIn K cd25 "_law_same" = true) (k25:PySem.W.keepIn K (.ref f25)=true)
 (a26:PySem.W.nsIn K mainGlobals "_law_right" = some (some (.ref f26))) (l26:K.lookup f26=some ⟨oc26,od26,.func (PySem.W.fnOf "_law_right" "_law_right" (defArgs (top 37)) (defBody (top 37)) (defScope (top 37)) .none kV26 dc26 pm26 an26 cd26 ct26),sl26⟩) (c26:PySem.W.codeIn K cd26 "_law_right" = true) (k26:PySem.W.keepIn K (.ref f26)=true)
 (a27:PySem.W.nsIn K mainGlobals "_law_led_right" = some (some (.ref f27))) (l27:K.lookup f27=some ⟨oc27,od27,.func (PySem.W.fnOf "_law_led_right" "_law_led_right" (defArgs (top 38)) (defBody (top 38)) (defScope (top 38)) .none kV27 dc27 pm27 an27 cd27 ct27),sl27⟩) (c27:PySem.W.codeIn K cd27 "_law_led_right" = true) (k27:PySem.W.keepIn K (.ref f27)=true)
 (a28:PySem.W.nsIn K mainGlobals "law" = some (some (.ref f28))) (l28:K.lookup f28=some ⟨oc28,od28,.func (PySem.W.fnOf "law" "law" (defArgs (top 39)) (defBody (top 39)) (defScope (top 39)) .none kV28 dc28 pm28 an28 cd28 ct28),sl28⟩) (c28:PySem.W.codeIn K cd28 "law" = true) (k28:PySem.W.keepIn K (.ref f28)=true)
 (y1:PySem.W.nsIn K mainGlobals "MOST_EVENTS" = some (some (.int 12 tk1)))
 (yD:PySem.W.nsIn K cStatics "sys.int_max_str_digits" = some none)
 (z1:PySem.W.nsIn K mainGlobals "bool" = some none) (z2:PySem.W.nsIn K mainGlobals "int" = some none) (z3:PySem.W.nsIn K mainGlobals "isinstance" = some none) (z4:PySem.W.nsIn K mainGlobals "len" = some none) (z5:PySem.W.nsIn K mainGlobals "range" = some none) (z6:PySem.W.nsIn K mainGlobals "tuple" = some none) (z7:PySem.W.nsIn K mainGlobals "sum" = some none) (z8:PySem.W.nsIn K mainGlobals "sorted" = some none) (z9:PySem.W.nsIn K mainGlobals "list" = some none) (z10:PySem.W.nsIn K mainGlobals "set" = some none) (z11:PySem.W.nsIn K mainGlobals "all" = some none) (z12:PySem.W.nsIn K mainGlobals "enumerate" = some none) (z13:PySem.W.nsIn K mainGlobals "any" = some none) (z14:PySem.W.nsIn K mainGlobals "min" = some none) (z15:PySem.W.nsIn K mainGlobals "zip" = some none) (z16:PySem.W.nsIn K mainGlobals "max" = some none) :
 ∃ fd:FuncData,(∀ (s:Shared) (v:Value),BindsTo s fd ⟨[v],[]⟩ [("_law_script",v)])∧∀ base:Heap,K.In base→base.Ns mainGlobals mg→FnOk l.prog w K mg base CX0 7 fa fd ["_law_script"] (sp_law K):=by
 have e:=hfa.symm.trans (PySem.W.mg_of X G a28)
 cases e
 have F1:=fun_mk (st:=top 5) l1 c1 k1
 have b1:=F1.binds (ps:=["thing"]) fun _ _ _ _ _ _=>us1 fun _=>rfl
 have F2:=fun_mk (st:=top 7) l2 c2 k2
 have b2:=F2.binds (ps:=["thing"]) fun _ _ _ _ _ _=>us1 fun _=>rfl
 have F3:=fun_mk (st:=top 8) l3 c3 k3
 have b3:=F3.binds (ps:=["parting"]) fun _ _ _ _ _ _=>us1 fun _=>rfl
 have F4:=fun_mk (st:=top 9) l4 c4 k4
 have b4:=F4.binds (ps:=["parting"]) fun _ _ _ _ _ _=>us1 fun _=>rfl
 have F5:=fun_mk (st:=top 10) l5 c5 k5
 have b5:=F5.binds (ps:=["one","other"]) fun _ _ _ _ _ _=>us2 fun _ _=>rfl
 have F6:=fun_mk (st:=top 11) l6 c6 k6
 have b6:=F6.binds (ps:=["one","other"]) fun _ _ _ _ _ _=>us2 fun _ _=>rfl
 have F7:=fun_mk (st:=top 21) l7 c7 k7
 have b7:=F7.binds (ps:=["events"]) fun _ _ _ _ _ _=>us1 fun _=>rfl
 have F8:=fun_mk (st:=top 22) l8 c8 k8
 have b8:=F8.binds (ps:=["thing"]) fun _ _ _ _ _ _=>us1 fun _=>rfl
 have F9:=fun_mk (st:=top 26) l9 c9 k9
 have b9:=F9.binds (ps:=["ones","others"]) fun _ _ _ _ _ _=>us2 fun _ _=>rfl
 have F10:=fun_mk (st:=top 23) l10 c10 k10
 have b10:=F10.binds (ps:=["event","parting"]) fun _ _ _ _ _ _=>us2 fun _ _=>rfl
 have F11:=fun_mk (st:=top 24) l11 c11 k11
 have b11:=F11.binds (ps:=["events","parting"]) fun _ _ _ _ _ _=>us2 fun _ _=>rfl
 have F12:=fun_mk (st:=top 27) l12 c12 k12
 have b12:=F12.binds (ps:=["ones","others","parting"]) fun _ _ _ _ _ _=>us3 fun _ _ _=>rfl
 have F13:=fun_mk (st:=top 15) l13 c13 k13
 have b13:=F13.binds (ps:=["size","often","m"]) fun _ _ _ _ _ _=>us3 fun _ _ _=>rfl
 have F14:=fun_mk (st:=top 17) l14 c14 k14
 have b14:=F14.binds (ps:=["part","m"]) fun _ _ _ _ _ _=>us2 fun _ _=>rfl
 have F15:=fun_mk (st:=top 13) l15 c15 k15
 have b15:=F15.binds (ps:=["parting","m"]) fun _ _ _ _ _ _=>us2 fun _ _=>rfl
 have F16:=fun_mk (st:=top 16) l16 c16 k16
 have b16:=F16.binds (ps:=["parting","m"]) fun _ _ _ _ _ _=>us2 fun _ _=>rfl
 have F17:=fun_mk (st:=top 18) l17 c17 k17
 have b17:=F17.binds (ps:=["parting","m"]) fun _ _ _ _ _ _=>us2 fun _ _=>rfl
 have F18:=fun_mk (st:=top 29) l18 c18 k18
 have b18:=F18.binds (ps:=["_law_script","_law_k"]) fun _ _ _ _ _ _=>us2 fun _ _=>rfl
 have F19:=fun_mk (st:=top 30) l19 c19 k19
 have b19:=F19.binds (ps:=["_law_hand_here","_law_many"]) fun _ _ _ _ _ _=>us2 fun _ _=>rfl
 have F20:=fun_mk (st:=top 31) l20 c20 k20
 have b20:=F20.binds (ps:=["_law_parts"]) fun _ _ _ _ _ _=>us1 fun _=>rfl
 have F21:=fun_mk (st:=top 32) l21 c21 k21
 have b21:=F21.binds (ps:=["_law_hand_here","_law_heavy"]) fun _ _ _ _ _ _=>us2 fun _ _=>rfl
 have F22:=fun_mk (st:=top 33) l22 c22 k22
 have b22:=F22.binds (ps:=["_law_parting"]) fun _ _ _ _ _ _=>us1 fun _=>rfl
 have F23:=fun_mk (st:=top 35) l23 c23 k23
 have b23:=F23.binds (ps:=["_law_parting","_law_m"]) fun _ _ _ _ _ _=>us2 fun _ _=>rfl
 have F24:=fun_mk (st:=top 36) l24 c24 k24
 have b24:=F24.binds (ps:=["_law_parting","_law_m"]) fun _ _ _ _ _ _=>us2 fun _ _=>rfl
 have F25:=fun_mk (st:=top 34) l25 c25 k25
 have b25:=F25.binds (ps:=["_law_found","_law_due"]) fun _ _ _ _ _ _=>us2 fun _ _=>rfl
 have F26:=fun_mk (st:=top 37) l26 c26 k26
 have b26:=F26.binds (ps:=["_law_parting","_law_m"]) fun _ _ _ _ _ _=>us2 fun _ _=>rfl
 have F27:=fun_mk (st:=top 38) l27 c27 k27
 have b27:=F27.binds (ps:=["_law_hand_here","_law_m"]) fun _ _ _ _ _ _=>us2 fun _ _=>rfl
 have F28:=fun_mk (st:=top 39) l28 c28 k28
 have m_bool:=PySem.W.mg_none_of X G z1
 have m_int:=PySem.W.mg_none_of X G z2
 have m_isinstance:=PySem.W.mg_none_of X G z3
 have m_len:=PySem.W.mg_none_of X G z4
 have m_range:=PySem.W.mg_none_of X G z5
 have m_tuple:=PySem.W.mg_none_of X G z6
 have m_sum:=PySem.W.mg_none_of X G z7
 have m_sorted:=PySem.W.mg_none_of X G z8
 have m_list:=PySem.W.mg_none_of X G z9
 have m_set:=PySem.W.mg_none_of X G z10
 have m_all:=PySem.W.mg_none_of X G z11
 have m_enumerate:=PySem.W.mg_none_of X G z12
 have m_any:=PySem.W.mg_none_of X G z13
 have m_min:=PySem.W.mg_none_of X G z14
 have m_zip:=PySem.W.mg_none_of X G z15
 have m_max:=PySem.W.mg_none_of X G z16
 have g_MOST_EVENTS:IntG mg "MOST_EVENTS" 12:=⟨_,PySem.W.mg_of X G y1⟩
 have g_DIG:DigK K:=yD
 refine ⟨PySem.W.fnOf "law" "law" (defArgs (top 39)) (defBody (top 39)) (defScope (top 39)) .none kV28 dc28 pm28 an28 cd28 ct28,fun s v=>.of_eq rfl,fun base _ _=>?_⟩
 have A1:FnA l.prog w K mg base "is_whole" 1 ["thing"] sp_whole:=fnA (ok_whole F1 m_bool m_int m_isinstance) b1 k1 (PySem.W.mg_of X G a1)
 have A2:FnA l.prog w K mg base "is_parting" 2 ["thing"] sp_is:=fnA (ok_is F2 m_isinstance m_len m_range m_tuple A1) b2 k2 (PySem.W.mg_of X G a2)
 have A3:FnA l.prog w K mg base "weight" 1 ["parting"] sp_weight:=fnA (ok_weight F3 m_sum) b3 k3 (PySem.W.mg_of X G a3)
 have A4:FnA l.prog w K mg base "sizes" 1 ["parting"] sp_sizes:=fnA (ok_sizes F4 m_tuple) b4 k4 (PySem.W.mg_of X G a4)
 have A5:FnA l.prog w K mg base "both" 1 ["one","other"] sp_both:=fnA (ok_both F5 m_sorted m_tuple) b5 k5 (PySem.W.mg_of X G a5)
 have A6:FnA l.prog w K mg base "less" 1 ["one","other"] sp_less:=fnA (ok_less F6 m_list m_tuple) b6 k6 (PySem.W.mg_of X G a6)
 have A7:FnA l.prog w K mg base "share_no_size" 2 ["events"] sp_sns:=fnA (ok_sns F7 m_len m_set A4) b7 k7 (PySem.W.mg_of X G a7)
 have A8:FnA l.prog w K mg base "are_events" 3 ["thing"] sp_ae:=fnA (ok_ae F8 m_all m_isinstance m_len m_tuple g_MOST_EVENTS A2 A7) b8 k8 (PySem.W.mg_of X G a8)
 have A9:FnA l.prog w K mg base "are_paired" 4 ["ones","others"] sp_ap:=fnA (ok_ap F9 A8 A3) b9 k9 (PySem.W.mg_of X G a9)
 have A10:FnA l.prog w K mg base "stands" 2 ["event","parting"] sp_stands:=fnA (ok_stands F10 A6) b10 k10 (PySem.W.mg_of X G a10)
 have A11:FnA l.prog w K mg base "standing" 3 ["events","parting"] sp_standing:=fnA (ok_standing F11 m_enumerate m_tuple A10) b11 k11 (PySem.W.mg_of X G a11)
 have A12:FnA l.prog w K mg base "led" 5 ["ones","others","parting"] sp_led:=fnA (ok_led F12 m_tuple A9 A5 A6 A11) b12 k12 (PySem.W.mg_of X G a12)
 have A13:FnA l.prog w K mg base "merged_parts" 1 ["size","often","m"] sp_mpt:=fnA (ok_mpt F13) b13 k13 (PySem.W.mg_of X G a13)
 have A14:FnA l.prog w K mg base "split_parts" 1 ["part","m"] sp_spt:=fnA (ok_spt F14) b14 k14 (PySem.W.mg_of X G a14)
 have A15:FnA l.prog w K mg base "has_none_often" 2 ["parting","m"] sp_hno:=fnA (ok_hno F15 m_all A4) b15 k15 (PySem.W.mg_of X G a15)
 have A16:FnA l.prog w K mg base "merged" 2 ["parting","m"] sp_mg:=fnA (ok_mg F16 m_any m_sorted m_tuple A13 A4) b16 k16 (PySem.W.mg_of X G a16)
 have A17:FnA l.prog w K mg base "split" 3 ["parting","m"] sp_sl:=fnA (ok_sl F17 m_sorted m_tuple A15 A14) b17 k17 (PySem.W.mg_of X G a17)
 have A18:FnA l.prog w K mg base "_law_hand" 1 ["_law_script","_law_k"] (sp_hand K):=fnA (ok_hand F18 m_int m_len g_DIG) b18 k18 (PySem.W.mg_of X G a18)
 have A19:FnA l.prog w K mg base "_law_take" 1 ["_law_hand_here","_law_many"] sp_take:=fnA (ok_take F19) b19 k19 (PySem.W.mg_of X G a19)
 have A20:FnA l.prog w K mg base "_law_falling" 1 ["_law_parts"] sp_fall:=fnA (ok_fall F20 m_sorted m_tuple) b20 k20 (PySem.W.mg_of X G a20)
 have A21:FnA l.prog w K mg base "_law_drawn" 2 ["_law_hand_here","_law_heavy"] sp_dr:=fnA (ok_dr F21 m_min A20 A19) b21 k21 (PySem.W.mg_of X G a21)
 have A22:FnA l.prog w K mg base "_law_often" 1 ["_law_parting"] sp_of:=fnA (ok_of F22) b22 k22 (PySem.W.mg_of X G a22)
 have A23:FnA l.prog w K mg base "_law_merged" 2 ["_law_parting","_law_m"] sp_mg:=fnA (ok_lm F23 A20 A22) b23 k23 (PySem.W.mg_of X G a23)
 have A24:FnA l.prog w K mg base "_law_split" 2 ["_law_parting","_law_m"] sp_sl:=fnA (ok_ls F24 A20) b24 k24 (PySem.W.mg_of X G a24)
 have A25:FnA l.prog w K mg base "_law_same" 2 ["_law_found","_law_due"] (sp_sm 2):=fnA (ok_same 2 F25 m_all m_bool m_int m_isinstance m_len m_tuple m_zip b25 k25 (PySem.W.mg_of X G a25)) b25 k25 (PySem.W.mg_of X G a25)
 have A26:FnA l.prog w K mg base "_law_right" 4 ["_law_parting","_law_m"] sp_ri:=fnA (ok_ri F26 m_tuple A20 A23 A22 A25 A24 A16 A17) b26 k26 (PySem.W.mg_of X G a26)
 have A27:FnA l.prog w K mg base "_law_led_right" 6 ["_law_hand_here","_law_m"] sp_lr:=fnA (ok_lr F27 m_range m_tuple A21 A19 A12 A16) b27 k27 (PySem.W.mg_of X G a27)
 exact ok_law F28 m_len m_max m_min m_range A21 A18 A27 A26 A19 A16 A17
theorem walk {l:PySem.W.OpenLaw} {q:Program} {loose:List Str} {XP:(Str→Option Value)→Heap→Prop} {YP:World→Heap→Prop} {d:DefRec} {K:Params→PySem.W.Frag} (hn:l.most=some 63) (hdf:d.params.defaults=[])
 (hY:∀ (w:World) (h:Heap),YP w h→(K w.params).In h)
 (F:∀ (w:World) (mg:Str→Option Value) (fa:Addr) (h:Heap),(K w.params).In h→h.Ns mainGlobals mg→mg d.name=some (.ref fa) →
   ∃ fd:FuncData,(∀ (s:Shared) (u:Value),BindsTo s fd ⟨[u],[]⟩ [("_law_script",u)])∧∀ base:Heap,(K w.params).In base→base.Ns mainGlobals mg→FnOk l.prog w (K w.params) mg base CX0 7 fa fd ["_law_script"] (sp_law (K w.params))) :
 PySem.W.WalkO q loose XP YP l.row.toRowW d [] (fun f vs=>PySem.call f vs):=
 L2.walk_of (n:=63) (k:=7) (x:="_law_script") (CX:=fun _=>CX0) (sp:=fun w=>sp_law (K w.params)) hn (by decide) hdf ⟨rfl,by decide,by decide,rfl⟩ hY F (fun _ _ a ns hl _ hS=>⟨a,ns,rfl,hS,hl,fun _=>rfl⟩) fun _ _ _ _ _ z=>z
end K59
namespace PySem.W.Fast
theorem tw10853479448787242592:True:=⟨⟩
theorem tw6150812612519550225:True:=⟨⟩
theorem tw7191548399527300537:True:=⟨⟩
theorem tw11576308530568896576:True:=⟨⟩
theorem tw2659665884756539479:True:=⟨⟩
theorem tw16843381176026257085:True:=⟨⟩
theorem tw1844664917413669029:True:=⟨⟩
theorem tw2304060925225570767:True:=⟨⟩
theorem tw13235451566732445736:True:=⟨⟩
theorem tw17315563811296642894:True:=⟨⟩
theorem tw14751908723705979657:True:=⟨⟩
theorem tw7088543524085948371:True:=⟨⟩
theorem tw17221377227996506717:True:=⟨⟩
theorem tw7560933203382081793:True:=⟨⟩
theorem tw8669753426446536623:True:=⟨⟩
theorem tw11623099393695853910:True:=⟨⟩
theorem tw16843633584892676947:True:=⟨⟩
theorem tw14910570249611643:True:=⟨⟩
theorem tw6584795377406526408:True:=⟨⟩
theorem tw18009487452547573936:True:=⟨⟩
theorem tw16109268788301902809:True:=⟨⟩
theorem tw6841801145816656040:True:=⟨⟩
theorem tw12318182919834766540:True:=⟨⟩
theorem tw9593955719089817049:True:=⟨⟩
theorem tw9254753730392022753:True:=⟨⟩
theorem tw5381283737242605610:True:=⟨⟩
theorem tw15998521641190198854:True:=⟨⟩
theorem tw14588184067559318970:True:=⟨⟩
theorem tw11986780430985539028:True:=⟨⟩
theorem tw138495266003801362:True:=⟨⟩
theorem tw9020757927570138426:True:=⟨⟩
theorem tw18324828845917162029:True:=⟨⟩
theorem tw10024518462759609880:True:=⟨⟩
theorem tw1957993413103662284:True:=⟨⟩
theorem tw4596216130778372041:True:=⟨⟩
theorem tw720481444311080638:True:=⟨⟩
theorem tw11126059191916891955:True:=⟨⟩
theorem tw14212974001984108025:True:=⟨⟩
theorem tw13227405328535466747:True:=⟨⟩
theorem tw754455225916209815:True:=⟨⟩
theorem tw10811700339585468682:True:=⟨⟩
theorem tw2370381363477206846:True:=⟨⟩
theorem tw11206549005138458153:True:=⟨⟩
theorem tw15749981631466389933:True:=⟨⟩
theorem tw618043704731662367:True:=⟨⟩
theorem tw6895214395514398684:True:=⟨⟩
theorem tw4243513578152883757:True:=⟨⟩
theorem tw9047138729599209427:True:=⟨⟩
theorem tw427809867639429350:True:=⟨⟩
theorem tw13368691762518996527:True:=⟨⟩
theorem tw6068418468094609523:True:=⟨⟩
theorem tw17173081154899434117:True:=⟨⟩
theorem tw7941763449070892523:True:=⟨⟩
theorem tw5247697504873321089:True:=⟨⟩
theorem tw13751340041467732528:True:=⟨⟩
theorem tw12781127236654091045:True:=⟨⟩
theorem tw10895343958690856074:True:=⟨⟩
theorem tw11831953142237710171:True:=⟨⟩
theorem tw3360018181658488377:True:=⟨⟩
theorem tw13062353293424705056:True:=⟨⟩
theorem tw8244763722612514579:True:=⟨⟩
theorem tw15393969165295151030:True:=⟨⟩
theorem tw14013692360752896451:True:=⟨⟩
theorem tw7044240756606994758:True:=⟨⟩
theorem tw18029155028349226780:True:=⟨⟩
theorem tw2294334545181094823:True:=⟨⟩
theorem tw1136364563109289596:True:=⟨⟩
theorem tw3664772245645502767:True:=⟨⟩
theorem tw15163903504081182416:True:=⟨⟩
theorem tw7866868416878014234:True:=⟨⟩
theorem tw1820239625325577688:True:=⟨⟩
theorem tw11017271836169771638:True:=⟨⟩
theorem tw6954745301071820443:True:=⟨⟩
theorem tw17654749114469618779:True:=⟨⟩
theorem tw11043991046385918356:True:=⟨⟩
theorem tw16981423636935166534:True:=⟨⟩
theorem tw12993779442080600111:True:=⟨⟩
theorem tw131118261476902445:True:=⟨⟩
theorem tw17137139063260975654:True:=⟨⟩
theorem tw2025592453709973692:True:=⟨⟩
theorem tw11047948883375723688:True:=⟨⟩
theorem tw10018912314529517757:True:=⟨⟩
theorem tw3287877370439035674:True:=⟨⟩
theorem tw17413505023693309180:True:=⟨⟩
theorem tw1268606171057078114:True:=⟨⟩
theorem tw6623589345712529133:True:=⟨⟩
theorem tw18370603517511049968:True:=⟨⟩
theorem tw6020782991148213984:True:=⟨⟩
theorem tw12572242320673423581:True:=⟨⟩
theorem tw12049394795373453872:True:=⟨⟩
theorem tw8150282631514226690:True:=⟨⟩
theorem tw1804587169761500636:True:=⟨⟩
theorem tw6143042349089293815:True:=⟨⟩
theorem tw14971491054287134912:True:=⟨⟩
theorem tw9040304226350515671:True:=⟨⟩
theorem tw15129865818730495877:True:=⟨⟩
theorem tw14023390297064281344:True:=⟨⟩
theorem tw10337732167716118480:True:=⟨⟩
theorem tw12190078272246647607:True:=⟨⟩
theorem tw4535147857947860971:True:=⟨⟩
theorem tw16665638429665495027:True:=⟨⟩
theorem tw16682521162586661205:True:=⟨⟩
theorem tw7794122405141500085:True:=⟨⟩
theorem tw8180056984589734706:True:=⟨⟩
theorem tw14819219570010488101:True:=⟨⟩
theorem tw8346345797523929061:True:=⟨⟩
theorem tw4070398201859270803:True:=⟨⟩
theorem tw13216618061866767687:True:=⟨⟩
theorem tw6293710125225031742:True:=⟨⟩
theorem tw5789584919228683597:True:=⟨⟩
theorem tw8861523639403061100:True:=⟨⟩
theorem tw14780331010166439123:True:=⟨⟩
theorem tw10250129040532568544:True:=⟨⟩
theorem tw15462289348577705019:True:=⟨⟩
theorem tw1910001984797202203:True:=⟨⟩
theorem tw5557270613138175733:True:=⟨⟩
theorem tw15872863294248006894:True:=⟨⟩
theorem tw1968885206737353595:True:=⟨⟩
theorem tw12478853760040878073:True:=⟨⟩
theorem tw6744635818072102408:True:=⟨⟩
theorem tw7633004890457440375:True:=⟨⟩
theorem tw5620708286907232050:True:=⟨⟩
theorem tw6337632421237628799:True:=⟨⟩
theorem tw7003370174109865995:True:=⟨⟩
theorem tw16181189550733639386:True:=⟨⟩
theorem tw8948032521303425813:True:=⟨⟩
theorem tw9714882731957783823:True:=⟨⟩
theorem tw15831826534323583957:True:=⟨⟩
theorem tw2136622521619288844:True:=⟨⟩
theorem tw17604095720112339278:True:=⟨⟩
theorem tw529850184256935463:True:=⟨⟩
theorem tw9744728049232078467:True:=⟨⟩
theorem tw4406508788416648175:True:=⟨⟩
theorem tw1321028014133335535:True:=⟨⟩
theorem tw1762982304537842886:True:=⟨⟩
theorem tw1467015765783666929:True:=⟨⟩
theorem tw1064521621651779359:True:=⟨⟩
theorem tw15081419898306761397:True:=⟨⟩
theorem tw11503152019186396819:True:=⟨⟩
theorem tw12987627732179949951:True:=⟨⟩
theorem tw13682646232079169737:True:=⟨⟩
theorem tw15034726697201481782:True:=⟨⟩
theorem tw6070213832116589041:True:=⟨⟩
theorem tw3840137372699649069:True:=⟨⟩
theorem tw3756724548851403574:True:=⟨⟩
theorem tw3145111096127800945:True:=⟨⟩
theorem tw4124106709226203394:True:=⟨⟩
theorem tw1146365636697017252:True:=⟨⟩
theorem tw10764839103382337621:True:=⟨⟩
theorem tw5438942630658516624:True:=⟨⟩
theorem tw9075512542357102686:True:=⟨⟩
theorem tw12353171705718503721:True:=⟨⟩
theorem tw2086683919122797328:True:=⟨⟩
theorem tw15552903347763128689:True:=⟨⟩
theorem tw11143582548257939740:True:=⟨⟩
theorem tw13373757589988097275:True:=⟨⟩
theorem tw10363792442523231586:True:=⟨⟩
theorem tw4882143839621914685:True:=⟨⟩
theorem tw17925448463342066108:True:=⟨⟩
theorem tw15160449073526295275:True:=⟨⟩
theorem tw12944181502121619766:True:=⟨⟩
theorem tw11982851651276943541:True:=⟨⟩
theorem tw16538815212871313030:True:=⟨⟩
theorem tw5827584502220447713:True:=⟨⟩
theorem tw5904354998507130595:True:=⟨⟩
theorem tw412280209905372758:True:=⟨⟩
theorem tw4465748783765370769:True:=⟨⟩
theorem tw3568454294739219747:True:=⟨⟩
theorem tw4665670963111009574:True:=⟨⟩
theorem tw1578864090848040610:True:=⟨⟩
theorem tw7343235379298189117:True:=⟨⟩
theorem tw12706491862123199227:True:=⟨⟩
theorem tw3886687564320553832:True:=⟨⟩
theorem tw9095945320476079614:True:=⟨⟩
theorem tw2973059316402573376:True:=⟨⟩
theorem tw17864253736258161482:True:=⟨⟩
theorem tw17743933175050801457:True:=⟨⟩
theorem tw11185484767071314176:True:=⟨⟩
theorem tw14670523129718915927:True:=⟨⟩
theorem tw7673524899256077576:True:=⟨⟩
theorem tw7561587948186832316:True:=⟨⟩
theorem tw3867812752251210939:True:=⟨⟩
theorem tw11833111933499015606:True:=⟨⟩
theorem tw11601644816608560411:True:=⟨⟩
theorem tw4153917357968312780:True:=⟨⟩
theorem tw9670234648101508600:True:=⟨⟩
theorem tw12924846576376325064:True:=⟨⟩
theorem tw11844383025383407204:True:=⟨⟩
theorem tw4522409535752999035:True:=⟨⟩
theorem tw14534272891033432953:True:=⟨⟩
theorem tw3790424896819521677:True:=⟨⟩
theorem tw16772399985767413182:True:=⟨⟩
theorem tw8273554875027507388:True:=⟨⟩
theorem tw16382321522496034601:True:=⟨⟩
theorem tw13476650523845336479:True:=⟨⟩
theorem tw10126765362425571437:True:=⟨⟩
theorem tw18060171493953837621:True:=⟨⟩
theorem tw357285141946012244:True:=⟨⟩
theorem tw5521647840654159992:True:=⟨⟩
theorem tw14007740464272368807:True:=⟨⟩
theorem tw16350535156905482568:True:=⟨⟩
theorem tw2864360779375407990:True:=⟨⟩
theorem tw6781116512217634632:True:=⟨⟩
theorem tw14678247498233678841:True:=⟨⟩
theorem tw15767271546289181647:True:=⟨⟩
theorem tw17878171404297318242:True:=⟨⟩
theorem tw12696782218760051322:True:=⟨⟩
theorem tw15571774043805597161:True:=⟨⟩
theorem tw8632448863573349690:True:=⟨⟩
theorem tw660696755384288381:True:=⟨⟩
end PySem.W.Fast
open PySem PySem.W PyProof.Rows
set_option maxRecDepth 100000 in
set_option maxHeartbeats 0 in
theorem PySem.Challenge.cw_partrests_k59_whole_merged_and_split_holds : PySem.Challenge.rw_partrests_k59_whole_merged_and_split.Holds := by
 w_on;o_law;k_head;(case hw=>w_witness2)
 k_fill
 refine K59.walk (l:=PySem.Challenge.rw_partrests_k59_whole_merged_and_split) rfl rfl (fun w h Y=>PySem.W.kIn_of Y) ?F
 case F=>
  intro w mg fa h KX G hmg
  refine' K59.all_mk KX G hmg ?a1 ?l1 ?c1 ?k1 ?a2 ?l2 ?c2 ?k2 ?a3 ?l3 ?c3 ?k3 ?a4 ?l4 ?c4 ?k4 ?a5 ?l5 ?c5 ?k5 ?a6 ?l6 ?c6 ?k6 ?a7 ?l7 ?c7 ?k7 ?a8 ?l8 ?c8 ?k8 ?a9 ?l9 ?c9 ?k9 ?a10 ?l10 ?c10 ?k10 ?a11 ?l11 ?c11 ?k11 ?a12 ?l12 ?c12 ?k12 ?a13 ?l13 ?c13 ?k13 ?a14 ?l14 ?c14 ?k14 ?a15 ?l15 ?c15 ?k15 ?a16 ?l16 ?c16 ?k16 ?a17 ?l17 ?c17 ?k17 ?a18 ?l18 ?c18 ?k18 ?a19 ?l19 ?c19 ?k19 ?a20 ?l20 ?c20 ?k20 ?a21 ?l21 ?c21 ?k21 ?a22 ?l22 ?c22 ?k22 ?a23 ?l23 ?c23 ?k23 ?a24 ?l24 ?c24 ?k24 ?a25 ?l25 ?c25 ?k25 ?a26 ?l26 ?c26 ?k26 ?a27 ?l27 ?c27 ?k27 ?a28 ?l28 ?c28 ?k28 ?y1 ?yD ?z1 ?z2 ?z3 ?z4 ?z5 ?z6 ?z7 ?z8 ?z9 ?z10 ?z11 ?z12 ?z13 ?z14 ?z15 ?z16
  (case a1=>k_is);(case l1=>k_is);(case c1=>k_is);(case k1=>k_is)
  (case a2=>k_is);(case l2=>k_is);(case c2=>k_is);(case k2=>k_is)
  (case a3=>k_is);(case l3=>k_is);(case c3=>k_is);(case k3=>k_is)
  (case a4=>k_is);(case l4=>k_is);(case c4=>k_is);(case k4=>k_is)
  (case a5=>k_is);(case l5=>k_is);(case c5=>k_is);(case k5=>k_is)
  (case a6=>k_is);(case l6=>k_is);(case c6=>k_is);(case k6=>k_is)
  (case a7=>k_is);(case l7=>k_is);(case c7=>k_is);(case k7=>k_is)
  (case a8=>k_is);(case l8=>k_is);(case c8=>k_is);(case k8=>k_is)
  (case a9=>k_is);(case l9=>k_is);(case c9=>k_is);(case k9=>k_is)
  (case a10=>k_is);(case l10=>k_is);(case c10=>k_is);(case k10=>k_is)
  (case a11=>k_is);(case l11=>k_is);(case c11=>k_is);(case k11=>k_is)
  (case a12=>k_is);(case l12=>k_is);(case c12=>k_is);(case k12=>k_is)
  (case a13=>k_is);(case l13=>k_is);(case c13=>k_is);(case k13=>k_is)
  (case a14=>k_is);(case l14=>k_is);(case c14=>k_is);(case k14=>k_is)
  (case a15=>k_is);(case l15=>k_is);(case c15=>k_is);(case k15=>k_is)
  (case a16=>k_is);(case l16=>k_is);(case c16=>k_is);(case k16=>k_is)
  (case a17=>k_is);(case l17=>k_is);(case c17=>k_is);(case k17=>k_is)
  (case a18=>k_is);(case l18=>k_is);(case c18=>k_is);(case k18=>k_is)
  (case a19=>k_is);(case l19=>k_is);(case c19=>k_is);(case k19=>k_is)
  (case a20=>k_is);(case l20=>k_is);(case c20=>k_is);(case k20=>k_is)
  (case a21=>k_is);(case l21=>k_is);(case c21=>k_is);(case k21=>k_is)
  (case a22=>k_is);(case l22=>k_is);(case c22=>k_is);(case k22=>k_is)
  (case a23=>k_is);(case l23=>k_is);(case c23=>k_is);(case k23=>k_is)
  (case a24=>k_is);(case l24=>k_is);(case c24=>k_is);(case k24=>k_is)
  (case a25=>k_is);(case l25=>k_is);(case c25=>k_is);(case k25=>k_is)
  (case a26=>k_is);(case l26=>k_is);(case c26=>k_is);(case k26=>k_is)
  (case a27=>k_is);(case l27=>k_is);(case c27=>k_is);(case k27=>k_is)
  (case a28=>k_is);(case l28=>k_is);(case c28=>k_is);(case k28=>k_is)
  (case y1=>k_is)
  (case yD=>k_is)
  (case z1=>k_is)
  (case z2=>k_is)
  (case z3=>k_is)
  (case z4=>k_is)
  (case z5=>k_is)
  (case z6=>k_is)
  (case z7=>k_is)
  (case z8=>k_is)
  (case z9=>k_is)
  (case z10=>k_is)
  (case z11=>k_is)
  (case z12=>k_is)
  (case z13=>k_is)
  (case z14=>k_is)
  (case z15=>k_is)
  (case z16=>k_is)
end
